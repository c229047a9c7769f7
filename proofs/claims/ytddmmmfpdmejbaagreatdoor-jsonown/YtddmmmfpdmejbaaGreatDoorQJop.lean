import Derived.Test.YtddmmmfpdmejbaaGreatDoorQJsn
import Derived.Test.YtddmmmfpdmejbaaGreatDoorQRelk
import Derived.Test.YtddmmmfpdmejbaaGreatDoorQGenA
import Derived.Test.YtddmmmfpdmejbaaGreatDoorQNum
namespace Go.Proofs.YtddmmmfpdmejbaaGreatDoor
open Go.RowKit

/-! Operations on whole nodes -/
@[go_sem] theorem rnA_size' (r : Rn) : (rnA r).size = 5 := by simp [rnA]
@[go_sem] theorem rnA_one (r : Rn) : OneC (rnA r) = true := by unfold OneC; simp [rnA, Sl.v, Value.oneCell']
@[go_sem] theorem nd_one (k n : Int) (s : ByteArray) (x y : Option Addr) (a b c d : Nat) : OneC #[.int .i64 k, .int .i64 n, .string s, .slice x a b, .slice y c d] = true := by simp [OneC, Value.oneCell']
theorem info_nd : (Tryz.prog.info? 41).map (fun i => (i.zero, i.size)) = some (some (.agg (rnA rnZ)), 5) := by kernel_rfl
theorem sizeT_nd : (Tryz.prog.info? 41).map (·.size) = some 5 := (zero_of_info info_nd).2
def ndBS (x : Value) : Sem Next := do pure (.value (← Instr.buildSlice 39 1 #[(0, x)]))
section
variable (ρ : Operand → Value) (dst : Option Tmp) (ty : TypeId) (pos : String) (after : Array Edge) (guard : Option (Nat × Bool))
@[go_sem ↓] theorem execOp_store_nd (x y : Operand) : execOp ρ { dst, op := .store 41 x y, type := ty, pos, after, guard } = bigStore 41 (ρ x) (ρ y) := rfl
@[go_sem ↓] theorem execOp_alloc_nd : execOp ρ { dst, op := .alloc 41, type := ty, pos, after, guard } = bigAlloc 41 := rfl
@[go_sem ↓] theorem execOp_load_nd (x : Operand) : execOp ρ { dst, op := .load 41 x, type := ty, pos, after, guard } = bigLoad 41 (ρ x) := rfl
@[go_sem ↓] theorem execOp_box_nd (x : Operand) : execOp ρ { dst, op := .box 41 x, type := ty, pos, after, guard } = bigBox 41 (ρ x) := rfl
@[go_sem ↓] theorem execOp_ndBS (x : Operand) : execOp ρ { dst, op := .buildSlice 39 1 #[(0, x)], type := ty, pos, after, guard } = ndBS (ρ x) := by simp [execOp, ndBS]
end
@[go_sem] theorem run_store_nd (w : World) (g : Nat) (c : Array Value) (h : rowL w g = true) (hs : (rowAt w g).size = 5) (hc : c.size = 5) (h1 : OneC c = true) : (bigStore 41 (.pointer (some ⟨g, 0, none⟩)) (.agg c)).run Tryz.prog w = .ok .skip (w.setRow g c) := by
  rw [run_bigStore 41 5 sizeT_nd w g 0 c h hc (by omega) h1, layC_all _ _ (by omega)]
@[go_sem] theorem run_alloc_nd (w : World) : (bigAlloc 41).run Tryz.prog w = .ok (.value (.pointer (some ⟨w.heap.size, 0, none⟩))) (w.alloc (.cells (rnA rnZ) 41)) := by
  simp only [bigAlloc, Instr.alloc, Sem.run_bind, (zero_of_info info_nd).1 w, Result.andThen_ok]
  rfl
@[go_sem] theorem run_load_nd (w : World) (g : Nat) (h : rowL w g = true) (hs : (rowAt w g).size = 5) : (bigLoad 41 (.pointer (some ⟨g, 0, none⟩))).run Tryz.prog w = .ok (.value (.agg (rowAt w g))) w := by
  rw [run_bigLoad 41 _ 5 Tryz.underlying41 rfl sizeT_nd w g 0 h (by omega), Nat.zero_add, Array.extract_eq_self_of_le (by omega)]
theorem run_load_el {w : World} {b o : Nat} {r : Rn} (h : w.rangeAt b o (ndE.enc r)) : (bigLoad 41 (.pointer (some ⟨b, o, none⟩))).run Tryz.prog w = .ok (.value (.agg (rnA r))) w := by
  have h9 := run_loadK ndE_ok h
  simp only [bigLoad, Sem.run_bind]
  rw [show (Instr.loadAt 41 (.pointer (some ⟨b, o, none⟩))).run Tryz.prog w = .ok (.agg (rnA r)) w from h9]
  rfl
@[go_sem] theorem run_box_nd (w : World) (r : Rn) : (bigBox 41 (.agg (rnA r))).run Tryz.prog w = .ok (.value (.pointer (some ⟨w.heap.size, 0, none⟩))) (w.alloc (.cells (rnA r) 41)) := run_bigBox _ _ w
@[go_sem] theorem run_ndBS (w : World) (r : Rn) : (ndBS (.agg (rnA r))).run Tryz.prog w = .ok (.value (.slice (some ⟨w.heap.size, 0, none⟩) 1 1)) (w.alloc (.cells (rnA r) 41)) := by
  have h := run_litK1 ndE_ok (by show 5 ≤ 1000; omega) w r
  have h2 : (Instr.buildSlice 39 1 #[(0, .agg (rnA r))]).run Tryz.prog w = .ok (.slice (some ⟨w.heap.size, 0, none⟩) 1 1) (w.alloc (.cells (rnA r) 41)) := h
  simp only [ndBS, Sem.run_bind, h2]
  rfl
theorem nd_bodyPost2 {fn : Func} {R : Ending → World → Prop} {a : Act} {w : World} (p q n : Nat) (c : Array Value) (hres : fn.results = #[.cell p 41, .tmp q]) (hp : a.tmps.getD p undef = .pointer (some ⟨n, 0, none⟩)) (hd : a.defers = [])
    (hok : RowC w n c) (hc : c.size = 5) (h : R (.returned (.tuple #[.agg c, a.tmps.getD q undef])) w) : bodyPost Tryz.prog fn R .ret a w := by
  obtain ⟨t, hg⟩ := row_of_L hok.1
  rw [hok.2] at hg
  have hp' : a.tmps[p]?.getD undef = .pointer (some ⟨n, 0, none⟩) := by simpa using hp
  have hl := run_loadVar_row (P := Tryz.prog) w n t 41 c (0, 0) _ hg Tryz.underlying41 rfl (by rw [sizeT_nd, hc])
  refine bodyPost_ret (v := .tuple #[.agg c, a.tmps.getD q undef]) ?_ hd h
  simp [results, hres, hp', asAddr, hl]
/-! Steps that turn the reader and what is one's own -/
/-- Nothing below B has turned but the reader's block. -/
structure Kj (g B : Nat) (w w' : World) : Prop where
  os : w'.os = w.os
  tape : w'.tape = w.tape
  output : w'.output = w.output
  size : w.heap.size ≤ w'.heap.size
  block : ∀ b, b < w.heap.size → b < B → b ≠ g → w'.heap[b]? = w.heap[b]?
theorem Kj.trans {g B : Nat} {w w' w2 : World} (h : Kj g B w w') (k : Kj g B w' w2) : Kj g B w w2 :=
  ⟨k.os.trans h.os, k.tape.trans h.tape, k.output.trans h.output, Nat.le_trans h.size k.size, fun b h1 h2 h3 => (k.block b (Nat.lt_of_lt_of_le h1 h.size) h2 h3).trans (h.block b h1 h2 h3)⟩
theorem Kj.below {g B : Nat} {w w' : World} (h : Below w.heap.size w w') : Kj g B w w' := ⟨h.os, h.tape, h.output, h.size, fun b h1 _ _ => h.block b h1⟩
theorem Kj.grown {g B : Nat} {w w' : World} (h : w.grownBy w' (some g)) : Kj g B w w' := ⟨h.os, h.tape, h.output, h.size, fun b h1 _ h3 => h.block b h1 (fun e => h3 (Option.some.inj e))⟩
theorem Kj.own {g B : Nat} {w w' : World} {o : Option Nat} (h : w.grownBy w' o) (ho : ∀ b, o = some b → B ≤ b) : Kj g B w w' := ⟨h.os, h.tape, h.output, h.size, fun b h1 h2 _ => h.block b h1 (fun e => by have := ho b e.symm; omega)⟩
theorem Kj.row {g B n : Nat} {c : Array Value} {w w' : World} (h : Kj g B w w') (hr : RowC w n c) (hn : n < B) (hg : n ≠ g) : RowC w' n c := hr.block (h.block n hr.lt hn hg)
theorem Kj.cell {g B n i : Nat} {v : Value} {w w' : World} (h : Kj g B w w') (hc : w.cell? ⟨n, i, none⟩ = some v) (hn : n < B) (hg : n ≠ g) : w'.cell? ⟨n, i, none⟩ = some v := by
  have h1 := World.block_lt_of_cell? w _ hc
  unfold World.cell? at hc ⊢
  rw [h.block n h1 hn hg]; exact hc
/-- A step that turns the row n of one's own alone. -/
theorem Kj.mine {g B n : Nat} {w w' : World} (h : w.grownBy w' (some n)) (hn : B ≤ n) : Kj g B w w' := Kj.own h (fun b e => by cases e; exact hn)
/-- The list with one more behind it: what holds behind the call, the slice that is built, and append. -/
def IL1 (g : Nat) (L : Sl) (ts : List Tk) (en : Int) (q : Nd × Ps) (B : Nat) (X : Nat → Prop) (v : Sl) (rs : List Rn) (vs : List Nd) (r : Rn) (x : World) : Prop :=
  Rd x g L ts en q.2 ∧ LsO x B X v rs vs ∧ ∃ H, B ≤ H ∧ H ≤ x.heap.size ∧ (∀ b, v.v.ownBlock = some b → b < H) ∧ (∀ b, X b → b < H) ∧ NdF x (H ≤ ·) r q.1
def IL (g : Nat) (L : Sl) (ts : List Tk) (en : Int) (s : Ps) (q : Nd × Ps) (B : Nat) (X : Nat → Prop) (v : Sl) (rs : List Rn) (vs : List Nd) : List Value → World → Prop
  | [], x => Rd x g L ts en s ∧ LsO x B X v rs vs ∧ B ≤ x.heap.size ∧ (∀ b, X b → b < x.heap.size)
  | [a], x => ∃ r, a = .agg (rnA r) ∧ IL1 g L ts en q B X v rs vs r x
  | [_, c], x => ∃ r y, c = .slice (some ⟨y, 0, none⟩) 1 1 ∧ RowC x y (rnA r) ∧ IL1 g L ts en q B X v rs vs r x
  | [_, _, d], x => ∃ (r : Rn) (a : Sl), d = a.v ∧ Rd x g L ts en q.2 ∧ LsO x B X a (rs ++ [r]) (vs ++ [q.1])
  | _, _ => False
theorem LsO.later {w w1 : World} {B : Nat} {X : Nat → Prop} {v : Sl} {rs : List Rn} {vs : List Nd} (h : LsO w B X v rs vs) (hb : Below w.heap.size w w1) : LsO w1 B X v rs vs := h.ag hb.size (fun b _ _ hl => hb.block b hl)
theorem IL.call {g : Nat} {L : Sl} {ts : List Tk} {en : Int} {s : Ps} {q : Nd × Ps} {B : Nat} {X : Nat → Prop} {v : Sl} {rs : List Rn} {vs : List Nd} {x x' : World} {r : Rn} (h : IL g L ts en s q B X v rs vs [] x) (hgB : g < B) (hN : NdF x' (x.heap.size ≤ ·) r q.1) (hR : RdP g L ts en q.2 x x') : IL g L ts en s q B X v rs vs [.agg (rnA r)] x' := by
  obtain ⟨h1, h2, h3, h4⟩ := h
  exact ⟨r, rfl, hR.1, h2.ag hR.2.size (fun b hB _ hl => hR.2.block b hl (fun e => by cases e; omega)), x.heap.size, h3, hR.2.size, fun b hb => (h2.lt b hb).2, h4, hN⟩
theorem IL.app {g : Nat} {L : Sl} {ts : List Tk} {en : Int} {s : Ps} {q : Nd × Ps} {B : Nat} {X : Nat → Prop} {v : Sl} {rs : List Rn} {vs : List Nd} {x : World} {a c : Value} (ty : TypeId) (h : IL g L ts en s q B X v rs vs [a, c] x) (hgB : g < B) (hn : rs.length ≤ 1099511627776) :
    ∃ d x', (Builtin.append_ #[39, 39] ty #[v.v, c]).run Tryz.prog x = .ok d x' ∧ IL g L ts en s q B X v rs vs [a, c, d] x' ∧ Kj g B x x' := by
  obtain ⟨r, y, rfl, hy, hR, hL, H, h1, h2, h3, h4, h5⟩ := h
  obtain ⟨d, x', hrun, hO, hg, -⟩ := hL.app ty h1 hy h4 h3 h5 h2 (by omega)
  refine ⟨d.v, x', hrun, ⟨r, d, rfl, ?_, hO⟩, Kj.own hg (fun b e => (hL.lt b e).1)⟩
  have hne : v.v.ownBlock ≠ some g := fun e => by have := (hL.lt g e).1; omega
  exact ⟨hR.row.block (hg.block g hR.row.lt (fun e => hne e.symm)), hR.own.other14 fun b hb => hg.block b (World.ownsRow.lt hR.own b hb).2 (fun e => by have := hR.low b hb; have := (hL.lt b e.symm).1; omega), hR.low, hR.fit⟩
end Go.Proofs.YtddmmmfpdmejbaaGreatDoor
namespace Go.Proofs.YtddmmmfpdmejbaaGreatDoor
open Go.RowKit

/-! assaylaw15.same -/
theorem NdF.inv {w : World} {F : Nat → Prop} {r : Rn} {k n : Int} {s : List UInt8} {ks : List (List UInt8)} {vs : List Nd} (h : NdF w F r (.mk k n s ks vs)) : r.k = k ∧ r.n = n ∧ lS r.s = s ∧ ∃ kb rs, IsG w r.ks.v (strs kb) ∧ r.ks.In F ∧ kb.map lS = ks ∧ IsK ndE w r.vs.v rs ∧ r.vs.In F ∧ rs.length = vs.length ∧ (r.ks.n ≤ 17592186044416 ∧ r.vs.n ≤ 17592186044416) ∧ ∀ (i : Nat) a d, rs[i]? = some a → vs[i]? = some d → NdF w F a d := by
  cases h using NdF.rc with
  | mk r kb rs vs hk hkF hv hvF hl hz he r9 => clear r9; exact ⟨rfl, rfl, rfl, kb, rs, hk, hkF, rfl, hv, hvF, hl, hz, he⟩
theorem map_lS_inj : ∀ {a b : List ByteArray}, a.map lS = b.map lS → a = b
  | [], [], _ => rfl
  | [], _ :: _, h => by simp at h
  | _ :: _, [], h => by simp at h
  | x :: a, y :: b, h => by
    simp only [List.map_cons, List.cons.injEq] at h
    rw [lS_inj h.1, map_lS_inj h.2]
theorem alloc_sz15 (w : World) (o : Obj) : (w.alloc o).heap.size = w.heap.size + 1 := by show (w.heap.push o).size = _; simp
def SameOk (d : Nd) : Prop := ∀ (w : World) (F G : Nat → Prop) (a b : Rn), NdF w F a d → NdF w G b d → Calls Tryz.prog 18 #[.agg (rnA a), .agg (rnA b)] w fun e w' => e = .returned (.bool true) ∧ Below w.heap.size w w'
set_option linter.unusedSimpArgs false in
set_option maxRecDepth 100000 in
set_option maxHeartbeats 16000000 in
theorem same15_step (k n : Int) (s : List UInt8) (ks : List (List UInt8)) (vs : List Nd) (ih : ∀ d ∈ vs, SameOk d) : SameOk (.mk k n s ks vs) := fun w F G a b ha hb => by
  obtain ⟨a1, a2, a3, kb, rs, ak, -, akk, av, -, al, ⟨hmk, hmv⟩, ae⟩ := ha.inv
  obtain ⟨b1, b2, b3, kb2, rs2, bk, -, bkk, bv, -, bl, -, be⟩ := hb.inv
  have hkb : kb = kb2 := map_lS_inj (akk.trans bkk.symm)
  subst hkb
  have hS : a.s = b.s := lS_inj (a3.trans b3.symm)
  have hk9 : a.k = b.k := a1.trans b1.symm
  have hn9 : a.n = b.n := a2.trans b2.symm
  have na := ak.num
  have nb := bk.num
  have va := av.num
  have vb := bv.num
  have hst : (strs kb).length = kb.length := by simp [strs]
  rw [hst] at na nb
  have bA := below_alloc w (.cells (rnA a) 41)
  have bB := below_alloc (w.alloc (.cells (rnA a) 41)) (.cells (rnA b) 41)
  have rA := (RowC.new w (rnA a) 41).kept bB
  have rB := RowC.new (w.alloc (.cells (rnA a) 41)) (rnA b) 41
  have bY := bA.trans (bB.mono bA.size)
  obtain ⟨n0, hn0⟩ : ∃ q, w.heap.size = q := ⟨_, rfl⟩
  have hsz1 : (w.alloc (.cells (rnA a) 41)).heap.size = n0 + 1 := by rw [alloc_sz15, hn0]
  rw [hsz1] at rB
  rw [hn0] at rA
  go_enter Tryz.func18, Tryz.ntmps18
  go_upto_region 1 with fail
  have bY2 : Below n0 w ((w.alloc (.cells (rnA a) 41)).alloc (.cells (rnA b) 41)) := by rw [← hn0]; exact bY
  generalize (w.alloc (.cells (rnA a) 41)).alloc (.cells (rnA b) 41) = Y at rA rB bY bY2 ⊢
  clear bA bB hsz1
  have akY := ak.kept bY
  have bkY := bk.kept bY
  have avY := av.kept bY
  have bvY := bv.kept bY
  have HAE : Hid (∀ (i : Nat) u d, rs[i]? = some u → vs[i]? = some d → NdF Y F u d) := fun i u d h1 h2 => (ae i u d h1 h2).kept bY
  have HBE : Hid (∀ (i : Nat) u d, rs2[i]? = some u → vs[i]? = some d → NdF Y G u d) := fun i u d h1 h2 => (be i u d h1 h2).kept bY
  obtain ⟨k9, n9, s9, ⟨xk, nk, ck⟩, ⟨xv, nv, cv⟩⟩ := a
  obtain ⟨k8, n8, s8, ⟨yk, mk, dk⟩, ⟨yv, mv, dv⟩⟩ := b
  simp only at hk9 hn9 hS na nb va vb hmk hmv
  subst hk9 hn9 hS na nb
  obtain rfl : nv = mv := by omega
  have HV : Hid (nv = rs.length ∧ nv = rs2.length ∧ nv = vs.length) := ⟨va, vb, by omega⟩
  clear va vb
  have a0 : Y.cell? ⟨n0, 0, none⟩ = some (.int .i64 k9) := rA.cell 0
  have a1' : Y.cell? ⟨n0, 1, none⟩ = some (.int .i64 n9) := rA.cell 1
  have a2' : Y.cell? ⟨n0, 2, none⟩ = some (.string s9) := rA.cell 2
  have a3' : Y.cell? ⟨n0, 3, none⟩ = some (.slice xk kb.length ck) := rA.cell 3
  have a4 : Y.cell? ⟨n0, 4, none⟩ = some (.slice xv nv cv) := rA.cell 4
  have b0 : Y.cell? ⟨n0 + 1, 0, none⟩ = some (.int .i64 k9) := rB.cell 0
  have b1' : Y.cell? ⟨n0 + 1, 1, none⟩ = some (.int .i64 n9) := rB.cell 1
  have b2' : Y.cell? ⟨n0 + 1, 2, none⟩ = some (.string s9) := rB.cell 2
  have b3' : Y.cell? ⟨n0 + 1, 3, none⟩ = some (.slice yk kb.length dk) := rB.cell 3
  have b4 : Y.cell? ⟨n0 + 1, 4, none⟩ = some (.slice yv nv dv) := rB.cell 4
  have HAV : Hid (IsK ndE Y (.slice xv nv cv) rs) := avY
  have HBV : Hid (IsK ndE Y (.slice yv nv dv) rs2) := bvY
  have HAK : Hid (IsG Y (.slice xk kb.length ck) (strs kb)) := akY
  have HBK : Hid (IsG Y (.slice yk kb.length dk) (strs kb)) := bkY
  obtain ⟨g3, hg3⟩ : ∃ q, n0 + 1 = q := ⟨_, rfl⟩
  rw [hg3] at b0 b1' b2' b3' b4 ⊢
  obtain ⟨KL, hKL⟩ : ∃ q, kb.length = q := ⟨_, rfl⟩
  rw [hKL] at a3' b3' HAK HBK hmk
  have HKL : Hid _ := hKL
  clear ak bk av bv ae be akk bkk a1 b1 a2 b2 a3 b3 ha hb akY bkY avY bvY rA rB bY hst hKL hg3 al bl
  go_wp2_with fail
  go_loopw [47] (fun iv wr => ∃ j : Nat, j ≤ KL ∧ iv = .int .i64 j ∧ Below Y.heap.size Y wr) (fun iv _ => KL - (intOf iv).toNat)
  case atStart => exact ⟨0, by omega, rfl, Below.refl _ _⟩
  case round =>
    obtain ⟨j, hj, rfl, hB⟩ := hrel
    by_cases hlt : j < KL
    · have i1 : (j : Int) < (KL : Int) := by omega
      have i0 : (0 : Int) ≤ (j : Int) := by omega
      have hkj : j < (strs kb).length := by simp [strs]; have : kb.length = KL := HKL.out; omega
      obtain ⟨ba, oa, rfl, -, ca⟩ := IsG.spot HAK.out j hkj
      obtain ⟨bb, ob, rfl, -, cb⟩ := IsG.spot HBK.out j hkj
      obtain ⟨S, hS⟩ : ∃ S, (strs kb)[j]? = some (.string S) := ⟨kb[j]'(by simpa [strs] using hkj), by simp [strs] at hkj; simp [strs, hkj]⟩
      have q1 := cell_later hB (ca j _ hS)
      have q2 := cell_later hB (cb j _ hS)
      have q3 := cell_later hB a3'
      have q4 := cell_later hB b3'
      have hwr : IntKind.i64.wrap ((j : Int) + 1) = (j : Int) + 1 := by rw [IntKind.wrap_i64]; omega
      clear ca cb hS hkj a0 a1' a2' a4 b0 b1' b2' b4
      go_upto_region 6 with fail
      refine wp_relies [Fx (.pointer (some ⟨n0, 3, none⟩)), Fx (.slice (some ⟨ba, oa, none⟩) KL ck), Fx (.int .i64 (j : Int)), Fx (.pointer (some ⟨ba, oa + j, none⟩)), Fx (.string S), Fx (.pointer (some ⟨g3, 3, none⟩)), Fx (.slice (some ⟨bb, ob, none⟩) KL dk), Fx (.int .i64 (j : Int)), Fx (.pointer (some ⟨bb, ob + j, none⟩)), Fx (.string S), Fx (.bool false)] (by kernel_rfl) (by kernel_rfl) ?_ ?_ ?_
      · repeat' (first | exact all_nil | apply all_cons)
        all_goals intro v y y' hv hb
        all_goals first | exact Fx_mono _ _ _ _ hv hb
      · refine ⟨?_, ?_, ?_, ?_, ?_, ?_, ?_, ?_, ?_, ?_, ?_, trivial⟩
        all_goals
          intro ρ y9 hp ρc ρg ρf ho hd
          have o2 : ρ (.tmp 2) = .pointer (some ⟨n0, 0, none⟩) := ho 2 rfl
          have o3 : ρ (.tmp 3) = .pointer (some ⟨g3, 0, none⟩) := ho 3 rfl
          have o5 : ρ (.tmp 5) = .int .i64 (j : Int) := ho 5 rfl
          clear ho
          replace q1 := cell_later hp q1
          replace q2 := cell_later hp q2
          replace q3 := cell_later hp q3
          replace q4 := cell_later hp q4
          simp only [depsR, depR, slotR, Fx, List.getElem?_cons_succ, List.getElem?_cons_zero, Region.binds, forall_const] at hd
          simp only [guardR]
          go_split_ands
        · go_simp
        · go_simp
        · go_simp
        · go_simp
        · go_simp
        · go_simp
        · go_simp
        · go_simp
        · go_simp
        · go_simp
        · go_simp
      · intro us x1 hp1 hw
        simp only [owed, Fx] at hw
        obtain ⟨e0, e1, e2, e3, e4, e5, e6, e7, e8, e9, e10, -⟩ := hw
        simp only [List.length_cons, List.length_nil, List.take_succ_cons, List.take_nil, List.drop_succ_cons, List.drop_nil, asg, List.cons_append, List.nil_append, e0, e1, e2, e3, e4, e5, e6, e7, e8, e9, e10]
        clear e0 e1 e2 e3 e4 e5 e6 e7 e8 e9 e10
        have hB2 := hB.trans (hp1.mono hB.size)
        clear q1 q2 q3 q4 hB hp1
        go_wp2
        go_roundw
        case rel => first | exact ⟨j + 1, by omega, by go_num, hB2⟩ | ((repeat apply Exists.intro); refine ⟨⟨j + 1, by omega, ?_, hB2⟩, rfl⟩; go_num)
        case measure => simp [intOf]; omega
    · obtain rfl : j = KL := by omega
      have i1 : ¬ (j : Int) < (j : Int) := by omega
      replace a4 := cell_later hB a4
      have hB0 := hB
      clear a0 a1' a2' b0 b1' b2' a3' b3' hB HAK HBK
      go_wp2_with fail
      generalize wr = Z at hB0 a4 ⊢
      replace b4 := cell_later hB0 b4
      have HAE2 : Hid (∀ (i : Nat) u d, rs[i]? = some u → vs[i]? = some d → NdF Z F u d) := fun i u d h1 h2 => NdF.kept (HAE.out i u d h1 h2) hB0
      have HBE2 : Hid (∀ (i : Nat) u d, rs2[i]? = some u → vs[i]? = some d → NdF Z G u d) := fun i u d h1 h2 => NdF.kept (HBE.out i u d h1 h2) hB0
      have HAV2 : Hid (IsK ndE Z (.slice xv nv cv) rs) := IsK.kept HAV.out hB0
      have HBV2 : Hid (IsK ndE Z (.slice yv nv dv) rs2) := IsK.kept HBV.out hB0
      have HB0 : Hid (Below n0 w Z) := bY2.trans (hB0.mono (by have := bY2.size; omega))
      clear HAE HBE HAV HBV hB0
      go_loopw [65] (fun iv wr => ∃ j : Nat, j ≤ nv ∧ iv = .int .i64 j ∧ Below Z.heap.size Z wr) (fun iv _ => nv - (intOf iv).toNat)
      case atStart => exact ⟨0, by omega, rfl, Below.refl _ _⟩
      case round =>
        obtain ⟨p, hp, rfl, hB⟩ := hrel
        by_cases hlt : p < nv
        · have i2 : (p : Int) < (nv : Int) := by omega
          have i0 : (0 : Int) ≤ (p : Int) := by omega
          obtain ⟨va, vb, vc⟩ := HV.out
          obtain ⟨ra, hra⟩ : ∃ q, rs[p]? = some q := ⟨_, List.getElem?_eq_getElem (by omega)⟩
          obtain ⟨rb, hrb⟩ : ∃ q, rs2[p]? = some q := ⟨_, List.getElem?_eq_getElem (by omega)⟩
          obtain ⟨dd, hdd⟩ : ∃ q, vs[p]? = some q := ⟨_, List.getElem?_eq_getElem (by omega)⟩
          obtain ⟨ba, oa, rfl, -, ca⟩ := IsK.at HAV2.out p ra hra
          obtain ⟨bb, ob, rfl, -, cb⟩ := IsK.at HBV2.out p rb hrb
          have la := fun x (hx : Below wr.heap.size wr x) => run_load_el (range_later (range_later ca hB) hx)
          have lb := fun x (hx : Below wr.heap.size wr x) => run_load_el (range_later (range_later cb hB) hx)
          have hcall := fun x (hx : Below wr.heap.size wr x) => ih dd (List.mem_of_getElem? hdd) x F G ra rb (((HAE2.out p ra dd hra hdd).kept hB).kept hx) (((HBE2.out p rb dd hrb hdd).kept hB).kept hx)
          have q3 := cell_later hB a4
          have q4 := cell_later hB b4
          have hwr : IntKind.i64.wrap ((p : Int) + 1) = (p : Int) + 1 := by rw [IntKind.wrap_i64]; omega
          have l5 : ndE.k = 5 := rfl
          simp only [l5] at la lb
          clear ca cb hra hrb hdd va vb vc
          go_upto_region 12 with fail
          refine wp_relies [Fx (.pointer (some ⟨n0, 4, none⟩)), Fx (.slice (some ⟨ba, oa, none⟩) nv cv), Fx (.int .i64 (p : Int)), Fx (.pointer (some ⟨ba, oa + p * 5, none⟩)), Fx (.agg (rnA ra)), Fx (.pointer (some ⟨g3, 4, none⟩)), Fx (.slice (some ⟨bb, ob, none⟩) nv dv), Fx (.int .i64 (p : Int)), Fx (.pointer (some ⟨bb, ob + p * 5, none⟩)), Fx (.agg (rnA rb)), Fx (.bool true), Fx (.bool false)] (by kernel_rfl) (by kernel_rfl) ?_ ?_ ?_
          · repeat' (first | exact all_nil | apply all_cons)
            all_goals intro v y y' hv hb
            all_goals first | exact Fx_mono _ _ _ _ hv hb
          · refine ⟨?_, ?_, ?_, ?_, ?_, ?_, ?_, ?_, ?_, ?_, ?_, ?_, trivial⟩
            all_goals
              intro ρ y9 hp ρc ρg ρf ho hd
              have o2 : ρ (.tmp 2) = .pointer (some ⟨n0, 0, none⟩) := ho 2 rfl
              have o3 : ρ (.tmp 3) = .pointer (some ⟨g3, 0, none⟩) := ho 3 rfl
              have o6 : ρ (.tmp 6) = .int .i64 (p : Int) := ho 6 rfl
              clear ho
              replace q3 := cell_later hp q3
              replace q4 := cell_later hp q4
              simp only [depsR, depR, slotR, Fx, List.getElem?_cons_succ, List.getElem?_cons_zero, Region.binds, forall_const] at hd
              simp only [guardR]
              go_split_ands
            · go_simp
            · go_simp
            · go_simp
            · go_simp
            · have l9 := la y9 hp
              go_simp
            · go_simp
            · go_simp
            · go_simp
            · go_simp
            · have l9 := lb y9 hp
              go_simp
            · go_simp
              refine (hcall y9 hp).mono ?_
              rintro e9 x' ⟨rfl, hb⟩
              exact ⟨_, rfl, rfl, hb⟩
            · go_simp
          · intro us x1 hp1 hw
            simp only [owed, Fx] at hw
            obtain ⟨e0, e1, e2, e3, e4, e5, e6, e7, e8, e9, e10, e11, -⟩ := hw
            simp only [List.length_cons, List.length_nil, List.take_succ_cons, List.take_nil, List.drop_succ_cons, List.drop_nil, asg, List.cons_append, List.nil_append, e0, e1, e2, e3, e4, e5, e6, e7, e8, e9, e10, e11]
            clear e0 e1 e2 e3 e4 e5 e6 e7 e8 e9 e10 e11
            have hB2 := hB.trans (hp1.mono hB.size)
            clear la lb hcall q3 q4 hB hp1
            go_wp2
            go_roundw
            case rel => first | exact ⟨p + 1, by omega, by go_num, hB2⟩ | ((repeat apply Exists.intro); refine ⟨⟨p + 1, by omega, ?_, hB2⟩, rfl⟩; go_num)
            case measure => simp [intOf]; omega
        · obtain rfl : p = nv := by omega
          have i2 : ¬ (p : Int) < (p : Int) := by omega
          have hBf : Below n0 w wr := Below.trans HB0.out (hB.mono (by have := Below.size HB0.out; have := bY2.size; omega))
          go_wp2
          go_ret
          exact ⟨rfl, hBf⟩
theorem same15_any : ∀ d, SameOk d := Nd.ind fun k n s ks vs ih => same15_step k n s ks vs ih
end Go.Proofs.YtddmmmfpdmejbaaGreatDoor
namespace Go.Proofs.YtddmmmfpdmejbaaGreatDoor
open Go.RowKit

/-! Type assertions on json's values -/
@[go_sem] theorem ta_Null_Null (v : Value) (w : World) : (Instr.typeAssert (.iface 65 v) 27 65 true).run Tryz.prog w = .ok (.tuple #[v, .bool true]) w := by kernel_rfl
@[go_sem] theorem ta_Null_Bool (v : Value) (w : World) : (Instr.typeAssert (.iface 65 v) 27 66 true).run Tryz.prog w = .ok (.tuple #[.bool false, .bool false]) w := by kernel_rfl
@[go_sem] theorem ta_Null_Num (v : Value) (w : World) : (Instr.typeAssert (.iface 65 v) 27 67 true).run Tryz.prog w = .ok (.tuple #[.int .i64 0, .bool false]) w := by kernel_rfl
@[go_sem] theorem ta_Null_Str (v : Value) (w : World) : (Instr.typeAssert (.iface 65 v) 27 54 true).run Tryz.prog w = .ok (.tuple #[.string ⟨#[]⟩, .bool false]) w := by kernel_rfl
@[go_sem] theorem ta_Null_List (v : Value) (w : World) : (Instr.typeAssert (.iface 65 v) 27 68 true).run Tryz.prog w = .ok (.tuple #[.slice none 0 0, .bool false]) w := by kernel_rfl
@[go_sem] theorem ta_Null_Object (v : Value) (w : World) : (Instr.typeAssert (.iface 65 v) 27 70 true).run Tryz.prog w = .ok (.tuple #[.agg #[.slice none 0 0, .slice none 0 0], .bool false]) w := by kernel_rfl
@[go_sem] theorem ta_Bool_Null (v : Value) (w : World) : (Instr.typeAssert (.iface 66 v) 27 65 true).run Tryz.prog w = .ok (.tuple #[.agg #[], .bool false]) w := by kernel_rfl
@[go_sem] theorem ta_Bool_Bool (v : Value) (w : World) : (Instr.typeAssert (.iface 66 v) 27 66 true).run Tryz.prog w = .ok (.tuple #[v, .bool true]) w := by kernel_rfl
@[go_sem] theorem ta_Bool_Num (v : Value) (w : World) : (Instr.typeAssert (.iface 66 v) 27 67 true).run Tryz.prog w = .ok (.tuple #[.int .i64 0, .bool false]) w := by kernel_rfl
@[go_sem] theorem ta_Bool_Str (v : Value) (w : World) : (Instr.typeAssert (.iface 66 v) 27 54 true).run Tryz.prog w = .ok (.tuple #[.string ⟨#[]⟩, .bool false]) w := by kernel_rfl
@[go_sem] theorem ta_Bool_List (v : Value) (w : World) : (Instr.typeAssert (.iface 66 v) 27 68 true).run Tryz.prog w = .ok (.tuple #[.slice none 0 0, .bool false]) w := by kernel_rfl
@[go_sem] theorem ta_Bool_Object (v : Value) (w : World) : (Instr.typeAssert (.iface 66 v) 27 70 true).run Tryz.prog w = .ok (.tuple #[.agg #[.slice none 0 0, .slice none 0 0], .bool false]) w := by kernel_rfl
@[go_sem] theorem ta_Num_Null (v : Value) (w : World) : (Instr.typeAssert (.iface 67 v) 27 65 true).run Tryz.prog w = .ok (.tuple #[.agg #[], .bool false]) w := by kernel_rfl
@[go_sem] theorem ta_Num_Bool (v : Value) (w : World) : (Instr.typeAssert (.iface 67 v) 27 66 true).run Tryz.prog w = .ok (.tuple #[.bool false, .bool false]) w := by kernel_rfl
@[go_sem] theorem ta_Num_Num (v : Value) (w : World) : (Instr.typeAssert (.iface 67 v) 27 67 true).run Tryz.prog w = .ok (.tuple #[v, .bool true]) w := by kernel_rfl
@[go_sem] theorem ta_Num_Str (v : Value) (w : World) : (Instr.typeAssert (.iface 67 v) 27 54 true).run Tryz.prog w = .ok (.tuple #[.string ⟨#[]⟩, .bool false]) w := by kernel_rfl
@[go_sem] theorem ta_Num_List (v : Value) (w : World) : (Instr.typeAssert (.iface 67 v) 27 68 true).run Tryz.prog w = .ok (.tuple #[.slice none 0 0, .bool false]) w := by kernel_rfl
@[go_sem] theorem ta_Num_Object (v : Value) (w : World) : (Instr.typeAssert (.iface 67 v) 27 70 true).run Tryz.prog w = .ok (.tuple #[.agg #[.slice none 0 0, .slice none 0 0], .bool false]) w := by kernel_rfl
@[go_sem] theorem ta_Str_Null (v : Value) (w : World) : (Instr.typeAssert (.iface 54 v) 27 65 true).run Tryz.prog w = .ok (.tuple #[.agg #[], .bool false]) w := by kernel_rfl
@[go_sem] theorem ta_Str_Bool (v : Value) (w : World) : (Instr.typeAssert (.iface 54 v) 27 66 true).run Tryz.prog w = .ok (.tuple #[.bool false, .bool false]) w := by kernel_rfl
@[go_sem] theorem ta_Str_Num (v : Value) (w : World) : (Instr.typeAssert (.iface 54 v) 27 67 true).run Tryz.prog w = .ok (.tuple #[.int .i64 0, .bool false]) w := by kernel_rfl
@[go_sem] theorem ta_Str_Str (v : Value) (w : World) : (Instr.typeAssert (.iface 54 v) 27 54 true).run Tryz.prog w = .ok (.tuple #[v, .bool true]) w := by kernel_rfl
@[go_sem] theorem ta_Str_List (v : Value) (w : World) : (Instr.typeAssert (.iface 54 v) 27 68 true).run Tryz.prog w = .ok (.tuple #[.slice none 0 0, .bool false]) w := by kernel_rfl
@[go_sem] theorem ta_Str_Object (v : Value) (w : World) : (Instr.typeAssert (.iface 54 v) 27 70 true).run Tryz.prog w = .ok (.tuple #[.agg #[.slice none 0 0, .slice none 0 0], .bool false]) w := by kernel_rfl
@[go_sem] theorem ta_List_Null (v : Value) (w : World) : (Instr.typeAssert (.iface 68 v) 27 65 true).run Tryz.prog w = .ok (.tuple #[.agg #[], .bool false]) w := by kernel_rfl
@[go_sem] theorem ta_List_Bool (v : Value) (w : World) : (Instr.typeAssert (.iface 68 v) 27 66 true).run Tryz.prog w = .ok (.tuple #[.bool false, .bool false]) w := by kernel_rfl
@[go_sem] theorem ta_List_Num (v : Value) (w : World) : (Instr.typeAssert (.iface 68 v) 27 67 true).run Tryz.prog w = .ok (.tuple #[.int .i64 0, .bool false]) w := by kernel_rfl
@[go_sem] theorem ta_List_Str (v : Value) (w : World) : (Instr.typeAssert (.iface 68 v) 27 54 true).run Tryz.prog w = .ok (.tuple #[.string ⟨#[]⟩, .bool false]) w := by kernel_rfl
@[go_sem] theorem ta_List_List (v : Value) (w : World) : (Instr.typeAssert (.iface 68 v) 27 68 true).run Tryz.prog w = .ok (.tuple #[v, .bool true]) w := by kernel_rfl
@[go_sem] theorem ta_List_Object (v : Value) (w : World) : (Instr.typeAssert (.iface 68 v) 27 70 true).run Tryz.prog w = .ok (.tuple #[.agg #[.slice none 0 0, .slice none 0 0], .bool false]) w := by kernel_rfl
@[go_sem] theorem ta_Object_Null (v : Value) (w : World) : (Instr.typeAssert (.iface 70 v) 27 65 true).run Tryz.prog w = .ok (.tuple #[.agg #[], .bool false]) w := by kernel_rfl
@[go_sem] theorem ta_Object_Bool (v : Value) (w : World) : (Instr.typeAssert (.iface 70 v) 27 66 true).run Tryz.prog w = .ok (.tuple #[.bool false, .bool false]) w := by kernel_rfl
@[go_sem] theorem ta_Object_Num (v : Value) (w : World) : (Instr.typeAssert (.iface 70 v) 27 67 true).run Tryz.prog w = .ok (.tuple #[.int .i64 0, .bool false]) w := by kernel_rfl
@[go_sem] theorem ta_Object_Str (v : Value) (w : World) : (Instr.typeAssert (.iface 70 v) 27 54 true).run Tryz.prog w = .ok (.tuple #[.string ⟨#[]⟩, .bool false]) w := by kernel_rfl
@[go_sem] theorem ta_Object_List (v : Value) (w : World) : (Instr.typeAssert (.iface 70 v) 27 68 true).run Tryz.prog w = .ok (.tuple #[.slice none 0 0, .bool false]) w := by kernel_rfl
@[go_sem] theorem ta_Object_Object (v : Value) (w : World) : (Instr.typeAssert (.iface 70 v) 27 70 true).run Tryz.prog w = .ok (.tuple #[v, .bool true]) w := by kernel_rfl
@[go_sem] theorem ta_nil_Null (w : World) : (Instr.typeAssert .nilIface 27 65 true).run Tryz.prog w = .ok (.tuple #[.agg #[], .bool false]) w := by kernel_rfl
@[go_sem] theorem ta_nil_Bool (w : World) : (Instr.typeAssert .nilIface 27 66 true).run Tryz.prog w = .ok (.tuple #[.bool false, .bool false]) w := by kernel_rfl
@[go_sem] theorem ta_nil_Num (w : World) : (Instr.typeAssert .nilIface 27 67 true).run Tryz.prog w = .ok (.tuple #[.int .i64 0, .bool false]) w := by kernel_rfl
@[go_sem] theorem ta_nil_Str (w : World) : (Instr.typeAssert .nilIface 27 54 true).run Tryz.prog w = .ok (.tuple #[.string ⟨#[]⟩, .bool false]) w := by kernel_rfl
@[go_sem] theorem ta_nil_List (w : World) : (Instr.typeAssert .nilIface 27 68 true).run Tryz.prog w = .ok (.tuple #[.slice none 0 0, .bool false]) w := by kernel_rfl
@[go_sem] theorem ta_nil_Object (w : World) : (Instr.typeAssert .nilIface 27 70 true).run Tryz.prog w = .ok (.tuple #[.agg #[.slice none 0 0, .slice none 0 0], .bool false]) w := by kernel_rfl
end Go.Proofs.YtddmmmfpdmejbaaGreatDoor
namespace Go.Proofs.YtddmmmfpdmejbaaGreatDoor
open Go.RowKit

/-! json's values in memory; assaylaw15.plain, plains -/
set_option linter.unusedVariables false
def VlF (w : World) (F : Nat → Prop) (i1 : Value) (i2 : Nd) : Prop := ∀ Q : Value → Nd → Prop, (Q (.iface 65 (.agg #[])) (.mk 1 0 [] [] [])) → (∀ (b : Bool), Q (.iface 66 (.bool b)) (.mk 2 (bif b then 1 else 0) [] [] [])) → (∀ (n : Int) (hn : -9223372036854775808 ≤ n ∧ n ≤ 9223372036854775807), Q (.iface 67 (.int .i64 n)) (.mk 3 n [] [] [])) → (∀ (s : ByteArray), Q (.iface 54 (.string s)) (.mk 4 0 (lS s) [] [])) → (∀ (a : Sl) (us : List Value) (ds : List Nd) (hv : IsG w a.v us) (hF : a.In F) (hl : us.length = ds.length) (hz : a.n ≤ 1759218604441) (he : ∀ (i : Nat) u d, us[i]? = some u → ds[i]? = some d → Q u d), Q (.iface 68 a.v) (.mk 5 0 [] [] ds)) → (∀ (ks a : Sl) (kb : List ByteArray) (us : List Value) (ds : List Nd) (hk : IsG w ks.v (strs kb)) (hkF : ks.In F) (hv : IsG w a.v us) (hF : a.In F) (hl : us.length = ds.length) (hz : ks.n ≤ 8796093022208 ∧ a.n ≤ 1759218604441) (he : ∀ (i : Nat) u d, us[i]? = some u → ds[i]? = some d → Q u d), Q (.iface 70 (.agg #[ks.v, a.v])) (.mk 6 0 [] (kb.map lS) ds)) → Q i1 i2
theorem VlF.null {w : World} {F : Nat → Prop}  : VlF w F (.iface 65 (.agg #[])) (.mk 1 0 [] [] []) := fun Q q0 q1 q2 q3 q4 q5 => q0
theorem VlF.bool {w : World} {F : Nat → Prop} (b : Bool) : VlF w F (.iface 66 (.bool b)) (.mk 2 (bif b then 1 else 0) [] [] []) := fun Q q0 q1 q2 q3 q4 q5 => q1 b
theorem VlF.num {w : World} {F : Nat → Prop} (n : Int) (hn : -9223372036854775808 ≤ n ∧ n ≤ 9223372036854775807) : VlF w F (.iface 67 (.int .i64 n)) (.mk 3 n [] [] []) := fun Q q0 q1 q2 q3 q4 q5 => q2 n hn
theorem VlF.str {w : World} {F : Nat → Prop} (s : ByteArray) : VlF w F (.iface 54 (.string s)) (.mk 4 0 (lS s) [] []) := fun Q q0 q1 q2 q3 q4 q5 => q3 s
theorem VlF.list {w : World} {F : Nat → Prop} (a : Sl) (us : List Value) (ds : List Nd) (hv : IsG w a.v us) (hF : a.In F) (hl : us.length = ds.length) (hz : a.n ≤ 1759218604441) (he : ∀ (i : Nat) u d, us[i]? = some u → ds[i]? = some d → VlF w F u d) : VlF w F (.iface 68 a.v) (.mk 5 0 [] [] ds) := fun Q q0 q1 q2 q3 q4 q5 => q4 a us ds hv hF hl hz (fun i u d hz0 hz1 => he i u d hz0 hz1 Q q0 q1 q2 q3 q4 q5)
theorem VlF.obj {w : World} {F : Nat → Prop} (ks a : Sl) (kb : List ByteArray) (us : List Value) (ds : List Nd) (hk : IsG w ks.v (strs kb)) (hkF : ks.In F) (hv : IsG w a.v us) (hF : a.In F) (hl : us.length = ds.length) (hz : ks.n ≤ 8796093022208 ∧ a.n ≤ 1759218604441) (he : ∀ (i : Nat) u d, us[i]? = some u → ds[i]? = some d → VlF w F u d) : VlF w F (.iface 70 (.agg #[ks.v, a.v])) (.mk 6 0 [] (kb.map lS) ds) := fun Q q0 q1 q2 q3 q4 q5 => q5 ks a kb us ds hk hkF hv hF hl hz (fun i u d hz0 hz1 => he i u d hz0 hz1 Q q0 q1 q2 q3 q4 q5)
theorem VlF.rc {w : World} {F : Nat → Prop} {M : ∀ (i1 : Value) (i2 : Nd), VlF w F i1 i2 → Prop} (null : M (.iface 65 (.agg #[])) (.mk 1 0 [] [] []) (VlF.null)) (bool : ∀ (b : Bool), M (.iface 66 (.bool b)) (.mk 2 (bif b then 1 else 0) [] [] []) (VlF.bool b)) (num : ∀ (n : Int) (hn : -9223372036854775808 ≤ n ∧ n ≤ 9223372036854775807), M (.iface 67 (.int .i64 n)) (.mk 3 n [] [] []) (VlF.num n hn)) (str : ∀ (s : ByteArray), M (.iface 54 (.string s)) (.mk 4 0 (lS s) [] []) (VlF.str s)) (list : ∀ (a : Sl) (us : List Value) (ds : List Nd) (hv : IsG w a.v us) (hF : a.In F) (hl : us.length = ds.length) (hz : a.n ≤ 1759218604441) (he : ∀ (i : Nat) u d, us[i]? = some u → ds[i]? = some d → VlF w F u d), (∀ (i : Nat) u d (hz0 : us[i]? = some u) (hz1 : ds[i]? = some d), M u d (he i u d hz0 hz1)) → M (.iface 68 a.v) (.mk 5 0 [] [] ds) (VlF.list a us ds hv hF hl hz he)) (obj : ∀ (ks a : Sl) (kb : List ByteArray) (us : List Value) (ds : List Nd) (hk : IsG w ks.v (strs kb)) (hkF : ks.In F) (hv : IsG w a.v us) (hF : a.In F) (hl : us.length = ds.length) (hz : ks.n ≤ 8796093022208 ∧ a.n ≤ 1759218604441) (he : ∀ (i : Nat) u d, us[i]? = some u → ds[i]? = some d → VlF w F u d), (∀ (i : Nat) u d (hz0 : us[i]? = some u) (hz1 : ds[i]? = some d), M u d (he i u d hz0 hz1)) → M (.iface 70 (.agg #[ks.v, a.v])) (.mk 6 0 [] (kb.map lS) ds) (VlF.obj ks a kb us ds hk hkF hv hF hl hz he)) {i1 : Value} {i2 : Nd} (h : VlF w F i1 i2) : M i1 i2 h :=
  (h (fun i1 i2 => ∃ h9 : VlF w F i1 i2, M i1 i2 h9) (⟨VlF.null, null⟩) (fun b => ⟨VlF.bool b, bool b⟩) (fun n hn => ⟨VlF.num n hn, num n hn⟩) (fun s => ⟨VlF.str s, str s⟩) (fun a us ds hv hF hl hz he => ⟨VlF.list a us ds hv hF hl hz (fun i u d hz0 hz1 => (he i u d hz0 hz1).1), list a us ds hv hF hl hz (fun i u d hz0 hz1 => (he i u d hz0 hz1).1) (fun i u d hz0 hz1 => (he i u d hz0 hz1).2)⟩) (fun ks a kb us ds hk hkF hv hF hl hz he => ⟨VlF.obj ks a kb us ds hk hkF hv hF hl hz (fun i u d hz0 hz1 => (he i u d hz0 hz1).1), obj ks a kb us ds hk hkF hv hF hl hz (fun i u d hz0 hz1 => (he i u d hz0 hz1).1) (fun i u d hz0 hz1 => (he i u d hz0 hz1).2)⟩)).2
theorem VlF.ag {w w1 : World} {F : Nat → Prop} {v : Value} {d : Nd} (h : VlF w F v d) (hb : ∀ b, F b → b < w.heap.size → w1.heap[b]? = w.heap[b]?) : VlF w1 F v d := by
  induction h using VlF.rc with
  | null => exact .null
  | bool b => exact .bool b
  | num n hn => exact .num n hn
  | str s => exact .str s
  | list a us ds hv hF hl hz he ih => exact .list a us ds (hv.ag hF hb) hF hl hz ih
  | obj ks a kb us ds hk hkF hv hF hl hz he ih => exact .obj ks a kb us ds (hk.ag hkF hb) hkF (hv.ag hF hb) hF hl hz ih
theorem VlF.kept {w w1 : World} {F : Nat → Prop} {v : Value} {d : Nd} (h : VlF w F v d) (hb : Below w.heap.size w w1) : VlF w1 F v d := h.ag (fun b _ hl => hb.block b hl)
theorem grown_setRow15 (w : World) (n : Nat) (c : Array Value) : w.grownBy (w.setRow n c) (some n) :=
  ⟨rfl, rfl, rfl, by simp [World.setRow], fun k _ hne => setRow_other w n k c (fun e => hne (by rw [e]))⟩
theorem LsO.le {w : World} {B B' : Nat} {X : Nat → Prop} {v : Sl} {rs : List Rn} {vs : List Nd} (h : LsO w B X v rs vs) (hB : B' ≤ B) : LsO w B' X v rs vs :=
  ⟨h.own.le hB, h.off, h.len, fun i a d hi hj => (h.el i a d hi hj).mono fun _ hb => ⟨Nat.le_trans hB hb.1, hb.2⟩⟩
def PlnP (d : Nd) (w : World) (e : Ending) (w' : World) : Prop := ∃ r, e = .returned (.tuple #[.agg (rnA r), .bool true]) ∧ NdF w' (w.heap.size ≤ ·) r d ∧ Below w.heap.size w w'
def PlnOk (d : Nd) : Prop := ∀ (w : World) (F : Nat → Prop) (v : Value), VlF w F v d → Calls Tryz.prog 16 #[v] w fun e w' => PlnP d w e w'
/-- What plains leaves. -/
def PlsP (k : Int) (ks : Sl) (ds : List Nd) (w : World) (e : Ending) (w' : World) : Prop := ∃ vs rs, e = .returned (.tuple #[.agg (rnA ⟨k, 0, ⟨#[]⟩, ks, vs⟩), .bool true]) ∧ LsO w' w.heap.size (fun _ => False) vs rs ds ∧ Below w.heap.size w w'
/-- What holds ahead of each element. -/
def PlI (n0 g2 g4 B : Nat) (k : Int) (ks : Sl) (ds : List Nd) (w : World) (j : Nat) (wr : World) : Prop :=
  ∃ (vs : Sl) (rs : List Rn), RowC wr g2 (rnA ⟨k, 0, ⟨#[]⟩, ks, vs⟩) ∧ RowC wr g4 (rnA rnZ) ∧ LsO wr B (fun _ => False) vs rs (ds.take j) ∧ Below n0 w wr ∧ B ≤ wr.heap.size
set_option linter.unusedSimpArgs false in
set_option maxRecDepth 100000 in
set_option maxHeartbeats 16000000 in
theorem plains15_any (ds : List Nd) (ih : ∀ d ∈ ds, PlnOk d) (w : World) (F : Nat → Prop) (k : Int) (ks : Sl) (x : Option Addr) (m c : Nat) (us : List Value) (hv : IsG w (.slice x m c) us) (hl : us.length = ds.length) (hz : m ≤ 1759218604441) (he : ∀ (i : Nat) u d, us[i]? = some u → ds[i]? = some d → VlF w F u d) :
    Calls Tryz.prog 35 #[.agg (rnA ⟨k, 0, ⟨#[]⟩, ks, slZ⟩), .slice x m c] w fun e w' => PlsP k ks ds w e w' := by
  obtain ⟨n0, hn0⟩ : ∃ q, w.heap.size = q := ⟨_, rfl⟩
  have hm : m = us.length := by
    obtain ⟨x9, c9, he9⟩ := hv.len
    simp only [Value.slice.injEq] at he9
    exact he9.2.1
  have bA := below_alloc w (.cells (rnA ⟨k, 0, ⟨#[]⟩, ks, slZ⟩) 41)
  have bB := below_alloc (w.alloc (.cells (rnA ⟨k, 0, ⟨#[]⟩, ks, slZ⟩) 41)) (.cells (rnA rnZ) 41)
  have rA := (RowC.new w (rnA ⟨k, 0, ⟨#[]⟩, ks, slZ⟩) 41).kept bB
  have rB := RowC.new (w.alloc (.cells (rnA ⟨k, 0, ⟨#[]⟩, ks, slZ⟩) 41)) (rnA rnZ) 41
  have bY := bA.trans (bB.mono bA.size)
  rw [hn0] at bY
  have hsz1 : (w.alloc (.cells (rnA ⟨k, 0, ⟨#[]⟩, ks, slZ⟩) 41)).heap.size = n0 + 1 := by rw [alloc_sz15, hn0]
  have hszY : ((w.alloc (.cells (rnA ⟨k, 0, ⟨#[]⟩, ks, slZ⟩) 41)).alloc (.cells (rnA rnZ) 41)).heap.size = n0 + 2 := by rw [alloc_sz15, alloc_sz15, hn0]
  rw [hsz1] at rB
  rw [hn0] at rA
  go_enter Tryz.func35, Tryz.ntmps35
  go_upto_region 1 with fail
  generalize (w.alloc (.cells (rnA ⟨k, 0, ⟨#[]⟩, ks, slZ⟩) 41)).alloc (.cells (rnA rnZ) 41) = Y at rA rB bY hszY ⊢
  clear bA bB hsz1
  obtain ⟨g4, hg4⟩ : ∃ q, n0 + 1 = q := ⟨_, rfl⟩
  obtain ⟨B, hBe⟩ : ∃ q, n0 + 2 = q := ⟨_, rfl⟩
  rw [hg4] at rB ⊢
  have H0 : Hid (PlI n0 n0 g4 B k ks ds w 0 Y) := ⟨slZ, [], rA, rB, by rw [List.take_zero]; exact LsO.nil _ _ _, bY, by omega⟩
  have HM : Hid (m = us.length ∧ us.length = ds.length) := ⟨hm, hl⟩
  have HV : Hid (IsG w (.slice x m c) us) := hv
  have HE : Hid (∀ (i : Nat) u d, us[i]? = some u → ds[i]? = some d → VlF w F u d) := he
  clear rA rB bY hm hl hv he
  go_wp2_with fail
  go_loopw [12] (fun iv wr => ∃ j : Nat, j ≤ m ∧ iv = .int .i64 j ∧ PlI n0 n0 g4 B k ks ds w j wr) (fun iv _ => m - (intOf iv).toNat)
  case atStart => exact ⟨0, by omega, rfl, H0.out⟩
  case round =>
    clear H0
    obtain ⟨j, hj, rfl, ⟨xv, nv, cv⟩, rs, r2, r4, hL, hB, hsz⟩ := hrel
    by_cases hlt : j < m
    · have i1 : (j : Int) < (m : Int) := by omega
      have i0 : (0 : Int) ≤ (j : Int) := by omega
      obtain ⟨hm1, hm2⟩ := HM.out
      obtain ⟨u, hu⟩ : ∃ q, us[j]? = some q := ⟨_, List.getElem?_eq_getElem (by omega)⟩
      obtain ⟨d, hd⟩ : ∃ q, ds[j]? = some q := ⟨_, List.getElem?_eq_getElem (by omega)⟩
      have hBw : Below w.heap.size w wr := by rw [hn0]; exact hB
      obtain ⟨b, o, rfl, -, cu⟩ := IsG.spot HV.out j (by omega)
      have q1 := cell_later hBw (cu j u hu)
      have hvl := (HE.out j u d hu hd).kept hBw
      have hC := ih d (List.mem_of_getElem? hd) wr F u hvl
      have hwr : IntKind.i64.wrap ((j : Int) + 1) = (j : Int) + 1 := by rw [IntKind.wrap_i64]; omega
      have HD : Hid (ds.take (j + 1) = ds.take j ++ [d]) := by show _ = _; rw [List.take_add_one, hd]; rfl
      have hrl : rs.length + 1 ≤ 1759218604441 := by have := hL.len; rw [List.length_take] at this; omega
      clear cu hu hd hvl hm1 hm2
      go_wp2_with fail
      refine hC.mono ?_
      rintro e w1 ⟨r, rfl, hN1, hb1⟩
      clear hC q1
      have hb2 := below_alloc w1 (.cells (rnA r) 41)
      have hbx := hb1.trans (hb2.mono hb1.size)
      have r2x := r2.kept hbx
      have r4x := r4.kept hbx
      have hLx := hL.later hbx
      have hNx := hN1.kept hb2
      have h8x := RowC.new w1 (rnA r) 41
      have hszx : wr.heap.size ≤ (w1.alloc (.cells (rnA r) 41)).heap.size := hbx.size
      have hg8 : wr.heap.size ≤ w1.heap.size := hb1.size
      have hBx : Below n0 w (w1.alloc (.cells (rnA r) 41)) := hB.trans (hbx.mono (by omega))
      have hown : ∀ b, (Value.slice xv nv cv).ownBlock = some b → b < wr.heap.size := fun b hb => (hL.lt b hb).2
      clear hL r2 r4 hN1 hb1 hb2 hbx hB hBw
      go_upto_region 5 with fail
      obtain ⟨g8, hg8e⟩ : ∃ q, w1.heap.size = q := ⟨_, rfl⟩
      rw [hg8e] at h8x hg8 ⊢
      generalize w1.alloc (.cells (rnA r) 41) = X at r2x r4x hLx hNx h8x hszx hBx ⊢
      obtain ⟨H, hH⟩ : ∃ q, wr.heap.size = q := ⟨_, rfl⟩
      rw [hH] at hNx hszx hown hg8
      have hby := below_alloc X (.cells (rnA r) 41)
      obtain ⟨⟨xa, na, ca⟩, w6, hr6, hL6, hg6, -⟩ := (hLx.later hby).app 39 (by omega : B ≤ H) (RowC.new X (rnA r) 41) (fun b hb => hb.elim) hown (hNx.kept hby) (by have := hby.size; omega) hrl
      have hlowv : ∀ b, (Value.slice xv nv cv).ownBlock = some b → B ≤ b := fun b hb => (hLx.lt b hb).1
      have hne : ∀ b, b < B → b < X.heap.size → w6.heap[b]? = X.heap[b]? := fun b hb hl => (hg6.block b (by have := hby.size; omega) (fun e => by have := hlowv b e.symm; omega)).trans (hby.block b hl)
      have r26 := r2x.block (hne n0 (by omega) r2x.lt)
      have r46 := r4x.block (hne g4 (by omega) r4x.lt)
      have hs7 := grown_set1 w6 n0 4 (.slice xa na ca)
      have HNEW : Hid (PlI n0 n0 g4 B k ks ds w (j + 1) (w6.setCell ⟨n0, 4, none⟩ (.slice xa na ca))) := by
        refine ⟨⟨xa, na, ca⟩, rs ++ [r], r26.set 4 _, r46.set_ne 4 _ (by omega), ?_, ?_, ?_⟩
        · rw [HD.out]
          exact hL6.ag hs7.size (fun b hb _ hl => hs7.block b hl (fun e => by cases e; omega))
        · have h1 : Below n0 w w6 := hBx.trans ⟨hg6.os, hg6.tape, hg6.output, Nat.le_trans hby.size hg6.size, fun k hk => hne k (by omega) (by have := hBx.size; omega)⟩
          exact h1.setCell (p := ⟨n0, 4, none⟩) (Nat.le_refl _) _
        · have := hg6.size
          have := hby.size
          have := hs7.size
          omega
      have q4 : X.cell? ⟨n0, 4, none⟩ = some (.slice xv nv cv) := r2x.cell 4
      have q46 : w6.cell? ⟨n0, 4, none⟩ = some (.slice xv nv cv) := r26.cell 4
      have z46 := r26.frozen 4
      obtain ⟨p1, p2⟩ := id h8x
      have p3 : (rowAt X g8).size = 5 := by rw [p2]; rfl
      have hr7 : (Builtin.append_ #[39, 39] 39 #[.slice xv nv cv, .slice (some ⟨X.heap.size, 0, none⟩) 1 1]).run Tryz.prog (X.alloc (.cells (rnA r) 41)) = .ok (.slice xa na ca) w6 := hr6
      clear r2x r4x hLx hNx hby hr6 hL6 hg6 hne r26 r46 hs7 hBx hown hlowv HD
      go_wp2_with (at_builtin; refine wpL_appG 39 rfl _ _ rfl _ w6 (by exact hr7) ?_)
      go_roundw
      case rel => first | exact ⟨j + 1, by omega, by go_num, HNEW.out⟩ | ((repeat apply Exists.intro); refine ⟨⟨j + 1, by omega, ?_, HNEW.out⟩, rfl⟩; go_num)
      case measure => simp [intOf]; omega
    · obtain rfl : j = m := by omega
      have i1 : ¬ (j : Int) < (j : Int) := by omega
      obtain ⟨p1, p2⟩ := id r2
      obtain ⟨p3, p4⟩ := id r4
      have p5 : (rowAt wr n0).size = 5 := by rw [p2]; rfl
      have p6 : (rowAt wr g4).size = 5 := by rw [p4]; rfl
      have HL9 : Hid (LsO wr B (fun _ => False) ⟨xv, nv, cv⟩ rs ds) := by
        rw [List.take_of_length_le (by obtain ⟨h1, h2⟩ := HM.out; omega)] at hL
        exact hL
      have HB9 : Hid (Below n0 w wr) := hB
      have HF : Hid (LsO (wr.setRow g4 (rnA ⟨k, 0, ⟨#[]⟩, ks, ⟨xv, nv, cv⟩⟩)) n0 (fun _ => False) ⟨xv, nv, cv⟩ rs ds ∧ Below n0 w (wr.setRow g4 (rnA ⟨k, 0, ⟨#[]⟩, ks, ⟨xv, nv, cv⟩⟩))) := by
        have hs := grown_setRow15 wr g4 (rnA ⟨k, 0, ⟨#[]⟩, ks, ⟨xv, nv, cv⟩⟩)
        exact ⟨(LsO.ag HL9.out hs.size (fun b hb _ hl => hs.block b hl (fun e => by cases e; omega))).le (by omega), below_row14 HB9.out (by omega) _⟩
      clear hL hB HL9 HB9
      go_wp2
      refine nd_bodyPost2 4 5 g4 (rnA ⟨k, 0, ⟨#[]⟩, ks, ⟨xv, nv, cv⟩⟩) rfl rfl rfl (RowC.setRow r4 _) rfl ?_
      exact ⟨⟨xv, nv, cv⟩, rs, rfl, by rw [hn0]; exact HF.out.1, by rw [hn0]; exact HF.out.2⟩
theorem copyS (w : World) (y : Nat) (x : Option Addr) (n c : Nat) (kb : List ByteArray) (ty : TypeId) (hv : OwnG 9 w y (.slice (some ⟨y, 0, none⟩) 0 0) []) (h : IsG w (.slice x n c) (strs kb)) (hn : n ≤ 8796093022208) :
    ∃ (a : Sl) (w' : World), (Builtin.append_ #[22, 22] ty #[.slice (some ⟨y, 0, none⟩) 0 0, .slice x n c]).run Tryz.prog w = .ok a.v w' ∧ OwnG 9 w' y a.v (strs kb) ∧ Below w.heap.size w w' := by
  have hy : y < w.heap.size := (hv.lt y rfl).2
  have hlen : (strs kb).length = n := by
    obtain ⟨x9, c9, he9⟩ := h.len
    simp only [Value.slice.injEq] at he9
    exact he9.2.1.symm
  have hm : maxLen = 9223372036854775807 := rfl
  by_cases h0 : strs kb = []
  · rw [h0] at hlen ⊢
    obtain rfl : n = 0 := hlen.symm
    exact ⟨⟨some ⟨y, 0, none⟩, 0, 0⟩, w, run_app0G eltS w (some ⟨y, 0, none⟩) 0 0 (Nat.zero_le _) x c ty (fun _ => rfl), hv, Below.refl _ _⟩
  · have hp : 0 < (strs kb).length := List.length_pos_iff.2 h0
    rcases h with ⟨h, h2⟩ | ⟨a, d, he, hc⟩
    · exact absurd h2 h0
    · simp only [Value.slice.injEq] at he
      obtain ⟨rfl, rfl, rfl⟩ := he
      have hnews : ∀ j u, (strs kb)[j]? = some u → w.cell? (a.add j) = some u := fun j u hu => by
        obtain ⟨hj, rfl⟩ := List.getElem?_eq_some_iff.1 hu
        exact hc j hj
      obtain ⟨v', w', hr, hO, -, -⟩ := run_appG eltS w y (.slice (some ⟨y, 0, none⟩) 0 0) [] (strs kb) a c ty hv hnews (fun u hu => by
        unfold strs at hu
        obtain ⟨s, -, rfl⟩ := List.mem_map.1 hu
        rfl) h0 (by simp only [List.length_nil]; omega) (by simp only [List.length_nil]; omega) (Nat.le_of_lt hy)
      obtain ⟨i, z, hi, hz, hs, hby, hzs⟩ := eltS.info
      have hr2 := run_append_grow (P := Tryz.prog) w 22 ty 9 i z eltS.ht hi hz ⟨y, 0, none⟩ 0 0 [] (by simp) (fun j v hj => by simp at hj) a (strs kb).length c (strs kb) (by rw [hs]; simp) hnews (by omega) (by omega) (growslice_fits (by omega) (by rw [hby]; omega))
      have hr3 := hr.symm.trans hr2
      simp only [Result.ok.injEq] at hr3
      obtain ⟨hv3, hw3⟩ := hr3
      refine ⟨⟨some ⟨w.heap.size, 0, none⟩, 0 + (strs kb).length, _⟩, w', by rw [hr, hv3]; rfl, ?_, ?_⟩
      · rw [hv3] at hO
        rw [List.nil_append] at hO
        exact hO
      · rw [hw3]
        exact (below_alloc w _).drew
/-- What the region of plain that makes an object's node knows. -/
def PF0 (B : Nat) (v : Value) (x : World) : Prop := ∃ y, v = .slice (some ⟨y, 0, none⟩) 0 0 ∧ B ≤ y ∧ OwnG 9 x y v []
def PF3 (B : Nat) (kb : List ByteArray) (v : Value) (x : World) : Prop := ∃ a : Sl, v = a.v ∧ OwnG 9 x B a.v (strs kb)
def PF4 (B : Nat) (kb : List ByteArray) (v : Value) (x : World) : Prop := ∃ a : Sl, v = .agg (rnA ⟨6, 0, ⟨#[]⟩, a, slZ⟩) ∧ OwnG 9 x B a.v (strs kb)
def PF7 (B : Nat) (kb : List ByteArray) (ds : List Nd) (v : Value) (x : World) : Prop := ∃ (a b : Sl) (rs : List Rn), v = .tuple #[.agg (rnA ⟨6, 0, ⟨#[]⟩, a, b⟩), .bool true] ∧ OwnG 9 x B a.v (strs kb) ∧ LsO x B (fun _ => False) b rs ds
def PF8 (B : Nat) (kb : List ByteArray) (ds : List Nd) (v : Value) (x : World) : Prop := ∃ (a b : Sl) (rs : List Rn), v = .agg (rnA ⟨6, 0, ⟨#[]⟩, a, b⟩) ∧ OwnG 9 x B a.v (strs kb) ∧ LsO x B (fun _ => False) b rs ds
theorem PF0.keep {B : Nat} {v : Value} {w w' : World} (h : PF0 B v w) (hb : Below w.heap.size w w') : PF0 B v w' := by
  obtain ⟨y, e, l, o⟩ := h
  exact ⟨y, e, l, o.keep hb⟩
theorem PF3.keep {B : Nat} {kb : List ByteArray} {v : Value} {w w' : World} (h : PF3 B kb v w) (hb : Below w.heap.size w w') : PF3 B kb v w' := by
  obtain ⟨a, e, o⟩ := h
  exact ⟨a, e, o.keep hb⟩
theorem PF4.keep {B : Nat} {kb : List ByteArray} {v : Value} {w w' : World} (h : PF4 B kb v w) (hb : Below w.heap.size w w') : PF4 B kb v w' := by
  obtain ⟨a, e, o⟩ := h
  exact ⟨a, e, o.keep hb⟩
theorem PF7.keep {B : Nat} {kb : List ByteArray} {ds : List Nd} {v : Value} {w w' : World} (h : PF7 B kb ds v w) (hb : Below w.heap.size w w') : PF7 B kb ds v w' := by
  obtain ⟨a, b, rs, e, o, l⟩ := h
  exact ⟨a, b, rs, e, o.keep hb, l.later hb⟩
theorem PF8.keep {B : Nat} {kb : List ByteArray} {ds : List Nd} {v : Value} {w w' : World} (h : PF8 B kb ds v w) (hb : Below w.heap.size w w') : PF8 B kb ds v w' := by
  obtain ⟨a, b, rs, e, o, l⟩ := h
  exact ⟨a, b, rs, e, o.keep hb, l.later hb⟩
theorem Sl.own_inG15 {w : World} {B : Nat} {a : Sl} {xs : List Value} {e : TypeId} (h : OwnG e w B a.v xs) : a.In (B ≤ ·) := fun h0 p hp => by
  obtain ⟨hn, ⟨h1, h2⟩ | ⟨g, cap, cur, he, hb, -⟩⟩ := h
  · unfold Sl.v at h1; simp only [Value.slice.injEq] at h1; rw [h1.1] at hp; cases hp
  · unfold Sl.v at he; simp only [Value.slice.injEq] at he
    rw [he.1] at hp; cases hp; exact hb
theorem plain_end {n0 : Nat} {w x : World} {r : Rn} {d : Nd} (hb : Below n0 w x) (hn : w.heap.size = n0) (hN : NdF x (n0 + 1 ≤ ·) r d) : PlnP d w (.returned (.tuple #[.agg (rnA r), .bool true])) (x.setRow n0 (rnA r)) := by
  have hs := grown_setRow15 x n0 (rnA r)
  refine ⟨r, rfl, (hN.ag hs.size fun b hb hl => hs.block b hl (fun e => by cases e; omega)).mono (fun b hb => by omega), ?_⟩
  rw [hn]
  exact below_row14 hb (Nat.le_refl _) _
set_option linter.unusedSimpArgs false in
set_option maxRecDepth 100000 in
set_option maxHeartbeats 16000000 in
theorem plain15_step (k n : Int) (s : List UInt8) (ks : List (List UInt8)) (vs : List Nd) (ih : ∀ d ∈ vs, PlnOk d) : PlnOk (.mk k n s ks vs) := fun w F v hv => by
  obtain ⟨n0, hn0⟩ : ∃ q, w.heap.size = q := ⟨_, rfl⟩
  have bA := below_alloc w (.cells (rnA rnZ) 41)
  have rA := RowC.new w (rnA rnZ) 41
  have hvY := hv.kept bA
  have hsz : (w.alloc (.cells (rnA rnZ) 41)).heap.size = n0 + 1 := by rw [alloc_sz15, hn0]
  rw [hn0] at rA bA
  clear hv
  go_enter Tryz.func16, Tryz.ntmps16
  go_upto_region 1 with fail
  generalize w.alloc (.cells (rnA rnZ) 41) = Y at bA rA hvY hsz ⊢
  obtain ⟨p1, p2⟩ := id rA
  have p3 : (rowAt Y n0).size = 5 := by rw [p2]; rfl
  cases hvY using VlF.rc with
  | null =>
    go_upto_region 4 with fail
    have b2 := below_alloc Y (.cells #[] 65)
    have hBX : Below n0 w (Y.alloc (.cells #[] 65)) := bA.trans (b2.mono (by omega))
    have rX := rA.kept b2
    generalize Y.alloc (.cells #[] 65) = X at hBX rX ⊢
    obtain ⟨a1, a2⟩ := id rX
    have a3 : (rowAt X n0).size = 5 := by rw [a2]; rfl
    clear b2 p1 p2 p3
    go_wp2
    exact nd_bodyPost2 2 3 n0 (rnA ⟨1, 0, ⟨#[]⟩, slZ, slZ⟩) rfl rfl rfl (RowC.setRow rX _) rfl (by exact plain_end hBX hn0 (NdF.plain X _ 1 0 ⟨#[]⟩))
  | bool b =>
    go_upto_region 8 with fail
    have b2 := below_alloc Y (.cells #[.int .i64 2, .int .i64 0, .string ⟨#[]⟩, .slice none 0 0, .slice none 0 0] 41)
    have hBX : Below n0 w (Y.alloc (.cells #[.int .i64 2, .int .i64 0, .string ⟨#[]⟩, .slice none 0 0, .slice none 0 0] 41)) := bA.trans (b2.mono (by omega))
    have rX := rA.kept b2
    have rN : RowC _ _ (rnA ⟨2, 0, ⟨#[]⟩, slZ, slZ⟩) := RowC.new Y #[.int .i64 2, .int .i64 0, .string ⟨#[]⟩, .slice none 0 0, .slice none 0 0] 41
    rw [hsz] at rN
    generalize Y.alloc (.cells #[.int .i64 2, .int .i64 0, .string ⟨#[]⟩, .slice none 0 0, .slice none 0 0] 41) = X at hBX rX rN ⊢
    obtain ⟨gb, hgb⟩ : ∃ q, n0 + 1 = q := ⟨_, rfl⟩
    rw [hgb] at rN ⊢
    clear b2 p1 p2 p3
    cases b with
    | true =>
      have c1 : X.cell? ⟨gb, 1, none⟩ = some (.int .i64 0) := rN.cell 1
      have z1 := rN.frozen 1
      have rN2 : RowC (X.setCell ⟨gb, 1, none⟩ (.int .i64 1)) gb (rnA ⟨2, 1, ⟨#[]⟩, slZ, slZ⟩) := rN.set 1 (.int .i64 1)
      have rX2 : RowC (X.setCell ⟨gb, 1, none⟩ (.int .i64 1)) n0 (rnA rnZ) := rX.set_ne 1 _ (by omega)
      have hB2 : Below n0 w (X.setCell ⟨gb, 1, none⟩ (.int .i64 1)) := hBX.setCell (p := ⟨gb, 1, none⟩) (by show n0 ≤ gb; omega) _
      clear rN rX hBX
      go_upto_region 10 with fail
      generalize X.setCell ⟨gb, 1, none⟩ (.int .i64 1) = Z at rN2 rX2 hB2 ⊢
      obtain ⟨a1, a2⟩ := id rX2
      have a3 : (rowAt Z n0).size = 5 := by rw [a2]; rfl
      obtain ⟨d1, d2⟩ := id rN2
      have d3 : (rowAt Z gb).size = 5 := by rw [d2]; rfl
      go_wp2
      exact nd_bodyPost2 2 3 n0 (rnA ⟨2, 1, ⟨#[]⟩, slZ, slZ⟩) rfl rfl rfl (RowC.setRow rX2 _) rfl (by exact plain_end hB2 hn0 (NdF.plain Z _ 2 1 ⟨#[]⟩))
    | false =>
      obtain ⟨a1, a2⟩ := id rX
      have a3 : (rowAt X n0).size = 5 := by rw [a2]; rfl
      obtain ⟨d1, d2⟩ := id rN
      have d3 : (rowAt X gb).size = 5 := by rw [d2]; rfl
      go_wp2
      exact nd_bodyPost2 2 3 n0 (rnA ⟨2, 0, ⟨#[]⟩, slZ, slZ⟩) rfl rfl rfl (RowC.setRow rX _) rfl (by exact plain_end hBX hn0 (NdF.plain X _ 2 0 ⟨#[]⟩))
  | num n hn =>
    clear hn
    go_wp2
    exact nd_bodyPost2 2 3 n0 (rnA ⟨3, n, ⟨#[]⟩, slZ, slZ⟩) rfl rfl rfl (RowC.setRow rA _) rfl (by exact plain_end bA hn0 (NdF.plain Y _ 3 n ⟨#[]⟩))
  | str s =>
    go_wp2
    exact nd_bodyPost2 2 3 n0 (rnA ⟨4, 0, s, slZ, slZ⟩) rfl rfl rfl (RowC.setRow rA _) rfl (by exact plain_end bA hn0 (NdF.plain Y _ 4 0 s))
  | list a us ds hv hF hl hz he r9 =>
    clear r9
    obtain ⟨xa, na, ca⟩ := a
    have hC := plains15_any vs ih Y F 5 slZ xa na ca us hv hl hz he
    go_wp2_with fail
    refine hC.mono ?_
    rintro e w1 ⟨⟨xv, nv, cv⟩, rs, rfl, hL1, hb1⟩
    clear hC
    have r1 := rA.kept hb1
    have hB1 : Below n0 w w1 := bA.trans (hb1.mono (by omega))
    obtain ⟨a1, a2⟩ := id r1
    have a3 : (rowAt w1 n0).size = 5 := by rw [a2]; rfl
    rw [hsz] at hL1
    have HN : Hid (NdF w1 (n0 + 1 ≤ ·) ⟨5, 0, ⟨#[]⟩, slZ, ⟨xv, nv, cv⟩⟩ (.mk 5 0 [] [] vs)) := hL1.node 5 0 ⟨#[]⟩ slZ ⟨xv, nv, cv⟩ [] (.inl ⟨rfl, rfl⟩) (fun h => absurd h (Nat.lt_irrefl 0)) ⟨Nat.zero_le _, by have h8 := IsK.num (hL1.own.isK ndE_ok); have h7 := hL1.len; have h6 := IsG.num hv; simp only at h8 h6 hz ⊢; omega⟩
    clear hL1 hb1 p1 p2 p3 rA
    go_wp2
    exact nd_bodyPost2 2 3 n0 (rnA ⟨5, 0, ⟨#[]⟩, slZ, ⟨xv, nv, cv⟩⟩) rfl rfl rfl (RowC.setRow r1 _) rfl (by exact plain_end hB1 hn0 HN.out)
  | obj ks a kb us ds hk hkF hv hF hl hz he r9 =>
    clear r9
    obtain ⟨xk, nk, ck⟩ := ks
    obtain ⟨xa, na, ca⟩ := a
    simp only [Sl.v]
    simp only at hz
    go_upto_region 22 with fail
    have b2 := below_alloc Y (.cells #[.slice xk nk ck, .slice xa na ca] 70)
    have hBX : Below n0 w (Y.alloc (.cells #[.slice xk nk ck, .slice xa na ca] 70)) := bA.trans (b2.mono (by omega))
    have rX := rA.kept b2
    have rN := RowC.new Y #[.slice xk nk ck, .slice xa na ca] 70
    have hkX := hk.kept b2
    have hvX := hv.kept b2
    have heX := fun (i : Nat) u d (h1 : us[i]? = some u) (h2 : vs[i]? = some d) => (he i u d h1 h2).kept b2
    have hszX : (Y.alloc (.cells #[.slice xk nk ck, .slice xa na ca] 70)).heap.size = n0 + 2 := by rw [alloc_sz15, hsz]
    rw [hsz] at rN
    generalize Y.alloc (.cells #[.slice xk nk ck, .slice xa na ca] 70) = X at hBX rX rN hkX hvX heX hszX ⊢
    obtain ⟨go, hgo⟩ : ∃ q, n0 + 1 = q := ⟨_, rfl⟩
    rw [hgo] at rN ⊢
    obtain ⟨B, hBe⟩ : ∃ q, X.heap.size = q := ⟨_, rfl⟩
    have c0 : X.cell? ⟨go, 0, none⟩ = some (.slice xk nk ck) := rN.cell 0
    have c1 : X.cell? ⟨go, 1, none⟩ = some (.slice xa na ca) := rN.cell 1
    have HKX : Hid (IsG X (.slice xk nk ck) (strs kb)) := hkX
    have HVX : Hid (IsG X (.slice xa na ca) us) := hvX
    have HEX : Hid (∀ (i : Nat) u d, us[i]? = some u → vs[i]? = some d → VlF X F u d) := heX
    have HRX : Hid (RowC X n0 (rnA rnZ)) := rX
    have HZ : Hid (nk ≤ 8796093022208 ∧ na ≤ 1759218604441) := hz
    have HBX : Hid (Below n0 w X) := hBX
    have HNU : Hid (na = us.length ∧ nk = kb.length) := ⟨IsG.num hv, by have := IsG.num hk; simpa [strs] using this⟩
    clear hk hv he b2 p1 p2 p3 rA rN hkX hvX heX rX hBX hkF hF bA
    refine wp_reliesT [PF0 B, Fx (.pointer (some ⟨go, 0, none⟩)), Fx (.slice xk nk ck), PF3 B kb, PF4 B kb, Fx (.pointer (some ⟨go, 1, none⟩)), Fx (.slice xa na ca), PF7 B kb vs, PF8 B kb vs, Fx (.bool true)] (by kernel_rfl) (by kernel_rfl) ?_ ?_ ?_
    · repeat' (first | exact all_nil | apply all_cons)
      all_goals intro v y y' hv hb
      all_goals first | exact Fx_mono _ _ _ _ hv hb | exact PF0.keep hv hb | exact PF3.keep hv hb | exact PF4.keep hv hb | exact PF7.keep hv hb | exact PF8.keep hv hb
    · refine ⟨?_, ?_, ?_, ?_, ?_, ?_, ?_, ?_, ?_, ?_, trivial⟩
      all_goals
        intro ρ x hp ρc ρg ρf ho hd
        have o10 : ρ (.tmp 10) = .pointer (some ⟨go, 0, none⟩) := ho 10 rfl
        clear ho
        have k0 := cell_later hp c0
        have k1 := cell_later hp c1
        simp only [depsR, depR, slotR, Fx, List.getElem?_cons_succ, List.getElem?_cons_zero, Region.binds, forall_const] at hd
        simp only [guardR]
        go_split_ands
      · go_simp
        exact ⟨⟨x.heap.size, rfl, by have := hp.size; omega, OwnG.lit 9 x [] (Nat.zero_le _)⟩, below_alloc _ _⟩
      · go_simp
      · go_simp
      · obtain ⟨y9, e9, l9, o9⟩ : PF0 B (ρ (.tmp 44)) x := by first | exact hd | exact hd.1 | exact hd.2 | assumption
        have hd2 : ρ (.tmp 46) = .slice xk nk ck := by first | assumption | exact hd.2 | exact hd.2.1
        rw [e9] at o9
        obtain ⟨a9, x9, hr9, hO9, hb9⟩ := copyS x y9 xk nk ck kb 22 o9 (IsG.kept HKX.out hp) HZ.out.1
        rw [BigFrame.execOp_builtin, BigFrame.builtin_append]
        simp only [List.map_toArray, List.map_cons, List.map_nil, e9, hd2, hr9, Sem.run_bind, Result.andThen_ok, Sem.run_pure, okUpon]
        exact ⟨⟨a9, rfl, hO9.le l9⟩, hb9⟩
      · obtain ⟨⟨x9, n9, c9⟩, e9, o9⟩ : PF3 B kb (ρ (.tmp 47)) x := by first | exact hd | exact hd.1 | exact hd.2 | assumption
        simp only [Sl.v] at e9
        go_simp
        exact ⟨⟨x9, n9, c9⟩, rfl, o9⟩
      · go_simp
      · go_simp
      · obtain ⟨a9, e9, o9⟩ : PF4 B kb (ρ (.tmp 48)) x := by first | exact hd | exact hd.1 | exact hd.2 | assumption
        have hd2 : ρ (.tmp 50) = .slice xa na ca := by first | assumption | exact hd.2 | exact hd.2.1
        go_simp
        refine (plains15_any vs ih x F 6 a9 xa na ca us (IsG.kept HVX.out hp) hl HZ.out.2 (fun i u d h1 h2 => VlF.kept (HEX.out i u d h1 h2) hp)).mono ?_
        rintro e x' ⟨v9, r9, rfl, hL9, hb9⟩
        exact ⟨_, rfl, ⟨a9, v9, r9, rfl, o9.keep hb9, hL9.le (by have := hp.size; omega)⟩, hb9⟩
      · obtain ⟨a9, b9, r9, e9, o9, l9⟩ : PF7 B kb vs (ρ (.tmp 51)) x := by first | exact hd | exact hd.1 | exact hd.2 | assumption
        go_simp
        exact ⟨a9, b9, r9, rfl, o9, l9⟩
      · obtain ⟨a9, b9, r9, e9, o9, l9⟩ : PF7 B kb vs (ρ (.tmp 51)) x := by first | exact hd | exact hd.1 | exact hd.2 | assumption
        go_simp
    · intro us9 x1 hp1 hw
      simp only [owed, Fx] at hw
      obtain ⟨e0, e1, e2, e3, e4, e5, e6, e7, ⟨⟨ya, ma, da⟩, ⟨yb, mb, db⟩, r8, e8, o8, l8⟩, e9, -⟩ := hw
      simp only [List.length_cons, List.length_nil, List.take_succ_cons, List.take_zero, List.drop_succ_cons, List.drop_zero, asg, List.cons_append, List.nil_append, e1, e2, e5, e6, e8, e9]
      clear e1 e2 e5 e6 e8 e9 e0 e3 e4 e7
      have h2x : RowC x1 n0 (rnA rnZ) := RowC.kept HRX.out hp1
      obtain ⟨a1, a2⟩ := id h2x
      have a3 : (rowAt x1 n0).size = 5 := by rw [a2]; rfl
      have hB1 : Below n0 w x1 := Below.trans HBX.out (hp1.mono (by omega))
      have HP : Hid (PlnP (.mk 6 0 [] (kb.map lS) vs) w (.returned (.tuple #[.agg (rnA ⟨6, 0, ⟨#[]⟩, ⟨ya, ma, da⟩, ⟨yb, mb, db⟩⟩), .bool true])) (x1.setRow n0 (rnA ⟨6, 0, ⟨#[]⟩, ⟨ya, ma, da⟩, ⟨yb, mb, db⟩⟩))) := by
        obtain ⟨n1, n2⟩ := HNU.out
        obtain ⟨z1, z2⟩ := HZ.out
        have q1 := IsK.num (l8.own.isK ndE_ok)
        have q2 := l8.len
        have q3 := IsG.num o8.isG
        simp only [strs, List.length_map] at q1 q3
        exact plain_end hB1 hn0 ((l8.node 6 0 ⟨#[]⟩ ⟨ya, ma, da⟩ ⟨yb, mb, db⟩ kb o8.isG (Sl.own_inG15 o8) ⟨by simp only; omega, by simp only; omega⟩).mono fun b hb => by omega)
      clear HKX HVX HEX HRX HBX c0 c1 o8 l8 hp1
      go_wp2
      exact nd_bodyPost2 2 3 n0 (rnA ⟨6, 0, ⟨#[]⟩, ⟨ya, ma, da⟩, ⟨yb, mb, db⟩⟩) rfl rfl rfl (RowC.setRow h2x _) rfl (by exact HP.out)
theorem plain15_any : ∀ d, PlnOk d := Nd.ind fun k n s ks vs ih => plain15_step k n s ks vs ih
end Go.Proofs.YtddmmmfpdmejbaaGreatDoor
namespace Go.Proofs.YtddmmmfpdmejbaaGreatDoor
open Go.RowKit

/-! A value whose lists are its own; all its lists, in book's and keys' order; their blocks -/
abbrev Lb := List (Sl × List Value)
abbrev Kb := List (Sl × List ByteArray)
set_option linter.unusedVariables false
def VlO (w : World) (B : Nat) (i1 : Value) (i2 : Nd) (i3 : Lb) (i4 : Kb) : Prop := ∀ Q : Value → Nd → Lb → Kb → Prop, (Q (.iface 65 (.agg #[])) (.mk 1 0 [] [] []) [] []) → (∀ (b : Bool), Q (.iface 66 (.bool b)) (.mk 2 (bif b then 1 else 0) [] [] []) [] []) → (∀ (n : Int) (hn : -9223372036854775808 ≤ n ∧ n ≤ 9223372036854775807), Q (.iface 67 (.int .i64 n)) (.mk 3 n [] [] []) [] []) → (∀ (s : ByteArray), Q (.iface 54 (.string s)) (.mk 4 0 (lS s) [] []) [] []) → (∀ (a : Sl) (us : List Value) (ds : List Nd) (L : List Lb) (K : List Kb) (hv : OwnG 27 w B a.v us) (hl : us.length = ds.length) (hz : a.n ≤ 1759218604441) (hL : L.length = us.length) (hK : K.length = us.length) (he : ∀ (i : Nat) u d l k, us[i]? = some u → ds[i]? = some d → L[i]? = some l → K[i]? = some k → Q u d l k), Q (.iface 68 a.v) (.mk 5 0 [] [] ds) ((a, us) :: L.flatten) K.flatten) → (∀ (ks a : Sl) (kb : List ByteArray) (us : List Value) (ds : List Nd) (L : List Lb) (K : List Kb) (hk : OwnG 9 w B ks.v (strs kb)) (hv : OwnG 27 w B a.v us) (hl : us.length = ds.length) (hz : ks.n ≤ 8796093022208 ∧ a.n ≤ 1759218604441) (hL : L.length = us.length) (hK : K.length = us.length) (he : ∀ (i : Nat) u d l k, us[i]? = some u → ds[i]? = some d → L[i]? = some l → K[i]? = some k → Q u d l k), Q (.iface 70 (.agg #[ks.v, a.v])) (.mk 6 0 [] (kb.map lS) ds) ((a, us) :: L.flatten) ((ks, kb) :: K.flatten)) → Q i1 i2 i3 i4
theorem VlO.null {w : World} {B : Nat}  : VlO w B (.iface 65 (.agg #[])) (.mk 1 0 [] [] []) [] [] := fun Q q0 q1 q2 q3 q4 q5 => q0
theorem VlO.bool {w : World} {B : Nat} (b : Bool) : VlO w B (.iface 66 (.bool b)) (.mk 2 (bif b then 1 else 0) [] [] []) [] [] := fun Q q0 q1 q2 q3 q4 q5 => q1 b
theorem VlO.num {w : World} {B : Nat} (n : Int) (hn : -9223372036854775808 ≤ n ∧ n ≤ 9223372036854775807) : VlO w B (.iface 67 (.int .i64 n)) (.mk 3 n [] [] []) [] [] := fun Q q0 q1 q2 q3 q4 q5 => q2 n hn
theorem VlO.str {w : World} {B : Nat} (s : ByteArray) : VlO w B (.iface 54 (.string s)) (.mk 4 0 (lS s) [] []) [] [] := fun Q q0 q1 q2 q3 q4 q5 => q3 s
theorem VlO.list {w : World} {B : Nat} (a : Sl) (us : List Value) (ds : List Nd) (L : List Lb) (K : List Kb) (hv : OwnG 27 w B a.v us) (hl : us.length = ds.length) (hz : a.n ≤ 1759218604441) (hL : L.length = us.length) (hK : K.length = us.length) (he : ∀ (i : Nat) u d l k, us[i]? = some u → ds[i]? = some d → L[i]? = some l → K[i]? = some k → VlO w B u d l k) : VlO w B (.iface 68 a.v) (.mk 5 0 [] [] ds) ((a, us) :: L.flatten) K.flatten := fun Q q0 q1 q2 q3 q4 q5 => q4 a us ds L K hv hl hz hL hK (fun i u d l k hz0 hz1 hz2 hz3 => he i u d l k hz0 hz1 hz2 hz3 Q q0 q1 q2 q3 q4 q5)
theorem VlO.obj {w : World} {B : Nat} (ks a : Sl) (kb : List ByteArray) (us : List Value) (ds : List Nd) (L : List Lb) (K : List Kb) (hk : OwnG 9 w B ks.v (strs kb)) (hv : OwnG 27 w B a.v us) (hl : us.length = ds.length) (hz : ks.n ≤ 8796093022208 ∧ a.n ≤ 1759218604441) (hL : L.length = us.length) (hK : K.length = us.length) (he : ∀ (i : Nat) u d l k, us[i]? = some u → ds[i]? = some d → L[i]? = some l → K[i]? = some k → VlO w B u d l k) : VlO w B (.iface 70 (.agg #[ks.v, a.v])) (.mk 6 0 [] (kb.map lS) ds) ((a, us) :: L.flatten) ((ks, kb) :: K.flatten) := fun Q q0 q1 q2 q3 q4 q5 => q5 ks a kb us ds L K hk hv hl hz hL hK (fun i u d l k hz0 hz1 hz2 hz3 => he i u d l k hz0 hz1 hz2 hz3 Q q0 q1 q2 q3 q4 q5)
theorem VlO.rc {w : World} {B : Nat} {M : ∀ (i1 : Value) (i2 : Nd) (i3 : Lb) (i4 : Kb), VlO w B i1 i2 i3 i4 → Prop} (null : M (.iface 65 (.agg #[])) (.mk 1 0 [] [] []) [] [] (VlO.null)) (bool : ∀ (b : Bool), M (.iface 66 (.bool b)) (.mk 2 (bif b then 1 else 0) [] [] []) [] [] (VlO.bool b)) (num : ∀ (n : Int) (hn : -9223372036854775808 ≤ n ∧ n ≤ 9223372036854775807), M (.iface 67 (.int .i64 n)) (.mk 3 n [] [] []) [] [] (VlO.num n hn)) (str : ∀ (s : ByteArray), M (.iface 54 (.string s)) (.mk 4 0 (lS s) [] []) [] [] (VlO.str s)) (list : ∀ (a : Sl) (us : List Value) (ds : List Nd) (L : List Lb) (K : List Kb) (hv : OwnG 27 w B a.v us) (hl : us.length = ds.length) (hz : a.n ≤ 1759218604441) (hL : L.length = us.length) (hK : K.length = us.length) (he : ∀ (i : Nat) u d l k, us[i]? = some u → ds[i]? = some d → L[i]? = some l → K[i]? = some k → VlO w B u d l k), (∀ (i : Nat) u d l k (hz0 : us[i]? = some u) (hz1 : ds[i]? = some d) (hz2 : L[i]? = some l) (hz3 : K[i]? = some k), M u d l k (he i u d l k hz0 hz1 hz2 hz3)) → M (.iface 68 a.v) (.mk 5 0 [] [] ds) ((a, us) :: L.flatten) K.flatten (VlO.list a us ds L K hv hl hz hL hK he)) (obj : ∀ (ks a : Sl) (kb : List ByteArray) (us : List Value) (ds : List Nd) (L : List Lb) (K : List Kb) (hk : OwnG 9 w B ks.v (strs kb)) (hv : OwnG 27 w B a.v us) (hl : us.length = ds.length) (hz : ks.n ≤ 8796093022208 ∧ a.n ≤ 1759218604441) (hL : L.length = us.length) (hK : K.length = us.length) (he : ∀ (i : Nat) u d l k, us[i]? = some u → ds[i]? = some d → L[i]? = some l → K[i]? = some k → VlO w B u d l k), (∀ (i : Nat) u d l k (hz0 : us[i]? = some u) (hz1 : ds[i]? = some d) (hz2 : L[i]? = some l) (hz3 : K[i]? = some k), M u d l k (he i u d l k hz0 hz1 hz2 hz3)) → M (.iface 70 (.agg #[ks.v, a.v])) (.mk 6 0 [] (kb.map lS) ds) ((a, us) :: L.flatten) ((ks, kb) :: K.flatten) (VlO.obj ks a kb us ds L K hk hv hl hz hL hK he)) {i1 : Value} {i2 : Nd} {i3 : Lb} {i4 : Kb} (h : VlO w B i1 i2 i3 i4) : M i1 i2 i3 i4 h :=
  (h (fun i1 i2 i3 i4 => ∃ h9 : VlO w B i1 i2 i3 i4, M i1 i2 i3 i4 h9) (⟨VlO.null, null⟩) (fun b => ⟨VlO.bool b, bool b⟩) (fun n hn => ⟨VlO.num n hn, num n hn⟩) (fun s => ⟨VlO.str s, str s⟩) (fun a us ds L K hv hl hz hL hK he => ⟨VlO.list a us ds L K hv hl hz hL hK (fun i u d l k hz0 hz1 hz2 hz3 => (he i u d l k hz0 hz1 hz2 hz3).1), list a us ds L K hv hl hz hL hK (fun i u d l k hz0 hz1 hz2 hz3 => (he i u d l k hz0 hz1 hz2 hz3).1) (fun i u d l k hz0 hz1 hz2 hz3 => (he i u d l k hz0 hz1 hz2 hz3).2)⟩) (fun ks a kb us ds L K hk hv hl hz hL hK he => ⟨VlO.obj ks a kb us ds L K hk hv hl hz hL hK (fun i u d l k hz0 hz1 hz2 hz3 => (he i u d l k hz0 hz1 hz2 hz3).1), obj ks a kb us ds L K hk hv hl hz hL hK (fun i u d l k hz0 hz1 hz2 hz3 => (he i u d l k hz0 hz1 hz2 hz3).1) (fun i u d l k hz0 hz1 hz2 hz3 => (he i u d l k hz0 hz1 hz2 hz3).2)⟩)).2
theorem VlO.keep {w w1 : World} {B : Nat} {v : Value} {d : Nd} {L : Lb} {K : Kb} (h : VlO w B v d L K) (hb : Below w.heap.size w w1) : VlO w1 B v d L K := by
  induction h using VlO.rc with
  | null => exact .null
  | bool b => exact .bool b
  | num n hn => exact .num n hn
  | str s => exact .str s
  | list a us ds L K hv hl hz hL hK he ih => exact .list a us ds L K (hv.keep hb) hl hz hL hK ih
  | obj ks a kb us ds L K hk hv hl hz hL hK he ih => exact .obj ks a kb us ds L K (hk.keep hb) (hv.keep hb) hl hz hL hK ih
theorem VlO.f {w : World} {B : Nat} {v : Value} {d : Nd} {L : Lb} {K : Kb} (h : VlO w B v d L K) : VlF w (B ≤ ·) v d := by
  induction h using VlO.rc with
  | null => exact .null
  | bool b => exact .bool b
  | num n hn => exact .num n hn
  | str s => exact .str s
  | list a us ds L K hv hl hz hL hK he ih =>
    exact .list a us ds hv.isG (Sl.own_inG15 hv) hl hz fun i u d h1 h2 => by
      obtain ⟨l, hl9⟩ : ∃ q, L[i]? = some q := ⟨_, List.getElem?_eq_getElem (by obtain ⟨h9, -⟩ := List.getElem?_eq_some_iff.1 h1; omega)⟩
      obtain ⟨k, hk9⟩ : ∃ q, K[i]? = some q := ⟨_, List.getElem?_eq_getElem (by obtain ⟨h9, -⟩ := List.getElem?_eq_some_iff.1 h1; omega)⟩
      exact ih i u d l k h1 h2 hl9 hk9
  | obj ks a kb us ds L K hk hv hl hz hL hK he ih =>
    exact .obj ks a kb us ds hk.isG (Sl.own_inG15 hk) hv.isG (Sl.own_inG15 hv) hl hz fun i u d h1 h2 => by
      obtain ⟨l, hl9⟩ : ∃ q, L[i]? = some q := ⟨_, List.getElem?_eq_getElem (by obtain ⟨h9, -⟩ := List.getElem?_eq_some_iff.1 h1; omega)⟩
      obtain ⟨k, hk9⟩ : ∃ q, K[i]? = some q := ⟨_, List.getElem?_eq_getElem (by obtain ⟨h9, -⟩ := List.getElem?_eq_some_iff.1 h1; omega)⟩
      exact ih i u d l k h1 h2 hl9 hk9
theorem cnt_flat {α : Type} : ∀ (L : List (List α)) (ds : List Nd), L.length = ds.length → (∀ (i : Nat) l d, L[i]? = some l → ds[i]? = some d → 80 * l.length ≤ szN d) → 80 * L.flatten.length ≤ szL ds
  | [], [], _, _ => by simp [szL]
  | l :: L, d :: ds, hl, h => by
    have h1 := cnt_flat L ds (by simpa using hl) (fun i a b ha hb => h (i + 1) a b (by simpa using ha) (by simpa using hb))
    have h2 := h 0 l d rfl rfl
    rw [List.flatten_cons, List.length_append, szL]
    omega
  | [], _ :: _, hl, _ => by simp at hl
  | _ :: _, [], hl, _ => by simp at hl
/-- There are no more lists than the value's size tells. -/
theorem VlO.cnt {w : World} {B : Nat} {v : Value} {d : Nd} {L : Lb} {K : Kb} (h : VlO w B v d L K) : 80 * L.length ≤ szN d ∧ 80 * K.length ≤ szN d := by
  induction h using VlO.rc with
  | null => rw [szN_mk]; simp
  | bool b => rw [szN_mk]; simp
  | num n hn => rw [szN_mk]; simp
  | str s => rw [szN_mk]; simp
  | list a us ds L K hv hl hz hL hK he ih =>
    have h1 := cnt_flat L ds (by omega) (fun i l d h1 h2 => by
      obtain ⟨i1, -⟩ := List.getElem?_eq_some_iff.1 h1
      exact (ih i _ d l _ (List.getElem?_eq_getElem (by omega)) h2 h1 (List.getElem?_eq_getElem (by omega))).1)
    have h2 := cnt_flat K ds (by omega) (fun i l d h1 h2 => by
      obtain ⟨i1, -⟩ := List.getElem?_eq_some_iff.1 h1
      exact (ih i _ d _ l (List.getElem?_eq_getElem (by omega)) h2 (List.getElem?_eq_getElem (by omega)) h1).2)
    rw [szN_mk, List.length_cons]
    omega
  | obj ks a kb us ds L K hk hv hl hz hL hK he ih =>
    have h1 := cnt_flat L ds (by omega) (fun i l d h1 h2 => by
      obtain ⟨i1, -⟩ := List.getElem?_eq_some_iff.1 h1
      exact (ih i _ d l _ (List.getElem?_eq_getElem (by omega)) h2 h1 (List.getElem?_eq_getElem (by omega))).1)
    have h2 := cnt_flat K ds (by omega) (fun i l d h1 h2 => by
      obtain ⟨i1, -⟩ := List.getElem?_eq_some_iff.1 h1
      exact (ih i _ d _ l (List.getElem?_eq_getElem (by omega)) h2 (List.getElem?_eq_getElem (by omega)) h1).2)
    rw [szN_mk, List.length_cons, List.length_cons]
    omega
/-! The blocks of the lists -/
def Sl.ob (a : Sl) : List Nat := a.v.ownBlock.toList
def blL (L : Lb) : List Nat := L.flatMap (fun q => q.1.ob)
def blK (K : Kb) : List Nat := K.flatMap (fun q => q.1.ob)
def blks (L : Lb) (K : Kb) : List Nat := blL L ++ blK K
theorem OwnG.oth {e : TypeId} {w w' : World} {B : Nat} {v : Value} {xs : List Value} (h : OwnG e w B v xs) (hl : ∀ g, v.ownBlock = some g → w'.heap[g]? = w.heap[g]?) : OwnG e w' B v xs := by
  obtain ⟨h1, h2⟩ := h
  refine ⟨h1, ?_⟩
  rcases h2 with hn | ⟨g, cap, cur, hv, hb, hg, r⟩
  · exact .inl hn
  · refine .inr ⟨g, cap, cur, hv, hb, ?_, r⟩
    rw [hl g (by rw [hv]; rfl)]; exact hg
theorem mem_ob {a : Sl} {g : Nat} : g ∈ a.ob ↔ a.v.ownBlock = some g := by
  unfold Sl.ob
  rw [Option.mem_toList]
theorem blL_mem {L : Lb} {q : Sl × List Value} {g : Nat} (h : q ∈ L) (hg : q.1.v.ownBlock = some g) : g ∈ blL L := List.mem_flatMap.2 ⟨q, h, mem_ob.2 hg⟩
theorem blK_mem {K : Kb} {q : Sl × List ByteArray} {g : Nat} (h : q ∈ K) (hg : q.1.v.ownBlock = some g) : g ∈ blK K := List.mem_flatMap.2 ⟨q, h, mem_ob.2 hg⟩
theorem flat_sub {α : Type} {L : List (List α)} {i : Nat} {l : List α} (h : L[i]? = some l) : ∀ x ∈ l, x ∈ L.flatten := fun _ hx => List.mem_flatten.2 ⟨l, List.mem_of_getElem? h, hx⟩
theorem blL_sub {L M : Lb} (h : ∀ x ∈ L, x ∈ M) : ∀ g ∈ blL L, g ∈ blL M := fun g hg => by
  obtain ⟨q, hq, hg⟩ := List.mem_flatMap.1 hg
  exact List.mem_flatMap.2 ⟨q, h q hq, hg⟩
theorem blK_sub {L M : Kb} (h : ∀ x ∈ L, x ∈ M) : ∀ g ∈ blK L, g ∈ blK M := fun g hg => by
  obtain ⟨q, hq, hg⟩ := List.mem_flatMap.1 hg
  exact List.mem_flatMap.2 ⟨q, h q hq, hg⟩
theorem blks_sub {L M : Lb} {K J : Kb} (h : ∀ x ∈ L, x ∈ M) (k : ∀ x ∈ K, x ∈ J) : ∀ g ∈ blks L K, g ∈ blks M J := fun g hg => by
  rcases List.mem_append.1 hg with hg | hg
  · exact List.mem_append_left _ (blL_sub h g hg)
  · exact List.mem_append_right _ (blK_sub k g hg)
/-- The blocks lie from B on. -/
theorem VlO.bl {w : World} {B : Nat} {v : Value} {d : Nd} {L : Lb} {K : Kb} (h : VlO w B v d L K) : ∀ g ∈ blks L K, B ≤ g ∧ g < w.heap.size := by
  induction h using VlO.rc with
  | null => intro g hg; cases hg
  | bool b => intro g hg; cases hg
  | num n hn => intro g hg; cases hg
  | str s => intro g hg; cases hg
  | list a us ds L K hv hl hz hL hK he ih =>
    intro g hg
    have hin : ∀ (i : Nat) l k, L[i]? = some l → K[i]? = some k → ∀ g ∈ blks l k, B ≤ g ∧ g < w.heap.size := fun i l k h1 h2 => by
      obtain ⟨i1, -⟩ := List.getElem?_eq_some_iff.1 h1
      exact ih i _ _ l k (List.getElem?_eq_getElem (by omega)) (List.getElem?_eq_getElem (by omega)) h1 h2
    rcases List.mem_append.1 hg with hg | hg
    · obtain ⟨q, hq, hg⟩ := List.mem_flatMap.1 hg
      rcases List.mem_cons.1 hq with rfl | hq
      · exact hv.lt g (mem_ob.1 hg)
      · obtain ⟨l, hl9, hq⟩ := List.mem_flatten.1 hq
        obtain ⟨i, hi⟩ := List.getElem?_of_mem hl9
        obtain ⟨i1, -⟩ := List.getElem?_eq_some_iff.1 hi
        exact hin i l _ hi (List.getElem?_eq_getElem (by omega)) g (List.mem_append_left _ (List.mem_flatMap.2 ⟨q, hq, hg⟩))
    · obtain ⟨q, hq, hg⟩ := List.mem_flatMap.1 hg
      obtain ⟨k, hk9, hq⟩ := List.mem_flatten.1 hq
      obtain ⟨i, hi⟩ := List.getElem?_of_mem hk9
      obtain ⟨i1, -⟩ := List.getElem?_eq_some_iff.1 hi
      exact hin i _ k (List.getElem?_eq_getElem (by omega)) hi g (List.mem_append_right _ (List.mem_flatMap.2 ⟨q, hq, hg⟩))
  | obj ks a kb us ds L K hk hv hl hz hL hK he ih =>
    intro g hg
    have hin : ∀ (i : Nat) l k, L[i]? = some l → K[i]? = some k → ∀ g ∈ blks l k, B ≤ g ∧ g < w.heap.size := fun i l k h1 h2 => by
      obtain ⟨i1, -⟩ := List.getElem?_eq_some_iff.1 h1
      exact ih i _ _ l k (List.getElem?_eq_getElem (by omega)) (List.getElem?_eq_getElem (by omega)) h1 h2
    rcases List.mem_append.1 hg with hg | hg
    · obtain ⟨q, hq, hg⟩ := List.mem_flatMap.1 hg
      rcases List.mem_cons.1 hq with rfl | hq
      · exact hv.lt g (mem_ob.1 hg)
      · obtain ⟨l, hl9, hq⟩ := List.mem_flatten.1 hq
        obtain ⟨i, hi⟩ := List.getElem?_of_mem hl9
        obtain ⟨i1, -⟩ := List.getElem?_eq_some_iff.1 hi
        exact hin i l _ hi (List.getElem?_eq_getElem (by omega)) g (List.mem_append_left _ (List.mem_flatMap.2 ⟨q, hq, hg⟩))
    · obtain ⟨q, hq, hg⟩ := List.mem_flatMap.1 hg
      rcases List.mem_cons.1 hq with rfl | hq
      · exact hk.lt g (mem_ob.1 hg)
      · obtain ⟨k, hk9, hq⟩ := List.mem_flatten.1 hq
        obtain ⟨i, hi⟩ := List.getElem?_of_mem hk9
        obtain ⟨i1, -⟩ := List.getElem?_eq_some_iff.1 hi
        exact hin i _ k (List.getElem?_eq_getElem (by omega)) hi g (List.mem_append_right _ (List.mem_flatMap.2 ⟨q, hq, hg⟩))
/-- Nothing but the blocks of its lists matters. -/
theorem VlO.ag {w w1 : World} {B : Nat} {v : Value} {d : Nd} {L : Lb} {K : Kb} (h : VlO w B v d L K) : (∀ g ∈ blks L K, w1.heap[g]? = w.heap[g]?) → VlO w1 B v d L K := by
  induction h using VlO.rc with
  | null => exact fun _ => .null
  | bool b => exact fun _ => .bool b
  | num n hn => exact fun _ => .num n hn
  | str s => exact fun _ => .str s
  | list a us ds L K hv hl hz hL hK he ih =>
    intro hb
    refine .list a us ds L K (hv.oth fun g hg => hb g (List.mem_append_left _ (blL_mem (q := (a, us)) (by simp) hg))) hl hz hL hK fun i u d l k h1 h2 h3 h4 => ih i u d l k h1 h2 h3 h4 fun g hg => hb g ?_
    exact blks_sub (fun x hx => List.mem_cons_of_mem _ (flat_sub h3 x hx)) (flat_sub h4) g hg
  | obj ks a kb us ds L K hk hv hl hz hL hK he ih =>
    intro hb
    refine .obj ks a kb us ds L K (hk.oth fun g hg => hb g (List.mem_append_right _ (blK_mem (q := (ks, kb)) (by simp) hg))) (hv.oth fun g hg => hb g (List.mem_append_left _ (blL_mem (q := (a, us)) (by simp) hg))) hl hz hL hK fun i u d l k h1 h2 h3 h4 => ih i u d l k h1 h2 h3 h4 fun g hg => hb g ?_
    exact blks_sub (fun x hx => List.mem_cons_of_mem _ (flat_sub h3 x hx)) (fun x hx => List.mem_cons_of_mem _ (flat_sub h4 x hx)) g hg
theorem VlO.le {w : World} {B B' : Nat} {v : Value} {d : Nd} {L : Lb} {K : Kb} (h : VlO w B v d L K) (hB : B' ≤ B) : VlO w B' v d L K := by
  induction h using VlO.rc with
  | null => exact .null
  | bool b => exact .bool b
  | num n hn => exact .num n hn
  | str s => exact .str s
  | list a us ds L K hv hl hz hL hK he ih => exact .list a us ds L K (hv.le hB) hl hz hL hK ih
  | obj ks a kb us ds L K hk hv hl hz hL hK he ih => exact .obj ks a kb us ds L K (hk.le hB) (hv.le hB) hl hz hL hK ih
end Go.Proofs.YtddmmmfpdmejbaaGreatDoor
namespace Go.Proofs.YtddmmmfpdmejbaaGreatDoor
open Go.RowKit

/-! assayref15.Reader: list -/
theorem Rd.other {w w' : World} {g : Nat} {L : Sl} {ts : List Tk} {en : Int} {s : Ps} (h : Rd w g L ts en s) (hb : ∀ b, b ≤ g → b < w.heap.size → w'.heap[b]? = w.heap[b]?) : Rd w' g L ts en s :=
  ⟨h.row.block (hb g (Nat.le_refl _) h.row.lt), h.own.other14 fun b hb9 => hb b (Nat.le_of_lt (h.low b hb9)) (World.ownsRow.lt h.own b hb9).2, h.low, h.fit⟩
end Go.Proofs.YtddmmmfpdmejbaaGreatDoor
