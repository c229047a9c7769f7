import Derived.Test.YtalnbddkhojjbaaGreatDoorQJsn
import Derived.Test.YtalnbddkhojjbaaGreatDoorQRelt
import Derived.Test.YtalnbddkhojjbaaGreatDoorQApp
import Derived.Test.YtalnbddkhojjbaaGreatDoorQNum
namespace Go.Proofs.YtalnbddkhojjbaaGreatDoor
open Go.RowKit

@[go_sem] theorem rnA_size' (r : Rn) : (rnA r).size = 5 := by simp [rnA]
@[go_sem] theorem rnA_one (r : Rn) : OneC (rnA r) = true := by unfold OneC; simp [rnA, Sl.v, Value.oneCell']
@[go_sem] theorem nd_one (k n : Int) (s : ByteArray) (x y : Option Addr) (a b c d : Nat) : OneC #[.int .i64 k, .int .i64 n, .string s, .slice x a b, .slice y c d] = true := by simp [OneC, Value.oneCell']
theorem info_nd : (Tryz.prog.info? 55).map (fun i => (i.zero, i.size)) = some (some (.agg (rnA rnZ)), 5) := by kernel_rfl
theorem sizeT_nd : (Tryz.prog.info? 55).map (·.size) = some 5 := (zero_of_info info_nd).2
def ndBS (x : Value) : Sem Next := do pure (.value (← Instr.buildSlice 53 1 #[(0, x)]))
section
variable (ρ : Operand → Value) (dst : Option Tmp) (ty : TypeId) (pos : String) (after : Array Edge) (guard : Option (Nat × Bool))
@[go_sem ↓] theorem execOp_store_nd (x y : Operand) : execOp ρ { dst, op := .store 55 x y, type := ty, pos, after, guard } = bigStore 55 (ρ x) (ρ y) := rfl
@[go_sem ↓] theorem execOp_alloc_nd : execOp ρ { dst, op := .alloc 55, type := ty, pos, after, guard } = bigAlloc 55 := rfl
@[go_sem ↓] theorem execOp_load_nd (x : Operand) : execOp ρ { dst, op := .load 55 x, type := ty, pos, after, guard } = bigLoad 55 (ρ x) := rfl
@[go_sem ↓] theorem execOp_box_nd (x : Operand) : execOp ρ { dst, op := .box 55 x, type := ty, pos, after, guard } = bigBox 55 (ρ x) := rfl
@[go_sem ↓] theorem execOp_ndBS (x : Operand) : execOp ρ { dst, op := .buildSlice 53 1 #[(0, x)], type := ty, pos, after, guard } = ndBS (ρ x) := by simp [execOp, ndBS]
end
@[go_sem] theorem run_store_nd (w : World) (g : Nat) (c : Array Value) (h : rowL w g = true) (hs : (rowAt w g).size = 5) (hc : c.size = 5) (h1 : OneC c = true) : (bigStore 55 (.pointer (some ⟨g, 0, none⟩)) (.agg c)).run Tryz.prog w = .ok .skip (w.setRow g c) := by
  rw [run_bigStore 55 5 sizeT_nd w g 0 c h hc (by omega) h1, layC_all _ _ (by omega)]
@[go_sem] theorem run_alloc_nd (w : World) : (bigAlloc 55).run Tryz.prog w = .ok (.value (.pointer (some ⟨w.heap.size, 0, none⟩))) (w.alloc (.cells (rnA rnZ) 55)) := by
  simp only [bigAlloc, Instr.alloc, Sem.run_bind, (zero_of_info info_nd).1 w, Result.andThen_ok]
  rfl
@[go_sem] theorem run_load_nd (w : World) (g : Nat) (h : rowL w g = true) (hs : (rowAt w g).size = 5) : (bigLoad 55 (.pointer (some ⟨g, 0, none⟩))).run Tryz.prog w = .ok (.value (.agg (rowAt w g))) w := by
  rw [run_bigLoad 55 _ 5 Tryz.underlying55 rfl sizeT_nd w g 0 h (by omega), Nat.zero_add, Array.extract_eq_self_of_le (by omega)]
theorem run_load_el {w : World} {b o : Nat} {r : Rn} (h : w.rangeAt b o (ndE.enc r)) : (bigLoad 55 (.pointer (some ⟨b, o, none⟩))).run Tryz.prog w = .ok (.value (.agg (rnA r))) w := by
  have h9 := run_loadK ndE_ok h
  simp only [bigLoad, Sem.run_bind]
  rw [show (Instr.loadAt 55 (.pointer (some ⟨b, o, none⟩))).run Tryz.prog w = .ok (.agg (rnA r)) w from h9]
  rfl
@[go_sem] theorem run_box_nd (w : World) (r : Rn) : (bigBox 55 (.agg (rnA r))).run Tryz.prog w = .ok (.value (.pointer (some ⟨w.heap.size, 0, none⟩))) (w.alloc (.cells (rnA r) 55)) := run_bigBox _ _ w
@[go_sem] theorem run_ndBS (w : World) (r : Rn) : (ndBS (.agg (rnA r))).run Tryz.prog w = .ok (.value (.slice (some ⟨w.heap.size, 0, none⟩) 1 1)) (w.alloc (.cells (rnA r) 55)) := by
  have h := run_litK1 ndE_ok (by show 5 ≤ 1000; omega) w r
  have h2 : (Instr.buildSlice 53 1 #[(0, .agg (rnA r))]).run Tryz.prog w = .ok (.slice (some ⟨w.heap.size, 0, none⟩) 1 1) (w.alloc (.cells (rnA r) 55)) := h
  simp only [ndBS, Sem.run_bind, h2]
  rfl
theorem nd_bodyPost1 {fn : Func} {R : Ending → World → Prop} {a : Act} {w : World} (p n : Nat) (c : Array Value) (hres : fn.results = #[.cell p 55]) (hp : a.tmps.getD p undef = .pointer (some ⟨n, 0, none⟩)) (hd : a.defers = [])
    (hok : RowC w n c) (hc : c.size = 5) (h : R (.returned (.agg c)) w) : bodyPost Tryz.prog fn R .ret a w := by
  obtain ⟨t, hg⟩ := row_of_L hok.1
  rw [hok.2] at hg
  have hp' : a.tmps[p]?.getD undef = .pointer (some ⟨n, 0, none⟩) := by simpa using hp
  have hl := run_loadVar_row (P := Tryz.prog) w n t 55 c (0, 0) _ hg Tryz.underlying55 rfl (by rw [sizeT_nd, hc])
  refine bodyPost_ret (v := .agg c) ?_ hd h
  simp [results, hres, hp', asAddr, hl]
theorem nd_bodyPost2 {fn : Func} {R : Ending → World → Prop} {a : Act} {w : World} (p q n : Nat) (c : Array Value) (hres : fn.results = #[.cell p 55, .tmp q]) (hp : a.tmps.getD p undef = .pointer (some ⟨n, 0, none⟩)) (hd : a.defers = [])
    (hok : RowC w n c) (hc : c.size = 5) (h : R (.returned (.tuple #[.agg c, a.tmps.getD q undef])) w) : bodyPost Tryz.prog fn R .ret a w := by
  obtain ⟨t, hg⟩ := row_of_L hok.1
  rw [hok.2] at hg
  have hp' : a.tmps[p]?.getD undef = .pointer (some ⟨n, 0, none⟩) := by simpa using hp
  have hl := run_loadVar_row (P := Tryz.prog) w n t 55 c (0, 0) _ hg Tryz.underlying55 rfl (by rw [sizeT_nd, hc])
  refine bodyPost_ret (v := .tuple #[.agg c, a.tmps.getD q undef]) ?_ hd h
  simp [results, hres, hp', asAddr, hl]
theorem nd_bodyPost3 {fn : Func} {R : Ending → World → Prop} {a : Act} {w : World} (p q q' n : Nat) (c : Array Value) (hres : fn.results = #[.cell p 55, .tmp q, .tmp q']) (hp : a.tmps.getD p undef = .pointer (some ⟨n, 0, none⟩)) (hd : a.defers = [])
    (hok : RowC w n c) (hc : c.size = 5) (h : R (.returned (.tuple #[.agg c, a.tmps.getD q undef, a.tmps.getD q' undef])) w) : bodyPost Tryz.prog fn R .ret a w := by
  obtain ⟨t, hg⟩ := row_of_L hok.1
  rw [hok.2] at hg
  have hp' : a.tmps[p]?.getD undef = .pointer (some ⟨n, 0, none⟩) := by simpa using hp
  have hl := run_loadVar_row (P := Tryz.prog) w n t 55 c (0, 0) _ hg Tryz.underlying55 rfl (by rw [sizeT_nd, hc])
  refine bodyPost_ret (v := .tuple #[.agg c, a.tmps.getD q undef, a.tmps.getD q' undef]) ?_ hd h
  simp [results, hres, hp', asAddr, hl]
structure Kj (g B : Nat) (w w' : World) : Prop where
  os : w'.os = w.os
  tape : w'.tape = w.tape
  output : w'.output = w.output
  size : w.heap.size ≤ w'.heap.size
  block : ∀ b, b < w.heap.size → b < B → b ≠ g → w'.heap[b]? = w.heap[b]?
theorem Kj.trans {g B : Nat} {w w' w2 : World} (h : Kj g B w w') (k : Kj g B w' w2) : Kj g B w w2 :=
  ⟨k.os.trans h.os, k.tape.trans h.tape, k.output.trans h.output, Nat.le_trans h.size k.size, fun b h1 h2 h3 => (k.block b (Nat.lt_of_lt_of_le h1 h.size) h2 h3).trans (h.block b h1 h2 h3)⟩
theorem Kj.below {g B : Nat} {w w' : World} (h : Below w.heap.size w w') : Kj g B w w' := ⟨h.os, h.tape, h.output, h.size, fun b h1 _ _ => h.block b h1⟩
theorem kokJ {g B : Nat} : KOk (Kj g B) := ⟨Kj.below, Kj.trans⟩
theorem Kj.grown {g B : Nat} {w w' : World} (h : w.grownBy w' (some g)) : Kj g B w w' := ⟨h.os, h.tape, h.output, h.size, fun b h1 _ h3 => h.block b h1 (fun e => h3 (Option.some.inj e))⟩
theorem Kj.own {g B : Nat} {w w' : World} {o : Option Nat} (h : w.grownBy w' o) (ho : ∀ b, o = some b → B ≤ b) : Kj g B w w' := ⟨h.os, h.tape, h.output, h.size, fun b h1 h2 _ => h.block b h1 (fun e => by have := ho b e.symm; omega)⟩
theorem Kj.row {g B n : Nat} {c : Array Value} {w w' : World} (h : Kj g B w w') (hr : RowC w n c) (hn : n < B) (hg : n ≠ g) : RowC w' n c := hr.block (h.block n hr.lt hn hg)
theorem Kj.to {g B : Nat} {w w' : World} (h : Kj g B w w') (hB : w.heap.size ≤ B) : w.grownBy w' (some g) := ⟨h.os, h.tape, h.output, h.size, fun b h1 h2 => h.block b h1 (by omega) (fun e => h2 (by rw [e]))⟩
theorem Kj.cell {g B n i : Nat} {v : Value} {w w' : World} (h : Kj g B w w') (hc : w.cell? ⟨n, i, none⟩ = some v) (hn : n < B) (hg : n ≠ g) : w'.cell? ⟨n, i, none⟩ = some v := by
  have h1 := World.block_lt_of_cell? w _ hc
  unfold World.cell? at hc ⊢
  rw [h.block n h1 hn hg]; exact hc
theorem Kj.less {g B B' : Nat} {w w' : World} (h : Kj g B w w') (hB : B' ≤ B) : Kj g B' w w' := ⟨h.os, h.tape, h.output, h.size, fun b h1 h2 h3 => h.block b h1 (by omega) h3⟩
theorem Kj.mine {g B n : Nat} {w w' : World} (h : w.grownBy w' (some n)) (hn : B ≤ n) : Kj g B w w' := Kj.own h (fun b e => by cases e; exact hn)
def VlP (g : Nat) (L : Sl) (ts : List Tk) (en : Int) (w : World) (q : Nd × Ps) (e : Ending) (w' : World) : Prop := ∃ r, e = .returned (.agg (rnA r)) ∧ NdF w' (w.heap.size ≤ ·) r q.1 ∧ RdP g L ts en q.2 w w'
def ValOk (f : Nat) : Prop := ∀ (w : World) (g : Nat) (L : Sl) (ts : List Tk) (en : Int) (s : Ps), Rd w g L ts en s → okP ts none s → 2 * (ts.length - s.i) + 1 ≤ f → Calls Tryz.prog 45 #[.pointer (some ⟨g, 0, none⟩)] w fun e w' => VlP g L ts en w (prsF ts en f none s) e w'
def IL1 (g : Nat) (L : Sl) (ts : List Tk) (en : Int) (q : Nd × Ps) (B : Nat) (X : Nat → Prop) (v : Sl) (rs : List Rn) (vs : List Nd) (r : Rn) (x : World) : Prop :=
  Rd x g L ts en q.2 ∧ LsO x B X v rs vs ∧ ∃ H, B ≤ H ∧ H ≤ x.heap.size ∧ (∀ b, v.v.ownBlock = some b → b < H) ∧ (∀ b, X b → b < H) ∧ NdF x (H ≤ ·) r q.1
def IL (g : Nat) (L : Sl) (ts : List Tk) (en : Int) (s : Ps) (q : Nd × Ps) (B : Nat) (X : Nat → Prop) (v : Sl) (rs : List Rn) (vs : List Nd) : List Value → World → Prop
  | [], x => Rd x g L ts en s ∧ LsO x B X v rs vs ∧ B ≤ x.heap.size ∧ (∀ b, X b → b < x.heap.size)
  | [a], x => ∃ r, a = .agg (rnA r) ∧ IL1 g L ts en q B X v rs vs r x
  | [_, c], x => ∃ r y, c = .slice (some ⟨y, 0, none⟩) 1 1 ∧ RowC x y (rnA r) ∧ IL1 g L ts en q B X v rs vs r x
  | [_, _, d], x => ∃ (r : Rn) (a : Sl), d = a.v ∧ Rd x g L ts en q.2 ∧ LsO x B X a (rs ++ [r]) (vs ++ [q.1])
  | _, _ => False
theorem LsO.later {w w1 : World} {B : Nat} {X : Nat → Prop} {v : Sl} {rs : List Rn} {vs : List Nd} (h : LsO w B X v rs vs) (hb : Below w.heap.size w w1) : LsO w1 B X v rs vs := h.ag hb.size (fun b _ _ hl => hb.block b hl)
theorem IL1_later {g : Nat} {L : Sl} {ts : List Tk} {en : Int} {q : Nd × Ps} {B : Nat} {X : Nat → Prop} {v : Sl} {rs : List Rn} {vs : List Nd} {r : Rn} {w w' : World} (h : IL1 g L ts en q B X v rs vs r w) (hb : Below w.heap.size w w') : IL1 g L ts en q B X v rs vs r w' := by
  obtain ⟨h1, h2, H, h3, h4, h5, h6, h7⟩ := h
  exact ⟨h1.stay hb, h2.later hb, H, h3, Nat.le_trans h4 hb.size, h5, h6, h7.kept hb⟩
theorem IL_later {g : Nat} {L : Sl} {ts : List Tk} {en : Int} {s : Ps} {q : Nd × Ps} {B : Nat} {X : Nat → Prop} {v : Sl} {rs : List Rn} {vs : List Nd} : ∀ us w w', IL g L ts en s q B X v rs vs us w → Below w.heap.size w w' → IL g L ts en s q B X v rs vs us w'
  | [], _, _, ⟨h1, h2, h3, h4⟩, hb => ⟨h1.stay hb, h2.later hb, Nat.le_trans h3 hb.size, fun b hx => Nat.lt_of_lt_of_le (h4 b hx) hb.size⟩
  | [_], _, _, ⟨r, e, h⟩, hb => ⟨r, e, IL1_later h hb⟩
  | [_, _], _, _, ⟨r, y, e, h, k⟩, hb => ⟨r, y, e, h.kept hb, IL1_later k hb⟩
  | [_, _, _], _, _, ⟨r, a, e, h, k⟩, hb => ⟨r, a, e, h.stay hb, k.later hb⟩
  | _ :: _ :: _ :: _ :: _, _, _, h, _ => h.elim
theorem IL.call {g : Nat} {L : Sl} {ts : List Tk} {en : Int} {s : Ps} {q : Nd × Ps} {B : Nat} {X : Nat → Prop} {v : Sl} {rs : List Rn} {vs : List Nd} {x x' : World} {r : Rn} (h : IL g L ts en s q B X v rs vs [] x) (hgB : g < B) (hN : NdF x' (x.heap.size ≤ ·) r q.1) (hR : RdP g L ts en q.2 x x') : IL g L ts en s q B X v rs vs [.agg (rnA r)] x' := by
  obtain ⟨h1, h2, h3, h4⟩ := h
  exact ⟨r, rfl, hR.1, h2.ag hR.2.size (fun b hB _ hl => hR.2.block b hl (fun e => by cases e; omega)), x.heap.size, h3, hR.2.size, fun b hb => (h2.lt b hb).2, h4, hN⟩
theorem IL.build {g : Nat} {L : Sl} {ts : List Tk} {en : Int} {s : Ps} {q : Nd × Ps} {B : Nat} {X : Nat → Prop} {v : Sl} {rs : List Rn} {vs : List Nd} {x : World} {r : Rn} (a : Value) (h : IL1 g L ts en q B X v rs vs r x) : IL g L ts en s q B X v rs vs [a, .slice (some ⟨x.heap.size, 0, none⟩) 1 1] (x.alloc (.cells (rnA r) 55)) :=
  ⟨r, x.heap.size, rfl, RowC.new _ _ _, IL1_later h (below_alloc _ _)⟩
theorem IL.app {g : Nat} {L : Sl} {ts : List Tk} {en : Int} {s : Ps} {q : Nd × Ps} {B : Nat} {X : Nat → Prop} {v : Sl} {rs : List Rn} {vs : List Nd} {x : World} {a c : Value} (ty : TypeId) (h : IL g L ts en s q B X v rs vs [a, c] x) (hgB : g < B) (hn : rs.length ≤ 1099511627776) :
    ∃ d x', (Builtin.append_ #[53, 53] ty #[v.v, c]).run Tryz.prog x = .ok d x' ∧ IL g L ts en s q B X v rs vs [a, c, d] x' ∧ Kj g B x x' := by
  obtain ⟨r, y, rfl, hy, hR, hL, H, h1, h2, h3, h4, h5⟩ := h
  obtain ⟨d, x', hrun, hO, hg, -⟩ := hL.app ty h1 hy h4 h3 h5 h2 (by omega)
  refine ⟨d.v, x', hrun, ⟨r, d, rfl, ?_, hO⟩, Kj.own hg (fun b e => (hL.lt b e).1)⟩
  have hne : v.v.ownBlock ≠ some g := fun e => by have := (hL.lt g e).1; omega
  exact ⟨hR.row.block (hg.block g hR.row.lt (fun e => hne e.symm)), hR.own.other14 fun b hb => hg.block b (World.ownsRow.lt hR.own b hb).2 (fun e => by have := hR.low b hb; have := (hL.lt b e.symm).1; omega), hR.low, hR.fit⟩
end Go.Proofs.YtalnbddkhojjbaaGreatDoor
namespace Go.Proofs.YtalnbddkhojjbaaGreatDoor
open Go.RowKit

theorem alloc_sz (w : World) (o : Obj) : (w.alloc o).heap.size = w.heap.size + 1 := by show (w.heap.push o).size = _; simp
theorem grown_setRow (w : World) (n : Nat) (c : Array Value) : w.grownBy (w.setRow n c) (some n) :=
  ⟨rfl, rfl, rfl, by simp [World.setRow], fun k _ hne => setRow_other w n k c (fun e => hne (by rw [e]))⟩
theorem Rd.other {w w' : World} {g : Nat} {L : Sl} {ts : List Tk} {en : Int} {s : Ps} (h : Rd w g L ts en s) (hb : ∀ b, b ≤ g → b < w.heap.size → w'.heap[b]? = w.heap[b]?) : Rd w' g L ts en s :=
  ⟨h.row.block (hb g (Nat.le_refl _) h.row.lt), h.own.other14 fun b hb9 => hb b (Nat.le_of_lt (h.low b hb9)) (World.ownsRow.lt h.own b hb9).2, h.low, h.fit⟩
theorem lst_end {g n0 g2 B : Nat} {L : Sl} {ts : List Tk} {en : Int} {t : Ps} {w w9 w8 : World} {r : Rn} {d : Nd} (hK9 : Kj g n0 w w9) (hn : w.heap.size = n0) (hG : w9.grownBy w8 (some g)) (hR : Rd w8 g L ts en t) (h2n : n0 ≤ g2) (hN : NdF w8 (B ≤ ·) r d) (hB : g2 < B) (hgn : g < n0) :
    VlP g L ts en w (d, t) (.returned (.agg (rnA r))) (w8.setRow g2 (rnA r)) := by
  have hs := grown_setRow w8 g2 (rnA r)
  have hK : Kj g n0 w (w8.setRow g2 (rnA r)) := (hK9.trans (Kj.grown hG)).trans (Kj.mine hs h2n)
  refine ⟨r, rfl, (hN.ag hs.size fun b hb hl => hs.block b hl (fun e => by cases e; omega)).mono (fun b hb => by omega), hR.other fun b hb hl => hs.block b hl (fun e => by cases e; omega), hK.to (by omega)⟩
def rdI (w : World) (g : Nat) : Nat := match w.cell? ⟨g, 2, none⟩ with | some (.int _ n) => n.toNat | _ => 0
theorem Rd.rdI {w : World} {g : Nat} {L : Sl} {ts : List Tk} {en : Int} {s : Ps} (h : Rd w g L ts en s) : rdI w g = s.i := by
  have := h.cells.2.2.1
  show (match w.cell? ⟨g, 2, none⟩ with | some (.int _ n) => n.toNat | _ => 0) = s.i
  rw [this]; simp
def LInv (f n0 g g2 g3 B : Nat) (L : Sl) (ts : List Tk) (en : Int) (w : World) (R : Nd × Ps) (wr : World) : Prop :=
  ∃ (t : Ps) (acc : List Nd) (rs : List Rn) (v : Sl) (f' : Nat), Rd wr g L ts en t ∧ LsO wr B (fun _ => False) v rs acc ∧ RowC wr g3 (rnA ⟨5, 0, ⟨#[]⟩, slZ, v⟩) ∧ RowC wr g2 (rnA rnZ) ∧ Kj g n0 w wr ∧ B ≤ wr.heap.size ∧
    t.i ≤ ts.length ∧ t.op ≤ t.i ∧ 1 ≤ t.op ∧ acc.length ≤ t.i ∧ f' < f ∧ 2 * (ts.length - t.i) ≤ f' ∧ lstE ts en (prsF ts en f') acc t = R
theorem lst_store {n0 g g2 g3 B : Nat} {L : Sl} {ts : List Tk} {en : Int} {t : Ps} {w x : World} {X : Nat → Prop} {a v : Sl} {rs : List Rn} {vs : List Nd} {k n : Int} {s : ByteArray} {ks : Sl} (hR : Rd x g L ts en t) (hL : LsO x B X a rs vs) (h3 : RowC x g3 (rnA ⟨k, n, s, ks, v⟩)) (h2 : RowC x g2 (rnA rnZ)) (hK : Kj g n0 w x) (hB : B ≤ x.heap.size) (e1 : g < g3) (e2 : g2 ≠ g3) (e3 : g3 < B) (e4 : n0 ≤ g3) :
    Rd (x.setCell ⟨g3, 4, none⟩ a.v) g L ts en t ∧ LsO (x.setCell ⟨g3, 4, none⟩ a.v) B X a rs vs ∧ RowC (x.setCell ⟨g3, 4, none⟩ a.v) g3 (rnA ⟨k, n, s, ks, a⟩) ∧ RowC (x.setCell ⟨g3, 4, none⟩ a.v) g2 (rnA rnZ) ∧ Kj g n0 w (x.setCell ⟨g3, 4, none⟩ a.v) ∧ B ≤ (x.setCell ⟨g3, 4, none⟩ a.v).heap.size := by
  have hs := grown_set1 x g3 4 a.v
  exact ⟨hR.other fun b hb hl => hs.block b hl (fun e => by cases e; omega), hL.ag hs.size (fun b hb _ hl => hs.block b hl (fun e => by cases e; omega)), h3.set 4 a.v, h2.set_ne 4 _ e2.symm, hK.trans (Kj.mine hs e4), Nat.le_trans hB hs.size⟩
set_option linter.unusedSimpArgs false in
set_option maxRecDepth 100000 in
set_option maxHeartbeats 8000000 in
theorem rdList_any (f : Nat) (hV : ∀ f', f' < f → ValOk f') (w : World) (g : Nat) (L : Sl) (ts : List Tk) (en : Int) (s : Ps) (h : Rd w g L ts en s) (hi1 : s.i ≤ ts.length) (hop : s.op + 1 ≤ s.i) (hf : 2 * (ts.length - s.i) + 2 ≤ f) : Calls Tryz.prog 74 #[.pointer (some ⟨g, 0, none⟩)] w fun e w' => VlP g L ts en w (lstB ts (prsF ts en f) s) e w' := by
  have hfit := h.fit
  have hg0 := h.row.lt
  obtain ⟨R, hR⟩ : ∃ q, lstB ts (prsF ts en f) s = q := ⟨_, rfl⟩
  rw [hR]
  unfold lstB at hR
  obtain ⟨n0, hn0⟩ : ∃ q, w.heap.size = q := ⟨_, rfl⟩
  rw [hn0] at hg0
  go_enter Tryz.func74, Tryz.ntmps74
  go_upto_region 2 with fail
  have b1 := below_alloc w (.cells (rnA rnZ) 55)
  have b2 := below_alloc (w.alloc (.cells (rnA rnZ) 55)) (.cells #[.int .i64 5, .int .i64 0, .string ⟨#[]⟩, .slice none 0 0, .slice none 0 0] 55)
  have h2 := (RowC.new w (rnA rnZ) 55).kept b2
  have h3 : RowC _ _ (rnA ⟨5, 0, ⟨#[]⟩, slZ, slZ⟩) := RowC.new (w.alloc (.cells (rnA rnZ) 55)) #[.int .i64 5, .int .i64 0, .string ⟨#[]⟩, .slice none 0 0, .slice none 0 0] 55
  have hsz : ((w.alloc (.cells (rnA rnZ) 55)).alloc (.cells #[.int .i64 5, .int .i64 0, .string ⟨#[]⟩, .slice none 0 0, .slice none 0 0] 55)).heap.size = n0 + 2 := by rw [alloc_sz, alloc_sz, hn0]
  have hbY := b1.trans (b2.mono b1.size)
  have hRY := h.stay hbY
  have hsz1 : (w.alloc (.cells (rnA rnZ) 55)).heap.size = n0 + 1 := by rw [alloc_sz, hn0]
  rw [hsz1] at h3
  rw [hn0] at h2
  clear b1 b2 hsz1
  generalize (w.alloc (.cells (rnA rnZ) 55)).alloc (.cells #[.int .i64 5, .int .i64 0, .string ⟨#[]⟩, .slice none 0 0, .slice none 0 0] 55) = Y at h2 h3 hsz hbY hRY ⊢
  have hKY : Kj g n0 w Y := Kj.below hbY
  obtain ⟨g2, hg2e⟩ : ∃ q, n0 = q := ⟨_, rfl⟩
  obtain ⟨g3, hg3e⟩ : ∃ q, n0 + 1 = q := ⟨_, rfl⟩
  obtain ⟨B, hBe⟩ : ∃ q, n0 + 2 = q := ⟨_, rfl⟩
  rw [hg3e] at h3 ⊢
  rw [hg2e]
  rw [hBe] at hsz
  have h2' : RowC Y g2 (rnA rnZ) := by rw [← hg2e]; exact h2
  have hng : g3 ≠ g := by omega
  have hg2 : g2 ≠ g := by omega
  have hgB : g < B := by omega
  have hnB : g3 < B := by omega
  have hgB2 : g2 < B := by omega
  have hO := rdOpen_any Y g L ts en s hRY (by omega) hi1 (by omega)
  go_wp2_with fail
  refine hO.mono ?_
  rintro e w1 ⟨rfl, hR1, hG1⟩
  clear hO hRY
  have h31 := h3.block (hG1.block g3 h3.lt (fun e => by cases e; omega))
  have h21 := h2'.block (hG1.block g2 h2'.lt (fun e => by cases e; omega))
  have hK1 := hKY.trans (Kj.grown hG1)
  have hs1 := hG1.size
  clear h2 h2' h3 hKY hG1
  have hI := rdIs_any w1 g L ts en (opnP ts s) 4 hR1
  go_wp2_with fail
  refine hI.mono ?_
  rintro e w2 ⟨rfl, hR2, hG2⟩
  clear hI hR1
  have h32 := h31.block (hG2.block g3 h31.lt (fun e => by cases e; omega))
  have h22 := h21.block (hG2.block g2 h21.lt (fun e => by cases e; omega))
  have hK2 := hK1.trans (Kj.grown hG2)
  have hs2 := hG2.size
  clear h31 h21 hK1 hG2
  unfold stpP at hR2
  cases h4 : isP ts 4 (opnP ts s) with
  | true =>
    rw [h4] at hR hR2
    simp only [cond_true] at hR hR2
    have HOP : Hid (1 ≤ (advP (opnP ts s)).op ∧ (advP (opnP ts s)).op ≤ 1099511627777) := by show _ ∧ _; simp; omega
    have HE9 : Hid (R = (Nd.mk 5 0 [] [] [], clsP (advP (opnP ts s)))) := hR.symm
    obtain ⟨t9, ht9⟩ : ∃ q, advP (opnP ts s) = q := ⟨_, rfl⟩
    rw [ht9] at HE9 hR2 HOP
    have hN9 : NdF w2 (B ≤ ·) ⟨5, 0, ⟨#[]⟩, slZ, slZ⟩ (.mk 5 0 [] [] []) := NdF.plain w2 _ 5 0 ⟨#[]⟩
    obtain ⟨r9, hr9⟩ : ∃ q : Rn, ⟨5, 0, ⟨#[]⟩, slZ, slZ⟩ = q := ⟨_, rfl⟩
    obtain ⟨d9, hd9⟩ : ∃ q, Nd.mk 5 0 [] [] [] = q := ⟨_, rfl⟩
    rw [hr9] at hN9 h32
    rw [hd9] at hN9 HE9
    have hR9 := hR2
    have h39 := h32
    have h29 := h22
    have hK9 := hK2
    clear hR2 h32 h22 hK2 hr9 hd9 ht9 hR h4 hV h
    generalize w2 = w9 at *
    have hcf := hR9.cells.2.2.2.2.2
    have hzf := hR9.row.frozen 5
    have hw9 : IntKind.i64.wrap ((t9.op : Int) - 1) = ((t9.op - 1 : Nat) : Int) := by
      have h99 : 1 ≤ t9.op ∧ t9.op ≤ 1099511627777 := HOP.out
      rw [IntKind.wrap_i64]; omega
    have h91 := RdP.set hR9 5 (.int .i64 ((t9.op - 1 : Nat) : Int)) (rdA_op L en t9 (t9.op - 1))
    have hc31 : RowC (w9.setCell ⟨g, 5, none⟩ (.int .i64 ((t9.op - 1 : Nat) : Int))) g3 (rnA r9) := h39.set_ne 5 _ hng.symm
    have hc21 : RowC (w9.setCell ⟨g, 5, none⟩ (.int .i64 ((t9.op - 1 : Nat) : Int))) g2 (rnA rnZ) := h29.set_ne 5 _ hg2.symm
    have HG9 : Hid (w9.grownBy (w9.setCell ⟨g, 5, none⟩ (.int .i64 ((t9.op - 1 : Nat) : Int))) (some g)) := h91.2
    have HN9 : Hid (NdF (w9.setCell ⟨g, 5, none⟩ (.int .i64 ((t9.op - 1 : Nat) : Int))) (B ≤ ·) r9 d9) := hN9.ag h91.2.size (fun b hb hl => h91.2.block b hl (fun e => by cases e; omega))
    have HR9 : Hid (Rd (w9.setCell ⟨g, 5, none⟩ (.int .i64 ((t9.op - 1 : Nat) : Int))) g L ts en (clsP t9)) := h91.1
    have HK9 : Hid (Kj g n0 w w9) := hK9
    clear h91 hN9 hR9 h39 h29 hK9
    go_upto_region 9 with fail
    generalize w9.setCell ⟨g, 5, none⟩ (.int .i64 ((t9.op - 1 : Nat) : Int)) = w8 at hc31 hc21 HG9 HN9 HR9 ⊢
    obtain ⟨a1, a2⟩ := id hc31
    obtain ⟨b1, b2⟩ := id hc21
    have a3 : (rowAt w8 g3).size = 5 := by rw [a2]; rfl
    have b3 : (rowAt w8 g2).size = 5 := by rw [b2]; rfl
    go_wp2
    exact nd_bodyPost1 2 g2 (rnA r9) rfl rfl rfl (RowC.setRow hc21 _) rfl (by rw [HE9.out]; exact lst_end HK9.out hn0 HG9.out HR9.out (by omega) HN9.out hgB2 hg0)
  | false =>
    rw [h4] at hR hR2
    simp only [cond_false] at hR hR2
    clear h4
    obtain ⟨f1, rfl⟩ : ∃ q, f = q + 1 := ⟨f - 1, by omega⟩
    rw [prsF, List.nil_append] at hR
    have hok : okP ts none (opnP ts s) := ⟨by simp; omega, by simp; omega, trivial⟩
    have hfl : 2 * (ts.length - (opnP ts s).i) + 1 ≤ f1 := by simp; omega
    have hval := fun x hx => hV f1 (by omega) x g L ts en (opnP ts s) hx hok hfl
    have hle := prsF_ok ts en f1 none (opnP ts s) hfl hok
    obtain ⟨le1, le2, le3⟩ := hle
    simp at le1 le3
    have c4 : w2.cell? ⟨g3, 4, none⟩ = some (.slice none 0 0) := h32.cell 4
    have HI0 : Hid (IL g L ts en (opnP ts s) (prsF ts en f1 none (opnP ts s)) B (fun _ => False) slZ [] [] [] w2) := ⟨hR2, LsO.nil _ _ _, by omega, fun b hb => hb.elim⟩
    have H32 : Hid _ := h32
    have H22 : Hid _ := h22
    have HK2 : Hid _ := hK2
    have HRR : Hid _ := hR
    obtain ⟨q, hq⟩ : ∃ q, prsF ts en f1 none (opnP ts s) = q := ⟨_, rfl⟩
    rw [hq] at HI0 HRR le1 le2 le3
    simp only [hq] at hval
    have hRdS := hR2
    clear hR2 h22 hK2 hR h32 hq
    go_upto_region 4 with fail
    refine wp_reliesI (kokJ (g := g) (B := B)) (IL g L ts en (opnP ts s) (q) B (fun _ => False) slZ [] []) [3, 4, 5] [none, none, none, some (0, [], []), some (1, [], []), some (2, [], []), none] [Fx (.pointer (some ⟨g3, 4, none⟩)), Fx (.slice none 0 0), Fx (.pointer (some ⟨g, 0, none⟩)), (fun _ _ => True), (fun _ _ => True), (fun _ _ => True), Fx (.pointer (some ⟨g3, 4, none⟩))] rfl (by decide) rfl (by kernel_rfl) (by kernel_rfl) (by kernel_rfl) (by exact HI0.out) IL_later ?_ ?_ ?_ ?_
    · repeat' (first | exact all_nil | apply all_cons)
      all_goals intro v y y' hv hb
      all_goals first | exact Fx_mono _ _ _ _ hv hb | exact trivial
    · intro i9 f9 hf9 hl9 v y y' hv hb
      rcases i9 with _ | i9
      · first | (cases hl9; done) | (cases hf9; first | exact hv | exact trivial)
      rcases i9 with _ | i9
      · first | (cases hl9; done) | (cases hf9; first | exact hv | exact trivial)
      rcases i9 with _ | i9
      · first | (cases hl9; done) | (cases hf9; first | exact hv | exact trivial)
      rcases i9 with _ | i9
      · first | (cases hl9; done) | (cases hf9; first | exact hv | exact trivial)
      rcases i9 with _ | i9
      · first | (cases hl9; done) | (cases hf9; first | exact hv | exact trivial)
      rcases i9 with _ | i9
      · first | (cases hl9; done) | (cases hf9; first | exact hv | exact trivial)
      rcases i9 with _ | i9
      · first | (cases hl9; done) | (cases hf9; first | exact hv | exact trivial)
      · simp at hf9
    · refine ⟨?_, ?_, ?_, ?_, ?_, ?_, ?_, trivial⟩
      all_goals
        intro ρ x hk hat ρc ρg ρf ho hd
        have o0 : ρ (.tmp 0) = .pointer (some ⟨g, 0, none⟩) := ho 0 rfl
        have o3 : ρ (.tmp 3) = .pointer (some ⟨g3, 0, none⟩) := ho 3 rfl
        clear ho
        have kb := hk.cell c4 hnB hng
        simp only [depsR, depR, slotR, Fx, List.getElem?_cons_succ, List.getElem?_cons_zero, Region.binds, forall_const] at hd
        simp only [guardR, List.contains_cons, List.contains_nil, List.elem_cons, List.elem_nil, Nat.reduceBEq, Bool.or_false, Bool.false_or, Bool.or_true, Bool.true_or, cond_true, cond_false]
        go_split_ands
      · go_simp
      · go_simp
      · go_simp
      · go_simp
        have hat0 : IL g L ts en (opnP ts s) (q) B (fun _ => False) slZ [] [] [] x := hat
        refine (hval x hat0.1).mono ?_
        rintro e x' ⟨r9, rfl, hN9, hR9⟩
        exact ⟨_, rfl, ⟨trivial, IL.call hat0 hgB hN9 hR9⟩, Kj.grown hR9.2⟩
      · have hat1 : IL g L ts en (opnP ts s) (q) B (fun _ => False) slZ [] [] [ρ (.tmp 13)] x := hat
        obtain ⟨r9, e9, h9⟩ := hat1
        go_simp
        exact ⟨⟨trivial, IL.build _ h9⟩, Kj.below (below_alloc _ _)⟩
      · have hat2 : IL g L ts en (opnP ts s) (q) B (fun _ => False) slZ [] [] [ρ (.tmp 13), ρ (.tmp 14)] x := hat
        have hd1 : ρ (.tmp 11) = .slice none 0 0 := by first | assumption | exact hd.1
        obtain ⟨d9, x9, hr9, i9, k9⟩ := hat2.app 53 hgB (Nat.zero_le _)
        have hr8 : (Builtin.append_ #[53, 53] 53 #[.slice none 0 0, ρ (.tmp 14)]).run Tryz.prog x = .ok d9 x9 := hr9
        rw [BigFrame.execOp_builtin, BigFrame.builtin_append]
        simp only [List.map_toArray, List.map_cons, List.map_nil, hd1, hr8, Sem.run_bind, Result.andThen_ok, Sem.run_pure, okUponD_some]
        exact ⟨⟨trivial, i9⟩, k9⟩
      · go_simp
    · intro us x1 hk hw hI
      simp only [owed, Fx] at hw
      obtain ⟨e0, e1, e2, e3, e4, e5, e6, -⟩ := hw
      simp only [List.length_cons, List.length_nil, List.take_succ_cons, List.take_zero, List.drop_succ_cons, List.drop_zero, asg, List.cons_append, List.nil_append, e0, e1, e2, e6]
      clear e0 e1 e2 e6 e3 e4 e5
      obtain ⟨r9, ⟨xa, na, ca⟩, e9, hR3, hL3⟩ : IL g L ts en (opnP ts s) q B (fun _ => False) slZ [] [] [us 3, us 4, us 5] x1 := hI
      have h33 := hk.row H32.out hnB hng
      obtain ⟨k1, k2, k3, k4, k5, k6⟩ := lst_store hR3 hL3 h33 (hk.row H22.out hgB2 hg2) (HK2.out.trans (hk.less (by omega : n0 ≤ B))) (by have := hk.size; omega) (by omega) (by omega) hnB (by omega)
      have c44 := h33.cell 4
      have z44 := h33.frozen 4
      replace c44 : x1.cell? ⟨g3, 4, none⟩ = some (.slice none 0 0) := c44
      simp only [Sl.v] at e9 k1 k2 k3 k4 k5 k6
      simp only [e9]
      have HL : Hid (LInv (f1 + 1) n0 g g2 g3 B L ts en w R (x1.setCell ⟨g3, 4, none⟩ (.slice xa na ca))) := ⟨q.2, [q.1], [r9], ⟨xa, na, ca⟩, f1, k1, k2, k3, k4, k5, k6, le2, by rw [le3]; omega, by omega, by simp; omega, by omega, by omega, HRR.out⟩
      clear k1 k2 k3 k4 k5 k6 hL3 hR3 HI0 H32 H22 HK2 HRR h33 e9 hk hval hRdS
      go_wp2_with fail
      generalize x1.setCell ⟨g3, 4, none⟩ (.slice xa na ca) = Z at HL ⊢
      go_loopw [17] (fun _ wr => LInv (f1 + 1) n0 g g2 g3 B L ts en w R wr) (fun _ wr => ts.length - rdI wr g)
      case atStart => exact HL.out
      case round =>
        clear HL
        obtain ⟨t, acc, rs, ⟨xv, nv, cv⟩, f', hRt, hLt, h3t, h2t, hKt, hBt, m1, m2, m3, m4, m5, m6, m7⟩ := hrel
        have hI := rdIs_any wr g L ts en t 6 hRt
        have hri := hRt.rdI
        go_wp2_with fail
        refine hI.mono ?_
        rintro e w3 ⟨rfl, hR3, hG3⟩
        clear hI hRt
        have h33 := h3t.block (hG3.block g3 h3t.lt (fun e => by cases e; omega))
        have h23 := h2t.block (hG3.block g2 h2t.lt (fun e => by cases e; omega))
        have hL3 := hLt.ag hG3.size (fun b hb _ hl => hG3.block b hl (fun e => by cases e; omega))
        have hK3 := hKt.trans (Kj.grown hG3)
        have hs3 := hG3.size
        clear hLt h3t h2t hKt hG3
        unfold stpP at hR3
        unfold lstE at m7
        cases h6 : isP ts 6 t with
        | true =>
          have hi6 := (isP_spec h6).2.1
          rw [h6] at hR3 m7
          simp only [cond_true] at hR3 m7
          clear h6
          obtain ⟨f2, rfl⟩ : ∃ q, f' = q + 1 := ⟨f' - 1, by omega⟩
          rw [prsF] at m7
          have hok : okP ts none (advP t) := ⟨by simp; omega, by simp; omega, trivial⟩
          have hfl : 2 * (ts.length - (advP t).i) + 1 ≤ f2 := by simp; omega
          have hval := fun x hx => hV f2 (by omega) x g L ts en (advP t) hx hok hfl
          obtain ⟨le1, le2, le3⟩ := prsF_ok ts en f2 none (advP t) hfl hok
          simp at le1 le3
          have c4 : w3.cell? ⟨g3, 4, none⟩ = some (.slice xv nv cv) := h33.cell 4
          have HI0 : Hid (IL g L ts en (advP t) (prsF ts en f2 none (advP t)) B (fun _ => False) ⟨xv, nv, cv⟩ rs acc [] w3) := ⟨hR3, hL3, by omega, fun b hb => hb.elim⟩
          have hrl : rs.length ≤ 1099511627776 := by rw [hL3.len]; omega
          have H32 : Hid _ := h33
          have H22 : Hid _ := h23
          have HK2 : Hid _ := hK3
          have HRR : Hid _ := m7
          obtain ⟨q, hq⟩ : ∃ q, prsF ts en f2 none (advP t) = q := ⟨_, rfl⟩
          rw [hq] at HI0 HRR le1 le2 le3
          simp only [hq] at hval
          clear hR3 h23 hK3 m7 h33 hq hL3
          go_upto_region 6 with fail
          refine wp_reliesI (kokJ (g := g) (B := B)) (IL g L ts en (advP t) (q) B (fun _ => False) ⟨xv, nv, cv⟩ rs acc) [3, 4, 5] [none, none, none, some (0, [], []), some (1, [], []), some (2, [], []), none] [Fx (.pointer (some ⟨g3, 4, none⟩)), Fx (.slice xv nv cv), Fx (.pointer (some ⟨g, 0, none⟩)), (fun _ _ => True), (fun _ _ => True), (fun _ _ => True), Fx (.pointer (some ⟨g3, 4, none⟩))] rfl (by decide) rfl (by kernel_rfl) (by kernel_rfl) (by kernel_rfl) (by exact HI0.out) IL_later ?_ ?_ ?_ ?_
          · repeat' (first | exact all_nil | apply all_cons)
            all_goals intro v y y' hv hb
            all_goals first | exact Fx_mono _ _ _ _ hv hb | exact trivial
          · intro i9 f9 hf9 hl9 v y y' hv hb
            rcases i9 with _ | i9
            · first | (cases hl9; done) | (cases hf9; first | exact hv | exact trivial)
            rcases i9 with _ | i9
            · first | (cases hl9; done) | (cases hf9; first | exact hv | exact trivial)
            rcases i9 with _ | i9
            · first | (cases hl9; done) | (cases hf9; first | exact hv | exact trivial)
            rcases i9 with _ | i9
            · first | (cases hl9; done) | (cases hf9; first | exact hv | exact trivial)
            rcases i9 with _ | i9
            · first | (cases hl9; done) | (cases hf9; first | exact hv | exact trivial)
            rcases i9 with _ | i9
            · first | (cases hl9; done) | (cases hf9; first | exact hv | exact trivial)
            rcases i9 with _ | i9
            · first | (cases hl9; done) | (cases hf9; first | exact hv | exact trivial)
            · simp at hf9
          · refine ⟨?_, ?_, ?_, ?_, ?_, ?_, ?_, trivial⟩
            all_goals
              intro ρ x hk hat ρc ρg ρf ho hd
              have o0 : ρ (.tmp 0) = .pointer (some ⟨g, 0, none⟩) := ho 0 rfl
              have o3 : ρ (.tmp 3) = .pointer (some ⟨g3, 0, none⟩) := ho 3 rfl
              clear ho
              have kb := hk.cell c4 hnB hng
              simp only [depsR, depR, slotR, Fx, List.getElem?_cons_succ, List.getElem?_cons_zero, Region.binds, forall_const] at hd
              simp only [guardR, List.contains_cons, List.contains_nil, List.elem_cons, List.elem_nil, Nat.reduceBEq, Bool.or_false, Bool.false_or, Bool.or_true, Bool.true_or, cond_true, cond_false]
              go_split_ands
            · go_simp
            · go_simp
            · go_simp
            · go_simp
              have hat0 : IL g L ts en (advP t) (q) B (fun _ => False) ⟨xv, nv, cv⟩ rs acc [] x := hat
              refine (hval x hat0.1).mono ?_
              rintro e x' ⟨r9, rfl, hN9, hR9⟩
              exact ⟨_, rfl, ⟨trivial, IL.call hat0 hgB hN9 hR9⟩, Kj.grown hR9.2⟩
            · have hat1 : IL g L ts en (advP t) (q) B (fun _ => False) ⟨xv, nv, cv⟩ rs acc [ρ (.tmp 22)] x := hat
              obtain ⟨r9, e9, h9⟩ := hat1
              go_simp
              exact ⟨⟨trivial, IL.build _ h9⟩, Kj.below (below_alloc _ _)⟩
            · have hat2 : IL g L ts en (advP t) (q) B (fun _ => False) ⟨xv, nv, cv⟩ rs acc [ρ (.tmp 22), ρ (.tmp 23)] x := hat
              have hd1 : ρ (.tmp 20) = .slice xv nv cv := by first | assumption | exact hd.1
              obtain ⟨d9, x9, hr9, i9, k9⟩ := hat2.app 53 hgB hrl
              have hr8 : (Builtin.append_ #[53, 53] 53 #[.slice xv nv cv, ρ (.tmp 23)]).run Tryz.prog x = .ok d9 x9 := hr9
              rw [BigFrame.execOp_builtin, BigFrame.builtin_append]
              simp only [List.map_toArray, List.map_cons, List.map_nil, hd1, hr8, Sem.run_bind, Result.andThen_ok, Sem.run_pure, okUponD_some]
              exact ⟨⟨trivial, i9⟩, k9⟩
            · go_simp
          · intro us x1 hk hw hI
            simp only [owed, Fx] at hw
            obtain ⟨e0, e1, e2, e3, e4, e5, e6, -⟩ := hw
            simp only [List.length_cons, List.length_nil, List.take_succ_cons, List.take_zero, List.drop_succ_cons, List.drop_zero, asg, List.cons_append, List.nil_append, e0, e1, e2, e6]
            clear e0 e1 e2 e6 e3 e4 e5
            obtain ⟨r9, ⟨xa, na, ca⟩, e9, hR4, hL4⟩ : IL g L ts en (advP t) q B (fun _ => False) ⟨xv, nv, cv⟩ rs acc [us 3, us 4, us 5] x1 := hI
            have h34 := hk.row H32.out hnB hng
            obtain ⟨k1, k2, k3, k4, k5, k6⟩ := lst_store hR4 hL4 h34 (hk.row H22.out hgB2 hg2) (HK2.out.trans (hk.less (by omega : n0 ≤ B))) (by have := hk.size; omega) (by omega) (by omega) hnB (by omega)
            have c44 := h34.cell 4
            have z44 := h34.frozen 4
            replace c44 : x1.cell? ⟨g3, 4, none⟩ = some (.slice xv nv cv) := c44
            simp only [Sl.v] at e9 k1 k2 k3 k4 k5 k6
            simp only [e9]
            have HM : Hid (rdI (x1.setCell ⟨g3, 4, none⟩ (.slice xa na ca)) g = q.2.i) := k1.rdI
            have HL : Hid (LInv (f1 + 1) n0 g g2 g3 B L ts en w R (x1.setCell ⟨g3, 4, none⟩ (.slice xa na ca))) := ⟨q.2, acc ++ [q.1], rs ++ [r9], ⟨xa, na, ca⟩, f2, k1, k2, k3, k4, k5, k6, le2, by rw [le3]; omega, by omega, by simp; omega, by omega, by omega, HRR.out⟩
            clear k1 k2 k3 k4 k5 k6 hL4 hR4 HI0 H32 H22 HK2 HRR h34 e9 hk hval
            go_wp2
            go_roundw
            case rel => exact ⟨_, _, _, _, _, _, _, _, _, HL.out, rfl⟩
            case measure => rw [HM.out, hri]; omega
        | false =>
          rw [h6] at hR3 m7
          simp only [cond_false] at hR3 m7
          clear h6
          have hNd := rdNeed_any w3 g L ts en t 4 hR3
          go_wp2_with fail
          refine hNd.mono ?_
          rintro e w9 ⟨rfl, hR9, hG9⟩
          clear hNd
          have h39 := h33.block (hG9.block g3 h33.lt (fun e => by cases e; omega))
          have h29 := h23.block (hG9.block g2 h23.lt (fun e => by cases e; omega))
          have hL9 := hL3.ag hG9.size (fun b hb _ hl => hG9.block b hl (fun e => by cases e; omega))
          have hK9 := hK3.trans (Kj.grown hG9)
          have hN9 := hL9.node 5 0 ⟨#[]⟩ slZ ⟨xv, nv, cv⟩ [] (.inl ⟨rfl, rfl⟩) (fun h => absurd h (Nat.lt_irrefl 0)) ⟨Nat.zero_le _, by have h8 := IsK.num (hL9.own.isK ndE_ok); have h7 := hL9.len; simp only at h8 ⊢; omega⟩
          have HE9 : Hid (R = (Nd.mk 5 0 (lS ⟨#[]⟩) (List.map lS []) acc, clsP (needP ts en 4 t))) := m7.symm
          have HOP : Hid (1 ≤ (needP ts en 4 t).op ∧ (needP ts en 4 t).op ≤ 1099511627777) := by show _ ∧ _; simp; omega
          obtain ⟨t9, ht9⟩ : ∃ q, needP ts en 4 t = q := ⟨_, rfl⟩
          rw [ht9] at HE9 hR9 HOP
          obtain ⟨r9, hr9⟩ : ∃ q : Rn, ⟨5, 0, ⟨#[]⟩, slZ, ⟨xv, nv, cv⟩⟩ = q := ⟨_, rfl⟩
          obtain ⟨d9, hd9⟩ : ∃ q, Nd.mk 5 0 (lS ⟨#[]⟩) (List.map lS []) acc = q := ⟨_, rfl⟩
          rw [hr9] at hN9 h39
          rw [hd9] at hN9 HE9
          clear hR3 h33 h23 hK3 hr9 hd9 ht9 m7 hV h hL9 hL3 hG9
          have hcf := hR9.cells.2.2.2.2.2
          have hzf := hR9.row.frozen 5
          have hw9 : IntKind.i64.wrap ((t9.op : Int) - 1) = ((t9.op - 1 : Nat) : Int) := by
            have h99 : 1 ≤ t9.op ∧ t9.op ≤ 1099511627777 := HOP.out
            rw [IntKind.wrap_i64]; omega
          have h91 := RdP.set hR9 5 (.int .i64 ((t9.op - 1 : Nat) : Int)) (rdA_op L en t9 (t9.op - 1))
          have hc31 : RowC (w9.setCell ⟨g, 5, none⟩ (.int .i64 ((t9.op - 1 : Nat) : Int))) g3 (rnA r9) := h39.set_ne 5 _ hng.symm
          have hc21 : RowC (w9.setCell ⟨g, 5, none⟩ (.int .i64 ((t9.op - 1 : Nat) : Int))) g2 (rnA rnZ) := h29.set_ne 5 _ hg2.symm
          have HG9 : Hid (w9.grownBy (w9.setCell ⟨g, 5, none⟩ (.int .i64 ((t9.op - 1 : Nat) : Int))) (some g)) := h91.2
          have HN9 : Hid (NdF (w9.setCell ⟨g, 5, none⟩ (.int .i64 ((t9.op - 1 : Nat) : Int))) (B ≤ ·) r9 d9) := hN9.ag h91.2.size (fun b hb hl => h91.2.block b hl (fun e => by cases e; omega))
          have HR9 : Hid (Rd (w9.setCell ⟨g, 5, none⟩ (.int .i64 ((t9.op - 1 : Nat) : Int))) g L ts en (clsP t9)) := h91.1
          have HK9 : Hid (Kj g n0 w w9) := hK9
          clear h91 hN9 hR9 h39 h29 hK9
          go_upto_region 9 with fail
          generalize w9.setCell ⟨g, 5, none⟩ (.int .i64 ((t9.op - 1 : Nat) : Int)) = w8 at hc31 hc21 HG9 HN9 HR9 ⊢
          obtain ⟨a1, a2⟩ := id hc31
          obtain ⟨b1, b2⟩ := id hc21
          have a3 : (rowAt w8 g3).size = 5 := by rw [a2]; rfl
          have b3 : (rowAt w8 g2).size = 5 := by rw [b2]; rfl
          go_wp2
          exact nd_bodyPost1 2 g2 (rnA r9) rfl rfl rfl (RowC.setRow hc21 _) rfl (by rw [HE9.out]; exact lst_end HK9.out hn0 HG9.out HR9.out (by omega) HN9.out hgB2 hg0)
end Go.Proofs.YtalnbddkhojjbaaGreatDoor
namespace Go.Proofs.YtalnbddkhojjbaaGreatDoor
open Go.RowKit

theorem NdF.inv {w : World} {F : Nat → Prop} {r : Rn} {k n : Int} {s : List UInt8} {ks : List (List UInt8)} {vs : List Nd} (h : NdF w F r (.mk k n s ks vs)) : r.k = k ∧ r.n = n ∧ lS r.s = s ∧ ∃ kb rs, IsG w r.ks.v (strs kb) ∧ r.ks.In F ∧ kb.map lS = ks ∧ IsK ndE w r.vs.v rs ∧ r.vs.In F ∧ rs.length = vs.length ∧ (r.ks.n ≤ 17592186044416 ∧ r.vs.n ≤ 17592186044416) ∧ ∀ (i : Nat) a d, rs[i]? = some a → vs[i]? = some d → NdF w F a d := by
  cases h using NdF.rc with
  | mk r kb rs vs hk hkF hv hvF hl hz he r9 => clear r9; exact ⟨rfl, rfl, rfl, kb, rs, hk, hkF, rfl, hv, hvF, hl, hz, he⟩
theorem alloc_sz15 (w : World) (o : Obj) : (w.alloc o).heap.size = w.heap.size + 1 := by show (w.heap.push o).size = _; simp
end Go.Proofs.YtalnbddkhojjbaaGreatDoor
namespace Go.Proofs.YtalnbddkhojjbaaGreatDoor
open Go.RowKit

@[go_sem] theorem ta_Null_Null (v : Value) (w : World) : (Instr.typeAssert (.iface 116 v) 42 116 true).run Tryz.prog w = .ok (.tuple #[v, .bool true]) w := by kernel_rfl
@[go_sem] theorem ta_Null_Bool (v : Value) (w : World) : (Instr.typeAssert (.iface 116 v) 42 121 true).run Tryz.prog w = .ok (.tuple #[.bool false, .bool false]) w := by kernel_rfl
@[go_sem] theorem ta_Null_Num (v : Value) (w : World) : (Instr.typeAssert (.iface 116 v) 42 71 true).run Tryz.prog w = .ok (.tuple #[.int .i64 0, .bool false]) w := by kernel_rfl
@[go_sem] theorem ta_Null_Str (v : Value) (w : World) : (Instr.typeAssert (.iface 116 v) 42 93 true).run Tryz.prog w = .ok (.tuple #[.string ⟨#[]⟩, .bool false]) w := by kernel_rfl
@[go_sem] theorem ta_Null_List (v : Value) (w : World) : (Instr.typeAssert (.iface 116 v) 42 73 true).run Tryz.prog w = .ok (.tuple #[.slice none 0 0, .bool false]) w := by kernel_rfl
@[go_sem] theorem ta_Null_Object (v : Value) (w : World) : (Instr.typeAssert (.iface 116 v) 42 76 true).run Tryz.prog w = .ok (.tuple #[.agg #[.slice none 0 0, .slice none 0 0], .bool false]) w := by kernel_rfl
@[go_sem] theorem ta_Bool_Null (v : Value) (w : World) : (Instr.typeAssert (.iface 121 v) 42 116 true).run Tryz.prog w = .ok (.tuple #[.agg #[], .bool false]) w := by kernel_rfl
@[go_sem] theorem ta_Bool_Bool (v : Value) (w : World) : (Instr.typeAssert (.iface 121 v) 42 121 true).run Tryz.prog w = .ok (.tuple #[v, .bool true]) w := by kernel_rfl
@[go_sem] theorem ta_Bool_Num (v : Value) (w : World) : (Instr.typeAssert (.iface 121 v) 42 71 true).run Tryz.prog w = .ok (.tuple #[.int .i64 0, .bool false]) w := by kernel_rfl
@[go_sem] theorem ta_Bool_Str (v : Value) (w : World) : (Instr.typeAssert (.iface 121 v) 42 93 true).run Tryz.prog w = .ok (.tuple #[.string ⟨#[]⟩, .bool false]) w := by kernel_rfl
@[go_sem] theorem ta_Bool_List (v : Value) (w : World) : (Instr.typeAssert (.iface 121 v) 42 73 true).run Tryz.prog w = .ok (.tuple #[.slice none 0 0, .bool false]) w := by kernel_rfl
@[go_sem] theorem ta_Bool_Object (v : Value) (w : World) : (Instr.typeAssert (.iface 121 v) 42 76 true).run Tryz.prog w = .ok (.tuple #[.agg #[.slice none 0 0, .slice none 0 0], .bool false]) w := by kernel_rfl
@[go_sem] theorem ta_Num_Null (v : Value) (w : World) : (Instr.typeAssert (.iface 71 v) 42 116 true).run Tryz.prog w = .ok (.tuple #[.agg #[], .bool false]) w := by kernel_rfl
@[go_sem] theorem ta_Num_Bool (v : Value) (w : World) : (Instr.typeAssert (.iface 71 v) 42 121 true).run Tryz.prog w = .ok (.tuple #[.bool false, .bool false]) w := by kernel_rfl
@[go_sem] theorem ta_Num_Num (v : Value) (w : World) : (Instr.typeAssert (.iface 71 v) 42 71 true).run Tryz.prog w = .ok (.tuple #[v, .bool true]) w := by kernel_rfl
@[go_sem] theorem ta_Num_Str (v : Value) (w : World) : (Instr.typeAssert (.iface 71 v) 42 93 true).run Tryz.prog w = .ok (.tuple #[.string ⟨#[]⟩, .bool false]) w := by kernel_rfl
@[go_sem] theorem ta_Num_List (v : Value) (w : World) : (Instr.typeAssert (.iface 71 v) 42 73 true).run Tryz.prog w = .ok (.tuple #[.slice none 0 0, .bool false]) w := by kernel_rfl
@[go_sem] theorem ta_Num_Object (v : Value) (w : World) : (Instr.typeAssert (.iface 71 v) 42 76 true).run Tryz.prog w = .ok (.tuple #[.agg #[.slice none 0 0, .slice none 0 0], .bool false]) w := by kernel_rfl
@[go_sem] theorem ta_Str_Null (v : Value) (w : World) : (Instr.typeAssert (.iface 93 v) 42 116 true).run Tryz.prog w = .ok (.tuple #[.agg #[], .bool false]) w := by kernel_rfl
@[go_sem] theorem ta_Str_Bool (v : Value) (w : World) : (Instr.typeAssert (.iface 93 v) 42 121 true).run Tryz.prog w = .ok (.tuple #[.bool false, .bool false]) w := by kernel_rfl
@[go_sem] theorem ta_Str_Num (v : Value) (w : World) : (Instr.typeAssert (.iface 93 v) 42 71 true).run Tryz.prog w = .ok (.tuple #[.int .i64 0, .bool false]) w := by kernel_rfl
@[go_sem] theorem ta_Str_Str (v : Value) (w : World) : (Instr.typeAssert (.iface 93 v) 42 93 true).run Tryz.prog w = .ok (.tuple #[v, .bool true]) w := by kernel_rfl
@[go_sem] theorem ta_Str_List (v : Value) (w : World) : (Instr.typeAssert (.iface 93 v) 42 73 true).run Tryz.prog w = .ok (.tuple #[.slice none 0 0, .bool false]) w := by kernel_rfl
@[go_sem] theorem ta_Str_Object (v : Value) (w : World) : (Instr.typeAssert (.iface 93 v) 42 76 true).run Tryz.prog w = .ok (.tuple #[.agg #[.slice none 0 0, .slice none 0 0], .bool false]) w := by kernel_rfl
@[go_sem] theorem ta_List_Null (v : Value) (w : World) : (Instr.typeAssert (.iface 73 v) 42 116 true).run Tryz.prog w = .ok (.tuple #[.agg #[], .bool false]) w := by kernel_rfl
@[go_sem] theorem ta_List_Bool (v : Value) (w : World) : (Instr.typeAssert (.iface 73 v) 42 121 true).run Tryz.prog w = .ok (.tuple #[.bool false, .bool false]) w := by kernel_rfl
@[go_sem] theorem ta_List_Num (v : Value) (w : World) : (Instr.typeAssert (.iface 73 v) 42 71 true).run Tryz.prog w = .ok (.tuple #[.int .i64 0, .bool false]) w := by kernel_rfl
@[go_sem] theorem ta_List_Str (v : Value) (w : World) : (Instr.typeAssert (.iface 73 v) 42 93 true).run Tryz.prog w = .ok (.tuple #[.string ⟨#[]⟩, .bool false]) w := by kernel_rfl
@[go_sem] theorem ta_List_List (v : Value) (w : World) : (Instr.typeAssert (.iface 73 v) 42 73 true).run Tryz.prog w = .ok (.tuple #[v, .bool true]) w := by kernel_rfl
@[go_sem] theorem ta_List_Object (v : Value) (w : World) : (Instr.typeAssert (.iface 73 v) 42 76 true).run Tryz.prog w = .ok (.tuple #[.agg #[.slice none 0 0, .slice none 0 0], .bool false]) w := by kernel_rfl
@[go_sem] theorem ta_Object_Null (v : Value) (w : World) : (Instr.typeAssert (.iface 76 v) 42 116 true).run Tryz.prog w = .ok (.tuple #[.agg #[], .bool false]) w := by kernel_rfl
@[go_sem] theorem ta_Object_Bool (v : Value) (w : World) : (Instr.typeAssert (.iface 76 v) 42 121 true).run Tryz.prog w = .ok (.tuple #[.bool false, .bool false]) w := by kernel_rfl
@[go_sem] theorem ta_Object_Num (v : Value) (w : World) : (Instr.typeAssert (.iface 76 v) 42 71 true).run Tryz.prog w = .ok (.tuple #[.int .i64 0, .bool false]) w := by kernel_rfl
@[go_sem] theorem ta_Object_Str (v : Value) (w : World) : (Instr.typeAssert (.iface 76 v) 42 93 true).run Tryz.prog w = .ok (.tuple #[.string ⟨#[]⟩, .bool false]) w := by kernel_rfl
@[go_sem] theorem ta_Object_List (v : Value) (w : World) : (Instr.typeAssert (.iface 76 v) 42 73 true).run Tryz.prog w = .ok (.tuple #[.slice none 0 0, .bool false]) w := by kernel_rfl
@[go_sem] theorem ta_Object_Object (v : Value) (w : World) : (Instr.typeAssert (.iface 76 v) 42 76 true).run Tryz.prog w = .ok (.tuple #[v, .bool true]) w := by kernel_rfl
@[go_sem] theorem ta_nil_Null (w : World) : (Instr.typeAssert .nilIface 42 116 true).run Tryz.prog w = .ok (.tuple #[.agg #[], .bool false]) w := by kernel_rfl
@[go_sem] theorem ta_nil_Bool (w : World) : (Instr.typeAssert .nilIface 42 121 true).run Tryz.prog w = .ok (.tuple #[.bool false, .bool false]) w := by kernel_rfl
@[go_sem] theorem ta_nil_Num (w : World) : (Instr.typeAssert .nilIface 42 71 true).run Tryz.prog w = .ok (.tuple #[.int .i64 0, .bool false]) w := by kernel_rfl
@[go_sem] theorem ta_nil_Str (w : World) : (Instr.typeAssert .nilIface 42 93 true).run Tryz.prog w = .ok (.tuple #[.string ⟨#[]⟩, .bool false]) w := by kernel_rfl
@[go_sem] theorem ta_nil_List (w : World) : (Instr.typeAssert .nilIface 42 73 true).run Tryz.prog w = .ok (.tuple #[.slice none 0 0, .bool false]) w := by kernel_rfl
@[go_sem] theorem ta_nil_Object (w : World) : (Instr.typeAssert .nilIface 42 76 true).run Tryz.prog w = .ok (.tuple #[.agg #[.slice none 0 0, .slice none 0 0], .bool false]) w := by kernel_rfl
end Go.Proofs.YtalnbddkhojjbaaGreatDoor
namespace Go.Proofs.YtalnbddkhojjbaaGreatDoor
open Go.RowKit

set_option linter.unusedVariables false
def VlF (w : World) (F : Nat → Prop) (i1 : Value) (i2 : Nd) : Prop := ∀ Q : Value → Nd → Prop, (Q (.iface 116 (.agg #[])) (.mk 1 0 [] [] [])) → (∀ (b : Bool), Q (.iface 121 (.bool b)) (.mk 2 (bif b then 1 else 0) [] [] [])) → (∀ (n : Int) (hn : -9223372036854775808 ≤ n ∧ n ≤ 9223372036854775807), Q (.iface 71 (.int .i64 n)) (.mk 3 n [] [] [])) → (∀ (s : ByteArray), Q (.iface 93 (.string s)) (.mk 4 0 (lS s) [] [])) → (∀ (a : Sl) (us : List Value) (ds : List Nd) (hv : IsG w a.v us) (hF : a.In F) (hl : us.length = ds.length) (hz : a.n ≤ 1759218604441) (he : ∀ (i : Nat) u d, us[i]? = some u → ds[i]? = some d → Q u d), Q (.iface 73 a.v) (.mk 5 0 [] [] ds)) → (∀ (ks a : Sl) (kb : List ByteArray) (us : List Value) (ds : List Nd) (hk : IsG w ks.v (strs kb)) (hkF : ks.In F) (hv : IsG w a.v us) (hF : a.In F) (hl : us.length = ds.length) (hz : ks.n ≤ 8796093022208 ∧ a.n ≤ 1759218604441) (he : ∀ (i : Nat) u d, us[i]? = some u → ds[i]? = some d → Q u d), Q (.iface 76 (.agg #[ks.v, a.v])) (.mk 6 0 [] (kb.map lS) ds)) → Q i1 i2
theorem VlF.null {w : World} {F : Nat → Prop}  : VlF w F (.iface 116 (.agg #[])) (.mk 1 0 [] [] []) := fun Q q0 q1 q2 q3 q4 q5 => q0
theorem VlF.bool {w : World} {F : Nat → Prop} (b : Bool) : VlF w F (.iface 121 (.bool b)) (.mk 2 (bif b then 1 else 0) [] [] []) := fun Q q0 q1 q2 q3 q4 q5 => q1 b
theorem VlF.num {w : World} {F : Nat → Prop} (n : Int) (hn : -9223372036854775808 ≤ n ∧ n ≤ 9223372036854775807) : VlF w F (.iface 71 (.int .i64 n)) (.mk 3 n [] [] []) := fun Q q0 q1 q2 q3 q4 q5 => q2 n hn
theorem VlF.str {w : World} {F : Nat → Prop} (s : ByteArray) : VlF w F (.iface 93 (.string s)) (.mk 4 0 (lS s) [] []) := fun Q q0 q1 q2 q3 q4 q5 => q3 s
theorem VlF.list {w : World} {F : Nat → Prop} (a : Sl) (us : List Value) (ds : List Nd) (hv : IsG w a.v us) (hF : a.In F) (hl : us.length = ds.length) (hz : a.n ≤ 1759218604441) (he : ∀ (i : Nat) u d, us[i]? = some u → ds[i]? = some d → VlF w F u d) : VlF w F (.iface 73 a.v) (.mk 5 0 [] [] ds) := fun Q q0 q1 q2 q3 q4 q5 => q4 a us ds hv hF hl hz (fun i u d hz0 hz1 => he i u d hz0 hz1 Q q0 q1 q2 q3 q4 q5)
theorem VlF.obj {w : World} {F : Nat → Prop} (ks a : Sl) (kb : List ByteArray) (us : List Value) (ds : List Nd) (hk : IsG w ks.v (strs kb)) (hkF : ks.In F) (hv : IsG w a.v us) (hF : a.In F) (hl : us.length = ds.length) (hz : ks.n ≤ 8796093022208 ∧ a.n ≤ 1759218604441) (he : ∀ (i : Nat) u d, us[i]? = some u → ds[i]? = some d → VlF w F u d) : VlF w F (.iface 76 (.agg #[ks.v, a.v])) (.mk 6 0 [] (kb.map lS) ds) := fun Q q0 q1 q2 q3 q4 q5 => q5 ks a kb us ds hk hkF hv hF hl hz (fun i u d hz0 hz1 => he i u d hz0 hz1 Q q0 q1 q2 q3 q4 q5)
theorem VlF.rc {w : World} {F : Nat → Prop} {M : ∀ (i1 : Value) (i2 : Nd), VlF w F i1 i2 → Prop} (null : M (.iface 116 (.agg #[])) (.mk 1 0 [] [] []) (VlF.null)) (bool : ∀ (b : Bool), M (.iface 121 (.bool b)) (.mk 2 (bif b then 1 else 0) [] [] []) (VlF.bool b)) (num : ∀ (n : Int) (hn : -9223372036854775808 ≤ n ∧ n ≤ 9223372036854775807), M (.iface 71 (.int .i64 n)) (.mk 3 n [] [] []) (VlF.num n hn)) (str : ∀ (s : ByteArray), M (.iface 93 (.string s)) (.mk 4 0 (lS s) [] []) (VlF.str s)) (list : ∀ (a : Sl) (us : List Value) (ds : List Nd) (hv : IsG w a.v us) (hF : a.In F) (hl : us.length = ds.length) (hz : a.n ≤ 1759218604441) (he : ∀ (i : Nat) u d, us[i]? = some u → ds[i]? = some d → VlF w F u d), (∀ (i : Nat) u d (hz0 : us[i]? = some u) (hz1 : ds[i]? = some d), M u d (he i u d hz0 hz1)) → M (.iface 73 a.v) (.mk 5 0 [] [] ds) (VlF.list a us ds hv hF hl hz he)) (obj : ∀ (ks a : Sl) (kb : List ByteArray) (us : List Value) (ds : List Nd) (hk : IsG w ks.v (strs kb)) (hkF : ks.In F) (hv : IsG w a.v us) (hF : a.In F) (hl : us.length = ds.length) (hz : ks.n ≤ 8796093022208 ∧ a.n ≤ 1759218604441) (he : ∀ (i : Nat) u d, us[i]? = some u → ds[i]? = some d → VlF w F u d), (∀ (i : Nat) u d (hz0 : us[i]? = some u) (hz1 : ds[i]? = some d), M u d (he i u d hz0 hz1)) → M (.iface 76 (.agg #[ks.v, a.v])) (.mk 6 0 [] (kb.map lS) ds) (VlF.obj ks a kb us ds hk hkF hv hF hl hz he)) {i1 : Value} {i2 : Nd} (h : VlF w F i1 i2) : M i1 i2 h :=
  (h (fun i1 i2 => ∃ h9 : VlF w F i1 i2, M i1 i2 h9) (⟨VlF.null, null⟩) (fun b => ⟨VlF.bool b, bool b⟩) (fun n hn => ⟨VlF.num n hn, num n hn⟩) (fun s => ⟨VlF.str s, str s⟩) (fun a us ds hv hF hl hz he => ⟨VlF.list a us ds hv hF hl hz (fun i u d hz0 hz1 => (he i u d hz0 hz1).1), list a us ds hv hF hl hz (fun i u d hz0 hz1 => (he i u d hz0 hz1).1) (fun i u d hz0 hz1 => (he i u d hz0 hz1).2)⟩) (fun ks a kb us ds hk hkF hv hF hl hz he => ⟨VlF.obj ks a kb us ds hk hkF hv hF hl hz (fun i u d hz0 hz1 => (he i u d hz0 hz1).1), obj ks a kb us ds hk hkF hv hF hl hz (fun i u d hz0 hz1 => (he i u d hz0 hz1).1) (fun i u d hz0 hz1 => (he i u d hz0 hz1).2)⟩)).2
theorem Sl.own_inG15 {w : World} {B : Nat} {a : Sl} {xs : List Value} {e : TypeId} (h : OwnG e w B a.v xs) : a.In (B ≤ ·) := fun h0 p hp => by
  obtain ⟨hn, ⟨h1, h2⟩ | ⟨g, cap, cur, he, hb, -⟩⟩ := h
  · unfold Sl.v at h1; simp only [Value.slice.injEq] at h1; rw [h1.1] at hp; cases hp
  · unfold Sl.v at he; simp only [Value.slice.injEq] at he
    rw [he.1] at hp; cases hp; exact hb
end Go.Proofs.YtalnbddkhojjbaaGreatDoor
namespace Go.Proofs.YtalnbddkhojjbaaGreatDoor
open Go.RowKit

abbrev Lb := List (Sl × List Value)
abbrev Kb := List (Sl × List ByteArray)
set_option linter.unusedVariables false
def VlO (w : World) (B : Nat) (i1 : Value) (i2 : Nd) (i3 : Lb) (i4 : Kb) : Prop := ∀ Q : Value → Nd → Lb → Kb → Prop, (Q (.iface 116 (.agg #[])) (.mk 1 0 [] [] []) [] []) → (∀ (b : Bool), Q (.iface 121 (.bool b)) (.mk 2 (bif b then 1 else 0) [] [] []) [] []) → (∀ (n : Int) (hn : -9223372036854775808 ≤ n ∧ n ≤ 9223372036854775807), Q (.iface 71 (.int .i64 n)) (.mk 3 n [] [] []) [] []) → (∀ (s : ByteArray), Q (.iface 93 (.string s)) (.mk 4 0 (lS s) [] []) [] []) → (∀ (a : Sl) (us : List Value) (ds : List Nd) (L : List Lb) (K : List Kb) (hv : OwnG 42 w B a.v us) (hl : us.length = ds.length) (hz : a.n ≤ 1759218604441) (hL : L.length = us.length) (hK : K.length = us.length) (he : ∀ (i : Nat) u d l k, us[i]? = some u → ds[i]? = some d → L[i]? = some l → K[i]? = some k → Q u d l k), Q (.iface 73 a.v) (.mk 5 0 [] [] ds) ((a, us) :: L.flatten) K.flatten) → (∀ (ks a : Sl) (kb : List ByteArray) (us : List Value) (ds : List Nd) (L : List Lb) (K : List Kb) (hk : OwnG 9 w B ks.v (strs kb)) (hv : OwnG 42 w B a.v us) (hl : us.length = ds.length) (hz : ks.n ≤ 8796093022208 ∧ a.n ≤ 1759218604441) (hL : L.length = us.length) (hK : K.length = us.length) (he : ∀ (i : Nat) u d l k, us[i]? = some u → ds[i]? = some d → L[i]? = some l → K[i]? = some k → Q u d l k), Q (.iface 76 (.agg #[ks.v, a.v])) (.mk 6 0 [] (kb.map lS) ds) ((a, us) :: L.flatten) ((ks, kb) :: K.flatten)) → Q i1 i2 i3 i4
theorem VlO.null {w : World} {B : Nat}  : VlO w B (.iface 116 (.agg #[])) (.mk 1 0 [] [] []) [] [] := fun Q q0 q1 q2 q3 q4 q5 => q0
theorem VlO.bool {w : World} {B : Nat} (b : Bool) : VlO w B (.iface 121 (.bool b)) (.mk 2 (bif b then 1 else 0) [] [] []) [] [] := fun Q q0 q1 q2 q3 q4 q5 => q1 b
theorem VlO.num {w : World} {B : Nat} (n : Int) (hn : -9223372036854775808 ≤ n ∧ n ≤ 9223372036854775807) : VlO w B (.iface 71 (.int .i64 n)) (.mk 3 n [] [] []) [] [] := fun Q q0 q1 q2 q3 q4 q5 => q2 n hn
theorem VlO.str {w : World} {B : Nat} (s : ByteArray) : VlO w B (.iface 93 (.string s)) (.mk 4 0 (lS s) [] []) [] [] := fun Q q0 q1 q2 q3 q4 q5 => q3 s
theorem VlO.list {w : World} {B : Nat} (a : Sl) (us : List Value) (ds : List Nd) (L : List Lb) (K : List Kb) (hv : OwnG 42 w B a.v us) (hl : us.length = ds.length) (hz : a.n ≤ 1759218604441) (hL : L.length = us.length) (hK : K.length = us.length) (he : ∀ (i : Nat) u d l k, us[i]? = some u → ds[i]? = some d → L[i]? = some l → K[i]? = some k → VlO w B u d l k) : VlO w B (.iface 73 a.v) (.mk 5 0 [] [] ds) ((a, us) :: L.flatten) K.flatten := fun Q q0 q1 q2 q3 q4 q5 => q4 a us ds L K hv hl hz hL hK (fun i u d l k hz0 hz1 hz2 hz3 => he i u d l k hz0 hz1 hz2 hz3 Q q0 q1 q2 q3 q4 q5)
theorem VlO.obj {w : World} {B : Nat} (ks a : Sl) (kb : List ByteArray) (us : List Value) (ds : List Nd) (L : List Lb) (K : List Kb) (hk : OwnG 9 w B ks.v (strs kb)) (hv : OwnG 42 w B a.v us) (hl : us.length = ds.length) (hz : ks.n ≤ 8796093022208 ∧ a.n ≤ 1759218604441) (hL : L.length = us.length) (hK : K.length = us.length) (he : ∀ (i : Nat) u d l k, us[i]? = some u → ds[i]? = some d → L[i]? = some l → K[i]? = some k → VlO w B u d l k) : VlO w B (.iface 76 (.agg #[ks.v, a.v])) (.mk 6 0 [] (kb.map lS) ds) ((a, us) :: L.flatten) ((ks, kb) :: K.flatten) := fun Q q0 q1 q2 q3 q4 q5 => q5 ks a kb us ds L K hk hv hl hz hL hK (fun i u d l k hz0 hz1 hz2 hz3 => he i u d l k hz0 hz1 hz2 hz3 Q q0 q1 q2 q3 q4 q5)
theorem VlO.rc {w : World} {B : Nat} {M : ∀ (i1 : Value) (i2 : Nd) (i3 : Lb) (i4 : Kb), VlO w B i1 i2 i3 i4 → Prop} (null : M (.iface 116 (.agg #[])) (.mk 1 0 [] [] []) [] [] (VlO.null)) (bool : ∀ (b : Bool), M (.iface 121 (.bool b)) (.mk 2 (bif b then 1 else 0) [] [] []) [] [] (VlO.bool b)) (num : ∀ (n : Int) (hn : -9223372036854775808 ≤ n ∧ n ≤ 9223372036854775807), M (.iface 71 (.int .i64 n)) (.mk 3 n [] [] []) [] [] (VlO.num n hn)) (str : ∀ (s : ByteArray), M (.iface 93 (.string s)) (.mk 4 0 (lS s) [] []) [] [] (VlO.str s)) (list : ∀ (a : Sl) (us : List Value) (ds : List Nd) (L : List Lb) (K : List Kb) (hv : OwnG 42 w B a.v us) (hl : us.length = ds.length) (hz : a.n ≤ 1759218604441) (hL : L.length = us.length) (hK : K.length = us.length) (he : ∀ (i : Nat) u d l k, us[i]? = some u → ds[i]? = some d → L[i]? = some l → K[i]? = some k → VlO w B u d l k), (∀ (i : Nat) u d l k (hz0 : us[i]? = some u) (hz1 : ds[i]? = some d) (hz2 : L[i]? = some l) (hz3 : K[i]? = some k), M u d l k (he i u d l k hz0 hz1 hz2 hz3)) → M (.iface 73 a.v) (.mk 5 0 [] [] ds) ((a, us) :: L.flatten) K.flatten (VlO.list a us ds L K hv hl hz hL hK he)) (obj : ∀ (ks a : Sl) (kb : List ByteArray) (us : List Value) (ds : List Nd) (L : List Lb) (K : List Kb) (hk : OwnG 9 w B ks.v (strs kb)) (hv : OwnG 42 w B a.v us) (hl : us.length = ds.length) (hz : ks.n ≤ 8796093022208 ∧ a.n ≤ 1759218604441) (hL : L.length = us.length) (hK : K.length = us.length) (he : ∀ (i : Nat) u d l k, us[i]? = some u → ds[i]? = some d → L[i]? = some l → K[i]? = some k → VlO w B u d l k), (∀ (i : Nat) u d l k (hz0 : us[i]? = some u) (hz1 : ds[i]? = some d) (hz2 : L[i]? = some l) (hz3 : K[i]? = some k), M u d l k (he i u d l k hz0 hz1 hz2 hz3)) → M (.iface 76 (.agg #[ks.v, a.v])) (.mk 6 0 [] (kb.map lS) ds) ((a, us) :: L.flatten) ((ks, kb) :: K.flatten) (VlO.obj ks a kb us ds L K hk hv hl hz hL hK he)) {i1 : Value} {i2 : Nd} {i3 : Lb} {i4 : Kb} (h : VlO w B i1 i2 i3 i4) : M i1 i2 i3 i4 h :=
  (h (fun i1 i2 i3 i4 => ∃ h9 : VlO w B i1 i2 i3 i4, M i1 i2 i3 i4 h9) (⟨VlO.null, null⟩) (fun b => ⟨VlO.bool b, bool b⟩) (fun n hn => ⟨VlO.num n hn, num n hn⟩) (fun s => ⟨VlO.str s, str s⟩) (fun a us ds L K hv hl hz hL hK he => ⟨VlO.list a us ds L K hv hl hz hL hK (fun i u d l k hz0 hz1 hz2 hz3 => (he i u d l k hz0 hz1 hz2 hz3).1), list a us ds L K hv hl hz hL hK (fun i u d l k hz0 hz1 hz2 hz3 => (he i u d l k hz0 hz1 hz2 hz3).1) (fun i u d l k hz0 hz1 hz2 hz3 => (he i u d l k hz0 hz1 hz2 hz3).2)⟩) (fun ks a kb us ds L K hk hv hl hz hL hK he => ⟨VlO.obj ks a kb us ds L K hk hv hl hz hL hK (fun i u d l k hz0 hz1 hz2 hz3 => (he i u d l k hz0 hz1 hz2 hz3).1), obj ks a kb us ds L K hk hv hl hz hL hK (fun i u d l k hz0 hz1 hz2 hz3 => (he i u d l k hz0 hz1 hz2 hz3).1) (fun i u d l k hz0 hz1 hz2 hz3 => (he i u d l k hz0 hz1 hz2 hz3).2)⟩)).2
theorem VlO.f {w : World} {B : Nat} {v : Value} {d : Nd} {L : Lb} {K : Kb} (h : VlO w B v d L K) : VlF w (B ≤ ·) v d := by
  induction h using VlO.rc with
  | null => exact .null
  | bool b => exact .bool b
  | num n hn => exact .num n hn
  | str s => exact .str s
  | list a us ds L K hv hl hz hL hK he ih =>
    exact .list a us ds hv.isG (Sl.own_inG15 hv) hl hz fun i u d h1 h2 => by
      obtain ⟨l, hl9⟩ : ∃ q, L[i]? = some q := ⟨_, List.getElem?_eq_getElem (by obtain ⟨h9, -⟩ := List.getElem?_eq_some_iff.1 h1; omega)⟩
      obtain ⟨k, hk9⟩ : ∃ q, K[i]? = some q := ⟨_, List.getElem?_eq_getElem (by obtain ⟨h9, -⟩ := List.getElem?_eq_some_iff.1 h1; omega)⟩
      exact ih i u d l k h1 h2 hl9 hk9
  | obj ks a kb us ds L K hk hv hl hz hL hK he ih =>
    exact .obj ks a kb us ds hk.isG (Sl.own_inG15 hk) hv.isG (Sl.own_inG15 hv) hl hz fun i u d h1 h2 => by
      obtain ⟨l, hl9⟩ : ∃ q, L[i]? = some q := ⟨_, List.getElem?_eq_getElem (by obtain ⟨h9, -⟩ := List.getElem?_eq_some_iff.1 h1; omega)⟩
      obtain ⟨k, hk9⟩ : ∃ q, K[i]? = some q := ⟨_, List.getElem?_eq_getElem (by obtain ⟨h9, -⟩ := List.getElem?_eq_some_iff.1 h1; omega)⟩
      exact ih i u d l k h1 h2 hl9 hk9
theorem cnt_flat {α : Type} : ∀ (L : List (List α)) (ds : List Nd), L.length = ds.length → (∀ (i : Nat) l d, L[i]? = some l → ds[i]? = some d → 80 * l.length ≤ szN d) → 80 * L.flatten.length ≤ szL ds
  | [], [], _, _ => by simp [szL]
  | l :: L, d :: ds, hl, h => by
    have h1 := cnt_flat L ds (by simpa using hl) (fun i a b ha hb => h (i + 1) a b (by simpa using ha) (by simpa using hb))
    have h2 := h 0 l d rfl rfl
    rw [List.flatten_cons, List.length_append, szL]
    omega
  | [], _ :: _, hl, _ => by simp at hl
  | _ :: _, [], hl, _ => by simp at hl
theorem VlO.cnt {w : World} {B : Nat} {v : Value} {d : Nd} {L : Lb} {K : Kb} (h : VlO w B v d L K) : 80 * L.length ≤ szN d ∧ 80 * K.length ≤ szN d := by
  induction h using VlO.rc with
  | null => rw [szN_mk]; simp
  | bool b => rw [szN_mk]; simp
  | num n hn => rw [szN_mk]; simp
  | str s => rw [szN_mk]; simp
  | list a us ds L K hv hl hz hL hK he ih =>
    have h1 := cnt_flat L ds (by omega) (fun i l d h1 h2 => by
      obtain ⟨i1, -⟩ := List.getElem?_eq_some_iff.1 h1
      exact (ih i _ d l _ (List.getElem?_eq_getElem (by omega)) h2 h1 (List.getElem?_eq_getElem (by omega))).1)
    have h2 := cnt_flat K ds (by omega) (fun i l d h1 h2 => by
      obtain ⟨i1, -⟩ := List.getElem?_eq_some_iff.1 h1
      exact (ih i _ d _ l (List.getElem?_eq_getElem (by omega)) h2 (List.getElem?_eq_getElem (by omega)) h1).2)
    rw [szN_mk, List.length_cons]
    omega
  | obj ks a kb us ds L K hk hv hl hz hL hK he ih =>
    have h1 := cnt_flat L ds (by omega) (fun i l d h1 h2 => by
      obtain ⟨i1, -⟩ := List.getElem?_eq_some_iff.1 h1
      exact (ih i _ d l _ (List.getElem?_eq_getElem (by omega)) h2 h1 (List.getElem?_eq_getElem (by omega))).1)
    have h2 := cnt_flat K ds (by omega) (fun i l d h1 h2 => by
      obtain ⟨i1, -⟩ := List.getElem?_eq_some_iff.1 h1
      exact (ih i _ d _ l (List.getElem?_eq_getElem (by omega)) h2 (List.getElem?_eq_getElem (by omega)) h1).2)
    rw [szN_mk, List.length_cons, List.length_cons]
    omega
def Sl.ob (a : Sl) : List Nat := a.v.ownBlock.toList
def blL (L : Lb) : List Nat := L.flatMap (fun q => q.1.ob)
def blK (K : Kb) : List Nat := K.flatMap (fun q => q.1.ob)
def blks (L : Lb) (K : Kb) : List Nat := blL L ++ blK K
theorem OwnG.oth {e : TypeId} {w w' : World} {B : Nat} {v : Value} {xs : List Value} (h : OwnG e w B v xs) (hl : ∀ g, v.ownBlock = some g → w'.heap[g]? = w.heap[g]?) : OwnG e w' B v xs := by
  obtain ⟨h1, h2⟩ := h
  refine ⟨h1, ?_⟩
  rcases h2 with hn | ⟨g, cap, cur, hv, hb, hg, r⟩
  · exact .inl hn
  · refine .inr ⟨g, cap, cur, hv, hb, ?_, r⟩
    rw [hl g (by rw [hv]; rfl)]; exact hg
theorem mem_ob {a : Sl} {g : Nat} : g ∈ a.ob ↔ a.v.ownBlock = some g := by
  unfold Sl.ob
  rw [Option.mem_toList]
theorem blL_mem {L : Lb} {q : Sl × List Value} {g : Nat} (h : q ∈ L) (hg : q.1.v.ownBlock = some g) : g ∈ blL L := List.mem_flatMap.2 ⟨q, h, mem_ob.2 hg⟩
theorem blK_mem {K : Kb} {q : Sl × List ByteArray} {g : Nat} (h : q ∈ K) (hg : q.1.v.ownBlock = some g) : g ∈ blK K := List.mem_flatMap.2 ⟨q, h, mem_ob.2 hg⟩
theorem flat_sub {α : Type} {L : List (List α)} {i : Nat} {l : List α} (h : L[i]? = some l) : ∀ x ∈ l, x ∈ L.flatten := fun _ hx => List.mem_flatten.2 ⟨l, List.mem_of_getElem? h, hx⟩
theorem blL_sub {L M : Lb} (h : ∀ x ∈ L, x ∈ M) : ∀ g ∈ blL L, g ∈ blL M := fun g hg => by
  obtain ⟨q, hq, hg⟩ := List.mem_flatMap.1 hg
  exact List.mem_flatMap.2 ⟨q, h q hq, hg⟩
theorem blK_sub {L M : Kb} (h : ∀ x ∈ L, x ∈ M) : ∀ g ∈ blK L, g ∈ blK M := fun g hg => by
  obtain ⟨q, hq, hg⟩ := List.mem_flatMap.1 hg
  exact List.mem_flatMap.2 ⟨q, h q hq, hg⟩
theorem blks_sub {L M : Lb} {K J : Kb} (h : ∀ x ∈ L, x ∈ M) (k : ∀ x ∈ K, x ∈ J) : ∀ g ∈ blks L K, g ∈ blks M J := fun g hg => by
  rcases List.mem_append.1 hg with hg | hg
  · exact List.mem_append_left _ (blL_sub h g hg)
  · exact List.mem_append_right _ (blK_sub k g hg)
theorem VlO.bl {w : World} {B : Nat} {v : Value} {d : Nd} {L : Lb} {K : Kb} (h : VlO w B v d L K) : ∀ g ∈ blks L K, B ≤ g ∧ g < w.heap.size := by
  induction h using VlO.rc with
  | null => intro g hg; cases hg
  | bool b => intro g hg; cases hg
  | num n hn => intro g hg; cases hg
  | str s => intro g hg; cases hg
  | list a us ds L K hv hl hz hL hK he ih =>
    intro g hg
    have hin : ∀ (i : Nat) l k, L[i]? = some l → K[i]? = some k → ∀ g ∈ blks l k, B ≤ g ∧ g < w.heap.size := fun i l k h1 h2 => by
      obtain ⟨i1, -⟩ := List.getElem?_eq_some_iff.1 h1
      exact ih i _ _ l k (List.getElem?_eq_getElem (by omega)) (List.getElem?_eq_getElem (by omega)) h1 h2
    rcases List.mem_append.1 hg with hg | hg
    · obtain ⟨q, hq, hg⟩ := List.mem_flatMap.1 hg
      rcases List.mem_cons.1 hq with rfl | hq
      · exact hv.lt g (mem_ob.1 hg)
      · obtain ⟨l, hl9, hq⟩ := List.mem_flatten.1 hq
        obtain ⟨i, hi⟩ := List.getElem?_of_mem hl9
        obtain ⟨i1, -⟩ := List.getElem?_eq_some_iff.1 hi
        exact hin i l _ hi (List.getElem?_eq_getElem (by omega)) g (List.mem_append_left _ (List.mem_flatMap.2 ⟨q, hq, hg⟩))
    · obtain ⟨q, hq, hg⟩ := List.mem_flatMap.1 hg
      obtain ⟨k, hk9, hq⟩ := List.mem_flatten.1 hq
      obtain ⟨i, hi⟩ := List.getElem?_of_mem hk9
      obtain ⟨i1, -⟩ := List.getElem?_eq_some_iff.1 hi
      exact hin i _ k (List.getElem?_eq_getElem (by omega)) hi g (List.mem_append_right _ (List.mem_flatMap.2 ⟨q, hq, hg⟩))
  | obj ks a kb us ds L K hk hv hl hz hL hK he ih =>
    intro g hg
    have hin : ∀ (i : Nat) l k, L[i]? = some l → K[i]? = some k → ∀ g ∈ blks l k, B ≤ g ∧ g < w.heap.size := fun i l k h1 h2 => by
      obtain ⟨i1, -⟩ := List.getElem?_eq_some_iff.1 h1
      exact ih i _ _ l k (List.getElem?_eq_getElem (by omega)) (List.getElem?_eq_getElem (by omega)) h1 h2
    rcases List.mem_append.1 hg with hg | hg
    · obtain ⟨q, hq, hg⟩ := List.mem_flatMap.1 hg
      rcases List.mem_cons.1 hq with rfl | hq
      · exact hv.lt g (mem_ob.1 hg)
      · obtain ⟨l, hl9, hq⟩ := List.mem_flatten.1 hq
        obtain ⟨i, hi⟩ := List.getElem?_of_mem hl9
        obtain ⟨i1, -⟩ := List.getElem?_eq_some_iff.1 hi
        exact hin i l _ hi (List.getElem?_eq_getElem (by omega)) g (List.mem_append_left _ (List.mem_flatMap.2 ⟨q, hq, hg⟩))
    · obtain ⟨q, hq, hg⟩ := List.mem_flatMap.1 hg
      rcases List.mem_cons.1 hq with rfl | hq
      · exact hk.lt g (mem_ob.1 hg)
      · obtain ⟨k, hk9, hq⟩ := List.mem_flatten.1 hq
        obtain ⟨i, hi⟩ := List.getElem?_of_mem hk9
        obtain ⟨i1, -⟩ := List.getElem?_eq_some_iff.1 hi
        exact hin i _ k (List.getElem?_eq_getElem (by omega)) hi g (List.mem_append_right _ (List.mem_flatMap.2 ⟨q, hq, hg⟩))
theorem VlO.ag {w w1 : World} {B : Nat} {v : Value} {d : Nd} {L : Lb} {K : Kb} (h : VlO w B v d L K) : (∀ g ∈ blks L K, w1.heap[g]? = w.heap[g]?) → VlO w1 B v d L K := by
  induction h using VlO.rc with
  | null => exact fun _ => .null
  | bool b => exact fun _ => .bool b
  | num n hn => exact fun _ => .num n hn
  | str s => exact fun _ => .str s
  | list a us ds L K hv hl hz hL hK he ih =>
    intro hb
    refine .list a us ds L K (hv.oth fun g hg => hb g (List.mem_append_left _ (blL_mem (q := (a, us)) (by simp) hg))) hl hz hL hK fun i u d l k h1 h2 h3 h4 => ih i u d l k h1 h2 h3 h4 fun g hg => hb g ?_
    exact blks_sub (fun x hx => List.mem_cons_of_mem _ (flat_sub h3 x hx)) (flat_sub h4) g hg
  | obj ks a kb us ds L K hk hv hl hz hL hK he ih =>
    intro hb
    refine .obj ks a kb us ds L K (hk.oth fun g hg => hb g (List.mem_append_right _ (blK_mem (q := (ks, kb)) (by simp) hg))) (hv.oth fun g hg => hb g (List.mem_append_left _ (blL_mem (q := (a, us)) (by simp) hg))) hl hz hL hK fun i u d l k h1 h2 h3 h4 => ih i u d l k h1 h2 h3 h4 fun g hg => hb g ?_
    exact blks_sub (fun x hx => List.mem_cons_of_mem _ (flat_sub h3 x hx)) (fun x hx => List.mem_cons_of_mem _ (flat_sub h4 x hx)) g hg
theorem VlO.le {w : World} {B B' : Nat} {v : Value} {d : Nd} {L : Lb} {K : Kb} (h : VlO w B v d L K) (hB : B' ≤ B) : VlO w B' v d L K := by
  induction h using VlO.rc with
  | null => exact .null
  | bool b => exact .bool b
  | num n hn => exact .num n hn
  | str s => exact .str s
  | list a us ds L K hv hl hz hL hK he ih => exact .list a us ds L K (hv.le hB) hl hz hL hK ih
  | obj ks a kb us ds L K hk hv hl hz hL hK he ih => exact .obj ks a kb us ds L K (hk.le hB) (hv.le hB) hl hz hL hK ih
end Go.Proofs.YtalnbddkhojjbaaGreatDoor
