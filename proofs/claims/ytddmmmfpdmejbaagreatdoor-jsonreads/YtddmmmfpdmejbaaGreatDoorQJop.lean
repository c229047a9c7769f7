import Derived.Test.YtddmmmfpdmejbaaGreatDoorQJsn
import Derived.Test.YtddmmmfpdmejbaaGreatDoorQRelk
namespace Go.Proofs.YtddmmmfpdmejbaaGreatDoor
open Go.RowKit

/-! Operations on whole nodes -/
@[go_sem] theorem rnA_size' (r : Rn) : (rnA r).size = 5 := by simp [rnA]
@[go_sem] theorem rnA_one (r : Rn) : OneC (rnA r) = true := by unfold OneC; simp [rnA, Sl.v, Value.oneCell']
@[go_sem] theorem nd_one (k n : Int) (s : ByteArray) (x y : Option Addr) (a b c d : Nat) : OneC #[.int .i64 k, .int .i64 n, .string s, .slice x a b, .slice y c d] = true := by simp [OneC, Value.oneCell']
theorem info_nd : (Tryz.prog.info? 41).map (fun i => (i.zero, i.size)) = some (some (.agg (rnA rnZ)), 5) := by kernel_rfl
theorem sizeT_nd : (Tryz.prog.info? 41).map (·.size) = some 5 := (zero_of_info info_nd).2
def ndBS (x : Value) : Sem Next := do pure (.value (← Instr.buildSlice 39 1 #[(0, x)]))
section
variable (ρ : Operand → Value) (dst : Option Tmp) (ty : TypeId) (pos : String) (after : Array Edge) (guard : Option (Nat × Bool))
@[go_sem ↓] theorem execOp_store_nd (x y : Operand) : execOp ρ { dst, op := .store 41 x y, type := ty, pos, after, guard } = bigStore 41 (ρ x) (ρ y) := rfl
@[go_sem ↓] theorem execOp_alloc_nd : execOp ρ { dst, op := .alloc 41, type := ty, pos, after, guard } = bigAlloc 41 := rfl
@[go_sem ↓] theorem execOp_load_nd (x : Operand) : execOp ρ { dst, op := .load 41 x, type := ty, pos, after, guard } = bigLoad 41 (ρ x) := rfl
@[go_sem ↓] theorem execOp_box_nd (x : Operand) : execOp ρ { dst, op := .box 41 x, type := ty, pos, after, guard } = bigBox 41 (ρ x) := rfl
@[go_sem ↓] theorem execOp_ndBS (x : Operand) : execOp ρ { dst, op := .buildSlice 39 1 #[(0, x)], type := ty, pos, after, guard } = ndBS (ρ x) := by simp [execOp, ndBS]
end
@[go_sem] theorem run_store_nd (w : World) (g : Nat) (c : Array Value) (h : rowL w g = true) (hs : (rowAt w g).size = 5) (hc : c.size = 5) (h1 : OneC c = true) : (bigStore 41 (.pointer (some ⟨g, 0, none⟩)) (.agg c)).run Tryz.prog w = .ok .skip (w.setRow g c) := by
  rw [run_bigStore 41 5 sizeT_nd w g 0 c h hc (by omega) h1, layC_all _ _ (by omega)]
@[go_sem] theorem run_alloc_nd (w : World) : (bigAlloc 41).run Tryz.prog w = .ok (.value (.pointer (some ⟨w.heap.size, 0, none⟩))) (w.alloc (.cells (rnA rnZ) 41)) := by
  simp only [bigAlloc, Instr.alloc, Sem.run_bind, (zero_of_info info_nd).1 w, Result.andThen_ok]
  rfl
@[go_sem] theorem run_load_nd (w : World) (g : Nat) (h : rowL w g = true) (hs : (rowAt w g).size = 5) : (bigLoad 41 (.pointer (some ⟨g, 0, none⟩))).run Tryz.prog w = .ok (.value (.agg (rowAt w g))) w := by
  rw [run_bigLoad 41 _ 5 Tryz.underlying41 rfl sizeT_nd w g 0 h (by omega), Nat.zero_add, Array.extract_eq_self_of_le (by omega)]
theorem run_load_el {w : World} {b o : Nat} {r : Rn} (h : w.rangeAt b o (ndE.enc r)) : (bigLoad 41 (.pointer (some ⟨b, o, none⟩))).run Tryz.prog w = .ok (.value (.agg (rnA r))) w := by
  have h9 := run_loadK ndE_ok h
  simp only [bigLoad, Sem.run_bind]
  rw [show (Instr.loadAt 41 (.pointer (some ⟨b, o, none⟩))).run Tryz.prog w = .ok (.agg (rnA r)) w from h9]
  rfl
@[go_sem] theorem run_box_nd (w : World) (r : Rn) : (bigBox 41 (.agg (rnA r))).run Tryz.prog w = .ok (.value (.pointer (some ⟨w.heap.size, 0, none⟩))) (w.alloc (.cells (rnA r) 41)) := run_bigBox _ _ w
@[go_sem] theorem run_ndBS (w : World) (r : Rn) : (ndBS (.agg (rnA r))).run Tryz.prog w = .ok (.value (.slice (some ⟨w.heap.size, 0, none⟩) 1 1)) (w.alloc (.cells (rnA r) 41)) := by
  have h := run_litK1 ndE_ok (by show 5 ≤ 1000; omega) w r
  have h2 : (Instr.buildSlice 39 1 #[(0, .agg (rnA r))]).run Tryz.prog w = .ok (.slice (some ⟨w.heap.size, 0, none⟩) 1 1) (w.alloc (.cells (rnA r) 41)) := h
  simp only [ndBS, Sem.run_bind, h2]
  rfl
/-- One result: a node out of its variable. -/
theorem nd_bodyPost1 {fn : Func} {R : Ending → World → Prop} {a : Act} {w : World} (p n : Nat) (c : Array Value) (hres : fn.results = #[.cell p 41]) (hp : a.tmps.getD p undef = .pointer (some ⟨n, 0, none⟩)) (hd : a.defers = [])
    (hok : RowC w n c) (hc : c.size = 5) (h : R (.returned (.agg c)) w) : bodyPost Tryz.prog fn R .ret a w := by
  obtain ⟨t, hg⟩ := row_of_L hok.1
  rw [hok.2] at hg
  have hp' : a.tmps[p]?.getD undef = .pointer (some ⟨n, 0, none⟩) := by simpa using hp
  have hl := run_loadVar_row (P := Tryz.prog) w n t 41 c (0, 0) _ hg Tryz.underlying41 rfl (by rw [sizeT_nd, hc])
  refine bodyPost_ret (v := .agg c) ?_ hd h
  simp [results, hres, hp', asAddr, hl]
theorem nd_bodyPost2 {fn : Func} {R : Ending → World → Prop} {a : Act} {w : World} (p q n : Nat) (c : Array Value) (hres : fn.results = #[.cell p 41, .tmp q]) (hp : a.tmps.getD p undef = .pointer (some ⟨n, 0, none⟩)) (hd : a.defers = [])
    (hok : RowC w n c) (hc : c.size = 5) (h : R (.returned (.tuple #[.agg c, a.tmps.getD q undef])) w) : bodyPost Tryz.prog fn R .ret a w := by
  obtain ⟨t, hg⟩ := row_of_L hok.1
  rw [hok.2] at hg
  have hp' : a.tmps[p]?.getD undef = .pointer (some ⟨n, 0, none⟩) := by simpa using hp
  have hl := run_loadVar_row (P := Tryz.prog) w n t 41 c (0, 0) _ hg Tryz.underlying41 rfl (by rw [sizeT_nd, hc])
  refine bodyPost_ret (v := .tuple #[.agg c, a.tmps.getD q undef]) ?_ hd h
  simp [results, hres, hp', asAddr, hl]
theorem nd_bodyPost3 {fn : Func} {R : Ending → World → Prop} {a : Act} {w : World} (p q q' n : Nat) (c : Array Value) (hres : fn.results = #[.cell p 41, .tmp q, .tmp q']) (hp : a.tmps.getD p undef = .pointer (some ⟨n, 0, none⟩)) (hd : a.defers = [])
    (hok : RowC w n c) (hc : c.size = 5) (h : R (.returned (.tuple #[.agg c, a.tmps.getD q undef, a.tmps.getD q' undef])) w) : bodyPost Tryz.prog fn R .ret a w := by
  obtain ⟨t, hg⟩ := row_of_L hok.1
  rw [hok.2] at hg
  have hp' : a.tmps[p]?.getD undef = .pointer (some ⟨n, 0, none⟩) := by simpa using hp
  have hl := run_loadVar_row (P := Tryz.prog) w n t 41 c (0, 0) _ hg Tryz.underlying41 rfl (by rw [sizeT_nd, hc])
  refine bodyPost_ret (v := .tuple #[.agg c, a.tmps.getD q undef, a.tmps.getD q' undef]) ?_ hd h
  simp [results, hres, hp', asAddr, hl]
/-! Steps that turn the reader and what is one's own -/
/-- Nothing below B has turned but the reader's block. -/
structure Kj (g B : Nat) (w w' : World) : Prop where
  os : w'.os = w.os
  tape : w'.tape = w.tape
  output : w'.output = w.output
  size : w.heap.size ≤ w'.heap.size
  block : ∀ b, b < w.heap.size → b < B → b ≠ g → w'.heap[b]? = w.heap[b]?
theorem Kj.trans {g B : Nat} {w w' w2 : World} (h : Kj g B w w') (k : Kj g B w' w2) : Kj g B w w2 :=
  ⟨k.os.trans h.os, k.tape.trans h.tape, k.output.trans h.output, Nat.le_trans h.size k.size, fun b h1 h2 h3 => (k.block b (Nat.lt_of_lt_of_le h1 h.size) h2 h3).trans (h.block b h1 h2 h3)⟩
theorem Kj.below {g B : Nat} {w w' : World} (h : Below w.heap.size w w') : Kj g B w w' := ⟨h.os, h.tape, h.output, h.size, fun b h1 _ _ => h.block b h1⟩
theorem kokJ {g B : Nat} : KOk (Kj g B) := ⟨Kj.below, Kj.trans⟩
theorem Kj.grown {g B : Nat} {w w' : World} (h : w.grownBy w' (some g)) : Kj g B w w' := ⟨h.os, h.tape, h.output, h.size, fun b h1 _ h3 => h.block b h1 (fun e => h3 (Option.some.inj e))⟩
theorem Kj.own {g B : Nat} {w w' : World} {o : Option Nat} (h : w.grownBy w' o) (ho : ∀ b, o = some b → B ≤ b) : Kj g B w w' := ⟨h.os, h.tape, h.output, h.size, fun b h1 h2 _ => h.block b h1 (fun e => by have := ho b e.symm; omega)⟩
theorem Kj.row {g B n : Nat} {c : Array Value} {w w' : World} (h : Kj g B w w') (hr : RowC w n c) (hn : n < B) (hg : n ≠ g) : RowC w' n c := hr.block (h.block n hr.lt hn hg)
theorem Kj.to {g B : Nat} {w w' : World} (h : Kj g B w w') (hB : w.heap.size ≤ B) : w.grownBy w' (some g) := ⟨h.os, h.tape, h.output, h.size, fun b h1 h2 => h.block b h1 (by omega) (fun e => h2 (by rw [e]))⟩
theorem Kj.cell {g B n i : Nat} {v : Value} {w w' : World} (h : Kj g B w w') (hc : w.cell? ⟨n, i, none⟩ = some v) (hn : n < B) (hg : n ≠ g) : w'.cell? ⟨n, i, none⟩ = some v := by
  have h1 := World.block_lt_of_cell? w _ hc
  unfold World.cell? at hc ⊢
  rw [h.block n h1 hn hg]; exact hc
theorem Kj.less {g B B' : Nat} {w w' : World} (h : Kj g B w w') (hB : B' ≤ B) : Kj g B' w w' := ⟨h.os, h.tape, h.output, h.size, fun b h1 h2 h3 => h.block b h1 (by omega) h3⟩
/-- A step that turns the row n of one's own alone. -/
theorem Kj.mine {g B n : Nat} {w w' : World} (h : w.grownBy w' (some n)) (hn : B ≤ n) : Kj g B w w' := Kj.own h (fun b e => by cases e; exact hn)
/-- What value() leaves. -/
def VlP (g : Nat) (L : Sl) (ts : List Tk) (en : Int) (w : World) (q : Nd × Ps) (e : Ending) (w' : World) : Prop := ∃ r, e = .returned (.agg (rnA r)) ∧ NdF w' (w.heap.size ≤ ·) r q.1 ∧ RdP g L ts en q.2 w w'
def ValOk (f : Nat) : Prop := ∀ (w : World) (g : Nat) (L : Sl) (ts : List Tk) (en : Int) (s : Ps), Rd w g L ts en s → okP ts none s → 2 * (ts.length - s.i) + 1 ≤ f → Calls Tryz.prog 42 #[.pointer (some ⟨g, 0, none⟩)] w fun e w' => VlP g L ts en w (prsF ts en f none s) e w'
/-- The list with one more behind it: what holds behind the call, the slice that is built, and append. -/
def IL1 (g : Nat) (L : Sl) (ts : List Tk) (en : Int) (q : Nd × Ps) (B : Nat) (X : Nat → Prop) (v : Sl) (rs : List Rn) (vs : List Nd) (r : Rn) (x : World) : Prop :=
  Rd x g L ts en q.2 ∧ LsO x B X v rs vs ∧ ∃ H, B ≤ H ∧ H ≤ x.heap.size ∧ (∀ b, v.v.ownBlock = some b → b < H) ∧ (∀ b, X b → b < H) ∧ NdF x (H ≤ ·) r q.1
def IL (g : Nat) (L : Sl) (ts : List Tk) (en : Int) (s : Ps) (q : Nd × Ps) (B : Nat) (X : Nat → Prop) (v : Sl) (rs : List Rn) (vs : List Nd) : List Value → World → Prop
  | [], x => Rd x g L ts en s ∧ LsO x B X v rs vs ∧ B ≤ x.heap.size ∧ (∀ b, X b → b < x.heap.size)
  | [a], x => ∃ r, a = .agg (rnA r) ∧ IL1 g L ts en q B X v rs vs r x
  | [_, c], x => ∃ r y, c = .slice (some ⟨y, 0, none⟩) 1 1 ∧ RowC x y (rnA r) ∧ IL1 g L ts en q B X v rs vs r x
  | [_, _, d], x => ∃ (r : Rn) (a : Sl), d = a.v ∧ Rd x g L ts en q.2 ∧ LsO x B X a (rs ++ [r]) (vs ++ [q.1])
  | _, _ => False
theorem LsO.later {w w1 : World} {B : Nat} {X : Nat → Prop} {v : Sl} {rs : List Rn} {vs : List Nd} (h : LsO w B X v rs vs) (hb : Below w.heap.size w w1) : LsO w1 B X v rs vs := h.ag hb.size (fun b _ _ hl => hb.block b hl)
theorem IL1_later {g : Nat} {L : Sl} {ts : List Tk} {en : Int} {q : Nd × Ps} {B : Nat} {X : Nat → Prop} {v : Sl} {rs : List Rn} {vs : List Nd} {r : Rn} {w w' : World} (h : IL1 g L ts en q B X v rs vs r w) (hb : Below w.heap.size w w') : IL1 g L ts en q B X v rs vs r w' := by
  obtain ⟨h1, h2, H, h3, h4, h5, h6, h7⟩ := h
  exact ⟨h1.stay hb, h2.later hb, H, h3, Nat.le_trans h4 hb.size, h5, h6, h7.kept hb⟩
theorem IL_later {g : Nat} {L : Sl} {ts : List Tk} {en : Int} {s : Ps} {q : Nd × Ps} {B : Nat} {X : Nat → Prop} {v : Sl} {rs : List Rn} {vs : List Nd} : ∀ us w w', IL g L ts en s q B X v rs vs us w → Below w.heap.size w w' → IL g L ts en s q B X v rs vs us w'
  | [], _, _, ⟨h1, h2, h3, h4⟩, hb => ⟨h1.stay hb, h2.later hb, Nat.le_trans h3 hb.size, fun b hx => Nat.lt_of_lt_of_le (h4 b hx) hb.size⟩
  | [_], _, _, ⟨r, e, h⟩, hb => ⟨r, e, IL1_later h hb⟩
  | [_, _], _, _, ⟨r, y, e, h, k⟩, hb => ⟨r, y, e, h.kept hb, IL1_later k hb⟩
  | [_, _, _], _, _, ⟨r, a, e, h, k⟩, hb => ⟨r, a, e, h.stay hb, k.later hb⟩
  | _ :: _ :: _ :: _ :: _, _, _, h, _ => h.elim
theorem IL.call {g : Nat} {L : Sl} {ts : List Tk} {en : Int} {s : Ps} {q : Nd × Ps} {B : Nat} {X : Nat → Prop} {v : Sl} {rs : List Rn} {vs : List Nd} {x x' : World} {r : Rn} (h : IL g L ts en s q B X v rs vs [] x) (hgB : g < B) (hN : NdF x' (x.heap.size ≤ ·) r q.1) (hR : RdP g L ts en q.2 x x') : IL g L ts en s q B X v rs vs [.agg (rnA r)] x' := by
  obtain ⟨h1, h2, h3, h4⟩ := h
  exact ⟨r, rfl, hR.1, h2.ag hR.2.size (fun b hB _ hl => hR.2.block b hl (fun e => by cases e; omega)), x.heap.size, h3, hR.2.size, fun b hb => (h2.lt b hb).2, h4, hN⟩
theorem IL.build {g : Nat} {L : Sl} {ts : List Tk} {en : Int} {s : Ps} {q : Nd × Ps} {B : Nat} {X : Nat → Prop} {v : Sl} {rs : List Rn} {vs : List Nd} {x : World} {r : Rn} (a : Value) (h : IL1 g L ts en q B X v rs vs r x) : IL g L ts en s q B X v rs vs [a, .slice (some ⟨x.heap.size, 0, none⟩) 1 1] (x.alloc (.cells (rnA r) 41)) :=
  ⟨r, x.heap.size, rfl, RowC.new _ _ _, IL1_later h (below_alloc _ _)⟩
theorem IL.app {g : Nat} {L : Sl} {ts : List Tk} {en : Int} {s : Ps} {q : Nd × Ps} {B : Nat} {X : Nat → Prop} {v : Sl} {rs : List Rn} {vs : List Nd} {x : World} {a c : Value} (ty : TypeId) (h : IL g L ts en s q B X v rs vs [a, c] x) (hgB : g < B) (hn : rs.length ≤ 1099511627776) :
    ∃ d x', (Builtin.append_ #[39, 39] ty #[v.v, c]).run Tryz.prog x = .ok d x' ∧ IL g L ts en s q B X v rs vs [a, c, d] x' ∧ Kj g B x x' := by
  obtain ⟨r, y, rfl, hy, hR, hL, H, h1, h2, h3, h4, h5⟩ := h
  obtain ⟨d, x', hrun, hO, hg, -⟩ := hL.app ty h1 hy h4 h3 h5 h2 (by omega)
  refine ⟨d.v, x', hrun, ⟨r, d, rfl, ?_, hO⟩, Kj.own hg (fun b e => (hL.lt b e).1)⟩
  have hne : v.v.ownBlock ≠ some g := fun e => by have := (hL.lt g e).1; omega
  exact ⟨hR.row.block (hg.block g hR.row.lt (fun e => hne e.symm)), hR.own.other14 fun b hb => hg.block b (World.ownsRow.lt hR.own b hb).2 (fun e => by have := hR.low b hb; have := (hL.lt b e.symm).1; omega), hR.low, hR.fit⟩
end Go.Proofs.YtddmmmfpdmejbaaGreatDoor
namespace Go.Proofs.YtddmmmfpdmejbaaGreatDoor
open Go.RowKit

/-! Type assertions on json's values -/
@[go_sem] theorem ta_Null_Null (v : Value) (w : World) : (Instr.typeAssert (.iface 65 v) 27 65 true).run Tryz.prog w = .ok (.tuple #[v, .bool true]) w := by kernel_rfl
@[go_sem] theorem ta_Null_Bool (v : Value) (w : World) : (Instr.typeAssert (.iface 65 v) 27 66 true).run Tryz.prog w = .ok (.tuple #[.bool false, .bool false]) w := by kernel_rfl
@[go_sem] theorem ta_Null_Num (v : Value) (w : World) : (Instr.typeAssert (.iface 65 v) 27 67 true).run Tryz.prog w = .ok (.tuple #[.int .i64 0, .bool false]) w := by kernel_rfl
@[go_sem] theorem ta_Null_Str (v : Value) (w : World) : (Instr.typeAssert (.iface 65 v) 27 54 true).run Tryz.prog w = .ok (.tuple #[.string ⟨#[]⟩, .bool false]) w := by kernel_rfl
@[go_sem] theorem ta_Null_List (v : Value) (w : World) : (Instr.typeAssert (.iface 65 v) 27 68 true).run Tryz.prog w = .ok (.tuple #[.slice none 0 0, .bool false]) w := by kernel_rfl
@[go_sem] theorem ta_Null_Object (v : Value) (w : World) : (Instr.typeAssert (.iface 65 v) 27 70 true).run Tryz.prog w = .ok (.tuple #[.agg #[.slice none 0 0, .slice none 0 0], .bool false]) w := by kernel_rfl
@[go_sem] theorem ta_Bool_Null (v : Value) (w : World) : (Instr.typeAssert (.iface 66 v) 27 65 true).run Tryz.prog w = .ok (.tuple #[.agg #[], .bool false]) w := by kernel_rfl
@[go_sem] theorem ta_Bool_Bool (v : Value) (w : World) : (Instr.typeAssert (.iface 66 v) 27 66 true).run Tryz.prog w = .ok (.tuple #[v, .bool true]) w := by kernel_rfl
@[go_sem] theorem ta_Bool_Num (v : Value) (w : World) : (Instr.typeAssert (.iface 66 v) 27 67 true).run Tryz.prog w = .ok (.tuple #[.int .i64 0, .bool false]) w := by kernel_rfl
@[go_sem] theorem ta_Bool_Str (v : Value) (w : World) : (Instr.typeAssert (.iface 66 v) 27 54 true).run Tryz.prog w = .ok (.tuple #[.string ⟨#[]⟩, .bool false]) w := by kernel_rfl
@[go_sem] theorem ta_Bool_List (v : Value) (w : World) : (Instr.typeAssert (.iface 66 v) 27 68 true).run Tryz.prog w = .ok (.tuple #[.slice none 0 0, .bool false]) w := by kernel_rfl
@[go_sem] theorem ta_Bool_Object (v : Value) (w : World) : (Instr.typeAssert (.iface 66 v) 27 70 true).run Tryz.prog w = .ok (.tuple #[.agg #[.slice none 0 0, .slice none 0 0], .bool false]) w := by kernel_rfl
@[go_sem] theorem ta_Num_Null (v : Value) (w : World) : (Instr.typeAssert (.iface 67 v) 27 65 true).run Tryz.prog w = .ok (.tuple #[.agg #[], .bool false]) w := by kernel_rfl
@[go_sem] theorem ta_Num_Bool (v : Value) (w : World) : (Instr.typeAssert (.iface 67 v) 27 66 true).run Tryz.prog w = .ok (.tuple #[.bool false, .bool false]) w := by kernel_rfl
@[go_sem] theorem ta_Num_Num (v : Value) (w : World) : (Instr.typeAssert (.iface 67 v) 27 67 true).run Tryz.prog w = .ok (.tuple #[v, .bool true]) w := by kernel_rfl
@[go_sem] theorem ta_Num_Str (v : Value) (w : World) : (Instr.typeAssert (.iface 67 v) 27 54 true).run Tryz.prog w = .ok (.tuple #[.string ⟨#[]⟩, .bool false]) w := by kernel_rfl
@[go_sem] theorem ta_Num_List (v : Value) (w : World) : (Instr.typeAssert (.iface 67 v) 27 68 true).run Tryz.prog w = .ok (.tuple #[.slice none 0 0, .bool false]) w := by kernel_rfl
@[go_sem] theorem ta_Num_Object (v : Value) (w : World) : (Instr.typeAssert (.iface 67 v) 27 70 true).run Tryz.prog w = .ok (.tuple #[.agg #[.slice none 0 0, .slice none 0 0], .bool false]) w := by kernel_rfl
@[go_sem] theorem ta_Str_Null (v : Value) (w : World) : (Instr.typeAssert (.iface 54 v) 27 65 true).run Tryz.prog w = .ok (.tuple #[.agg #[], .bool false]) w := by kernel_rfl
@[go_sem] theorem ta_Str_Bool (v : Value) (w : World) : (Instr.typeAssert (.iface 54 v) 27 66 true).run Tryz.prog w = .ok (.tuple #[.bool false, .bool false]) w := by kernel_rfl
@[go_sem] theorem ta_Str_Num (v : Value) (w : World) : (Instr.typeAssert (.iface 54 v) 27 67 true).run Tryz.prog w = .ok (.tuple #[.int .i64 0, .bool false]) w := by kernel_rfl
@[go_sem] theorem ta_Str_Str (v : Value) (w : World) : (Instr.typeAssert (.iface 54 v) 27 54 true).run Tryz.prog w = .ok (.tuple #[v, .bool true]) w := by kernel_rfl
@[go_sem] theorem ta_Str_List (v : Value) (w : World) : (Instr.typeAssert (.iface 54 v) 27 68 true).run Tryz.prog w = .ok (.tuple #[.slice none 0 0, .bool false]) w := by kernel_rfl
@[go_sem] theorem ta_Str_Object (v : Value) (w : World) : (Instr.typeAssert (.iface 54 v) 27 70 true).run Tryz.prog w = .ok (.tuple #[.agg #[.slice none 0 0, .slice none 0 0], .bool false]) w := by kernel_rfl
@[go_sem] theorem ta_List_Null (v : Value) (w : World) : (Instr.typeAssert (.iface 68 v) 27 65 true).run Tryz.prog w = .ok (.tuple #[.agg #[], .bool false]) w := by kernel_rfl
@[go_sem] theorem ta_List_Bool (v : Value) (w : World) : (Instr.typeAssert (.iface 68 v) 27 66 true).run Tryz.prog w = .ok (.tuple #[.bool false, .bool false]) w := by kernel_rfl
@[go_sem] theorem ta_List_Num (v : Value) (w : World) : (Instr.typeAssert (.iface 68 v) 27 67 true).run Tryz.prog w = .ok (.tuple #[.int .i64 0, .bool false]) w := by kernel_rfl
@[go_sem] theorem ta_List_Str (v : Value) (w : World) : (Instr.typeAssert (.iface 68 v) 27 54 true).run Tryz.prog w = .ok (.tuple #[.string ⟨#[]⟩, .bool false]) w := by kernel_rfl
@[go_sem] theorem ta_List_List (v : Value) (w : World) : (Instr.typeAssert (.iface 68 v) 27 68 true).run Tryz.prog w = .ok (.tuple #[v, .bool true]) w := by kernel_rfl
@[go_sem] theorem ta_List_Object (v : Value) (w : World) : (Instr.typeAssert (.iface 68 v) 27 70 true).run Tryz.prog w = .ok (.tuple #[.agg #[.slice none 0 0, .slice none 0 0], .bool false]) w := by kernel_rfl
@[go_sem] theorem ta_Object_Null (v : Value) (w : World) : (Instr.typeAssert (.iface 70 v) 27 65 true).run Tryz.prog w = .ok (.tuple #[.agg #[], .bool false]) w := by kernel_rfl
@[go_sem] theorem ta_Object_Bool (v : Value) (w : World) : (Instr.typeAssert (.iface 70 v) 27 66 true).run Tryz.prog w = .ok (.tuple #[.bool false, .bool false]) w := by kernel_rfl
@[go_sem] theorem ta_Object_Num (v : Value) (w : World) : (Instr.typeAssert (.iface 70 v) 27 67 true).run Tryz.prog w = .ok (.tuple #[.int .i64 0, .bool false]) w := by kernel_rfl
@[go_sem] theorem ta_Object_Str (v : Value) (w : World) : (Instr.typeAssert (.iface 70 v) 27 54 true).run Tryz.prog w = .ok (.tuple #[.string ⟨#[]⟩, .bool false]) w := by kernel_rfl
@[go_sem] theorem ta_Object_List (v : Value) (w : World) : (Instr.typeAssert (.iface 70 v) 27 68 true).run Tryz.prog w = .ok (.tuple #[.slice none 0 0, .bool false]) w := by kernel_rfl
@[go_sem] theorem ta_Object_Object (v : Value) (w : World) : (Instr.typeAssert (.iface 70 v) 27 70 true).run Tryz.prog w = .ok (.tuple #[v, .bool true]) w := by kernel_rfl
@[go_sem] theorem ta_nil_Null (w : World) : (Instr.typeAssert .nilIface 27 65 true).run Tryz.prog w = .ok (.tuple #[.agg #[], .bool false]) w := by kernel_rfl
@[go_sem] theorem ta_nil_Bool (w : World) : (Instr.typeAssert .nilIface 27 66 true).run Tryz.prog w = .ok (.tuple #[.bool false, .bool false]) w := by kernel_rfl
@[go_sem] theorem ta_nil_Num (w : World) : (Instr.typeAssert .nilIface 27 67 true).run Tryz.prog w = .ok (.tuple #[.int .i64 0, .bool false]) w := by kernel_rfl
@[go_sem] theorem ta_nil_Str (w : World) : (Instr.typeAssert .nilIface 27 54 true).run Tryz.prog w = .ok (.tuple #[.string ⟨#[]⟩, .bool false]) w := by kernel_rfl
@[go_sem] theorem ta_nil_List (w : World) : (Instr.typeAssert .nilIface 27 68 true).run Tryz.prog w = .ok (.tuple #[.slice none 0 0, .bool false]) w := by kernel_rfl
@[go_sem] theorem ta_nil_Object (w : World) : (Instr.typeAssert .nilIface 27 70 true).run Tryz.prog w = .ok (.tuple #[.agg #[.slice none 0 0, .slice none 0 0], .bool false]) w := by kernel_rfl
end Go.Proofs.YtddmmmfpdmejbaaGreatDoor
namespace Go.Proofs.YtddmmmfpdmejbaaGreatDoor
open Go.RowKit

/-! assayref15.Reader: list -/
theorem alloc_sz (w : World) (o : Obj) : (w.alloc o).heap.size = w.heap.size + 1 := by show (w.heap.push o).size = _; simp
theorem grown_setRow (w : World) (n : Nat) (c : Array Value) : w.grownBy (w.setRow n c) (some n) :=
  ⟨rfl, rfl, rfl, by simp [World.setRow], fun k _ hne => setRow_other w n k c (fun e => hne (by rw [e]))⟩
theorem Rd.other {w w' : World} {g : Nat} {L : Sl} {ts : List Tk} {en : Int} {s : Ps} (h : Rd w g L ts en s) (hb : ∀ b, b ≤ g → b < w.heap.size → w'.heap[b]? = w.heap[b]?) : Rd w' g L ts en s :=
  ⟨h.row.block (hb g (Nat.le_refl _) h.row.lt), h.own.other14 fun b hb9 => hb b (Nat.le_of_lt (h.low b hb9)) (World.ownsRow.lt h.own b hb9).2, h.low, h.fit⟩
theorem lst_end {g n0 g2 B : Nat} {L : Sl} {ts : List Tk} {en : Int} {t : Ps} {w w9 w8 : World} {r : Rn} {d : Nd} (hK9 : Kj g n0 w w9) (hn : w.heap.size = n0) (hG : w9.grownBy w8 (some g)) (hR : Rd w8 g L ts en t) (h2n : n0 ≤ g2) (hN : NdF w8 (B ≤ ·) r d) (hB : g2 < B) (hgn : g < n0) :
    VlP g L ts en w (d, t) (.returned (.agg (rnA r))) (w8.setRow g2 (rnA r)) := by
  have hs := grown_setRow w8 g2 (rnA r)
  have hK : Kj g n0 w (w8.setRow g2 (rnA r)) := (hK9.trans (Kj.grown hG)).trans (Kj.mine hs h2n)
  refine ⟨r, rfl, (hN.ag hs.size fun b hb hl => hs.block b hl (fun e => by cases e; omega)).mono (fun b hb => by omega), hR.other fun b hb hl => hs.block b hl (fun e => by cases e; omega), hK.to (by omega)⟩
def rdI (w : World) (g : Nat) : Nat := match w.cell? ⟨g, 2, none⟩ with | some (.int _ n) => n.toNat | _ => 0
theorem Rd.rdI {w : World} {g : Nat} {L : Sl} {ts : List Tk} {en : Int} {s : Ps} (h : Rd w g L ts en s) : rdI w g = s.i := by
  have := h.cells.2.2.1
  show (match w.cell? ⟨g, 2, none⟩ with | some (.int _ n) => n.toNat | _ => 0) = s.i
  rw [this]; simp
theorem rnA_vs (r : Rn) (a : Sl) : (rnA r).setIfInBounds 4 a.v = rnA { r with vs := a } := rfl
theorem rnA_ks (r : Rn) (a : Sl) : (rnA r).setIfInBounds 3 a.v = rnA { r with ks := a } := rfl
/-- What holds ahead of each comma. -/
def LInv (f n0 g g2 g3 B : Nat) (L : Sl) (ts : List Tk) (en : Int) (w : World) (R : Nd × Ps) (wr : World) : Prop :=
  ∃ (t : Ps) (acc : List Nd) (rs : List Rn) (v : Sl) (f' : Nat), Rd wr g L ts en t ∧ LsO wr B (fun _ => False) v rs acc ∧ RowC wr g3 (rnA ⟨5, 0, ⟨#[]⟩, slZ, v⟩) ∧ RowC wr g2 (rnA rnZ) ∧ Kj g n0 w wr ∧ B ≤ wr.heap.size ∧
    t.i ≤ ts.length ∧ t.op ≤ t.i ∧ 1 ≤ t.op ∧ acc.length ≤ t.i ∧ f' < f ∧ 2 * (ts.length - t.i) ≤ f' ∧ lstE ts en (prsF ts en f') acc t = R
/-- The list is stored into its node. -/
theorem lst_store {n0 g g2 g3 B : Nat} {L : Sl} {ts : List Tk} {en : Int} {t : Ps} {w x : World} {X : Nat → Prop} {a v : Sl} {rs : List Rn} {vs : List Nd} {k n : Int} {s : ByteArray} {ks : Sl} (hR : Rd x g L ts en t) (hL : LsO x B X a rs vs) (h3 : RowC x g3 (rnA ⟨k, n, s, ks, v⟩)) (h2 : RowC x g2 (rnA rnZ)) (hK : Kj g n0 w x) (hB : B ≤ x.heap.size) (e1 : g < g3) (e2 : g2 ≠ g3) (e3 : g3 < B) (e4 : n0 ≤ g3) :
    Rd (x.setCell ⟨g3, 4, none⟩ a.v) g L ts en t ∧ LsO (x.setCell ⟨g3, 4, none⟩ a.v) B X a rs vs ∧ RowC (x.setCell ⟨g3, 4, none⟩ a.v) g3 (rnA ⟨k, n, s, ks, a⟩) ∧ RowC (x.setCell ⟨g3, 4, none⟩ a.v) g2 (rnA rnZ) ∧ Kj g n0 w (x.setCell ⟨g3, 4, none⟩ a.v) ∧ B ≤ (x.setCell ⟨g3, 4, none⟩ a.v).heap.size := by
  have hs := grown_set1 x g3 4 a.v
  exact ⟨hR.other fun b hb hl => hs.block b hl (fun e => by cases e; omega), hL.ag hs.size (fun b hb _ hl => hs.block b hl (fun e => by cases e; omega)), h3.set 4 a.v, h2.set_ne 4 _ e2.symm, hK.trans (Kj.mine hs e4), Nat.le_trans hB hs.size⟩
set_option linter.unusedSimpArgs false in
set_option maxRecDepth 100000 in
set_option maxHeartbeats 8000000 in
theorem rdList_any (f : Nat) (hV : ∀ f', f' < f → ValOk f') (w : World) (g : Nat) (L : Sl) (ts : List Tk) (en : Int) (s : Ps) (h : Rd w g L ts en s) (hi1 : s.i ≤ ts.length) (hop : s.op + 1 ≤ s.i) (hf : 2 * (ts.length - s.i) + 2 ≤ f) : Calls Tryz.prog 69 #[.pointer (some ⟨g, 0, none⟩)] w fun e w' => VlP g L ts en w (lstB ts (prsF ts en f) s) e w' := by
  have hfit := h.fit
  have hg0 := h.row.lt
  obtain ⟨R, hR⟩ : ∃ q, lstB ts (prsF ts en f) s = q := ⟨_, rfl⟩
  rw [hR]
  unfold lstB at hR
  obtain ⟨n0, hn0⟩ : ∃ q, w.heap.size = q := ⟨_, rfl⟩
  rw [hn0] at hg0
  go_enter Tryz.func69, Tryz.ntmps69
  go_upto_region 2 with fail
  have b1 := below_alloc w (.cells (rnA rnZ) 41)
  have b2 := below_alloc (w.alloc (.cells (rnA rnZ) 41)) (.cells #[.int .i64 5, .int .i64 0, .string ⟨#[]⟩, .slice none 0 0, .slice none 0 0] 41)
  have h2 := (RowC.new w (rnA rnZ) 41).kept b2
  have h3 : RowC _ _ (rnA ⟨5, 0, ⟨#[]⟩, slZ, slZ⟩) := RowC.new (w.alloc (.cells (rnA rnZ) 41)) #[.int .i64 5, .int .i64 0, .string ⟨#[]⟩, .slice none 0 0, .slice none 0 0] 41
  have hsz : ((w.alloc (.cells (rnA rnZ) 41)).alloc (.cells #[.int .i64 5, .int .i64 0, .string ⟨#[]⟩, .slice none 0 0, .slice none 0 0] 41)).heap.size = n0 + 2 := by rw [alloc_sz, alloc_sz, hn0]
  have hbY := b1.trans (b2.mono b1.size)
  have hRY := h.stay hbY
  have hsz1 : (w.alloc (.cells (rnA rnZ) 41)).heap.size = n0 + 1 := by rw [alloc_sz, hn0]
  rw [hsz1] at h3
  rw [hn0] at h2
  clear b1 b2 hsz1
  generalize (w.alloc (.cells (rnA rnZ) 41)).alloc (.cells #[.int .i64 5, .int .i64 0, .string ⟨#[]⟩, .slice none 0 0, .slice none 0 0] 41) = Y at h2 h3 hsz hbY hRY ⊢
  have hKY : Kj g n0 w Y := Kj.below hbY
  obtain ⟨g2, hg2e⟩ : ∃ q, n0 = q := ⟨_, rfl⟩
  obtain ⟨g3, hg3e⟩ : ∃ q, n0 + 1 = q := ⟨_, rfl⟩
  obtain ⟨B, hBe⟩ : ∃ q, n0 + 2 = q := ⟨_, rfl⟩
  rw [hg3e] at h3 ⊢
  rw [hg2e]
  rw [hBe] at hsz
  have h2' : RowC Y g2 (rnA rnZ) := by rw [← hg2e]; exact h2
  have hng : g3 ≠ g := by omega
  have hg2 : g2 ≠ g := by omega
  have hgB : g < B := by omega
  have hnB : g3 < B := by omega
  have hgB2 : g2 < B := by omega
  have hO := rdOpen_any Y g L ts en s hRY (by omega) hi1 (by omega)
  go_wp2_with fail
  refine hO.mono ?_
  rintro e w1 ⟨rfl, hR1, hG1⟩
  clear hO hRY
  have h31 := h3.block (hG1.block g3 h3.lt (fun e => by cases e; omega))
  have h21 := h2'.block (hG1.block g2 h2'.lt (fun e => by cases e; omega))
  have hK1 := hKY.trans (Kj.grown hG1)
  have hs1 := hG1.size
  clear h2 h2' h3 hKY hG1
  have hI := rdIs_any w1 g L ts en (opnP ts s) 4 hR1
  go_wp2_with fail
  refine hI.mono ?_
  rintro e w2 ⟨rfl, hR2, hG2⟩
  clear hI hR1
  have h32 := h31.block (hG2.block g3 h31.lt (fun e => by cases e; omega))
  have h22 := h21.block (hG2.block g2 h21.lt (fun e => by cases e; omega))
  have hK2 := hK1.trans (Kj.grown hG2)
  have hs2 := hG2.size
  clear h31 h21 hK1 hG2
  unfold stpP at hR2
  cases h4 : isP ts 4 (opnP ts s) with
  | true =>
    rw [h4] at hR hR2
    simp only [cond_true] at hR hR2
    have HOP : Hid (1 ≤ (advP (opnP ts s)).op ∧ (advP (opnP ts s)).op ≤ 1099511627777) := by show _ ∧ _; simp; omega
    have HE9 : Hid (R = (Nd.mk 5 0 [] [] [], clsP (advP (opnP ts s)))) := hR.symm
    obtain ⟨t9, ht9⟩ : ∃ q, advP (opnP ts s) = q := ⟨_, rfl⟩
    rw [ht9] at HE9 hR2 HOP
    have hN9 : NdF w2 (B ≤ ·) ⟨5, 0, ⟨#[]⟩, slZ, slZ⟩ (.mk 5 0 [] [] []) := NdF.plain w2 _ 5 0 ⟨#[]⟩
    obtain ⟨r9, hr9⟩ : ∃ q : Rn, ⟨5, 0, ⟨#[]⟩, slZ, slZ⟩ = q := ⟨_, rfl⟩
    obtain ⟨d9, hd9⟩ : ∃ q, Nd.mk 5 0 [] [] [] = q := ⟨_, rfl⟩
    rw [hr9] at hN9 h32
    rw [hd9] at hN9 HE9
    have hR9 := hR2
    have h39 := h32
    have h29 := h22
    have hK9 := hK2
    clear hR2 h32 h22 hK2 hr9 hd9 ht9 hR h4 hV h
    generalize w2 = w9 at *
    have hcf := hR9.cells.2.2.2.2.2
    have hzf := hR9.row.frozen 5
    have hw9 : IntKind.i64.wrap ((t9.op : Int) - 1) = ((t9.op - 1 : Nat) : Int) := by
      have h99 : 1 ≤ t9.op ∧ t9.op ≤ 1099511627777 := HOP.out
      rw [IntKind.wrap_i64]; omega
    have h91 := RdP.set hR9 5 (.int .i64 ((t9.op - 1 : Nat) : Int)) (rdA_op L en t9 (t9.op - 1))
    have hc31 : RowC (w9.setCell ⟨g, 5, none⟩ (.int .i64 ((t9.op - 1 : Nat) : Int))) g3 (rnA r9) := h39.set_ne 5 _ hng.symm
    have hc21 : RowC (w9.setCell ⟨g, 5, none⟩ (.int .i64 ((t9.op - 1 : Nat) : Int))) g2 (rnA rnZ) := h29.set_ne 5 _ hg2.symm
    have HG9 : Hid (w9.grownBy (w9.setCell ⟨g, 5, none⟩ (.int .i64 ((t9.op - 1 : Nat) : Int))) (some g)) := h91.2
    have HN9 : Hid (NdF (w9.setCell ⟨g, 5, none⟩ (.int .i64 ((t9.op - 1 : Nat) : Int))) (B ≤ ·) r9 d9) := hN9.ag h91.2.size (fun b hb hl => h91.2.block b hl (fun e => by cases e; omega))
    have HR9 : Hid (Rd (w9.setCell ⟨g, 5, none⟩ (.int .i64 ((t9.op - 1 : Nat) : Int))) g L ts en (clsP t9)) := h91.1
    have HK9 : Hid (Kj g n0 w w9) := hK9
    clear h91 hN9 hR9 h39 h29 hK9
    go_upto_region 9 with fail
    generalize w9.setCell ⟨g, 5, none⟩ (.int .i64 ((t9.op - 1 : Nat) : Int)) = w8 at hc31 hc21 HG9 HN9 HR9 ⊢
    obtain ⟨a1, a2⟩ := id hc31
    obtain ⟨b1, b2⟩ := id hc21
    have a3 : (rowAt w8 g3).size = 5 := by rw [a2]; rfl
    have b3 : (rowAt w8 g2).size = 5 := by rw [b2]; rfl
    go_wp2
    exact nd_bodyPost1 2 g2 (rnA r9) rfl rfl rfl (RowC.setRow hc21 _) rfl (by rw [HE9.out]; exact lst_end HK9.out hn0 HG9.out HR9.out (by omega) HN9.out hgB2 hg0)
  | false =>
    rw [h4] at hR hR2
    simp only [cond_false] at hR hR2
    clear h4
    obtain ⟨f1, rfl⟩ : ∃ q, f = q + 1 := ⟨f - 1, by omega⟩
    rw [prsF, List.nil_append] at hR
    have hok : okP ts none (opnP ts s) := ⟨by simp; omega, by simp; omega, trivial⟩
    have hfl : 2 * (ts.length - (opnP ts s).i) + 1 ≤ f1 := by simp; omega
    have hval := fun x hx => hV f1 (by omega) x g L ts en (opnP ts s) hx hok hfl
    have hle := prsF_ok ts en f1 none (opnP ts s) hfl hok
    obtain ⟨le1, le2, le3⟩ := hle
    simp at le1 le3
    have c4 : w2.cell? ⟨g3, 4, none⟩ = some (.slice none 0 0) := h32.cell 4
    have HI0 : Hid (IL g L ts en (opnP ts s) (prsF ts en f1 none (opnP ts s)) B (fun _ => False) slZ [] [] [] w2) := ⟨hR2, LsO.nil _ _ _, by omega, fun b hb => hb.elim⟩
    have H32 : Hid _ := h32
    have H22 : Hid _ := h22
    have HK2 : Hid _ := hK2
    have HRR : Hid _ := hR
    obtain ⟨q, hq⟩ : ∃ q, prsF ts en f1 none (opnP ts s) = q := ⟨_, rfl⟩
    rw [hq] at HI0 HRR le1 le2 le3
    simp only [hq] at hval
    have hRdS := hR2
    clear hR2 h22 hK2 hR h32 hq
    go_upto_region 4 with fail
    refine wp_reliesI (kokJ (g := g) (B := B)) (IL g L ts en (opnP ts s) (q) B (fun _ => False) slZ [] []) [3, 4, 5] [none, none, none, some (0, [], []), some (1, [], []), some (2, [], []), none] [Fx (.pointer (some ⟨g3, 4, none⟩)), Fx (.slice none 0 0), Fx (.pointer (some ⟨g, 0, none⟩)), (fun _ _ => True), (fun _ _ => True), (fun _ _ => True), Fx (.pointer (some ⟨g3, 4, none⟩))] rfl (by decide) rfl (by kernel_rfl) (by kernel_rfl) (by kernel_rfl) (by exact HI0.out) IL_later ?_ ?_ ?_ ?_
    · repeat' (first | exact all_nil | apply all_cons)
      all_goals intro v y y' hv hb
      all_goals first | exact Fx_mono _ _ _ _ hv hb | exact trivial
    · intro i9 f9 hf9 hl9 v y y' hv hb
      rcases i9 with _ | i9
      · first | (cases hl9; done) | (cases hf9; first | exact hv | exact trivial)
      rcases i9 with _ | i9
      · first | (cases hl9; done) | (cases hf9; first | exact hv | exact trivial)
      rcases i9 with _ | i9
      · first | (cases hl9; done) | (cases hf9; first | exact hv | exact trivial)
      rcases i9 with _ | i9
      · first | (cases hl9; done) | (cases hf9; first | exact hv | exact trivial)
      rcases i9 with _ | i9
      · first | (cases hl9; done) | (cases hf9; first | exact hv | exact trivial)
      rcases i9 with _ | i9
      · first | (cases hl9; done) | (cases hf9; first | exact hv | exact trivial)
      rcases i9 with _ | i9
      · first | (cases hl9; done) | (cases hf9; first | exact hv | exact trivial)
      · simp at hf9
    · refine ⟨?_, ?_, ?_, ?_, ?_, ?_, ?_, trivial⟩
      all_goals
        intro ρ x hk hat ρc ρg ρf ho hd
        have o0 : ρ (.tmp 0) = .pointer (some ⟨g, 0, none⟩) := ho 0 rfl
        have o3 : ρ (.tmp 3) = .pointer (some ⟨g3, 0, none⟩) := ho 3 rfl
        clear ho
        have kb := hk.cell c4 hnB hng
        simp only [depsR, depR, slotR, Fx, List.getElem?_cons_succ, List.getElem?_cons_zero, Region.binds, forall_const] at hd
        simp only [guardR, List.contains_cons, List.contains_nil, List.elem_cons, List.elem_nil, Nat.reduceBEq, Bool.or_false, Bool.false_or, Bool.or_true, Bool.true_or, cond_true, cond_false]
        go_split_ands
      · go_simp
      · go_simp
      · go_simp
      · go_simp
        have hat0 : IL g L ts en (opnP ts s) (q) B (fun _ => False) slZ [] [] [] x := hat
        refine (hval x hat0.1).mono ?_
        rintro e x' ⟨r9, rfl, hN9, hR9⟩
        exact ⟨_, rfl, ⟨trivial, IL.call hat0 hgB hN9 hR9⟩, Kj.grown hR9.2⟩
      · have hat1 : IL g L ts en (opnP ts s) (q) B (fun _ => False) slZ [] [] [ρ (.tmp 13)] x := hat
        obtain ⟨r9, e9, h9⟩ := hat1
        go_simp
        exact ⟨⟨trivial, IL.build _ h9⟩, Kj.below (below_alloc _ _)⟩
      · have hat2 : IL g L ts en (opnP ts s) (q) B (fun _ => False) slZ [] [] [ρ (.tmp 13), ρ (.tmp 14)] x := hat
        have hd1 : ρ (.tmp 11) = .slice none 0 0 := by first | assumption | exact hd.1
        obtain ⟨d9, x9, hr9, i9, k9⟩ := hat2.app 39 hgB (Nat.zero_le _)
        have hr8 : (Builtin.append_ #[39, 39] 39 #[.slice none 0 0, ρ (.tmp 14)]).run Tryz.prog x = .ok d9 x9 := hr9
        rw [BigFrame.execOp_builtin, BigFrame.builtin_append]
        simp only [List.map_toArray, List.map_cons, List.map_nil, hd1, hr8, Sem.run_bind, Result.andThen_ok, Sem.run_pure, okUponD_some]
        exact ⟨⟨trivial, i9⟩, k9⟩
      · go_simp
    · intro us x1 hk hw hI
      simp only [owed, Fx] at hw
      obtain ⟨e0, e1, e2, e3, e4, e5, e6, -⟩ := hw
      simp only [List.length_cons, List.length_nil, List.take_succ_cons, List.take_zero, List.drop_succ_cons, List.drop_zero, asg, List.cons_append, List.nil_append, e0, e1, e2, e6]
      clear e0 e1 e2 e6 e3 e4 e5
      obtain ⟨r9, ⟨xa, na, ca⟩, e9, hR3, hL3⟩ : IL g L ts en (opnP ts s) q B (fun _ => False) slZ [] [] [us 3, us 4, us 5] x1 := hI
      have h33 := hk.row H32.out hnB hng
      obtain ⟨k1, k2, k3, k4, k5, k6⟩ := lst_store hR3 hL3 h33 (hk.row H22.out hgB2 hg2) (HK2.out.trans (hk.less (by omega : n0 ≤ B))) (by have := hk.size; omega) (by omega) (by omega) hnB (by omega)
      have c44 := h33.cell 4
      have z44 := h33.frozen 4
      replace c44 : x1.cell? ⟨g3, 4, none⟩ = some (.slice none 0 0) := c44
      simp only [Sl.v] at e9 k1 k2 k3 k4 k5 k6
      simp only [e9]
      have HL : Hid (LInv (f1 + 1) n0 g g2 g3 B L ts en w R (x1.setCell ⟨g3, 4, none⟩ (.slice xa na ca))) := ⟨q.2, [q.1], [r9], ⟨xa, na, ca⟩, f1, k1, k2, k3, k4, k5, k6, le2, by rw [le3]; omega, by omega, by simp; omega, by omega, by omega, HRR.out⟩
      clear k1 k2 k3 k4 k5 k6 hL3 hR3 HI0 H32 H22 HK2 HRR h33 e9 hk hval hRdS
      go_wp2_with fail
      generalize x1.setCell ⟨g3, 4, none⟩ (.slice xa na ca) = Z at HL ⊢
      go_loopw [17] (fun _ wr => LInv (f1 + 1) n0 g g2 g3 B L ts en w R wr) (fun _ wr => ts.length - rdI wr g)
      case atStart => exact HL.out
      case round =>
        clear HL
        obtain ⟨t, acc, rs, ⟨xv, nv, cv⟩, f', hRt, hLt, h3t, h2t, hKt, hBt, m1, m2, m3, m4, m5, m6, m7⟩ := hrel
        have hI := rdIs_any wr g L ts en t 6 hRt
        have hri := hRt.rdI
        go_wp2_with fail
        refine hI.mono ?_
        rintro e w3 ⟨rfl, hR3, hG3⟩
        clear hI hRt
        have h33 := h3t.block (hG3.block g3 h3t.lt (fun e => by cases e; omega))
        have h23 := h2t.block (hG3.block g2 h2t.lt (fun e => by cases e; omega))
        have hL3 := hLt.ag hG3.size (fun b hb _ hl => hG3.block b hl (fun e => by cases e; omega))
        have hK3 := hKt.trans (Kj.grown hG3)
        have hs3 := hG3.size
        clear hLt h3t h2t hKt hG3
        unfold stpP at hR3
        unfold lstE at m7
        cases h6 : isP ts 6 t with
        | true =>
          have hi6 := (isP_spec h6).2.1
          rw [h6] at hR3 m7
          simp only [cond_true] at hR3 m7
          clear h6
          obtain ⟨f2, rfl⟩ : ∃ q, f' = q + 1 := ⟨f' - 1, by omega⟩
          rw [prsF] at m7
          have hok : okP ts none (advP t) := ⟨by simp; omega, by simp; omega, trivial⟩
          have hfl : 2 * (ts.length - (advP t).i) + 1 ≤ f2 := by simp; omega
          have hval := fun x hx => hV f2 (by omega) x g L ts en (advP t) hx hok hfl
          obtain ⟨le1, le2, le3⟩ := prsF_ok ts en f2 none (advP t) hfl hok
          simp at le1 le3
          have c4 : w3.cell? ⟨g3, 4, none⟩ = some (.slice xv nv cv) := h33.cell 4
          have HI0 : Hid (IL g L ts en (advP t) (prsF ts en f2 none (advP t)) B (fun _ => False) ⟨xv, nv, cv⟩ rs acc [] w3) := ⟨hR3, hL3, by omega, fun b hb => hb.elim⟩
          have hrl : rs.length ≤ 1099511627776 := by rw [hL3.len]; omega
          have H32 : Hid _ := h33
          have H22 : Hid _ := h23
          have HK2 : Hid _ := hK3
          have HRR : Hid _ := m7
          obtain ⟨q, hq⟩ : ∃ q, prsF ts en f2 none (advP t) = q := ⟨_, rfl⟩
          rw [hq] at HI0 HRR le1 le2 le3
          simp only [hq] at hval
          clear hR3 h23 hK3 m7 h33 hq hL3
          go_upto_region 6 with fail
          refine wp_reliesI (kokJ (g := g) (B := B)) (IL g L ts en (advP t) (q) B (fun _ => False) ⟨xv, nv, cv⟩ rs acc) [3, 4, 5] [none, none, none, some (0, [], []), some (1, [], []), some (2, [], []), none] [Fx (.pointer (some ⟨g3, 4, none⟩)), Fx (.slice xv nv cv), Fx (.pointer (some ⟨g, 0, none⟩)), (fun _ _ => True), (fun _ _ => True), (fun _ _ => True), Fx (.pointer (some ⟨g3, 4, none⟩))] rfl (by decide) rfl (by kernel_rfl) (by kernel_rfl) (by kernel_rfl) (by exact HI0.out) IL_later ?_ ?_ ?_ ?_
          · repeat' (first | exact all_nil | apply all_cons)
            all_goals intro v y y' hv hb
            all_goals first | exact Fx_mono _ _ _ _ hv hb | exact trivial
          · intro i9 f9 hf9 hl9 v y y' hv hb
            rcases i9 with _ | i9
            · first | (cases hl9; done) | (cases hf9; first | exact hv | exact trivial)
            rcases i9 with _ | i9
            · first | (cases hl9; done) | (cases hf9; first | exact hv | exact trivial)
            rcases i9 with _ | i9
            · first | (cases hl9; done) | (cases hf9; first | exact hv | exact trivial)
            rcases i9 with _ | i9
            · first | (cases hl9; done) | (cases hf9; first | exact hv | exact trivial)
            rcases i9 with _ | i9
            · first | (cases hl9; done) | (cases hf9; first | exact hv | exact trivial)
            rcases i9 with _ | i9
            · first | (cases hl9; done) | (cases hf9; first | exact hv | exact trivial)
            rcases i9 with _ | i9
            · first | (cases hl9; done) | (cases hf9; first | exact hv | exact trivial)
            · simp at hf9
          · refine ⟨?_, ?_, ?_, ?_, ?_, ?_, ?_, trivial⟩
            all_goals
              intro ρ x hk hat ρc ρg ρf ho hd
              have o0 : ρ (.tmp 0) = .pointer (some ⟨g, 0, none⟩) := ho 0 rfl
              have o3 : ρ (.tmp 3) = .pointer (some ⟨g3, 0, none⟩) := ho 3 rfl
              clear ho
              have kb := hk.cell c4 hnB hng
              simp only [depsR, depR, slotR, Fx, List.getElem?_cons_succ, List.getElem?_cons_zero, Region.binds, forall_const] at hd
              simp only [guardR, List.contains_cons, List.contains_nil, List.elem_cons, List.elem_nil, Nat.reduceBEq, Bool.or_false, Bool.false_or, Bool.or_true, Bool.true_or, cond_true, cond_false]
              go_split_ands
            · go_simp
            · go_simp
            · go_simp
            · go_simp
              have hat0 : IL g L ts en (advP t) (q) B (fun _ => False) ⟨xv, nv, cv⟩ rs acc [] x := hat
              refine (hval x hat0.1).mono ?_
              rintro e x' ⟨r9, rfl, hN9, hR9⟩
              exact ⟨_, rfl, ⟨trivial, IL.call hat0 hgB hN9 hR9⟩, Kj.grown hR9.2⟩
            · have hat1 : IL g L ts en (advP t) (q) B (fun _ => False) ⟨xv, nv, cv⟩ rs acc [ρ (.tmp 22)] x := hat
              obtain ⟨r9, e9, h9⟩ := hat1
              go_simp
              exact ⟨⟨trivial, IL.build _ h9⟩, Kj.below (below_alloc _ _)⟩
            · have hat2 : IL g L ts en (advP t) (q) B (fun _ => False) ⟨xv, nv, cv⟩ rs acc [ρ (.tmp 22), ρ (.tmp 23)] x := hat
              have hd1 : ρ (.tmp 20) = .slice xv nv cv := by first | assumption | exact hd.1
              obtain ⟨d9, x9, hr9, i9, k9⟩ := hat2.app 39 hgB hrl
              have hr8 : (Builtin.append_ #[39, 39] 39 #[.slice xv nv cv, ρ (.tmp 23)]).run Tryz.prog x = .ok d9 x9 := hr9
              rw [BigFrame.execOp_builtin, BigFrame.builtin_append]
              simp only [List.map_toArray, List.map_cons, List.map_nil, hd1, hr8, Sem.run_bind, Result.andThen_ok, Sem.run_pure, okUponD_some]
              exact ⟨⟨trivial, i9⟩, k9⟩
            · go_simp
          · intro us x1 hk hw hI
            simp only [owed, Fx] at hw
            obtain ⟨e0, e1, e2, e3, e4, e5, e6, -⟩ := hw
            simp only [List.length_cons, List.length_nil, List.take_succ_cons, List.take_zero, List.drop_succ_cons, List.drop_zero, asg, List.cons_append, List.nil_append, e0, e1, e2, e6]
            clear e0 e1 e2 e6 e3 e4 e5
            obtain ⟨r9, ⟨xa, na, ca⟩, e9, hR4, hL4⟩ : IL g L ts en (advP t) q B (fun _ => False) ⟨xv, nv, cv⟩ rs acc [us 3, us 4, us 5] x1 := hI
            have h34 := hk.row H32.out hnB hng
            obtain ⟨k1, k2, k3, k4, k5, k6⟩ := lst_store hR4 hL4 h34 (hk.row H22.out hgB2 hg2) (HK2.out.trans (hk.less (by omega : n0 ≤ B))) (by have := hk.size; omega) (by omega) (by omega) hnB (by omega)
            have c44 := h34.cell 4
            have z44 := h34.frozen 4
            replace c44 : x1.cell? ⟨g3, 4, none⟩ = some (.slice xv nv cv) := c44
            simp only [Sl.v] at e9 k1 k2 k3 k4 k5 k6
            simp only [e9]
            have HM : Hid (rdI (x1.setCell ⟨g3, 4, none⟩ (.slice xa na ca)) g = q.2.i) := k1.rdI
            have HL : Hid (LInv (f1 + 1) n0 g g2 g3 B L ts en w R (x1.setCell ⟨g3, 4, none⟩ (.slice xa na ca))) := ⟨q.2, acc ++ [q.1], rs ++ [r9], ⟨xa, na, ca⟩, f2, k1, k2, k3, k4, k5, k6, le2, by rw [le3]; omega, by omega, by simp; omega, by omega, by omega, HRR.out⟩
            clear k1 k2 k3 k4 k5 k6 hL4 hR4 HI0 H32 H22 HK2 HRR h34 e9 hk hval
            go_wp2
            go_roundw
            case rel => exact ⟨_, _, _, _, _, _, _, _, _, HL.out, rfl⟩
            case measure => rw [HM.out, hri]; omega
        | false =>
          rw [h6] at hR3 m7
          simp only [cond_false] at hR3 m7
          clear h6
          have hNd := rdNeed_any w3 g L ts en t 4 hR3
          go_wp2_with fail
          refine hNd.mono ?_
          rintro e w9 ⟨rfl, hR9, hG9⟩
          clear hNd
          have h39 := h33.block (hG9.block g3 h33.lt (fun e => by cases e; omega))
          have h29 := h23.block (hG9.block g2 h23.lt (fun e => by cases e; omega))
          have hL9 := hL3.ag hG9.size (fun b hb _ hl => hG9.block b hl (fun e => by cases e; omega))
          have hK9 := hK3.trans (Kj.grown hG9)
          have hN9 := hL9.node 5 0 ⟨#[]⟩ slZ ⟨xv, nv, cv⟩ [] (.inl ⟨rfl, rfl⟩) (fun h => absurd h (Nat.lt_irrefl 0)) ⟨Nat.zero_le _, by have h8 := IsK.num (hL9.own.isK ndE_ok); have h7 := hL9.len; simp only at h8 ⊢; omega⟩
          have HE9 : Hid (R = (Nd.mk 5 0 (lS ⟨#[]⟩) (List.map lS []) acc, clsP (needP ts en 4 t))) := m7.symm
          have HOP : Hid (1 ≤ (needP ts en 4 t).op ∧ (needP ts en 4 t).op ≤ 1099511627777) := by show _ ∧ _; simp; omega
          obtain ⟨t9, ht9⟩ : ∃ q, needP ts en 4 t = q := ⟨_, rfl⟩
          rw [ht9] at HE9 hR9 HOP
          obtain ⟨r9, hr9⟩ : ∃ q : Rn, ⟨5, 0, ⟨#[]⟩, slZ, ⟨xv, nv, cv⟩⟩ = q := ⟨_, rfl⟩
          obtain ⟨d9, hd9⟩ : ∃ q, Nd.mk 5 0 (lS ⟨#[]⟩) (List.map lS []) acc = q := ⟨_, rfl⟩
          rw [hr9] at hN9 h39
          rw [hd9] at hN9 HE9
          clear hR3 h33 h23 hK3 hr9 hd9 ht9 m7 hV h hL9 hL3 hG9
          have hcf := hR9.cells.2.2.2.2.2
          have hzf := hR9.row.frozen 5
          have hw9 : IntKind.i64.wrap ((t9.op : Int) - 1) = ((t9.op - 1 : Nat) : Int) := by
            have h99 : 1 ≤ t9.op ∧ t9.op ≤ 1099511627777 := HOP.out
            rw [IntKind.wrap_i64]; omega
          have h91 := RdP.set hR9 5 (.int .i64 ((t9.op - 1 : Nat) : Int)) (rdA_op L en t9 (t9.op - 1))
          have hc31 : RowC (w9.setCell ⟨g, 5, none⟩ (.int .i64 ((t9.op - 1 : Nat) : Int))) g3 (rnA r9) := h39.set_ne 5 _ hng.symm
          have hc21 : RowC (w9.setCell ⟨g, 5, none⟩ (.int .i64 ((t9.op - 1 : Nat) : Int))) g2 (rnA rnZ) := h29.set_ne 5 _ hg2.symm
          have HG9 : Hid (w9.grownBy (w9.setCell ⟨g, 5, none⟩ (.int .i64 ((t9.op - 1 : Nat) : Int))) (some g)) := h91.2
          have HN9 : Hid (NdF (w9.setCell ⟨g, 5, none⟩ (.int .i64 ((t9.op - 1 : Nat) : Int))) (B ≤ ·) r9 d9) := hN9.ag h91.2.size (fun b hb hl => h91.2.block b hl (fun e => by cases e; omega))
          have HR9 : Hid (Rd (w9.setCell ⟨g, 5, none⟩ (.int .i64 ((t9.op - 1 : Nat) : Int))) g L ts en (clsP t9)) := h91.1
          have HK9 : Hid (Kj g n0 w w9) := hK9
          clear h91 hN9 hR9 h39 h29 hK9
          go_upto_region 9 with fail
          generalize w9.setCell ⟨g, 5, none⟩ (.int .i64 ((t9.op - 1 : Nat) : Int)) = w8 at hc31 hc21 HG9 HN9 HR9 ⊢
          obtain ⟨a1, a2⟩ := id hc31
          obtain ⟨b1, b2⟩ := id hc21
          have a3 : (rowAt w8 g3).size = 5 := by rw [a2]; rfl
          have b3 : (rowAt w8 g2).size = 5 := by rw [b2]; rfl
          go_wp2
          exact nd_bodyPost1 2 g2 (rnA r9) rfl rfl rfl (RowC.setRow hc21 _) rfl (by rw [HE9.out]; exact lst_end HK9.out hn0 HG9.out HR9.out (by omega) HN9.out hgB2 hg0)
end Go.Proofs.YtddmmmfpdmejbaaGreatDoor
