import Derived.Test.YtalnbddkhojjbaaGreatDoorQJsn
import Derived.Test.YtalnbddkhojjbaaGreatDoorQRelt
import Derived.Test.YtalnbddkhojjbaaGreatDoorQApp
import Derived.Test.YtalnbddkhojjbaaGreatDoorQNum
namespace Go.Proofs.YtalnbddkhojjbaaGreatDoor
open Go.RowKit

/-! Operations on whole nodes -/
@[go_sem] theorem rnA_size' (r : Rn) : (rnA r).size = 5 := by simp [rnA]
@[go_sem] theorem rnA_one (r : Rn) : OneC (rnA r) = true := by unfold OneC; simp [rnA, Sl.v, Value.oneCell']
@[go_sem] theorem nd_one (k n : Int) (s : ByteArray) (x y : Option Addr) (a b c d : Nat) : OneC #[.int .i64 k, .int .i64 n, .string s, .slice x a b, .slice y c d] = true := by simp [OneC, Value.oneCell']
theorem info_nd : (Tryz.prog.info? 55).map (fun i => (i.zero, i.size)) = some (some (.agg (rnA rnZ)), 5) := by kernel_rfl
theorem sizeT_nd : (Tryz.prog.info? 55).map (·.size) = some 5 := (zero_of_info info_nd).2
def ndBS (x : Value) : Sem Next := do pure (.value (← Instr.buildSlice 53 1 #[(0, x)]))
section
variable (ρ : Operand → Value) (dst : Option Tmp) (ty : TypeId) (pos : String) (after : Array Edge) (guard : Option (Nat × Bool))
@[go_sem ↓] theorem execOp_store_nd (x y : Operand) : execOp ρ { dst, op := .store 55 x y, type := ty, pos, after, guard } = bigStore 55 (ρ x) (ρ y) := rfl
@[go_sem ↓] theorem execOp_alloc_nd : execOp ρ { dst, op := .alloc 55, type := ty, pos, after, guard } = bigAlloc 55 := rfl
@[go_sem ↓] theorem execOp_load_nd (x : Operand) : execOp ρ { dst, op := .load 55 x, type := ty, pos, after, guard } = bigLoad 55 (ρ x) := rfl
@[go_sem ↓] theorem execOp_box_nd (x : Operand) : execOp ρ { dst, op := .box 55 x, type := ty, pos, after, guard } = bigBox 55 (ρ x) := rfl
@[go_sem ↓] theorem execOp_ndBS (x : Operand) : execOp ρ { dst, op := .buildSlice 53 1 #[(0, x)], type := ty, pos, after, guard } = ndBS (ρ x) := by simp [execOp, ndBS]
end
@[go_sem] theorem run_store_nd (w : World) (g : Nat) (c : Array Value) (h : rowL w g = true) (hs : (rowAt w g).size = 5) (hc : c.size = 5) (h1 : OneC c = true) : (bigStore 55 (.pointer (some ⟨g, 0, none⟩)) (.agg c)).run Tryz.prog w = .ok .skip (w.setRow g c) := by
  rw [run_bigStore 55 5 sizeT_nd w g 0 c h hc (by omega) h1, layC_all _ _ (by omega)]
@[go_sem] theorem run_alloc_nd (w : World) : (bigAlloc 55).run Tryz.prog w = .ok (.value (.pointer (some ⟨w.heap.size, 0, none⟩))) (w.alloc (.cells (rnA rnZ) 55)) := by
  simp only [bigAlloc, Instr.alloc, Sem.run_bind, (zero_of_info info_nd).1 w, Result.andThen_ok]
  rfl
@[go_sem] theorem run_load_nd (w : World) (g : Nat) (h : rowL w g = true) (hs : (rowAt w g).size = 5) : (bigLoad 55 (.pointer (some ⟨g, 0, none⟩))).run Tryz.prog w = .ok (.value (.agg (rowAt w g))) w := by
  rw [run_bigLoad 55 _ 5 Tryz.underlying55 rfl sizeT_nd w g 0 h (by omega), Nat.zero_add, Array.extract_eq_self_of_le (by omega)]
@[go_sem] theorem run_box_nd (w : World) (r : Rn) : (bigBox 55 (.agg (rnA r))).run Tryz.prog w = .ok (.value (.pointer (some ⟨w.heap.size, 0, none⟩))) (w.alloc (.cells (rnA r) 55)) := run_bigBox _ _ w
@[go_sem] theorem run_ndBS (w : World) (r : Rn) : (ndBS (.agg (rnA r))).run Tryz.prog w = .ok (.value (.slice (some ⟨w.heap.size, 0, none⟩) 1 1)) (w.alloc (.cells (rnA r) 55)) := by
  have h := run_litK1 ndE_ok (by show 5 ≤ 1000; omega) w r
  have h2 : (Instr.buildSlice 53 1 #[(0, .agg (rnA r))]).run Tryz.prog w = .ok (.slice (some ⟨w.heap.size, 0, none⟩) 1 1) (w.alloc (.cells (rnA r) 55)) := h
  simp only [ndBS, Sem.run_bind, h2]
  rfl
/-! Steps that turn the reader and what is one's own -/
/-- Nothing below B has turned but the reader's block. -/
structure Kj (g B : Nat) (w w' : World) : Prop where
  os : w'.os = w.os
  tape : w'.tape = w.tape
  output : w'.output = w.output
  size : w.heap.size ≤ w'.heap.size
  block : ∀ b, b < w.heap.size → b < B → b ≠ g → w'.heap[b]? = w.heap[b]?
theorem Kj.trans {g B : Nat} {w w' w2 : World} (h : Kj g B w w') (k : Kj g B w' w2) : Kj g B w w2 :=
  ⟨k.os.trans h.os, k.tape.trans h.tape, k.output.trans h.output, Nat.le_trans h.size k.size, fun b h1 h2 h3 => (k.block b (Nat.lt_of_lt_of_le h1 h.size) h2 h3).trans (h.block b h1 h2 h3)⟩
theorem Kj.below {g B : Nat} {w w' : World} (h : Below w.heap.size w w') : Kj g B w w' := ⟨h.os, h.tape, h.output, h.size, fun b h1 _ _ => h.block b h1⟩
theorem Kj.grown {g B : Nat} {w w' : World} (h : w.grownBy w' (some g)) : Kj g B w w' := ⟨h.os, h.tape, h.output, h.size, fun b h1 _ h3 => h.block b h1 (fun e => h3 (Option.some.inj e))⟩
theorem Kj.own {g B : Nat} {w w' : World} {o : Option Nat} (h : w.grownBy w' o) (ho : ∀ b, o = some b → B ≤ b) : Kj g B w w' := ⟨h.os, h.tape, h.output, h.size, fun b h1 h2 _ => h.block b h1 (fun e => by have := ho b e.symm; omega)⟩
theorem Kj.row {g B n : Nat} {c : Array Value} {w w' : World} (h : Kj g B w w') (hr : RowC w n c) (hn : n < B) (hg : n ≠ g) : RowC w' n c := hr.block (h.block n hr.lt hn hg)
theorem Kj.cell {g B n i : Nat} {v : Value} {w w' : World} (h : Kj g B w w') (hc : w.cell? ⟨n, i, none⟩ = some v) (hn : n < B) (hg : n ≠ g) : w'.cell? ⟨n, i, none⟩ = some v := by
  have h1 := World.block_lt_of_cell? w _ hc
  unfold World.cell? at hc ⊢
  rw [h.block n h1 hn hg]; exact hc
theorem Kj.less {g B B' : Nat} {w w' : World} (h : Kj g B w w') (hB : B' ≤ B) : Kj g B' w w' := ⟨h.os, h.tape, h.output, h.size, fun b h1 h2 h3 => h.block b h1 (by omega) h3⟩
/-- A step that turns the row n of one's own alone. -/
theorem Kj.mine {g B n : Nat} {w w' : World} (h : w.grownBy w' (some n)) (hn : B ≤ n) : Kj g B w w' := Kj.own h (fun b e => by cases e; exact hn)
/-- The list with one more behind it: what holds behind the call, the slice that is built, and append. -/
def IL1 (g : Nat) (L : Sl) (ts : List Tk) (en : Int) (q : Nd × Ps) (B : Nat) (X : Nat → Prop) (v : Sl) (rs : List Rn) (vs : List Nd) (r : Rn) (x : World) : Prop :=
  Rd x g L ts en q.2 ∧ LsO x B X v rs vs ∧ ∃ H, B ≤ H ∧ H ≤ x.heap.size ∧ (∀ b, v.v.ownBlock = some b → b < H) ∧ (∀ b, X b → b < H) ∧ NdF x (H ≤ ·) r q.1
def IL (g : Nat) (L : Sl) (ts : List Tk) (en : Int) (s : Ps) (q : Nd × Ps) (B : Nat) (X : Nat → Prop) (v : Sl) (rs : List Rn) (vs : List Nd) : List Value → World → Prop
  | [], x => Rd x g L ts en s ∧ LsO x B X v rs vs ∧ B ≤ x.heap.size ∧ (∀ b, X b → b < x.heap.size)
  | [a], x => ∃ r, a = .agg (rnA r) ∧ IL1 g L ts en q B X v rs vs r x
  | [_, c], x => ∃ r y, c = .slice (some ⟨y, 0, none⟩) 1 1 ∧ RowC x y (rnA r) ∧ IL1 g L ts en q B X v rs vs r x
  | [_, _, d], x => ∃ (r : Rn) (a : Sl), d = a.v ∧ Rd x g L ts en q.2 ∧ LsO x B X a (rs ++ [r]) (vs ++ [q.1])
  | _, _ => False
theorem LsO.later {w w1 : World} {B : Nat} {X : Nat → Prop} {v : Sl} {rs : List Rn} {vs : List Nd} (h : LsO w B X v rs vs) (hb : Below w.heap.size w w1) : LsO w1 B X v rs vs := h.ag hb.size (fun b _ _ hl => hb.block b hl)
theorem IL1_later {g : Nat} {L : Sl} {ts : List Tk} {en : Int} {q : Nd × Ps} {B : Nat} {X : Nat → Prop} {v : Sl} {rs : List Rn} {vs : List Nd} {r : Rn} {w w' : World} (h : IL1 g L ts en q B X v rs vs r w) (hb : Below w.heap.size w w') : IL1 g L ts en q B X v rs vs r w' := by
  obtain ⟨h1, h2, H, h3, h4, h5, h6, h7⟩ := h
  exact ⟨h1.stay hb, h2.later hb, H, h3, Nat.le_trans h4 hb.size, h5, h6, h7.kept hb⟩
theorem IL_later {g : Nat} {L : Sl} {ts : List Tk} {en : Int} {s : Ps} {q : Nd × Ps} {B : Nat} {X : Nat → Prop} {v : Sl} {rs : List Rn} {vs : List Nd} : ∀ us w w', IL g L ts en s q B X v rs vs us w → Below w.heap.size w w' → IL g L ts en s q B X v rs vs us w'
  | [], _, _, ⟨h1, h2, h3, h4⟩, hb => ⟨h1.stay hb, h2.later hb, Nat.le_trans h3 hb.size, fun b hx => Nat.lt_of_lt_of_le (h4 b hx) hb.size⟩
  | [_], _, _, ⟨r, e, h⟩, hb => ⟨r, e, IL1_later h hb⟩
  | [_, _], _, _, ⟨r, y, e, h, k⟩, hb => ⟨r, y, e, h.kept hb, IL1_later k hb⟩
  | [_, _, _], _, _, ⟨r, a, e, h, k⟩, hb => ⟨r, a, e, h.stay hb, k.later hb⟩
  | _ :: _ :: _ :: _ :: _, _, _, h, _ => h.elim
theorem IL.call {g : Nat} {L : Sl} {ts : List Tk} {en : Int} {s : Ps} {q : Nd × Ps} {B : Nat} {X : Nat → Prop} {v : Sl} {rs : List Rn} {vs : List Nd} {x x' : World} {r : Rn} (h : IL g L ts en s q B X v rs vs [] x) (hgB : g < B) (hN : NdF x' (x.heap.size ≤ ·) r q.1) (hR : RdP g L ts en q.2 x x') : IL g L ts en s q B X v rs vs [.agg (rnA r)] x' := by
  obtain ⟨h1, h2, h3, h4⟩ := h
  exact ⟨r, rfl, hR.1, h2.ag hR.2.size (fun b hB _ hl => hR.2.block b hl (fun e => by cases e; omega)), x.heap.size, h3, hR.2.size, fun b hb => (h2.lt b hb).2, h4, hN⟩
theorem IL.build {g : Nat} {L : Sl} {ts : List Tk} {en : Int} {s : Ps} {q : Nd × Ps} {B : Nat} {X : Nat → Prop} {v : Sl} {rs : List Rn} {vs : List Nd} {x : World} {r : Rn} (a : Value) (h : IL1 g L ts en q B X v rs vs r x) : IL g L ts en s q B X v rs vs [a, .slice (some ⟨x.heap.size, 0, none⟩) 1 1] (x.alloc (.cells (rnA r) 55)) :=
  ⟨r, x.heap.size, rfl, RowC.new _ _ _, IL1_later h (below_alloc _ _)⟩
theorem IL.app {g : Nat} {L : Sl} {ts : List Tk} {en : Int} {s : Ps} {q : Nd × Ps} {B : Nat} {X : Nat → Prop} {v : Sl} {rs : List Rn} {vs : List Nd} {x : World} {a c : Value} (ty : TypeId) (h : IL g L ts en s q B X v rs vs [a, c] x) (hgB : g < B) (hn : rs.length ≤ 1099511627776) :
    ∃ d x', (Builtin.append_ #[53, 53] ty #[v.v, c]).run Tryz.prog x = .ok d x' ∧ IL g L ts en s q B X v rs vs [a, c, d] x' ∧ Kj g B x x' := by
  obtain ⟨r, y, rfl, hy, hR, hL, H, h1, h2, h3, h4, h5⟩ := h
  obtain ⟨d, x', hrun, hO, hg, -⟩ := hL.app ty h1 hy h4 h3 h5 h2 (by omega)
  refine ⟨d.v, x', hrun, ⟨r, d, rfl, ?_, hO⟩, Kj.own hg (fun b e => (hL.lt b e).1)⟩
  have hne : v.v.ownBlock ≠ some g := fun e => by have := (hL.lt g e).1; omega
  exact ⟨hR.row.block (hg.block g hR.row.lt (fun e => hne e.symm)), hR.own.other14 fun b hb => hg.block b (World.ownsRow.lt hR.own b hb).2 (fun e => by have := hR.low b hb; have := (hL.lt b e.symm).1; omega), hR.low, hR.fit⟩
end Go.Proofs.YtalnbddkhojjbaaGreatDoor
namespace Go.Proofs.YtalnbddkhojjbaaGreatDoor
open Go.RowKit

/-! assayref15.Reader: list -/
theorem Rd.other {w w' : World} {g : Nat} {L : Sl} {ts : List Tk} {en : Int} {s : Ps} (h : Rd w g L ts en s) (hb : ∀ b, b ≤ g → b < w.heap.size → w'.heap[b]? = w.heap[b]?) : Rd w' g L ts en s :=
  ⟨h.row.block (hb g (Nat.le_refl _) h.row.lt), h.own.other14 fun b hb9 => hb b (Nat.le_of_lt (h.low b hb9)) (World.ownsRow.lt h.own b hb9).2, h.low, h.fit⟩
end Go.Proofs.YtalnbddkhojjbaaGreatDoor
namespace Go.Proofs.YtalnbddkhojjbaaGreatDoor
open Go.RowKit

/-! assaylaw15.same -/
theorem alloc_sz15 (w : World) (o : Obj) : (w.alloc o).heap.size = w.heap.size + 1 := by show (w.heap.push o).size = _; simp
end Go.Proofs.YtalnbddkhojjbaaGreatDoor
namespace Go.Proofs.YtalnbddkhojjbaaGreatDoor
open Go.RowKit

/-! Type assertions on json's values -/
@[go_sem] theorem ta_Null_Null (v : Value) (w : World) : (Instr.typeAssert (.iface 116 v) 42 116 true).run Tryz.prog w = .ok (.tuple #[v, .bool true]) w := by kernel_rfl
@[go_sem] theorem ta_Null_Bool (v : Value) (w : World) : (Instr.typeAssert (.iface 116 v) 42 121 true).run Tryz.prog w = .ok (.tuple #[.bool false, .bool false]) w := by kernel_rfl
@[go_sem] theorem ta_Null_Num (v : Value) (w : World) : (Instr.typeAssert (.iface 116 v) 42 71 true).run Tryz.prog w = .ok (.tuple #[.int .i64 0, .bool false]) w := by kernel_rfl
@[go_sem] theorem ta_Null_Str (v : Value) (w : World) : (Instr.typeAssert (.iface 116 v) 42 93 true).run Tryz.prog w = .ok (.tuple #[.string ⟨#[]⟩, .bool false]) w := by kernel_rfl
@[go_sem] theorem ta_Null_List (v : Value) (w : World) : (Instr.typeAssert (.iface 116 v) 42 73 true).run Tryz.prog w = .ok (.tuple #[.slice none 0 0, .bool false]) w := by kernel_rfl
@[go_sem] theorem ta_Null_Object (v : Value) (w : World) : (Instr.typeAssert (.iface 116 v) 42 76 true).run Tryz.prog w = .ok (.tuple #[.agg #[.slice none 0 0, .slice none 0 0], .bool false]) w := by kernel_rfl
@[go_sem] theorem ta_Bool_Null (v : Value) (w : World) : (Instr.typeAssert (.iface 121 v) 42 116 true).run Tryz.prog w = .ok (.tuple #[.agg #[], .bool false]) w := by kernel_rfl
@[go_sem] theorem ta_Bool_Bool (v : Value) (w : World) : (Instr.typeAssert (.iface 121 v) 42 121 true).run Tryz.prog w = .ok (.tuple #[v, .bool true]) w := by kernel_rfl
@[go_sem] theorem ta_Bool_Num (v : Value) (w : World) : (Instr.typeAssert (.iface 121 v) 42 71 true).run Tryz.prog w = .ok (.tuple #[.int .i64 0, .bool false]) w := by kernel_rfl
@[go_sem] theorem ta_Bool_Str (v : Value) (w : World) : (Instr.typeAssert (.iface 121 v) 42 93 true).run Tryz.prog w = .ok (.tuple #[.string ⟨#[]⟩, .bool false]) w := by kernel_rfl
@[go_sem] theorem ta_Bool_List (v : Value) (w : World) : (Instr.typeAssert (.iface 121 v) 42 73 true).run Tryz.prog w = .ok (.tuple #[.slice none 0 0, .bool false]) w := by kernel_rfl
@[go_sem] theorem ta_Bool_Object (v : Value) (w : World) : (Instr.typeAssert (.iface 121 v) 42 76 true).run Tryz.prog w = .ok (.tuple #[.agg #[.slice none 0 0, .slice none 0 0], .bool false]) w := by kernel_rfl
@[go_sem] theorem ta_Num_Null (v : Value) (w : World) : (Instr.typeAssert (.iface 71 v) 42 116 true).run Tryz.prog w = .ok (.tuple #[.agg #[], .bool false]) w := by kernel_rfl
@[go_sem] theorem ta_Num_Bool (v : Value) (w : World) : (Instr.typeAssert (.iface 71 v) 42 121 true).run Tryz.prog w = .ok (.tuple #[.bool false, .bool false]) w := by kernel_rfl
@[go_sem] theorem ta_Num_Num (v : Value) (w : World) : (Instr.typeAssert (.iface 71 v) 42 71 true).run Tryz.prog w = .ok (.tuple #[v, .bool true]) w := by kernel_rfl
@[go_sem] theorem ta_Num_Str (v : Value) (w : World) : (Instr.typeAssert (.iface 71 v) 42 93 true).run Tryz.prog w = .ok (.tuple #[.string ⟨#[]⟩, .bool false]) w := by kernel_rfl
@[go_sem] theorem ta_Num_List (v : Value) (w : World) : (Instr.typeAssert (.iface 71 v) 42 73 true).run Tryz.prog w = .ok (.tuple #[.slice none 0 0, .bool false]) w := by kernel_rfl
@[go_sem] theorem ta_Num_Object (v : Value) (w : World) : (Instr.typeAssert (.iface 71 v) 42 76 true).run Tryz.prog w = .ok (.tuple #[.agg #[.slice none 0 0, .slice none 0 0], .bool false]) w := by kernel_rfl
@[go_sem] theorem ta_Str_Null (v : Value) (w : World) : (Instr.typeAssert (.iface 93 v) 42 116 true).run Tryz.prog w = .ok (.tuple #[.agg #[], .bool false]) w := by kernel_rfl
@[go_sem] theorem ta_Str_Bool (v : Value) (w : World) : (Instr.typeAssert (.iface 93 v) 42 121 true).run Tryz.prog w = .ok (.tuple #[.bool false, .bool false]) w := by kernel_rfl
@[go_sem] theorem ta_Str_Num (v : Value) (w : World) : (Instr.typeAssert (.iface 93 v) 42 71 true).run Tryz.prog w = .ok (.tuple #[.int .i64 0, .bool false]) w := by kernel_rfl
@[go_sem] theorem ta_Str_Str (v : Value) (w : World) : (Instr.typeAssert (.iface 93 v) 42 93 true).run Tryz.prog w = .ok (.tuple #[v, .bool true]) w := by kernel_rfl
@[go_sem] theorem ta_Str_List (v : Value) (w : World) : (Instr.typeAssert (.iface 93 v) 42 73 true).run Tryz.prog w = .ok (.tuple #[.slice none 0 0, .bool false]) w := by kernel_rfl
@[go_sem] theorem ta_Str_Object (v : Value) (w : World) : (Instr.typeAssert (.iface 93 v) 42 76 true).run Tryz.prog w = .ok (.tuple #[.agg #[.slice none 0 0, .slice none 0 0], .bool false]) w := by kernel_rfl
@[go_sem] theorem ta_List_Null (v : Value) (w : World) : (Instr.typeAssert (.iface 73 v) 42 116 true).run Tryz.prog w = .ok (.tuple #[.agg #[], .bool false]) w := by kernel_rfl
@[go_sem] theorem ta_List_Bool (v : Value) (w : World) : (Instr.typeAssert (.iface 73 v) 42 121 true).run Tryz.prog w = .ok (.tuple #[.bool false, .bool false]) w := by kernel_rfl
@[go_sem] theorem ta_List_Num (v : Value) (w : World) : (Instr.typeAssert (.iface 73 v) 42 71 true).run Tryz.prog w = .ok (.tuple #[.int .i64 0, .bool false]) w := by kernel_rfl
@[go_sem] theorem ta_List_Str (v : Value) (w : World) : (Instr.typeAssert (.iface 73 v) 42 93 true).run Tryz.prog w = .ok (.tuple #[.string ⟨#[]⟩, .bool false]) w := by kernel_rfl
@[go_sem] theorem ta_List_List (v : Value) (w : World) : (Instr.typeAssert (.iface 73 v) 42 73 true).run Tryz.prog w = .ok (.tuple #[v, .bool true]) w := by kernel_rfl
@[go_sem] theorem ta_List_Object (v : Value) (w : World) : (Instr.typeAssert (.iface 73 v) 42 76 true).run Tryz.prog w = .ok (.tuple #[.agg #[.slice none 0 0, .slice none 0 0], .bool false]) w := by kernel_rfl
@[go_sem] theorem ta_Object_Null (v : Value) (w : World) : (Instr.typeAssert (.iface 76 v) 42 116 true).run Tryz.prog w = .ok (.tuple #[.agg #[], .bool false]) w := by kernel_rfl
@[go_sem] theorem ta_Object_Bool (v : Value) (w : World) : (Instr.typeAssert (.iface 76 v) 42 121 true).run Tryz.prog w = .ok (.tuple #[.bool false, .bool false]) w := by kernel_rfl
@[go_sem] theorem ta_Object_Num (v : Value) (w : World) : (Instr.typeAssert (.iface 76 v) 42 71 true).run Tryz.prog w = .ok (.tuple #[.int .i64 0, .bool false]) w := by kernel_rfl
@[go_sem] theorem ta_Object_Str (v : Value) (w : World) : (Instr.typeAssert (.iface 76 v) 42 93 true).run Tryz.prog w = .ok (.tuple #[.string ⟨#[]⟩, .bool false]) w := by kernel_rfl
@[go_sem] theorem ta_Object_List (v : Value) (w : World) : (Instr.typeAssert (.iface 76 v) 42 73 true).run Tryz.prog w = .ok (.tuple #[.slice none 0 0, .bool false]) w := by kernel_rfl
@[go_sem] theorem ta_Object_Object (v : Value) (w : World) : (Instr.typeAssert (.iface 76 v) 42 76 true).run Tryz.prog w = .ok (.tuple #[v, .bool true]) w := by kernel_rfl
@[go_sem] theorem ta_nil_Null (w : World) : (Instr.typeAssert .nilIface 42 116 true).run Tryz.prog w = .ok (.tuple #[.agg #[], .bool false]) w := by kernel_rfl
@[go_sem] theorem ta_nil_Bool (w : World) : (Instr.typeAssert .nilIface 42 121 true).run Tryz.prog w = .ok (.tuple #[.bool false, .bool false]) w := by kernel_rfl
@[go_sem] theorem ta_nil_Num (w : World) : (Instr.typeAssert .nilIface 42 71 true).run Tryz.prog w = .ok (.tuple #[.int .i64 0, .bool false]) w := by kernel_rfl
@[go_sem] theorem ta_nil_Str (w : World) : (Instr.typeAssert .nilIface 42 93 true).run Tryz.prog w = .ok (.tuple #[.string ⟨#[]⟩, .bool false]) w := by kernel_rfl
@[go_sem] theorem ta_nil_List (w : World) : (Instr.typeAssert .nilIface 42 73 true).run Tryz.prog w = .ok (.tuple #[.slice none 0 0, .bool false]) w := by kernel_rfl
@[go_sem] theorem ta_nil_Object (w : World) : (Instr.typeAssert .nilIface 42 76 true).run Tryz.prog w = .ok (.tuple #[.agg #[.slice none 0 0, .slice none 0 0], .bool false]) w := by kernel_rfl
end Go.Proofs.YtalnbddkhojjbaaGreatDoor
namespace Go.Proofs.YtalnbddkhojjbaaGreatDoor
open Go.RowKit

/-! json's values in memory; assaylaw15.plain, plains -/
set_option linter.unusedVariables false
def VlF (w : World) (F : Nat → Prop) (i1 : Value) (i2 : Nd) : Prop := ∀ Q : Value → Nd → Prop, (Q (.iface 116 (.agg #[])) (.mk 1 0 [] [] [])) → (∀ (b : Bool), Q (.iface 121 (.bool b)) (.mk 2 (bif b then 1 else 0) [] [] [])) → (∀ (n : Int) (hn : -9223372036854775808 ≤ n ∧ n ≤ 9223372036854775807), Q (.iface 71 (.int .i64 n)) (.mk 3 n [] [] [])) → (∀ (s : ByteArray), Q (.iface 93 (.string s)) (.mk 4 0 (lS s) [] [])) → (∀ (a : Sl) (us : List Value) (ds : List Nd) (hv : IsG w a.v us) (hF : a.In F) (hl : us.length = ds.length) (hz : a.n ≤ 1759218604441) (he : ∀ (i : Nat) u d, us[i]? = some u → ds[i]? = some d → Q u d), Q (.iface 73 a.v) (.mk 5 0 [] [] ds)) → (∀ (ks a : Sl) (kb : List ByteArray) (us : List Value) (ds : List Nd) (hk : IsG w ks.v (strs kb)) (hkF : ks.In F) (hv : IsG w a.v us) (hF : a.In F) (hl : us.length = ds.length) (hz : ks.n ≤ 8796093022208 ∧ a.n ≤ 1759218604441) (he : ∀ (i : Nat) u d, us[i]? = some u → ds[i]? = some d → Q u d), Q (.iface 76 (.agg #[ks.v, a.v])) (.mk 6 0 [] (kb.map lS) ds)) → Q i1 i2
theorem VlF.null {w : World} {F : Nat → Prop}  : VlF w F (.iface 116 (.agg #[])) (.mk 1 0 [] [] []) := fun Q q0 q1 q2 q3 q4 q5 => q0
theorem VlF.bool {w : World} {F : Nat → Prop} (b : Bool) : VlF w F (.iface 121 (.bool b)) (.mk 2 (bif b then 1 else 0) [] [] []) := fun Q q0 q1 q2 q3 q4 q5 => q1 b
theorem VlF.num {w : World} {F : Nat → Prop} (n : Int) (hn : -9223372036854775808 ≤ n ∧ n ≤ 9223372036854775807) : VlF w F (.iface 71 (.int .i64 n)) (.mk 3 n [] [] []) := fun Q q0 q1 q2 q3 q4 q5 => q2 n hn
theorem VlF.str {w : World} {F : Nat → Prop} (s : ByteArray) : VlF w F (.iface 93 (.string s)) (.mk 4 0 (lS s) [] []) := fun Q q0 q1 q2 q3 q4 q5 => q3 s
theorem VlF.list {w : World} {F : Nat → Prop} (a : Sl) (us : List Value) (ds : List Nd) (hv : IsG w a.v us) (hF : a.In F) (hl : us.length = ds.length) (hz : a.n ≤ 1759218604441) (he : ∀ (i : Nat) u d, us[i]? = some u → ds[i]? = some d → VlF w F u d) : VlF w F (.iface 73 a.v) (.mk 5 0 [] [] ds) := fun Q q0 q1 q2 q3 q4 q5 => q4 a us ds hv hF hl hz (fun i u d hz0 hz1 => he i u d hz0 hz1 Q q0 q1 q2 q3 q4 q5)
theorem VlF.obj {w : World} {F : Nat → Prop} (ks a : Sl) (kb : List ByteArray) (us : List Value) (ds : List Nd) (hk : IsG w ks.v (strs kb)) (hkF : ks.In F) (hv : IsG w a.v us) (hF : a.In F) (hl : us.length = ds.length) (hz : ks.n ≤ 8796093022208 ∧ a.n ≤ 1759218604441) (he : ∀ (i : Nat) u d, us[i]? = some u → ds[i]? = some d → VlF w F u d) : VlF w F (.iface 76 (.agg #[ks.v, a.v])) (.mk 6 0 [] (kb.map lS) ds) := fun Q q0 q1 q2 q3 q4 q5 => q5 ks a kb us ds hk hkF hv hF hl hz (fun i u d hz0 hz1 => he i u d hz0 hz1 Q q0 q1 q2 q3 q4 q5)
theorem VlF.rc {w : World} {F : Nat → Prop} {M : ∀ (i1 : Value) (i2 : Nd), VlF w F i1 i2 → Prop} (null : M (.iface 116 (.agg #[])) (.mk 1 0 [] [] []) (VlF.null)) (bool : ∀ (b : Bool), M (.iface 121 (.bool b)) (.mk 2 (bif b then 1 else 0) [] [] []) (VlF.bool b)) (num : ∀ (n : Int) (hn : -9223372036854775808 ≤ n ∧ n ≤ 9223372036854775807), M (.iface 71 (.int .i64 n)) (.mk 3 n [] [] []) (VlF.num n hn)) (str : ∀ (s : ByteArray), M (.iface 93 (.string s)) (.mk 4 0 (lS s) [] []) (VlF.str s)) (list : ∀ (a : Sl) (us : List Value) (ds : List Nd) (hv : IsG w a.v us) (hF : a.In F) (hl : us.length = ds.length) (hz : a.n ≤ 1759218604441) (he : ∀ (i : Nat) u d, us[i]? = some u → ds[i]? = some d → VlF w F u d), (∀ (i : Nat) u d (hz0 : us[i]? = some u) (hz1 : ds[i]? = some d), M u d (he i u d hz0 hz1)) → M (.iface 73 a.v) (.mk 5 0 [] [] ds) (VlF.list a us ds hv hF hl hz he)) (obj : ∀ (ks a : Sl) (kb : List ByteArray) (us : List Value) (ds : List Nd) (hk : IsG w ks.v (strs kb)) (hkF : ks.In F) (hv : IsG w a.v us) (hF : a.In F) (hl : us.length = ds.length) (hz : ks.n ≤ 8796093022208 ∧ a.n ≤ 1759218604441) (he : ∀ (i : Nat) u d, us[i]? = some u → ds[i]? = some d → VlF w F u d), (∀ (i : Nat) u d (hz0 : us[i]? = some u) (hz1 : ds[i]? = some d), M u d (he i u d hz0 hz1)) → M (.iface 76 (.agg #[ks.v, a.v])) (.mk 6 0 [] (kb.map lS) ds) (VlF.obj ks a kb us ds hk hkF hv hF hl hz he)) {i1 : Value} {i2 : Nd} (h : VlF w F i1 i2) : M i1 i2 h :=
  (h (fun i1 i2 => ∃ h9 : VlF w F i1 i2, M i1 i2 h9) (⟨VlF.null, null⟩) (fun b => ⟨VlF.bool b, bool b⟩) (fun n hn => ⟨VlF.num n hn, num n hn⟩) (fun s => ⟨VlF.str s, str s⟩) (fun a us ds hv hF hl hz he => ⟨VlF.list a us ds hv hF hl hz (fun i u d hz0 hz1 => (he i u d hz0 hz1).1), list a us ds hv hF hl hz (fun i u d hz0 hz1 => (he i u d hz0 hz1).1) (fun i u d hz0 hz1 => (he i u d hz0 hz1).2)⟩) (fun ks a kb us ds hk hkF hv hF hl hz he => ⟨VlF.obj ks a kb us ds hk hkF hv hF hl hz (fun i u d hz0 hz1 => (he i u d hz0 hz1).1), obj ks a kb us ds hk hkF hv hF hl hz (fun i u d hz0 hz1 => (he i u d hz0 hz1).1) (fun i u d hz0 hz1 => (he i u d hz0 hz1).2)⟩)).2
theorem VlF.ag {w w1 : World} {F : Nat → Prop} {v : Value} {d : Nd} (h : VlF w F v d) (hb : ∀ b, F b → b < w.heap.size → w1.heap[b]? = w.heap[b]?) : VlF w1 F v d := by
  induction h using VlF.rc with
  | null => exact .null
  | bool b => exact .bool b
  | num n hn => exact .num n hn
  | str s => exact .str s
  | list a us ds hv hF hl hz he ih => exact .list a us ds (hv.ag hF hb) hF hl hz ih
  | obj ks a kb us ds hk hkF hv hF hl hz he ih => exact .obj ks a kb us ds (hk.ag hkF hb) hkF (hv.ag hF hb) hF hl hz ih
theorem VlF.kept {w w1 : World} {F : Nat → Prop} {v : Value} {d : Nd} (h : VlF w F v d) (hb : Below w.heap.size w w1) : VlF w1 F v d := h.ag (fun b _ hl => hb.block b hl)
theorem LsO.le {w : World} {B B' : Nat} {X : Nat → Prop} {v : Sl} {rs : List Rn} {vs : List Nd} (h : LsO w B X v rs vs) (hB : B' ≤ B) : LsO w B' X v rs vs :=
  ⟨h.own.le hB, h.off, h.len, fun i a d hi hj => (h.el i a d hi hj).mono fun _ hb => ⟨Nat.le_trans hB hb.1, hb.2⟩⟩
/-- What the region of plain that makes an object's node knows. -/
def PF0 (B : Nat) (v : Value) (x : World) : Prop := ∃ y, v = .slice (some ⟨y, 0, none⟩) 0 0 ∧ B ≤ y ∧ OwnG 9 x y v []
def PF3 (B : Nat) (kb : List ByteArray) (v : Value) (x : World) : Prop := ∃ a : Sl, v = a.v ∧ OwnG 9 x B a.v (strs kb)
def PF4 (B : Nat) (kb : List ByteArray) (v : Value) (x : World) : Prop := ∃ a : Sl, v = .agg (rnA ⟨6, 0, ⟨#[]⟩, a, slZ⟩) ∧ OwnG 9 x B a.v (strs kb)
def PF7 (B : Nat) (kb : List ByteArray) (ds : List Nd) (v : Value) (x : World) : Prop := ∃ (a b : Sl) (rs : List Rn), v = .tuple #[.agg (rnA ⟨6, 0, ⟨#[]⟩, a, b⟩), .bool true] ∧ OwnG 9 x B a.v (strs kb) ∧ LsO x B (fun _ => False) b rs ds
def PF8 (B : Nat) (kb : List ByteArray) (ds : List Nd) (v : Value) (x : World) : Prop := ∃ (a b : Sl) (rs : List Rn), v = .agg (rnA ⟨6, 0, ⟨#[]⟩, a, b⟩) ∧ OwnG 9 x B a.v (strs kb) ∧ LsO x B (fun _ => False) b rs ds
theorem PF0.keep {B : Nat} {v : Value} {w w' : World} (h : PF0 B v w) (hb : Below w.heap.size w w') : PF0 B v w' := by
  obtain ⟨y, e, l, o⟩ := h
  exact ⟨y, e, l, o.keep hb⟩
theorem PF3.keep {B : Nat} {kb : List ByteArray} {v : Value} {w w' : World} (h : PF3 B kb v w) (hb : Below w.heap.size w w') : PF3 B kb v w' := by
  obtain ⟨a, e, o⟩ := h
  exact ⟨a, e, o.keep hb⟩
theorem PF4.keep {B : Nat} {kb : List ByteArray} {v : Value} {w w' : World} (h : PF4 B kb v w) (hb : Below w.heap.size w w') : PF4 B kb v w' := by
  obtain ⟨a, e, o⟩ := h
  exact ⟨a, e, o.keep hb⟩
theorem PF7.keep {B : Nat} {kb : List ByteArray} {ds : List Nd} {v : Value} {w w' : World} (h : PF7 B kb ds v w) (hb : Below w.heap.size w w') : PF7 B kb ds v w' := by
  obtain ⟨a, b, rs, e, o, l⟩ := h
  exact ⟨a, b, rs, e, o.keep hb, l.later hb⟩
theorem PF8.keep {B : Nat} {kb : List ByteArray} {ds : List Nd} {v : Value} {w w' : World} (h : PF8 B kb ds v w) (hb : Below w.heap.size w w') : PF8 B kb ds v w' := by
  obtain ⟨a, b, rs, e, o, l⟩ := h
  exact ⟨a, b, rs, e, o.keep hb, l.later hb⟩
theorem Sl.own_inG15 {w : World} {B : Nat} {a : Sl} {xs : List Value} {e : TypeId} (h : OwnG e w B a.v xs) : a.In (B ≤ ·) := fun h0 p hp => by
  obtain ⟨hn, ⟨h1, h2⟩ | ⟨g, cap, cur, he, hb, -⟩⟩ := h
  · unfold Sl.v at h1; simp only [Value.slice.injEq] at h1; rw [h1.1] at hp; cases hp
  · unfold Sl.v at he; simp only [Value.slice.injEq] at he
    rw [he.1] at hp; cases hp; exact hb
end Go.Proofs.YtalnbddkhojjbaaGreatDoor
namespace Go.Proofs.YtalnbddkhojjbaaGreatDoor
open Go.RowKit

/-! A value whose lists are its own; all its lists, in book's and keys' order; their blocks -/
abbrev Lb := List (Sl × List Value)
abbrev Kb := List (Sl × List ByteArray)
set_option linter.unusedVariables false
def VlO (w : World) (B : Nat) (i1 : Value) (i2 : Nd) (i3 : Lb) (i4 : Kb) : Prop := ∀ Q : Value → Nd → Lb → Kb → Prop, (Q (.iface 116 (.agg #[])) (.mk 1 0 [] [] []) [] []) → (∀ (b : Bool), Q (.iface 121 (.bool b)) (.mk 2 (bif b then 1 else 0) [] [] []) [] []) → (∀ (n : Int) (hn : -9223372036854775808 ≤ n ∧ n ≤ 9223372036854775807), Q (.iface 71 (.int .i64 n)) (.mk 3 n [] [] []) [] []) → (∀ (s : ByteArray), Q (.iface 93 (.string s)) (.mk 4 0 (lS s) [] []) [] []) → (∀ (a : Sl) (us : List Value) (ds : List Nd) (L : List Lb) (K : List Kb) (hv : OwnG 42 w B a.v us) (hl : us.length = ds.length) (hz : a.n ≤ 1759218604441) (hL : L.length = us.length) (hK : K.length = us.length) (he : ∀ (i : Nat) u d l k, us[i]? = some u → ds[i]? = some d → L[i]? = some l → K[i]? = some k → Q u d l k), Q (.iface 73 a.v) (.mk 5 0 [] [] ds) ((a, us) :: L.flatten) K.flatten) → (∀ (ks a : Sl) (kb : List ByteArray) (us : List Value) (ds : List Nd) (L : List Lb) (K : List Kb) (hk : OwnG 9 w B ks.v (strs kb)) (hv : OwnG 42 w B a.v us) (hl : us.length = ds.length) (hz : ks.n ≤ 8796093022208 ∧ a.n ≤ 1759218604441) (hL : L.length = us.length) (hK : K.length = us.length) (he : ∀ (i : Nat) u d l k, us[i]? = some u → ds[i]? = some d → L[i]? = some l → K[i]? = some k → Q u d l k), Q (.iface 76 (.agg #[ks.v, a.v])) (.mk 6 0 [] (kb.map lS) ds) ((a, us) :: L.flatten) ((ks, kb) :: K.flatten)) → Q i1 i2 i3 i4
theorem VlO.null {w : World} {B : Nat}  : VlO w B (.iface 116 (.agg #[])) (.mk 1 0 [] [] []) [] [] := fun Q q0 q1 q2 q3 q4 q5 => q0
theorem VlO.bool {w : World} {B : Nat} (b : Bool) : VlO w B (.iface 121 (.bool b)) (.mk 2 (bif b then 1 else 0) [] [] []) [] [] := fun Q q0 q1 q2 q3 q4 q5 => q1 b
theorem VlO.num {w : World} {B : Nat} (n : Int) (hn : -9223372036854775808 ≤ n ∧ n ≤ 9223372036854775807) : VlO w B (.iface 71 (.int .i64 n)) (.mk 3 n [] [] []) [] [] := fun Q q0 q1 q2 q3 q4 q5 => q2 n hn
theorem VlO.str {w : World} {B : Nat} (s : ByteArray) : VlO w B (.iface 93 (.string s)) (.mk 4 0 (lS s) [] []) [] [] := fun Q q0 q1 q2 q3 q4 q5 => q3 s
theorem VlO.list {w : World} {B : Nat} (a : Sl) (us : List Value) (ds : List Nd) (L : List Lb) (K : List Kb) (hv : OwnG 42 w B a.v us) (hl : us.length = ds.length) (hz : a.n ≤ 1759218604441) (hL : L.length = us.length) (hK : K.length = us.length) (he : ∀ (i : Nat) u d l k, us[i]? = some u → ds[i]? = some d → L[i]? = some l → K[i]? = some k → VlO w B u d l k) : VlO w B (.iface 73 a.v) (.mk 5 0 [] [] ds) ((a, us) :: L.flatten) K.flatten := fun Q q0 q1 q2 q3 q4 q5 => q4 a us ds L K hv hl hz hL hK (fun i u d l k hz0 hz1 hz2 hz3 => he i u d l k hz0 hz1 hz2 hz3 Q q0 q1 q2 q3 q4 q5)
theorem VlO.obj {w : World} {B : Nat} (ks a : Sl) (kb : List ByteArray) (us : List Value) (ds : List Nd) (L : List Lb) (K : List Kb) (hk : OwnG 9 w B ks.v (strs kb)) (hv : OwnG 42 w B a.v us) (hl : us.length = ds.length) (hz : ks.n ≤ 8796093022208 ∧ a.n ≤ 1759218604441) (hL : L.length = us.length) (hK : K.length = us.length) (he : ∀ (i : Nat) u d l k, us[i]? = some u → ds[i]? = some d → L[i]? = some l → K[i]? = some k → VlO w B u d l k) : VlO w B (.iface 76 (.agg #[ks.v, a.v])) (.mk 6 0 [] (kb.map lS) ds) ((a, us) :: L.flatten) ((ks, kb) :: K.flatten) := fun Q q0 q1 q2 q3 q4 q5 => q5 ks a kb us ds L K hk hv hl hz hL hK (fun i u d l k hz0 hz1 hz2 hz3 => he i u d l k hz0 hz1 hz2 hz3 Q q0 q1 q2 q3 q4 q5)
theorem VlO.rc {w : World} {B : Nat} {M : ∀ (i1 : Value) (i2 : Nd) (i3 : Lb) (i4 : Kb), VlO w B i1 i2 i3 i4 → Prop} (null : M (.iface 116 (.agg #[])) (.mk 1 0 [] [] []) [] [] (VlO.null)) (bool : ∀ (b : Bool), M (.iface 121 (.bool b)) (.mk 2 (bif b then 1 else 0) [] [] []) [] [] (VlO.bool b)) (num : ∀ (n : Int) (hn : -9223372036854775808 ≤ n ∧ n ≤ 9223372036854775807), M (.iface 71 (.int .i64 n)) (.mk 3 n [] [] []) [] [] (VlO.num n hn)) (str : ∀ (s : ByteArray), M (.iface 93 (.string s)) (.mk 4 0 (lS s) [] []) [] [] (VlO.str s)) (list : ∀ (a : Sl) (us : List Value) (ds : List Nd) (L : List Lb) (K : List Kb) (hv : OwnG 42 w B a.v us) (hl : us.length = ds.length) (hz : a.n ≤ 1759218604441) (hL : L.length = us.length) (hK : K.length = us.length) (he : ∀ (i : Nat) u d l k, us[i]? = some u → ds[i]? = some d → L[i]? = some l → K[i]? = some k → VlO w B u d l k), (∀ (i : Nat) u d l k (hz0 : us[i]? = some u) (hz1 : ds[i]? = some d) (hz2 : L[i]? = some l) (hz3 : K[i]? = some k), M u d l k (he i u d l k hz0 hz1 hz2 hz3)) → M (.iface 73 a.v) (.mk 5 0 [] [] ds) ((a, us) :: L.flatten) K.flatten (VlO.list a us ds L K hv hl hz hL hK he)) (obj : ∀ (ks a : Sl) (kb : List ByteArray) (us : List Value) (ds : List Nd) (L : List Lb) (K : List Kb) (hk : OwnG 9 w B ks.v (strs kb)) (hv : OwnG 42 w B a.v us) (hl : us.length = ds.length) (hz : ks.n ≤ 8796093022208 ∧ a.n ≤ 1759218604441) (hL : L.length = us.length) (hK : K.length = us.length) (he : ∀ (i : Nat) u d l k, us[i]? = some u → ds[i]? = some d → L[i]? = some l → K[i]? = some k → VlO w B u d l k), (∀ (i : Nat) u d l k (hz0 : us[i]? = some u) (hz1 : ds[i]? = some d) (hz2 : L[i]? = some l) (hz3 : K[i]? = some k), M u d l k (he i u d l k hz0 hz1 hz2 hz3)) → M (.iface 76 (.agg #[ks.v, a.v])) (.mk 6 0 [] (kb.map lS) ds) ((a, us) :: L.flatten) ((ks, kb) :: K.flatten) (VlO.obj ks a kb us ds L K hk hv hl hz hL hK he)) {i1 : Value} {i2 : Nd} {i3 : Lb} {i4 : Kb} (h : VlO w B i1 i2 i3 i4) : M i1 i2 i3 i4 h :=
  (h (fun i1 i2 i3 i4 => ∃ h9 : VlO w B i1 i2 i3 i4, M i1 i2 i3 i4 h9) (⟨VlO.null, null⟩) (fun b => ⟨VlO.bool b, bool b⟩) (fun n hn => ⟨VlO.num n hn, num n hn⟩) (fun s => ⟨VlO.str s, str s⟩) (fun a us ds L K hv hl hz hL hK he => ⟨VlO.list a us ds L K hv hl hz hL hK (fun i u d l k hz0 hz1 hz2 hz3 => (he i u d l k hz0 hz1 hz2 hz3).1), list a us ds L K hv hl hz hL hK (fun i u d l k hz0 hz1 hz2 hz3 => (he i u d l k hz0 hz1 hz2 hz3).1) (fun i u d l k hz0 hz1 hz2 hz3 => (he i u d l k hz0 hz1 hz2 hz3).2)⟩) (fun ks a kb us ds L K hk hv hl hz hL hK he => ⟨VlO.obj ks a kb us ds L K hk hv hl hz hL hK (fun i u d l k hz0 hz1 hz2 hz3 => (he i u d l k hz0 hz1 hz2 hz3).1), obj ks a kb us ds L K hk hv hl hz hL hK (fun i u d l k hz0 hz1 hz2 hz3 => (he i u d l k hz0 hz1 hz2 hz3).1) (fun i u d l k hz0 hz1 hz2 hz3 => (he i u d l k hz0 hz1 hz2 hz3).2)⟩)).2
theorem VlO.keep {w w1 : World} {B : Nat} {v : Value} {d : Nd} {L : Lb} {K : Kb} (h : VlO w B v d L K) (hb : Below w.heap.size w w1) : VlO w1 B v d L K := by
  induction h using VlO.rc with
  | null => exact .null
  | bool b => exact .bool b
  | num n hn => exact .num n hn
  | str s => exact .str s
  | list a us ds L K hv hl hz hL hK he ih => exact .list a us ds L K (hv.keep hb) hl hz hL hK ih
  | obj ks a kb us ds L K hk hv hl hz hL hK he ih => exact .obj ks a kb us ds L K (hk.keep hb) (hv.keep hb) hl hz hL hK ih
theorem VlO.f {w : World} {B : Nat} {v : Value} {d : Nd} {L : Lb} {K : Kb} (h : VlO w B v d L K) : VlF w (B ≤ ·) v d := by
  induction h using VlO.rc with
  | null => exact .null
  | bool b => exact .bool b
  | num n hn => exact .num n hn
  | str s => exact .str s
  | list a us ds L K hv hl hz hL hK he ih =>
    exact .list a us ds hv.isG (Sl.own_inG15 hv) hl hz fun i u d h1 h2 => by
      obtain ⟨l, hl9⟩ : ∃ q, L[i]? = some q := ⟨_, List.getElem?_eq_getElem (by obtain ⟨h9, -⟩ := List.getElem?_eq_some_iff.1 h1; omega)⟩
      obtain ⟨k, hk9⟩ : ∃ q, K[i]? = some q := ⟨_, List.getElem?_eq_getElem (by obtain ⟨h9, -⟩ := List.getElem?_eq_some_iff.1 h1; omega)⟩
      exact ih i u d l k h1 h2 hl9 hk9
  | obj ks a kb us ds L K hk hv hl hz hL hK he ih =>
    exact .obj ks a kb us ds hk.isG (Sl.own_inG15 hk) hv.isG (Sl.own_inG15 hv) hl hz fun i u d h1 h2 => by
      obtain ⟨l, hl9⟩ : ∃ q, L[i]? = some q := ⟨_, List.getElem?_eq_getElem (by obtain ⟨h9, -⟩ := List.getElem?_eq_some_iff.1 h1; omega)⟩
      obtain ⟨k, hk9⟩ : ∃ q, K[i]? = some q := ⟨_, List.getElem?_eq_getElem (by obtain ⟨h9, -⟩ := List.getElem?_eq_some_iff.1 h1; omega)⟩
      exact ih i u d l k h1 h2 hl9 hk9
theorem cnt_flat {α : Type} : ∀ (L : List (List α)) (ds : List Nd), L.length = ds.length → (∀ (i : Nat) l d, L[i]? = some l → ds[i]? = some d → 80 * l.length ≤ szN d) → 80 * L.flatten.length ≤ szL ds
  | [], [], _, _ => by simp [szL]
  | l :: L, d :: ds, hl, h => by
    have h1 := cnt_flat L ds (by simpa using hl) (fun i a b ha hb => h (i + 1) a b (by simpa using ha) (by simpa using hb))
    have h2 := h 0 l d rfl rfl
    rw [List.flatten_cons, List.length_append, szL]
    omega
  | [], _ :: _, hl, _ => by simp at hl
  | _ :: _, [], hl, _ => by simp at hl
/-- There are no more lists than the value's size tells. -/
theorem VlO.cnt {w : World} {B : Nat} {v : Value} {d : Nd} {L : Lb} {K : Kb} (h : VlO w B v d L K) : 80 * L.length ≤ szN d ∧ 80 * K.length ≤ szN d := by
  induction h using VlO.rc with
  | null => rw [szN_mk]; simp
  | bool b => rw [szN_mk]; simp
  | num n hn => rw [szN_mk]; simp
  | str s => rw [szN_mk]; simp
  | list a us ds L K hv hl hz hL hK he ih =>
    have h1 := cnt_flat L ds (by omega) (fun i l d h1 h2 => by
      obtain ⟨i1, -⟩ := List.getElem?_eq_some_iff.1 h1
      exact (ih i _ d l _ (List.getElem?_eq_getElem (by omega)) h2 h1 (List.getElem?_eq_getElem (by omega))).1)
    have h2 := cnt_flat K ds (by omega) (fun i l d h1 h2 => by
      obtain ⟨i1, -⟩ := List.getElem?_eq_some_iff.1 h1
      exact (ih i _ d _ l (List.getElem?_eq_getElem (by omega)) h2 (List.getElem?_eq_getElem (by omega)) h1).2)
    rw [szN_mk, List.length_cons]
    omega
  | obj ks a kb us ds L K hk hv hl hz hL hK he ih =>
    have h1 := cnt_flat L ds (by omega) (fun i l d h1 h2 => by
      obtain ⟨i1, -⟩ := List.getElem?_eq_some_iff.1 h1
      exact (ih i _ d l _ (List.getElem?_eq_getElem (by omega)) h2 h1 (List.getElem?_eq_getElem (by omega))).1)
    have h2 := cnt_flat K ds (by omega) (fun i l d h1 h2 => by
      obtain ⟨i1, -⟩ := List.getElem?_eq_some_iff.1 h1
      exact (ih i _ d _ l (List.getElem?_eq_getElem (by omega)) h2 (List.getElem?_eq_getElem (by omega)) h1).2)
    rw [szN_mk, List.length_cons, List.length_cons]
    omega
/-! The blocks of the lists -/
def Sl.ob (a : Sl) : List Nat := a.v.ownBlock.toList
def blL (L : Lb) : List Nat := L.flatMap (fun q => q.1.ob)
def blK (K : Kb) : List Nat := K.flatMap (fun q => q.1.ob)
def blks (L : Lb) (K : Kb) : List Nat := blL L ++ blK K
theorem OwnG.oth {e : TypeId} {w w' : World} {B : Nat} {v : Value} {xs : List Value} (h : OwnG e w B v xs) (hl : ∀ g, v.ownBlock = some g → w'.heap[g]? = w.heap[g]?) : OwnG e w' B v xs := by
  obtain ⟨h1, h2⟩ := h
  refine ⟨h1, ?_⟩
  rcases h2 with hn | ⟨g, cap, cur, hv, hb, hg, r⟩
  · exact .inl hn
  · refine .inr ⟨g, cap, cur, hv, hb, ?_, r⟩
    rw [hl g (by rw [hv]; rfl)]; exact hg
theorem mem_ob {a : Sl} {g : Nat} : g ∈ a.ob ↔ a.v.ownBlock = some g := by
  unfold Sl.ob
  rw [Option.mem_toList]
theorem blL_mem {L : Lb} {q : Sl × List Value} {g : Nat} (h : q ∈ L) (hg : q.1.v.ownBlock = some g) : g ∈ blL L := List.mem_flatMap.2 ⟨q, h, mem_ob.2 hg⟩
theorem blK_mem {K : Kb} {q : Sl × List ByteArray} {g : Nat} (h : q ∈ K) (hg : q.1.v.ownBlock = some g) : g ∈ blK K := List.mem_flatMap.2 ⟨q, h, mem_ob.2 hg⟩
theorem flat_sub {α : Type} {L : List (List α)} {i : Nat} {l : List α} (h : L[i]? = some l) : ∀ x ∈ l, x ∈ L.flatten := fun _ hx => List.mem_flatten.2 ⟨l, List.mem_of_getElem? h, hx⟩
theorem blL_sub {L M : Lb} (h : ∀ x ∈ L, x ∈ M) : ∀ g ∈ blL L, g ∈ blL M := fun g hg => by
  obtain ⟨q, hq, hg⟩ := List.mem_flatMap.1 hg
  exact List.mem_flatMap.2 ⟨q, h q hq, hg⟩
theorem blK_sub {L M : Kb} (h : ∀ x ∈ L, x ∈ M) : ∀ g ∈ blK L, g ∈ blK M := fun g hg => by
  obtain ⟨q, hq, hg⟩ := List.mem_flatMap.1 hg
  exact List.mem_flatMap.2 ⟨q, h q hq, hg⟩
theorem blks_sub {L M : Lb} {K J : Kb} (h : ∀ x ∈ L, x ∈ M) (k : ∀ x ∈ K, x ∈ J) : ∀ g ∈ blks L K, g ∈ blks M J := fun g hg => by
  rcases List.mem_append.1 hg with hg | hg
  · exact List.mem_append_left _ (blL_sub h g hg)
  · exact List.mem_append_right _ (blK_sub k g hg)
/-- The blocks lie from B on. -/
theorem VlO.bl {w : World} {B : Nat} {v : Value} {d : Nd} {L : Lb} {K : Kb} (h : VlO w B v d L K) : ∀ g ∈ blks L K, B ≤ g ∧ g < w.heap.size := by
  induction h using VlO.rc with
  | null => intro g hg; cases hg
  | bool b => intro g hg; cases hg
  | num n hn => intro g hg; cases hg
  | str s => intro g hg; cases hg
  | list a us ds L K hv hl hz hL hK he ih =>
    intro g hg
    have hin : ∀ (i : Nat) l k, L[i]? = some l → K[i]? = some k → ∀ g ∈ blks l k, B ≤ g ∧ g < w.heap.size := fun i l k h1 h2 => by
      obtain ⟨i1, -⟩ := List.getElem?_eq_some_iff.1 h1
      exact ih i _ _ l k (List.getElem?_eq_getElem (by omega)) (List.getElem?_eq_getElem (by omega)) h1 h2
    rcases List.mem_append.1 hg with hg | hg
    · obtain ⟨q, hq, hg⟩ := List.mem_flatMap.1 hg
      rcases List.mem_cons.1 hq with rfl | hq
      · exact hv.lt g (mem_ob.1 hg)
      · obtain ⟨l, hl9, hq⟩ := List.mem_flatten.1 hq
        obtain ⟨i, hi⟩ := List.getElem?_of_mem hl9
        obtain ⟨i1, -⟩ := List.getElem?_eq_some_iff.1 hi
        exact hin i l _ hi (List.getElem?_eq_getElem (by omega)) g (List.mem_append_left _ (List.mem_flatMap.2 ⟨q, hq, hg⟩))
    · obtain ⟨q, hq, hg⟩ := List.mem_flatMap.1 hg
      obtain ⟨k, hk9, hq⟩ := List.mem_flatten.1 hq
      obtain ⟨i, hi⟩ := List.getElem?_of_mem hk9
      obtain ⟨i1, -⟩ := List.getElem?_eq_some_iff.1 hi
      exact hin i _ k (List.getElem?_eq_getElem (by omega)) hi g (List.mem_append_right _ (List.mem_flatMap.2 ⟨q, hq, hg⟩))
  | obj ks a kb us ds L K hk hv hl hz hL hK he ih =>
    intro g hg
    have hin : ∀ (i : Nat) l k, L[i]? = some l → K[i]? = some k → ∀ g ∈ blks l k, B ≤ g ∧ g < w.heap.size := fun i l k h1 h2 => by
      obtain ⟨i1, -⟩ := List.getElem?_eq_some_iff.1 h1
      exact ih i _ _ l k (List.getElem?_eq_getElem (by omega)) (List.getElem?_eq_getElem (by omega)) h1 h2
    rcases List.mem_append.1 hg with hg | hg
    · obtain ⟨q, hq, hg⟩ := List.mem_flatMap.1 hg
      rcases List.mem_cons.1 hq with rfl | hq
      · exact hv.lt g (mem_ob.1 hg)
      · obtain ⟨l, hl9, hq⟩ := List.mem_flatten.1 hq
        obtain ⟨i, hi⟩ := List.getElem?_of_mem hl9
        obtain ⟨i1, -⟩ := List.getElem?_eq_some_iff.1 hi
        exact hin i l _ hi (List.getElem?_eq_getElem (by omega)) g (List.mem_append_left _ (List.mem_flatMap.2 ⟨q, hq, hg⟩))
    · obtain ⟨q, hq, hg⟩ := List.mem_flatMap.1 hg
      rcases List.mem_cons.1 hq with rfl | hq
      · exact hk.lt g (mem_ob.1 hg)
      · obtain ⟨k, hk9, hq⟩ := List.mem_flatten.1 hq
        obtain ⟨i, hi⟩ := List.getElem?_of_mem hk9
        obtain ⟨i1, -⟩ := List.getElem?_eq_some_iff.1 hi
        exact hin i _ k (List.getElem?_eq_getElem (by omega)) hi g (List.mem_append_right _ (List.mem_flatMap.2 ⟨q, hq, hg⟩))
/-- Nothing but the blocks of its lists matters. -/
theorem VlO.ag {w w1 : World} {B : Nat} {v : Value} {d : Nd} {L : Lb} {K : Kb} (h : VlO w B v d L K) : (∀ g ∈ blks L K, w1.heap[g]? = w.heap[g]?) → VlO w1 B v d L K := by
  induction h using VlO.rc with
  | null => exact fun _ => .null
  | bool b => exact fun _ => .bool b
  | num n hn => exact fun _ => .num n hn
  | str s => exact fun _ => .str s
  | list a us ds L K hv hl hz hL hK he ih =>
    intro hb
    refine .list a us ds L K (hv.oth fun g hg => hb g (List.mem_append_left _ (blL_mem (q := (a, us)) (by simp) hg))) hl hz hL hK fun i u d l k h1 h2 h3 h4 => ih i u d l k h1 h2 h3 h4 fun g hg => hb g ?_
    exact blks_sub (fun x hx => List.mem_cons_of_mem _ (flat_sub h3 x hx)) (flat_sub h4) g hg
  | obj ks a kb us ds L K hk hv hl hz hL hK he ih =>
    intro hb
    refine .obj ks a kb us ds L K (hk.oth fun g hg => hb g (List.mem_append_right _ (blK_mem (q := (ks, kb)) (by simp) hg))) (hv.oth fun g hg => hb g (List.mem_append_left _ (blL_mem (q := (a, us)) (by simp) hg))) hl hz hL hK fun i u d l k h1 h2 h3 h4 => ih i u d l k h1 h2 h3 h4 fun g hg => hb g ?_
    exact blks_sub (fun x hx => List.mem_cons_of_mem _ (flat_sub h3 x hx)) (fun x hx => List.mem_cons_of_mem _ (flat_sub h4 x hx)) g hg
theorem VlO.le {w : World} {B B' : Nat} {v : Value} {d : Nd} {L : Lb} {K : Kb} (h : VlO w B v d L K) (hB : B' ≤ B) : VlO w B' v d L K := by
  induction h using VlO.rc with
  | null => exact .null
  | bool b => exact .bool b
  | num n hn => exact .num n hn
  | str s => exact .str s
  | list a us ds L K hv hl hz hL hK he ih => exact .list a us ds L K (hv.le hB) hl hz hL hK ih
  | obj ks a kb us ds L K hk hv hl hz hL hK he ih => exact .obj ks a kb us ds L K (hk.le hB) (hv.le hB) hl hz hL hK ih
end Go.Proofs.YtalnbddkhojjbaaGreatDoor
