import Derived.Test.YtfihpfaljjljhaaByt
import Derived.Test.YtfihpfaljjljhaaKept
import Derived.Test.YtfihpfaljjljhaaRely
import Derived.Deep.MidRow
import Derived.Deep.AppendSrc
import Derived.Deep.DeepCutAuto
namespace Go.Proofs.Ytfihpfaljjljhaa
open Go.RowKit

/-! The memory of a law over a sector and an Ask: block B the sector, block B + 1 the Ask. -/
structure BW (W : World) (s : Nat → UInt8) (At An To Av : Int) (sl : Value) (l : List UInt8) (w : World) : Prop where
  below : Below W.heap.size W w
  ok : rowOk w W.heap.size = true
  row : rowAt w W.heap.size = secA s
  ask : w.heap[W.heap.size + 1]? = some (.cells #[.int .i64 At, .int .i64 An, .int .i64 To, .int .u32 Av, sl] 30 (0, 0))
  isb : IsB w sl l
theorem BW.lt {W w : World} {s : Nat → UInt8} {At An To Av : Int} {sl : Value} {l : List UInt8} (h : BW W s At An To Av sl l w) : W.heap.size + 1 < w.heap.size := (Array.getElem?_eq_some_iff.1 h.ask).1
theorem BW.kept {W w w1 : World} {s : Nat → UInt8} {At An To Av : Int} {sl : Value} {l : List UInt8} (h : BW W s At An To Av sl l w) (hb : Below w.heap.size w w1) : BW W s At An To Av sl l w1 := by
  have h9 := h.lt
  obtain ⟨k1, k2⟩ := keepRow hb (by omega) h.ok h.row
  exact ⟨h.below.trans (hb.mono (by omega)), k1, k2, by rw [hb.block _ h9]; exact h.ask, h.isb.kept hb⟩
theorem BW.cell {W w : World} {s : Nat → UInt8} {At An To Av : Int} {sl : Value} {l : List UInt8} (h : BW W s At An To Av sl l w) :
    w.cell? ⟨W.heap.size + 1, 0, none⟩ = some (.int .i64 At) ∧ w.cell? ⟨W.heap.size + 1, 1, none⟩ = some (.int .i64 An) ∧ w.cell? ⟨W.heap.size + 1, 2, none⟩ = some (.int .i64 To) ∧
    w.cell? ⟨W.heap.size + 1, 3, none⟩ = some (.int .u32 Av) ∧ w.cell? ⟨W.heap.size + 1, 4, none⟩ = some sl := by
  refine ⟨?_, ?_, ?_, ?_, ?_⟩ <;> (rw [cell_of_row w _ _ _ _ _ h.ask]; rfl)
theorem BW.start (w : World) (s : Nat → UInt8) (At An To Av : Int) (sl : Value) (l : List UInt8) (h : IsB w sl l) :
    BW w s At An To Av sl l ((w.alloc (.cells (secA s) 23)).alloc (.cells #[.int .i64 At, .int .i64 An, .int .i64 To, .int .u32 Av, sl] 30)) := by
  have hb := ((Below.refl w.heap.size w).alloc (Nat.le_refl _) (.cells (secA s) 23)).alloc (by simp) (.cells #[.int .i64 At, .int .i64 An, .int .i64 To, .int .u32 Av, sl] 30)
  exact ⟨hb, by go_simp, by go_simp, heap_alloc2_new _ _ _, h.kept hb⟩
theorem BW.drew {W w : World} {s : Nat → UInt8} {At An To Av : Int} {sl : Value} {l : List UInt8} (h : BW W s At An To Av sl l w) : BW W s At An To Av sl l w.drew := h.kept (Below.refl _ _).drew
/-- A row that holds a sector. -/
def Row (w : World) (g : Nat) (s : Nat → UInt8) : Prop := rowOk w g = true ∧ rowAt w g = secA s
theorem Row.kept {w w1 : World} {g : Nat} {s : Nat → UInt8} (h : Row w g s) (hb : Below w.heap.size w w1) : Row w1 g s := keepRow hb (lt_of_rowOk h.1) h.1 h.2
theorem Row.new (w : World) (s : Nat → UInt8) (t : TypeId) : Row (w.alloc (.cells (secA s) t)) w.heap.size s := ⟨rowOk_new _ _ _ _ rfl (secA_size _), rowAt_new _ _ _ _ rfl⟩
theorem Row.lt {w : World} {g : Nat} {s : Nat → UInt8} (h : Row w g s) : g < w.heap.size := lt_of_rowOk h.1
theorem Row.cell {w : World} {g : Nat} {s : Nat → UInt8} (h : Row w g s) (i : Nat) (hi : i < 64) : w.cell? ⟨g, i, none⟩ = some (Value.int .u8 ((s i).toNat : Int)) := by
  rw [cell_rowAt h.1, h.2, secA_get s i hi]
theorem BW.byte {W w : World} {s : Nat → UInt8} {At An To Av : Int} {sl : Value} {l : List UInt8} (h : BW W s At An To Av sl l w) (i : Nat) (hi : i < 64) : w.cell? ⟨W.heap.size, i, none⟩ = some (Value.int .u8 ((s i).toNat : Int)) :=
  Row.cell ⟨h.ok, h.row⟩ i hi
theorem below_alloc (w : World) (o : Obj) : Below w.heap.size w (w.alloc o) := (Below.refl _ _).alloc (Nat.le_refl _) _

/-- The law's memory with the two rows u, v. -/
def Inv2 (W : World) (s : Nat → UInt8) (At An To Av : Int) (sl : Value) (l : List UInt8) (g5 g6 : Nat) (u v : Nat → UInt8) (w : World) : Prop := BW W s At An To Av sl l w ∧ Row w g5 u ∧ Row w g6 v
theorem Inv2.kept {W : World} {s : Nat → UInt8} {At An To Av : Int} {sl : Value} {l : List UInt8} {g5 g6 : Nat} {u v : Nat → UInt8} {w w1 : World} (h : Inv2 W s At An To Av sl l g5 g6 u v w) (hb : Below w.heap.size w w1) :
    Inv2 W s At An To Av sl l g5 g6 u v w1 := ⟨h.1.kept hb, h.2.1.kept hb, h.2.2.kept hb⟩
theorem grow_drew {W X : World} (h : Below W.heap.size W X) : Below W.heap.size W X.drew := h.drew
theorem grow_alloc {W X : World} (h : Below W.heap.size W X) (o : Obj) : Below W.heap.size W (X.alloc o) := h.alloc h.size o
theorem grow_call {W X w1 : World} (h : Below W.heap.size W X) (hb : Below X.heap.size X w1) : Below W.heap.size W w1 := h.trans (hb.mono h.size)
theorem grow_row {W X : World} (h : Below W.heap.size W X) (g : Nat) (hg : W.heap.size ≤ g) (c : Array Value) : Below W.heap.size W (X.setRow g c) := below_row h hg c
/-- What the loads of a region read, and that nothing has turned since W5. -/
def See (W : World) (s : Nat → UInt8) (At Av : Int) (sl : Value) (W5 w : World) : Prop :=
  (rowOk w W.heap.size = true ∧ rowAt w W.heap.size = secA s ∧ w.cell? ⟨W.heap.size + 1, 0, none⟩ = some (.int .i64 At) ∧ w.cell? ⟨W.heap.size + 1, 3, none⟩ = some (.int .u32 Av) ∧ w.cell? ⟨W.heap.size + 1, 4, none⟩ = some sl) ∧ Below W5.heap.size W5 w
theorem BW.seen {W : World} {s : Nat → UInt8} {At An To Av : Int} {sl : Value} {l : List UInt8} {W5 w : World} (h : BW W s At An To Av sl l W5) (hb : Below W5.heap.size W5 w) :
    (rowOk w W.heap.size = true ∧ rowAt w W.heap.size = secA s ∧ w.cell? ⟨W.heap.size + 1, 0, none⟩ = some (.int .i64 At) ∧ w.cell? ⟨W.heap.size + 1, 3, none⟩ = some (.int .u32 Av) ∧ w.cell? ⟨W.heap.size + 1, 4, none⟩ = some sl) ∧ Below W5.heap.size W5 w :=
  have k := h.kept hb
  ⟨⟨k.ok, k.row, k.cell.1, k.cell.2.2.2.1, k.cell.2.2.2.2⟩, hb⟩
/-! 'append([]byte{}, b...)' -/
theorem bytesA_one (l : List UInt8) : ∀ u ∈ (bytesA l).toList, u.oneCell' = true := fun v hv => by
  simp only [bytesA, List.mem_map] at hv
  obtain ⟨b, _, rfl⟩ := hv
  rfl
theorem src_isB {w : World} {x : Option Addr} {c : Nat} {l : List UInt8} (h : IsB w (.slice x l.length c) l) : Src Try.prog 1 28 (.slice x l.length c) l.length (bytesA l).toList w := by
  rcases h with ⟨h, rfl⟩ | ⟨y, d, he, hc⟩
  · simp only [Value.slice.injEq] at h
    obtain ⟨rfl, _, rfl⟩ := h
    exact Src.ofNil w Try.underlying28 0
  · simp only [Value.slice.injEq, true_and] at he
    obtain ⟨rfl, rfl⟩ := he
    exact Src.ofSlice w Try.underlying28 y l.length c _ (by simp) (fun j u hu => by
      have hj : j < l.length := by have := (List.getElem?_eq_some_iff.1 hu).1; simpa using this
      rw [Array.getElem?_toList, bytesA_get l j hj] at hu
      rw [hc j hj]; exact hu) (bytesA_one l)
def appA (l : List UInt8) (w : World) : Array Value := (bytesA l).toList.toArray ++ Builtin.zeroCells (Value.int .u8 0).cells (grownCap w l.length 0 5 - l.length)
theorem run_app (w : World) (g : Nat) (x : Option Addr) (c : Nat) (l : List UInt8) (ty : TypeId) (h : IsB w (.slice x l.length c) l) (h0 : l ≠ []) (hl : l.length ≤ 140737488355328) :
    (Builtin.append_ #[28, 28] ty #[.slice (some ⟨g, 0, none⟩) 0 0, .slice x l.length c]).run Try.prog w =
      .ok (.slice (some ⟨w.heap.size, 0, none⟩) l.length (grownCap w l.length 0 5)) (w.alloc (.cells (appA l w) 5)).drew := by
  obtain ⟨i, hi, hzz⟩ := Option.map_eq_some_iff.1 info5
  simp only [Prod.mk.injEq] at hzz
  obtain ⟨hz, hs, hb⟩ := hzz
  have hp : 0 < l.length := List.length_pos_iff.2 h0
  have := run_append_grow_src (P := Try.prog) w 28 28 ty 5 i _ Try.underlying28 hi hz (some ⟨g, 0, none⟩) 0 0 []
    (by rw [hs]; exact run_firstCells_some (P := Try.prog) w.drew 1 0 _ 0 0 [] (by simp) (by simp)) _ l.length (bytesA l).toList (by rw [hs]; exact src_isB h) (by omega) (by omega)
    (by rw [hb, show Builtin.nextslicecap (0 + l.length) 0 = 0 + l.length by unfold Builtin.nextslicecap; rw [if_pos (by omega)]]; omega)
  simp only [Nat.zero_add, List.nil_append] at this
  exact this
theorem run_app_nil (w : World) (g : Nat) (x : Option Addr) (c : Nat) (ty : TypeId) (h : IsB w (.slice x 0 c) []) :
    (Builtin.append_ #[28, 28] ty #[.slice (some ⟨g, 0, none⟩) 0 0, .slice x 0 c]).run Try.prog w = .ok (.slice (some ⟨g, 0, none⟩) 0 0) w := by
  obtain ⟨i, hi, hzz⟩ := Option.map_eq_some_iff.1 info5
  simp only [Prod.mk.injEq] at hzz
  obtain ⟨hz, hs, hb⟩ := hzz
  have := run_append_room_src (P := Try.prog) w 28 28 ty 5 i Try.underlying28 hi g 0 0 0 _ 0 (bytesA []).toList (by rw [hs]; exact src_isB (l := []) h) (by omega) (by simp) (by simp)
  simpa [bytesA, World.setCells] using this
theorem isB_app (w X : World) (l : List UInt8) (cap : Nat) : IsB (w.alloc (.cells (appA l X) 5)) (.slice (some ⟨w.heap.size, 0, none⟩) l.length cap) l := by
  refine .inr ⟨_, cap, rfl, fun i hi => ?_⟩
  have hadd : (⟨w.heap.size, 0, none⟩ : Addr).add i = ⟨w.heap.size, i, none⟩ := by unfold Addr.add; split <;> simp_all
  rw [hadd, World.cell?_alloc_at _ _ _ _ rfl]
  unfold appA
  rw [Array.getElem?_append_left (by simpa using hi), Array.toArray_toList, bytesA_get l i hi]
theorem run_app_any (w : World) (g : Nat) (x : Option Addr) (c : Nat) (l : List UInt8) (ty : TypeId) (h : IsB w (.slice x l.length c) l) (hl : l.length ≤ 140737488355328) :
    ∃ v w', (Builtin.append_ #[28, 28] ty #[.slice (some ⟨g, 0, none⟩) 0 0, .slice x l.length c]).run Try.prog w = .ok v w' ∧ IsB w' v l ∧ Below w.heap.size w w' := by
  by_cases hn : l = []
  · subst hn
    exact ⟨_, _, run_app_nil w g x c ty h, .inr ⟨_, _, rfl, fun i hi => by simp at hi⟩, Below.refl _ _⟩
  · exact ⟨_, _, run_app w g x c l ty h hn hl, isB_app w w l _, (below_alloc w _).drew⟩

end Go.Proofs.Ytfihpfaljjljhaa
