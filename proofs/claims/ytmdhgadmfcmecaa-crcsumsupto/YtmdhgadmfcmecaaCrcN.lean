
import Derived.Test.YtmdhgadmfcmecaaCrcS
import Derived.Lib.SmallJoins
namespace Go.Proofs.Ytmdhgadmfcmecaa
open Go.RowKit

theorem addr_add (b o i : Nat) : (⟨b, o, none⟩ : Addr).add i = ⟨b, o + i, none⟩ := by unfold Addr.add; split <;> simp_all
set_option maxHeartbeats 400000 in
theorem known_any (w : World) :
    Calls Try.prog 7 #[] w fun e w' => e = .returned (.bool true) ∧ Below w.heap.size w w' := by
  have hc1 := Joins.run_convert_bytes_const_at (P := Try.prog) w 22 5 #[.int .u8 49, .int .u8 50, .int .u8 51, .int .u8 52] 4 4 w.heap.size rfl (by kernel_rfl) (by kernel_rfl)
  have hc2 := Joins.run_convert_bytes_const_at (P := Try.prog) (w.alloc (.cells #[.int .u8 49, .int .u8 50, .int .u8 51, .int .u8 52] 5 (4, 5))) 22 5 #[.int .u8 53, .int .u8 54, .int .u8 55, .int .u8 56, .int .u8 57] 5 5 (w.heap.size + 1) (by simp) (by kernel_rfl) (by kernel_rfl)
  simp only [List.size_toArray, List.length_cons, List.length_nil, Nat.reduceAdd] at hc1 hc2
  obtain ⟨W, hW⟩ : ∃ W, W = ((w.alloc (.cells #[.int .u8 49, .int .u8 50, .int .u8 51, .int .u8 52] 5 (4, 5))).alloc (.cells #[.int .u8 53, .int .u8 54, .int .u8 55, .int .u8 56, .int .u8 57] 5 (5, 6))).alloc (.cells #[.slice (some ⟨w.heap.size, 0, none⟩) 4 4, .slice (some ⟨w.heap.size + 1, 0, none⟩) 5 5] 22) := ⟨_, rfl⟩
  have hb : Below w.heap.size w W := by
    rw [hW]; exact (((Below.refl _ _).alloc (Nat.le_refl _) _).alloc (by simp) _).alloc (by simp; omega) _
  have k0 : ∀ i, W.cell? ⟨w.heap.size, i, none⟩ = (#[Value.int .u8 49, .int .u8 50, .int .u8 51, .int .u8 52])[i]? := by
    intro i
    rw [hW, World.cell?_alloc_lt, World.cell?_alloc_lt, World.cell?_alloc_mark] <;> (simp <;> omega)
  have k1 : ∀ i, W.cell? ⟨w.heap.size + 1, i, none⟩ = (#[Value.int .u8 53, .int .u8 54, .int .u8 55, .int .u8 56, .int .u8 57])[i]? := by
    intro i
    rw [hW, World.cell?_alloc_lt, Joins.cell_alloc_mark_at] <;> simp
  have k2 : ∀ i, W.cell? ⟨w.heap.size + 1 + 1, i, none⟩ = (#[Value.slice (some ⟨w.heap.size, 0, none⟩) 4 4, .slice (some ⟨w.heap.size + 1, 0, none⟩) 5 5])[i]? := by
    intro i
    rw [hW, Joins.cell_alloc_mark_at _ _ _ _ _ _ (by simp)]
  have hi : IsBB W (.slice (some ⟨w.heap.size + 1 + 1, 0, none⟩) 2 2) [[49, 50, 51, 52], [53, 54, 55, 56, 57]] := by
    refine .inr ⟨_, _, rfl, fun i hi => ?_⟩
    have ha : (⟨w.heap.size + 1 + 1, 0, none⟩ : Addr).add i = ⟨w.heap.size + 1 + 1, i, none⟩ := by unfold Addr.add; split <;> simp_all
    rw [ha, k2]
    have hi2 : i < 2 := by simpa using hi
    rcases (by omega : i = 0 ∨ i = 1) with rfl | rfl
    · refine ⟨_, rfl, .inr ⟨_, _, rfl, fun j hj => ?_⟩⟩
      rw [addr_add, Nat.zero_add, k0]
      have hj2 : j < 4 := by simpa using hj
      rcases (by omega : j = 0 ∨ j = 1 ∨ j = 2 ∨ j = 3) with rfl | rfl | rfl | rfl <;> rfl
    · refine ⟨_, rfl, .inr ⟨_, _, rfl, fun j hj => ?_⟩⟩
      rw [addr_add, Nat.zero_add, k1]
      have hj2 : j < 5 := by simpa using hj
      rcases (by omega : j = 0 ∨ j = 1 ∨ j = 2 ∨ j = 3 ∨ j = 4) with rfl | rfl | rfl | rfl | rfl <;> rfl
  have h1 := sum_all _ _ W (by unfold maxLen; simp) (by unfold maxLen; simp) hi
  have h2 := sum_all (.slice none 0 0) [] W (by unfold maxLen; simp) (by simp) (.inl ⟨rfl, rfl⟩)
  rw [sum_known] at h1
  rw [sum_none] at h2
  simp only [BitVec.reduceToNat] at h1 h2
  clear k0 k1 k2 hi
  have H1 := h1
  have H2 := h2
  clear h1 h2
  go_enter Try.func7, Try.ntmps7
  go_wp2_with fail
  rw [← hW]
  clear hW hc1 hc2
  refine H1.mono ?_
  rintro e w1 ⟨rfl, rfl⟩
  clear H1
  go_wp2_with fail
  refine H2.mono ?_
  rintro e w1 ⟨rfl, rfl⟩
  clear H2
  go_wp2
  go_ret
  exact ⟨rfl, hb⟩
end Go.Proofs.Ytmdhgadmfcmecaa
