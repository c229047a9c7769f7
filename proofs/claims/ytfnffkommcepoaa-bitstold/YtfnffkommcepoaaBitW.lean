
import Derived.Test.YtfnffkommcepoaaBitY
import Derived.Test.YtfnffkommcepoaaCrcS
namespace Go.Proofs.Ytfnffkommcepoaa
open Go.RowKit Go.Shelf
attribute [local go_sem] Oper.semAt_some

/-! bits.whole -/
theorem over_no (s : Sc) (n : Nat) (h : ∀ z ∈ hitL (fbit s) 480 480, z.1 < n) : overU s 0 n 480 = false := by
  rw [Bool.eq_false_iff]
  intro ho
  obtain ⟨i, h1, h2, h3⟩ := (overU_iff _ _ _ _).1 ho
  have := h ⟨i, h1, h3⟩ (hitL_mem _ _ 480 ⟨i, h1, h3⟩ h1)
  simp only at this
  omega
theorem over_yes (s : Sc) (n i : Nat) (h1 : i < 480) (h2 : n ≤ i) (h3 : fbit s i = true) : overU s 0 n 480 = true :=
  (overU_iff _ _ _ _).2 ⟨i, h1, by omega, h3⟩
set_option linter.unusedSimpArgs false in
set_option maxRecDepth 100000 in
set_option maxHeartbeats 2000000 in
theorem whole_any (s : Sc) (n : Nat) (_hn : n ≤ 480) (w : World) :
    Calls Try.prog 19 #[.agg (secA s), .int .i64 (n : Int)] w fun e w' => e = .returned (.bool (isSl s && !overU s 0 n 480)) ∧ Below w.heap.size w w' := by
  refine calls_marks Try.func19 rfl ?_
  simp only [Try.ntmps19, List.size_toArray, List.length_cons, List.length_nil, Nat.reduceAdd, Nat.reduceSub, Array.replicate_succ, Array.replicate_zero, List.push_toArray, List.append_toArray, List.nil_append, List.cons_append]
  go_upto_region 1 with fail
  have hB1 : Below w.heap.size w (((w.alloc (.cells (secA s) 29)).alloc (.cells #[.int .i64 (n : Int)] 3)).alloc (.cells #[.bool false] 4)) := (((Below.refl _ w).alloc (Nat.le_refl _) _).alloc (by simp) _).alloc (by simp; omega) _
  have hS1 : ScR (((w.alloc (.cells (secA s) 29)).alloc (.cells #[.int .i64 (n : Int)] 3)).alloc (.cells #[.bool false] 4)) w.heap.size s := ((ScR.new w s 29).kept (below_alloc _ _)).kept (below_alloc _ _)
  have hN1 : Boxed (((w.alloc (.cells (secA s) 29)).alloc (.cells #[.int .i64 (n : Int)] 3)).alloc (.cells #[.bool false] 4)) (w.heap.size + 1) 3 (.int .i64 (n : Int)) := by
    have := (Boxed.new (w.alloc (.cells (secA s) 29)) 3 (.int .i64 (n : Int))).alloc (.cells #[.bool false] 4)
    rwa [World.size_alloc] at this
  have hR1 : Boxed (((w.alloc (.cells (secA s) 29)).alloc (.cells #[.int .i64 (n : Int)] 3)).alloc (.cells #[.bool false] 4)) (w.heap.size + 1 + 1) 4 (.bool false) := by
    have := Boxed.new ((w.alloc (.cells (secA s) 29)).alloc (.cells #[.int .i64 (n : Int)] 3)) 4 (.bool false)
    rwa [World.size_alloc, World.size_alloc] at this
  generalize ((w.alloc (.cells (secA s) 29)).alloc (.cells #[.int .i64 (n : Int)] 3)).alloc (.cells #[.bool false] 4) = w1 at hB1 hS1 hN1 hR1 ⊢
  have hsl : secEq (sealS s) s = isSl s := rfl
  have hlt := hS1.lt
  cases his : isSl s
  · rw [his] at hsl
    obtain ⟨ho1, hr1⟩ := hS1
    go_wp2_with (go_at_call 29; refine (sealed_any s _).mono ?_; rintro e w2 ⟨rfl, hq⟩; rw [hsl]; have hR2 := box_later hR1 hq; have hc2 := hR2.cell; have hf2 := hR2.frozen)
    refine leave_marks [] _ (by simp) (by simp) ⟨.bool false, ?_, by rw [his]; rfl, ?_⟩
    · exact cell_results 4 4 (w.heap.size + 1 + 1) false rfl rfl rfl (hR2.set (.bool false)).cell
    · exact (hB1.trans (hq.mono hB1.size)).setCell (p := ⟨w.heap.size + 1 + 1, 0, none⟩) (by show _ ≤ w.heap.size + 1 + 1; omega) _
  · rw [his] at hsl
    have hS0 := hS1
    obtain ⟨ho1, hr1⟩ := hS1
    go_upto_region 3 with (go_at_call 29; refine (sealed_any s _).mono ?_; rintro e w2 ⟨rfl, hq⟩; rw [hsl])
    have hR2 := box_later hR1 hq
    have hN2 := box_later hN1 hq
    have hS2 := hS0.kept hq
    have hB2 := hB1.trans (hq.mono hB1.size)
    clear hR1 hN1 hS0 ho1 hr1 hB1 hlt hq
    have hlt := hS2.lt
    have HS : Hid (ScR w2 w.heap.size s) := hS2
    obtain ⟨ho1, hr1⟩ := hS2
    go_wp2_with (go_at_call 20; refine (ones_it s _).mono ?_; rintro e w3 ⟨rfl, rfl⟩)
    have hB3 := hB2.trans ((below_alloc w2 (.cells (secA s) 29)).mono hB2.size)
    refine wp_range (fun W => ScR W w2.heap.size s) (stands_ScR _ _) (gf := 30) (lb := #[.pointer (some ⟨w2.heap.size, 0, none⟩)]) rfl (enters_of Try.func30 (by kernel_rfl) rfl) (ones_stops _ _ s (ScR.new w2 s 29)) (fun _ => rfl) w.heap.size w (Nat.le_refl _)
      (fun pre W => (∀ z ∈ pre, z.1 < n) ∧ Boxed W (w.heap.size + 1) 3 (.int .i64 (n : Int)) ∧ Boxed W (w.heap.size + 1 + 1) 4 (.bool false))
      (fun c pre W => (c = .ret ∧ ∃ i, i < 480 ∧ n ≤ i ∧ fbit s i = true) ∧ Boxed W (w.heap.size + 1 + 1) 4 (.bool false))
      (fun _ => (Stands.pure _).and ((stands_box _ _ _).and (stands_box _ _ _))) (fun _ _ => (Stands.pure _).and (stands_box _ _ _)) ⟨by simp, hN2.alloc _, hR2.alloc _⟩ hB3 ?fr ?assign ?body ?done ?stop
    case assign =>
      intro l x W K hK
      gi_wp2
      exact hK
    case body =>
      rintro l pre z W ⟨hpre, hN, hR⟩ hB
      have hNc := hN.cell
      have hRc := hR.cell
      have hRf := hR.frozen
      have hz := z.2.1
      gi_wp2
      · have hge : n ≤ z.val := by assumption
        exact ⟨KeepsOthers.setCell _ _ _, ⟨⟨rfl, z.1, z.2.1, hge, z.2.2⟩, hR.set _⟩, hB.setCell (p := ⟨w.heap.size + 1 + 1, 0, none⟩) (by show _ ≤ w.heap.size + 1 + 1; omega) _⟩
      · have hge : z.val < n := Nat.lt_of_not_le (by assumption)
        exact ⟨KeepsOthers.refl _, fun h => h, ⟨fun y hy => (List.mem_append.1 hy).elim (hpre y) (fun e => by simp at e; subst e; exact hge), hN, hR⟩, hB⟩
    case done =>
      rintro D ys W hD hys ⟨hpre, hN, hR⟩ hB - hK
      have hys' : ys = hitL (fbit s) 480 480 := hys
      rw [hys'] at hpre
      have hno := over_no s n hpre
      clear hys hys' hpre
      have hRc := hR.cell
      have hRf := hR.frozen
      rw [World.size_alloc] at hD
      have hsz := hB2.size
      go_wp2
      have hK' := (KeepsOthers.setCell W ⟨w.heap.size + 1 + 1, 0, none⟩ (.bool true)).same D _ hK rfl
      have hd : ∀ D' ∈ [D], (W.setCell ⟨w.heap.size + 1 + 1, 0, none⟩ (.bool true)).heap[D']? = some (.deferred (some [])) := fun D' h => by simp at h; subst h; exact hK'
      refine leave_marks [D] _ (by simp) hd ⟨.bool true, ?_, by rw [his, hno]; rfl, ?_⟩
      · exact cell_results 4 4 (w.heap.size + 1 + 1) true rfl rfl rfl (shut_stands (stands_box _ _ _) [D] _ (by simp) hd (hR.set (.bool true))).cell
      · exact shut_below [D] _ (by simp) hd (fun D' h => by simp at h; subst h; omega) (hB.setCell (p := ⟨w.heap.size + 1 + 1, 0, none⟩) (by show _ ≤ w.heap.size + 1 + 1; omega) _)
    case stop =>
      rintro D c pre W hD _ ⟨⟨rfl, i, h1, h2, h3⟩, hR⟩ hB - hK
      have hyes := over_yes s n i h1 h2 h3
      rw [World.size_alloc] at hD
      have hsz := hB2.size
      go_wp2
      have hd : ∀ D' ∈ [D], W.heap[D']? = some (.deferred (some [])) := fun D' h => by simp at h; subst h; exact hK
      refine leave_marks [D] _ (by simp) hd ⟨.bool false, ?_, by rw [his, hyes]; rfl, ?_⟩
      · exact cell_results 4 4 (w.heap.size + 1 + 1) false rfl rfl rfl (shut_stands (stands_box _ _ _) [D] _ (by simp) hd hR).cell
      · exact shut_below [D] _ (by simp) hd (fun D' h => by simp at h; subst h; omega) hB
end Go.Proofs.Ytfnffkommcepoaa
