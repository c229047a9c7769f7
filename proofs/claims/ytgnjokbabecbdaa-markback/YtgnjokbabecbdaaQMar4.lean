import Derived.Test.YtgnjokbabecbdaaQMar3
namespace Go.Proofs.Ytgnjokbabecbdaa
open Go.RowKit

/-! assaylaw09.taken, out of what mark owes -/
theorem secEq_refl9 (s : Sc) : secEq s s = true := by rw [secEq_dec]; simp
theorem lit1W (w : World) (d : Wr) : IsK wrE (w.alloc (.cells (wrA d) 34)) (.slice (some ⟨w.heap.size, 0, none⟩) 1 1) [d] := by
  have h := (OwnK.lit1 wrE_ok w d).isK wrE_ok
  rwa [wrE_arr] at h
theorem lit1S (w : World) (d : Sc) : IsK secE (w.alloc (.cells (secA d) 28)) (.slice (some ⟨w.heap.size, 0, none⟩) 1 1) [d] := by
  have h := (OwnK.lit1 secE_ok w d).isK secE_ok
  rwa [secE_arr] at h
theorem tm_bat : batB 64 [(20, secZ)] = true := by decide +kernel
theorem tm_bat2 : batB 64 [(2, secZ)] = false := by decide +kernel
theorem tm_geo : geoOk 64 = true := by decide +kernel
theorem tm_put : mPutS [(20, secZ)] 64 = marS [(20, secZ)] ∧ mPutE [(20, secZ)] 64 = 0 ∧ mPutS [(2, secZ)] 64 = secZ ∧ mPutE [(2, secZ)] 64 = 24 := by
  unfold mPutS mPutE
  rw [tm_bat, tm_bat2, tm_geo]
  exact ⟨rfl, rfl, rfl, rfl⟩
theorem tm_0 : marS [(20, secZ)] 0 = 74 := by unfold marS; rw [sealS_low _ _ (by omega)]; decide +kernel
theorem tm_2 : marS [(20, secZ)] 2 = 1 := by unfold marS; rw [sealS_low _ _ (by omega)]; decide +kernel
theorem tm_20 : marS [(20, secZ)] 20 = 54 := by unfold marS; rw [sealS_low _ _ (by omega)]; decide +kernel
theorem tm_comm : mComm (marS [(20, secZ)]) [secZ] 64 = true := comm_mark tm_geo (by omega) tm_bat [secZ] (fun i hi => by
  obtain rfl : i = 0 := by simp at hi; exact hi
  exact ⟨by simp, rfl⟩)
theorem tm_st : mStK (marS [(20, secZ)]) [secZ] 64 = 2 ∧ (mStL (marS [(20, secZ)]) [secZ] 64).length = 1 ∧ mStK secZ [] 64 = 1 ∧ mStL secZ [] 64 = [] := by
  refine ⟨?_, ?_, ?_, ?_⟩
  · unfold mStK; rw [tm_comm, tm_geo, marS_ne]; rfl
  · unfold mStL; rw [tm_comm]
    show (stA _ _).length = 1
    unfold stA
    rw [stL_len]
    unfold stN8
    rw [tm_2]; rfl
  · unfold mStK; rw [tm_geo, secEq_refl9]; rfl
  · unfold mStL mComm; rw [tm_geo, secEq_refl9]; rfl
theorem wrb1 (a : Int) (h0 : -9223372036854775808 ≤ a) (h1 : a ≤ 9223372036854775807) : WrB [(a, secZ)] := fun i hi => by
  obtain rfl : i = 0 := by simp at hi; exact hi
  exact ⟨h0, h1⟩
set_option maxRecDepth 100000 in
set_option maxHeartbeats 400000 in
theorem taken9_any (hP : MPutOk) (hS : MStOk) (w : World) : Calls Try.prog 6 #[] w fun r w' => r = .returned (.bool true) ∧ Below w.heap.size w w' := by
  have hi : i64w 64 := ⟨by omega, by omega⟩
  have p1 := fun w => hP [(20, secZ)] (some ⟨w.heap.size, 0, none⟩) 1 1 64 (w.alloc (.cells (wrA (20, secZ)) 34)) rfl (by omega) (lit1W w _) (wrb1 _ (by omega) (by omega)) hi
  have p2 := fun w => hP [(2, secZ)] (some ⟨w.heap.size, 0, none⟩) 1 1 64 (w.alloc (.cells (wrA (2, secZ)) 34)) rfl (by omega) (lit1W w _) (wrb1 _ (by omega) (by omega)) hi
  have s1 := fun w => hS (marS [(20, secZ)]) [secZ] (some ⟨w.heap.size, 0, none⟩) 1 1 64 (w.alloc (.cells (secA secZ) 28)) rfl (by omega) (lit1S w _) hi
  have s2 := fun w => hS secZ [] none 0 0 64 w rfl (by omega) ((OwnK.nil secE w 0).isK secE_ok) hi
  rw [tm_put.1, tm_put.2.1] at p1
  rw [tm_put.2.2.1, tm_put.2.2.2] at p2
  rw [tm_st.1, tm_st.2.1] at s1
  rw [tm_st.2.2.1, tm_st.2.2.2] at s2
  have t0 := tm_0
  have t20 := tm_20
  generalize marS [(20, secZ)] = T at p1 s1 t0 t20
  go_enter Try.func6, Try.ntmps6
  go_wp2_with fail
  go_at_call 7
  refine (p1 _).mono ?_
  rintro r w1 ⟨rfl, hb1⟩
  clear p1
  have h1 := ScR.new w1 T 28
  have hB : Below w.heap.size w (w1.alloc (.cells (secA T) 28)) := ((below_alloc w _).trans (hb1.mono (by simp))).alloc (by have := hb1.size; simp at this; omega) _
  go_upto_region 2 with fail
  generalize w1.alloc (.cells (secA T) 28) = X1 at h1 hB ⊢
  generalize w1.heap.size = q1 at h1 ⊢
  clear hb1
  go_wp2_with fail
  go_at_call 7
  refine (p2 _).mono ?_
  rintro r w2 ⟨rfl, hb2⟩
  clear p2
  replace h1 := (h1.kept (below_alloc X1 _)).kept hb2
  replace h1 := h1.kept (below_alloc w2 (.cells (secA secZ) 28))
  replace hB := (hB.alloc hB.size _).trans (hb2.mono (by have := hB.size; simp; omega))
  replace hB := hB.alloc hB.size (.cells (secA secZ) 28)
  go_upto_region 3 with fail
  generalize w2.alloc (.cells (secA secZ) 28) = X2 at h1 hB ⊢
  clear hb2
  have h1' := h1
  obtain ⟨r1, k1⟩ := h1'
  go_wp2_with fail
  go_at_call 8
  refine (s1 _).mono ?_
  rintro r w3 ⟨y3, c3, rfl, -, hb3⟩
  clear s1 r1 k1
  replace h1 := (h1.kept (below_alloc X2 _)).kept hb3
  replace hB := (hB.alloc hB.size _).trans (hb3.mono (by have := hB.size; simp; omega))
  go_upto_region 4 with fail
  clear hb3
  go_wp2_with fail
  go_at_call 8
  refine (s2 _).mono ?_
  rintro r w4 ⟨y4, c4, rfl, -, hb4⟩
  clear s2
  replace h1 := h1.kept hb4
  replace hB := hB.trans (hb4.mono hB.size)
  have c0 := h1.cell 0 (by omega)
  have c20 := h1.cell 20 (by omega)
  rw [t0] at c0
  rw [t20] at c20
  have HB : Hid _ := hB
  clear hB hb4 h1
  go_wp2_with fail
  go_ret
  exact ⟨rfl, HB.out⟩
end Go.Proofs.Ytgnjokbabecbdaa
