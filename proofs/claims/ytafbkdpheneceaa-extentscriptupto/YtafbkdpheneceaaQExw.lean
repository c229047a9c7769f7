import Derived.Test.YtafbkdpheneceaaQExv
import Derived.Test.YtafbkdpheneceaaQGenC
namespace Go.Proofs.Ytafbkdpheneceaa
open Go.RowKit

/-! assayref08's Lowest, Copy -/
theorem boolsElt8 : Elt 71 4 1 := ⟨Try.underlying71, by
  obtain ⟨i, hi, hz⟩ := Option.map_eq_some_iff.1 info_boolX
  simp only [Prod.mk.injEq] at hz
  exact ⟨i, _, hi, hz.1, hz.2.1, hz.2.2, rfl⟩⟩
theorem fV_one (f : Nat → Bool) (a k : Nat) : ∀ u ∈ fV f a k, u.oneCell' = true := by
  intro u hu
  unfold fV at hu
  obtain ⟨z, -, rfl⟩ := List.mem_map.1 hu
  rfl
set_option linter.unusedSimpArgs false in
set_option maxRecDepth 100000 in
set_option maxHeartbeats 1000000 in
theorem refLowest8 (w : World) (v : Value) (st : XSt) (F : List Nat) (n : Int) (h : R8 w v st F) :
    Calls Try.prog 35 #[v, .int .i64 n] w fun e w' => e = .returned (.tuple #[.int .i64 ((xLow st n).getD 0 : Nat), .bool (xLow st n).isSome]) ∧ Below w.heap.size w w' := by
  have hlen : (xRuns st).length ≤ 2000 := by
    have hok := h.ok
    rcases rises_len (runs_rises st.f (st.hi - st.fr) st.fr) with hz | hz
    · unfold xRuns; rw [hz]; simp
    · unfold xRuns; omega
  have hran := refRanges8 w v st F h
  unfold xLow
  obtain ⟨lo, hlo⟩ : ∃ lo, lowR n (xRuns st) = lo := ⟨_, rfl⟩
  have HL : Hid (lowR n (xRuns st) = lo) := hlo
  rw [hlo]
  clear hlo
  go_enter Try.func35, Try.ntmps35
  go_wp2_with fail
  go_at_call 17
  refine hran.mono ?_
  rintro e w1 ⟨y, c, rfl, hO, hB1⟩
  clear hran
  obtain ⟨R, hR⟩ : ∃ R, xRuns st = R := ⟨_, rfl⟩
  obtain ⟨L, hL⟩ : ∃ L, R.length = L := ⟨_, rfl⟩
  rw [hR, hL] at hO
  rw [hR] at hlen ⊢
  rw [hL] at hlen ⊢
  have HR : Hid (lowR n R = lo) := by show _ = _; rw [← hR]; exact HL.out
  clear hR HL
  go_wp2
  go_loopw [7] (fun iv wr => ∃ i : Nat, i ≤ L ∧ iv = .int .i64 i ∧ lowR n (R.take i) = none ∧ wr = w1) (fun iv _ => L - (intOf iv).toNat)
  case atStart => exact ⟨0, by omega, rfl, rfl, rfl⟩
  case round =>
    obtain ⟨i, hi, rfl, hno, rfl⟩ := hrel
    by_cases hlt : i < L
    · have hlt' : (i : Int) < (L : Int) := by omega
      obtain ⟨p, hp⟩ : ∃ p, R[i]? = some p := ⟨_, List.getElem?_eq_getElem (by omega)⟩
      obtain ⟨g, rfl⟩ := slice_block hO (by rw [rI_len]; omega)
      obtain ⟨d0, d1⟩ := pr_cells (hO.range prE_ok i _ (rI_at hp))
      rw [prE_k] at d0 d1
      have hsn := lowR_snoc n R i p hp
      rw [hno] at hsn
      simp only at hsn
      have hdrop : R = R.take (i + 1) ++ R.drop (i + 1) := (List.take_append_drop (i + 1) R).symm
      obtain ⟨pa, pn⟩ := p
      dsimp only at d0 d1 hsn
      by_cases hyn : 0 < n
      · by_cases hyp : n ≤ (pn : Int)
        · have HF : Hid (lo = some pa) := by
            show _ = _
            rw [← HR.out, hdrop, lowR_app, hsn, if_pos ⟨hyn, hyp⟩]
          clear hsn hdrop hno hp
          go_wp2
          refine bodyPost_ret (results_tmp2 rfl _ _ _) rfl ?_
          exact ⟨by rw [HF.out]; rfl, hB1⟩
        · have HS : Hid (lowR n (R.take (i + 1)) = none) := by show _ = _; rw [hsn, if_neg (fun hh => hyp hh.2)]
          clear hsn hdrop hno hp
          go_wp2
          go_roundw
          case rel => exact ⟨i + 1, by omega, by go_num, HS.out, trivial⟩
          case measure => simp [intOf]; omega
      · have HS : Hid (lowR n (R.take (i + 1)) = none) := by show _ = _; rw [hsn, if_neg (fun hh => hyn hh.1)]
        clear hsn hdrop hno hp
        go_wp2
        go_roundw
        case rel => exact ⟨i + 1, by omega, by go_num, HS.out, trivial⟩
        case measure => simp [intOf]; omega
    · obtain rfl : i = L := by omega
      have HF : Hid (lo = none) := by
        show _ = _
        rw [← HR.out]
        rw [List.take_of_length_le (by omega)] at hno
        exact hno
      clear hno
      go_wp2
      refine bodyPost_ret (results_tmp2 rfl _ _ _) rfl ?_
      exact ⟨by rw [HF.out]; rfl, hB1⟩
theorem grown_c8 (w : World) (g i : Nat) (v : Value) : w.grownBy (w.setCell ⟨g, i, none⟩ v) (some g) :=
  ⟨rfl, rfl, rfl, by simp [World.setCell], fun k hk hne => by
    simp only [World.setCell, Array.getElem?_modify]
    rw [if_neg (fun e => hne (by rw [e]))]⟩
set_option linter.unusedSimpArgs false in
set_option maxRecDepth 100000 in
set_option maxHeartbeats 1000000 in
theorem refCopy8 (w : World) (v : Value) (st : XSt) (F : List Nat) (h : R8 w v st F) :
    Calls Try.prog 19 #[v] w fun e w' => ∃ v' F', e = .returned v' ∧ R8 w' v' st F' ∧ (∀ q ∈ F', w.heap.size ≤ q) ∧ Below w.heap.size w w' := by
  obtain ⟨r, x, c, rfl, h1, h2, rfl, h4, h5, h6⟩ := h
  obtain ⟨e0, e1⟩ := R8.cells h1
  obtain ⟨m, hm⟩ : ∃ m, st.hi - st.fr = m := ⟨_, rfl⟩
  rw [hm] at h2 e1
  have Hm : Hid (st.hi - st.fr = m ∧ st.fr ≤ st.hi ∧ st.hi ≤ 1024) := ⟨hm, h5, h6⟩
  have hm4 : m ≤ 1024 := by omega
  have hA := below_alloc w (.cells #[.int .i64 (st.fr : Int), .slice none 0 0] 73)
  have hn1 := heap_alloc_last w (.cells #[.int .i64 (st.fr : Int), .slice none 0 0] 73)
  clear h1 h4 h5 h6 hm
  go_enter Try.func19, Try.ntmps19
  go_upto_region 2 with fail
  have d1 := cell_later hA e1
  have hO := h2.keep hA
  have hsz : (w.alloc (.cells #[.int .i64 (st.fr : Int), .slice none 0 0] 73)).heap.size = w.heap.size + 1 := by simp
  generalize w.alloc (.cells #[.int .i64 (st.fr : Int), .slice none 0 0] 73) = W at hA hn1 d1 hO hsz ⊢
  obtain ⟨rn, hrn⟩ : ∃ rn, w.heap.size = rn := ⟨_, rfl⟩
  have Hrn : Hid (w.heap.size = rn) := hrn
  rw [hrn] at hn1 hsz ⊢
  obtain ⟨-, k1⟩ := R8.cells hn1
  have HSZ : Hid (W.heap.size = rn + 1) := hsz
  clear hrn e0 e1 h2 hsz
  refine wp_reliesT [Fx (.pointer (some ⟨rn, 0, none⟩)), Fx (.pointer (some ⟨rn, 0, none⟩)), Fx (.pointer (some ⟨rn, 0, none⟩)), Fx (.pointer (some ⟨rn, 1, none⟩)), Fx (.slice none 0 0), Fx (.pointer (some ⟨r, 0, none⟩)), Fx (.pointer (some ⟨r, 0, none⟩)), Fx (.pointer (some ⟨r, 1, none⟩)), Fx (.slice x m c), fun v x => ∃ y9 c9, v = .slice y9 m c9 ∧ OwnG 4 x W.heap.size (.slice y9 m c9) (fV st.f st.fr m), Fx (.pointer (some ⟨rn, 0, none⟩)), Fx (.pointer (some ⟨rn, 1, none⟩))] (by kernel_rfl) (by kernel_rfl) ?_ ?_ ?_
  · repeat' (first | exact all_nil | apply all_cons)
    all_goals intro v y y' hv hb
    all_goals first | exact Fx_mono _ _ _ _ hv hb | (obtain ⟨y9, c9, h1, h2⟩ := hv; exact ⟨y9, c9, h1, OwnG.keep h2 hb⟩)
  · refine ⟨?_, ?_, ?_, ?_, ?_, ?_, ?_, ?_, ?_, ?_, ?_, ?_, trivial⟩
    all_goals
      intro ρ x9w hp ρc ρg ρf ho hd
      have o0 : ρ (.tmp 0) = .pointer (some ⟨r, 0, none⟩) := ho 0 rfl
      have o3 : ρ (.tmp 3) = .pointer (some ⟨rn, 0, none⟩) := ho 3 rfl
      clear ho
      have k3 := cell_later hp k1
      have k4 := cell_later hp d1
      simp only [depsR, depR, slotR, Fx, List.getElem?_cons_succ, List.getElem?_cons_zero, Region.binds, forall_const] at hd
      simp only [guardR]
      go_split_ands
    · go_simp
    · go_simp
    · go_simp
    · go_simp
    · go_simp
    · go_simp
    · go_simp
    · go_simp
    · go_simp
    · have hO8 := (hO.keep hp).isG
      obtain ⟨v9, x9, hr, o1, o2⟩ := run_copyG boolsElt8 x9w x9w.heap.size (.slice none 0 0) x m c (fV st.f st.fr m) 71 (OwnG.nil _ _ _) (Nat.le_refl _) (fV_len _ _ _) hO8 (fV_one _ _ _) (by omega) (by unfold maxLen; omega)
      obtain ⟨y9, c9, rfl⟩ := (OwnG.isG o1).len
      rw [fV_len] at hr o1
      rw [BigFrame.execOp_builtin, BigFrame.builtin_append]
      simp only [List.map_toArray, List.map_cons, List.map_nil, *, Sem.run_bind, Result.andThen_ok, Sem.run_pure, okUpon_value]
      exact ⟨⟨y9, c9, rfl, OwnG.le o1 hp.size⟩, trivial⟩
    · go_simp
    · go_simp
  · intro vs x1 hp hw
    simp only [owed, Fx] at hw
    obtain ⟨e0, e1, e2, e3, e4, e5, e6, e7, e8, ⟨y9, c9, e9, hO9⟩, e10, e11, -⟩ := hw
    simp only [List.length_cons, List.length_nil, List.take_succ_cons, List.take_zero, List.drop_succ_cons, List.drop_zero, asg, List.cons_append, List.nil_append, e0, e1, e2, e3, e4, e5, e6, e7, e8, e9, e10, e11]
    clear e0 e1 e2 e3 e4 e5 e6 e7 e8 e9 e10 e11
    have hk1 := cell_later hp k1
    have hrow : x1.heap[rn]? = some (.cells #[.int .i64 (st.fr : Int), .slice none 0 0] 73 (0, 0)) := (hp.block rn (Array.getElem?_eq_some_iff.1 hn1).1).trans hn1
    have hkf : x1.frozen? ⟨rn, 1, none⟩ = false := by simp [World.frozen?, hrow]
    have hB := hA.trans (hp.mono hA.size)
    have hB2 : Below w.heap.size w (x1.setCell ⟨rn, 1, none⟩ (.slice y9 m c9)) := hB.setCell (p := ⟨rn, 1, none⟩) (by show w.heap.size ≤ rn; rw [Hrn.out]; exact Nat.le_refl _) _
    have hrow2 := heap_setCell x1 rn 1 (.slice y9 m c9) _ _ _ hrow
    have hne : ∀ q, (Value.slice y9 m c9).ownBlock = some q → rn < q := fun q hq => by
      have := (OwnG.lt hO9 q hq).1
      have := HSZ.out
      omega
    have hO2 : OwnG 4 (x1.setCell ⟨rn, 1, none⟩ (.slice y9 m c9)) W.heap.size (.slice y9 m c9) (fV st.f st.fr m) := OwnG.grown hO9 (row := some rn) (grown_c8 x1 rn 1 (.slice y9 m c9)) (by
      cases hq : (Value.slice y9 m c9).ownBlock with
      | none => exact .inl rfl
      | some q => exact .inr (by have := hne q hq; simp; omega))
    have HR : Hid _ := And.intro hrow2 (And.intro hO2 (And.intro hB2 hne))
    clear hB hB2 hrow hrow2 hO2 hne hO9 hO hA hn1 hp k1 d1
    go_wp2
    go_ret
    obtain ⟨r1, r2, r3, r4⟩ := HR.out
    refine ⟨_, rn :: (Value.slice y9 m c9).ownBlock.toList, rfl, ⟨rn, y9, c9, rfl, ?_, ?_, ?_, ?_, Hm.out.2⟩, ?_, r3⟩
    · rw [Hm.out.1]; exact r1
    · rw [Hm.out.1]; exact OwnG.le r2 (Nat.zero_le _)
    · rw [Hm.out.1]
    · rw [Hm.out.1]
      intro hq
      have := r4 rn (by simpa using hq)
      omega
    · intro q hq
      rw [Hrn.out]
      rcases List.mem_cons.1 hq with rfl | hq
      · exact Nat.le_refl _
      · have := r4 q (by simpa using hq)
        omega
end Go.Proofs.Ytafbkdpheneceaa
