import Derived.Test.YtfdigmlhjjdggaaQTze
namespace Go.Proofs.Ytfdigmlhjjdggaa
open Go.RowKit

/-! table: GetTag, GetSnap, GetCounts; what table owes -/
theorem lS_of (l : List UInt8) : lS ⟨l.toArray⟩ = l := by simp [lS]
/-- What stands at a tag's places is a tag just if the sector is one. -/
theorem tag_read (s : Sc) : (isN (getS (subL s 2 24) ((s 1).toNat : Int)) && secEq (tagS (getS (subL s 2 24) ((s 1).toNat : Int)) (tgK s)) s) = tgR s ∧ (tgR s = true → getS (subL s 2 24) ((s 1).toNat : Int) = tgL s) := by
  have htake : ∀ n, n ≤ 24 → (subL s 2 24).take n = subL s 2 n := fun n hn => by
    unfold subL
    rw [← List.map_take, List.take_range, Nat.min_eq_left hn]
  cases hg : getB (subL s 2 24) ((s 1).toNat : Int)
  · have e1 := get_no hg
    rw [e1]
    have hf : tgR s = false := by
      cases hr : tgR s
      · rfl
      · exfalso
        unfold tgR at hr
        simp only [Bool.and_eq_true] at hr
        obtain ⟨-, hN, hE⟩ := hr
        have hl := isN_len hN
        have hln : (tgL s).length = tgN s := by unfold tgL; rw [subL_length]
        have hS := (secEq_iff _ _).1 hE
        have b1 := hS 1 (by omega)
        rw [tagS_low _ _ 1 (by omega)] at b1
        have b1' : (s 1).toNat = (tgL s).length := by
          rw [← b1]
          show (UInt8.ofNat (tgL s).length).toNat = _
          rw [UInt8.toNat_ofNat']; omega
        have hpad : subL s 2 24 = padN (tgL s) := by
          apply List.ext_getElem?
          intro i
          by_cases hi : i < 24
          · have bi := hS (2 + i) (by omega)
            rw [tagS_low _ _ _ (by omega)] at bi
            unfold tagB at bi
            rw [if_neg (by omega), if_neg (by omega), if_pos (by omega), show 2 + i - 2 = i by omega] at bi
            rw [List.getElem?_eq_getElem (by rw [subL_length]; exact hi), subL_get, ← bi]
            unfold padN lB
            by_cases h3 : i < (tgL s).length
            · rw [List.getElem?_append_left h3, List.getElem?_eq_getElem h3]; rfl
            · rw [List.getElem?_append_right (by omega), List.getElem?_replicate, if_pos (by omega), List.getElem?_eq_none (by omega)]; rfl
          · rw [List.getElem?_eq_none (by rw [subL_length]; omega), List.getElem?_eq_none (by rw [padN_len _ hN]; omega)]
        have := getB_put (tgL s) hN ((s 1).toNat : Int)
        rw [← hpad, hg, decide_eq_true (by rw [b1'])] at this
        cases this
    rw [hf]
    exact ⟨rfl, fun h => by cases h⟩
  · have e1 := get_yes hg
    have hn : 1 ≤ (s 1).toNat ∧ (s 1).toNat ≤ 24 := by
      unfold getB at hg
      simp only [Bool.and_eq_true, decide_eq_true_eq] at hg
      omega
    have e2 : getS (subL s 2 24) ((s 1).toNat : Int) = tgL s := by
      rw [e1, Int.toNat_natCast, htake _ hn.2]
      unfold tgL tgN
      rw [if_neg (by omega)]
    rw [e2]
    refine ⟨?_, fun _ => rfl⟩
    unfold tgR
    cases hE : (isN (tgL s) && secEq (tagS (tgL s) (tgK s)) s)
    · rw [Bool.and_false]
    · have h2 := (Bool.and_eq_true _ _ ▸ hE).2
      have h3 : secEq s secZ = false := by
        have e3 := (secEq_iff _ _).1 h2
        cases h4 : secEq s secZ
        · rfl
        · have e4 := (secEq_iff _ _).1 h4
          have h5 : secEq (tagS (tgL s) (tgK s)) secZ = true := (secEq_iff _ _).2 fun i hi => (e3 i hi).trans (e4 i hi)
          rw [sl_ne (tagS_sl _ _)] at h5
          cases h5
      rw [h3]; rfl
theorem snap_read (s : Sc) : (!(numN s 4 4 == 0) && secEq (snS (numN s 4 4) (numN s 8 4) (snK s)) s) = snR s := by
  unfold snR
  generalize numN s 4 4 = A
  generalize numN s 8 4 = B
  cases hE : (!(A == 0) && secEq (snS A B (snK s)) s)
  · rw [Bool.and_false]
  · have h2 := (Bool.and_eq_true _ _ ▸ hE).2
    have h3 : secEq s secZ = false := by
      have e3 := (secEq_iff _ _).1 h2
      cases h4 : secEq s secZ
      · rfl
      · have e4 := (secEq_iff _ _).1 h4
        have h5 : secEq (snS A B (snK s)) secZ = true := (secEq_iff _ _).2 fun i hi => (e3 i hi).trans (e4 i hi)
        rw [sl_ne (snS_sl _ _ _)] at h5
        cases h5
    rw [h3]; rfl
set_option linter.unusedSimpArgs false in
set_option maxRecDepth 100000 in
set_option maxHeartbeats 3200000 in
theorem getTag_no1 (s A : Sc) (x : Tg) (w : World)
    (kT : ∀ W, Calls Try.prog 27 #[.agg (secA s)] W fun e w' => e = .returned (.agg (tgA x)) ∧ Below W.heap.size W w')
    (kP : ∀ W, Calls Try.prog 9 #[.agg (tgA x)] W fun r w' => r = .returned (.tuple #[.agg (secA A), .int .i64 36]) ∧ Below W.heap.size W w') :
    Calls Try.prog 12 #[.agg (secA s)] w fun e w' => e = .returned (.tuple #[.agg (tgA tgZ), .int .i64 (bif secEq s secZ then 1 else 3)]) ∧ Below w.heap.size w w' := by
  have h1 : ScR ((w.alloc (.cells (secA s) 35)).alloc (.cells (tgA tgZ) 25)) w.heap.size s := (ScR.new w s _).kept (below_alloc _ _)
  have h2 : RowC ((w.alloc (.cells (secA s) 35)).alloc (.cells (tgA tgZ) 25)) (w.heap.size + 1) (tgA tgZ) := by
    have := RowC.new (w.alloc (.cells (secA s) 35)) (tgA tgZ) 25
    rw [World.size_alloc] at this
    exact this
  have hB : Below w.heap.size w ((w.alloc (.cells (secA s) 35)).alloc (.cells (tgA tgZ) 25)) := (below_alloc w _).alloc (by simp) _
  have kU := unread17 s
  obtain ⟨kd, hkd⟩ : ∃ q : Int, (bif secEq s secZ then 1 else 3) = q := ⟨_, rfl⟩
  simp only [hkd] at kU ⊢
  clear hkd
  go_enter Try.func12, Try.ntmps12
  go_upto_region 1 with fail
  obtain ⟨g2, hg2⟩ : ∃ g, w.heap.size + 1 = g := ⟨_, rfl⟩
  obtain ⟨g1, hg1⟩ : ∃ g, w.heap.size = g := ⟨_, rfl⟩
  have hl2 : w.heap.size ≤ g2 := by omega
  rw [hg2] at h2
  rw [hg1] at h1
  simp only [hg2]
  simp only [hg1]
  generalize ((w.alloc (.cells (secA s) 35)).alloc (.cells (tgA tgZ) 25)) = Y at hB h1 h2 ⊢
  clear hg1 hg2
  have bY := below_alloc Y (.cells (secA s) 63)
  have h4 := ScR.new Y s 63
  have h1' := h1.kept bY
  have h2' := h2.kept bY
  have hB' := hB.alloc hB.size (.cells (secA s) 63)
  obtain ⟨r1, q1⟩ := h1
  clear h2 hB bY
  go_upto_region 2 with fail
  obtain ⟨g4, hg4⟩ : ∃ q, Y.heap.size = q := ⟨_, rfl⟩
  rw [hg4] at h4
  simp only [hg4]
  generalize Y.alloc (.cells (secA s) 63) = Y1 at hB' h1' h2' h4 ⊢
  clear hg4 r1 q1
  obtain ⟨r4, q4⟩ := id h4
  go_wp2_with fail
  refine (kT _).mono ?_
  rintro e w1 ⟨rfl, hb⟩
  have bC := below_alloc w1 (.cells (tgA x) 25)
  have h5 := RowC.new w1 (tgA x) 25
  have h41 := (h4.kept hb).kept bC
  have h11 := (h1'.kept hb).kept bC
  have h21 := (h2'.kept hb).kept bC
  have hB1 := (hB'.trans (hb.mono hB'.size))
  have hB1' := hB1.alloc hB1.size (.cells (tgA x) 25)
  have zT : (tgA tgZ).size = 33 := tgA_size _
  have zX : (tgA x).size = 33 := tgA_size _
  have oX : OneC (tgA x) = true := tgA_one _
  clear h4 h1' h2' hB' hb bC hB1 kT r4 q4
  go_upto_region 3 with fail
  obtain ⟨g5, hg5⟩ : ∃ q, w1.heap.size = q := ⟨_, rfl⟩
  rw [hg5] at h5
  simp only [hg5]
  generalize w1.alloc (.cells (tgA x) 25) = Y2 at hB1' h11 h21 h41 h5 ⊢
  clear hg5
  obtain ⟨r5, q5⟩ := id h5
  have z5 : (rowAt Y2 g5).size = 33 := by rw [q5]; exact zX
  go_wp2_with fail
  refine (kP _).mono ?_
  rintro e w2 ⟨rfl, hb⟩
  have bC := below_alloc w2 (.cells (secA A) 35)
  have h6 := ScR.new w2 A 35
  have h52 := (h5.kept hb).kept bC
  have h42 := (h41.kept hb).kept bC
  have h12 := (h11.kept hb).kept bC
  have h22 := (h21.kept hb).kept bC
  have hB2 := (hB1'.trans (hb.mono hB1'.size))
  have hB2' := hB2.alloc hB2.size (.cells (secA A) 35)
  clear h5 h41 h11 h21 hB1' hb bC hB2 kP r5 q5 z5
  go_upto_region 4 with fail
  obtain ⟨g6, hg6⟩ : ∃ q, w2.heap.size = q := ⟨_, rfl⟩
  rw [hg6] at h6
  simp only [hg6]
  generalize w2.alloc (.cells (secA A) 35) = Y3 at hB2' h12 h22 h42 h52 h6 ⊢
  clear hg6
  obtain ⟨r6, q6⟩ := h6
  obtain ⟨r1, q1⟩ := h12
  obtain ⟨r4, q4⟩ := h42
  clear h52
  go_wp2_with fail
  refine (kU _).mono ?_
  rintro e w3 ⟨rfl, hb⟩
  have h23 := h22.kept hb
  have hB3 := hB2'.trans (hb.mono hB2'.size)
  have HR : Hid _ := h23.setRow (tgA tgZ)
  have HB : Hid _ := below_row hB3 hl2 (tgA tgZ)
  obtain ⟨r2, q2⟩ := h23
  have z2 : (rowAt w3 g2).size = 33 := by rw [q2]; exact zT
  clear h22 hB2' hB3 hb kU r6 q6 r1 q1 r4 q4
  go_wp2
  exact tg_bodyPost2 2 3 g2 tgZ rfl rfl rfl HR.out ⟨rfl, HB.out⟩
set_option linter.unusedSimpArgs false in
set_option maxRecDepth 100000 in
set_option maxHeartbeats 3200000 in
theorem getTag_no2 (s A : Sc) (x : Tg) (w : World) (hz : secEq A s = false)
    (kT : ∀ W, Calls Try.prog 27 #[.agg (secA s)] W fun e w' => e = .returned (.agg (tgA x)) ∧ Below W.heap.size W w')
    (kP : ∀ W, Calls Try.prog 9 #[.agg (tgA x)] W fun r w' => r = .returned (.tuple #[.agg (secA A), .int .i64 0]) ∧ Below W.heap.size W w') :
    Calls Try.prog 12 #[.agg (secA s)] w fun e w' => e = .returned (.tuple #[.agg (tgA tgZ), .int .i64 (bif secEq s secZ then 1 else 3)]) ∧ Below w.heap.size w w' := by
  have h1 : ScR ((w.alloc (.cells (secA s) 35)).alloc (.cells (tgA tgZ) 25)) w.heap.size s := (ScR.new w s _).kept (below_alloc _ _)
  have h2 : RowC ((w.alloc (.cells (secA s) 35)).alloc (.cells (tgA tgZ) 25)) (w.heap.size + 1) (tgA tgZ) := by
    have := RowC.new (w.alloc (.cells (secA s) 35)) (tgA tgZ) 25
    rw [World.size_alloc] at this
    exact this
  have hB : Below w.heap.size w ((w.alloc (.cells (secA s) 35)).alloc (.cells (tgA tgZ) 25)) := (below_alloc w _).alloc (by simp) _
  have kU := unread17 s
  obtain ⟨kd, hkd⟩ : ∃ q : Int, (bif secEq s secZ then 1 else 3) = q := ⟨_, rfl⟩
  simp only [hkd] at kU ⊢
  clear hkd
  go_enter Try.func12, Try.ntmps12
  go_upto_region 1 with fail
  obtain ⟨g2, hg2⟩ : ∃ g, w.heap.size + 1 = g := ⟨_, rfl⟩
  obtain ⟨g1, hg1⟩ : ∃ g, w.heap.size = g := ⟨_, rfl⟩
  have hl2 : w.heap.size ≤ g2 := by omega
  rw [hg2] at h2
  rw [hg1] at h1
  simp only [hg2]
  simp only [hg1]
  generalize ((w.alloc (.cells (secA s) 35)).alloc (.cells (tgA tgZ) 25)) = Y at hB h1 h2 ⊢
  clear hg1 hg2
  have bY := below_alloc Y (.cells (secA s) 63)
  have h4 := ScR.new Y s 63
  have h1' := h1.kept bY
  have h2' := h2.kept bY
  have hB' := hB.alloc hB.size (.cells (secA s) 63)
  obtain ⟨r1, q1⟩ := h1
  clear h2 hB bY
  go_upto_region 2 with fail
  obtain ⟨g4, hg4⟩ : ∃ q, Y.heap.size = q := ⟨_, rfl⟩
  rw [hg4] at h4
  simp only [hg4]
  generalize Y.alloc (.cells (secA s) 63) = Y1 at hB' h1' h2' h4 ⊢
  clear hg4 r1 q1
  obtain ⟨r4, q4⟩ := id h4
  go_wp2_with fail
  refine (kT _).mono ?_
  rintro e w1 ⟨rfl, hb⟩
  have bC := below_alloc w1 (.cells (tgA x) 25)
  have h5 := RowC.new w1 (tgA x) 25
  have h41 := (h4.kept hb).kept bC
  have h11 := (h1'.kept hb).kept bC
  have h21 := (h2'.kept hb).kept bC
  have hB1 := (hB'.trans (hb.mono hB'.size))
  have hB1' := hB1.alloc hB1.size (.cells (tgA x) 25)
  have zT : (tgA tgZ).size = 33 := tgA_size _
  have zX : (tgA x).size = 33 := tgA_size _
  have oX : OneC (tgA x) = true := tgA_one _
  clear h4 h1' h2' hB' hb bC hB1 kT r4 q4
  go_upto_region 3 with fail
  obtain ⟨g5, hg5⟩ : ∃ q, w1.heap.size = q := ⟨_, rfl⟩
  rw [hg5] at h5
  simp only [hg5]
  generalize w1.alloc (.cells (tgA x) 25) = Y2 at hB1' h11 h21 h41 h5 ⊢
  clear hg5
  obtain ⟨r5, q5⟩ := id h5
  have z5 : (rowAt Y2 g5).size = 33 := by rw [q5]; exact zX
  go_wp2_with fail
  refine (kP _).mono ?_
  rintro e w2 ⟨rfl, hb⟩
  have bC := below_alloc w2 (.cells (secA A) 35)
  have h6 := ScR.new w2 A 35
  have h52 := (h5.kept hb).kept bC
  have h42 := (h41.kept hb).kept bC
  have h12 := (h11.kept hb).kept bC
  have h22 := (h21.kept hb).kept bC
  have hB2 := (hB1'.trans (hb.mono hB1'.size))
  have hB2' := hB2.alloc hB2.size (.cells (secA A) 35)
  clear h5 h41 h11 h21 hB1' hb bC hB2 kP r5 q5 z5
  go_upto_region 4 with fail
  obtain ⟨g6, hg6⟩ : ∃ q, w2.heap.size = q := ⟨_, rfl⟩
  rw [hg6] at h6
  simp only [hg6]
  generalize w2.alloc (.cells (secA A) 35) = Y3 at hB2' h12 h22 h42 h52 h6 ⊢
  clear hg6
  obtain ⟨r6, q6⟩ := h6
  obtain ⟨r1, q1⟩ := h12
  obtain ⟨r4, q4⟩ := h42
  clear h52
  go_wp2_with fail
  refine (kU _).mono ?_
  rintro e w3 ⟨rfl, hb⟩
  have h23 := h22.kept hb
  have hB3 := hB2'.trans (hb.mono hB2'.size)
  have HR : Hid _ := h23.setRow (tgA tgZ)
  have HB : Hid _ := below_row hB3 hl2 (tgA tgZ)
  obtain ⟨r2, q2⟩ := h23
  have z2 : (rowAt w3 g2).size = 33 := by rw [q2]; exact zT
  clear h22 hB2' hB3 hb kU r6 q6 r1 q1 r4 q4
  go_wp2
  exact tg_bodyPost2 2 3 g2 tgZ rfl rfl rfl HR.out ⟨rfl, HB.out⟩
set_option linter.unusedSimpArgs false in
set_option maxRecDepth 100000 in
set_option maxHeartbeats 3200000 in
theorem getTag_yes (s A : Sc) (x : Tg) (w : World) (hz : secEq A s = true)
    (kT : ∀ W, Calls Try.prog 27 #[.agg (secA s)] W fun e w' => e = .returned (.agg (tgA x)) ∧ Below W.heap.size W w')
    (kP : ∀ W, Calls Try.prog 9 #[.agg (tgA x)] W fun r w' => r = .returned (.tuple #[.agg (secA A), .int .i64 0]) ∧ Below W.heap.size W w') :
    Calls Try.prog 12 #[.agg (secA s)] w fun e w' => e = .returned (.tuple #[.agg (tgA x), .int .i64 (2)]) ∧ Below w.heap.size w w' := by
  have h1 : ScR ((w.alloc (.cells (secA s) 35)).alloc (.cells (tgA tgZ) 25)) w.heap.size s := (ScR.new w s _).kept (below_alloc _ _)
  have h2 : RowC ((w.alloc (.cells (secA s) 35)).alloc (.cells (tgA tgZ) 25)) (w.heap.size + 1) (tgA tgZ) := by
    have := RowC.new (w.alloc (.cells (secA s) 35)) (tgA tgZ) 25
    rw [World.size_alloc] at this
    exact this
  have hB : Below w.heap.size w ((w.alloc (.cells (secA s) 35)).alloc (.cells (tgA tgZ) 25)) := (below_alloc w _).alloc (by simp) _
  have kU := unread17 s
  obtain ⟨kd, hkd⟩ : ∃ q : Int, (bif secEq s secZ then 1 else 3) = q := ⟨_, rfl⟩
  simp only [hkd] at kU ⊢
  clear hkd
  go_enter Try.func12, Try.ntmps12
  go_upto_region 1 with fail
  obtain ⟨g2, hg2⟩ : ∃ g, w.heap.size + 1 = g := ⟨_, rfl⟩
  obtain ⟨g1, hg1⟩ : ∃ g, w.heap.size = g := ⟨_, rfl⟩
  have hl2 : w.heap.size ≤ g2 := by omega
  rw [hg2] at h2
  rw [hg1] at h1
  simp only [hg2]
  simp only [hg1]
  generalize ((w.alloc (.cells (secA s) 35)).alloc (.cells (tgA tgZ) 25)) = Y at hB h1 h2 ⊢
  clear hg1 hg2
  have bY := below_alloc Y (.cells (secA s) 63)
  have h4 := ScR.new Y s 63
  have h1' := h1.kept bY
  have h2' := h2.kept bY
  have hB' := hB.alloc hB.size (.cells (secA s) 63)
  obtain ⟨r1, q1⟩ := h1
  clear h2 hB bY
  go_upto_region 2 with fail
  obtain ⟨g4, hg4⟩ : ∃ q, Y.heap.size = q := ⟨_, rfl⟩
  rw [hg4] at h4
  simp only [hg4]
  generalize Y.alloc (.cells (secA s) 63) = Y1 at hB' h1' h2' h4 ⊢
  clear hg4 r1 q1
  obtain ⟨r4, q4⟩ := id h4
  go_wp2_with fail
  refine (kT _).mono ?_
  rintro e w1 ⟨rfl, hb⟩
  have bC := below_alloc w1 (.cells (tgA x) 25)
  have h5 := RowC.new w1 (tgA x) 25
  have h41 := (h4.kept hb).kept bC
  have h11 := (h1'.kept hb).kept bC
  have h21 := (h2'.kept hb).kept bC
  have hB1 := (hB'.trans (hb.mono hB'.size))
  have hB1' := hB1.alloc hB1.size (.cells (tgA x) 25)
  have zT : (tgA tgZ).size = 33 := tgA_size _
  have zX : (tgA x).size = 33 := tgA_size _
  have oX : OneC (tgA x) = true := tgA_one _
  clear h4 h1' h2' hB' hb bC hB1 kT r4 q4
  go_upto_region 3 with fail
  obtain ⟨g5, hg5⟩ : ∃ q, w1.heap.size = q := ⟨_, rfl⟩
  rw [hg5] at h5
  simp only [hg5]
  generalize w1.alloc (.cells (tgA x) 25) = Y2 at hB1' h11 h21 h41 h5 ⊢
  clear hg5
  obtain ⟨r5, q5⟩ := id h5
  have z5 : (rowAt Y2 g5).size = 33 := by rw [q5]; exact zX
  go_wp2_with fail
  refine (kP _).mono ?_
  rintro e w2 ⟨rfl, hb⟩
  have bC := below_alloc w2 (.cells (secA A) 35)
  have h6 := ScR.new w2 A 35
  have h52 := (h5.kept hb).kept bC
  have h42 := (h41.kept hb).kept bC
  have h12 := (h11.kept hb).kept bC
  have h22 := (h21.kept hb).kept bC
  have hB2 := (hB1'.trans (hb.mono hB1'.size))
  have hB2' := hB2.alloc hB2.size (.cells (secA A) 35)
  clear h5 h41 h11 h21 hB1' hb bC hB2 kP r5 q5 z5
  go_upto_region 4 with fail
  obtain ⟨g6, hg6⟩ : ∃ q, w2.heap.size = q := ⟨_, rfl⟩
  rw [hg6] at h6
  simp only [hg6]
  generalize w2.alloc (.cells (secA A) 35) = Y3 at hB2' h12 h22 h42 h52 h6 ⊢
  clear hg6
  obtain ⟨r6, q6⟩ := h6
  obtain ⟨r1, q1⟩ := h12
  have HR : Hid _ := h22.setRow (tgA x)
  have HB : Hid _ := below_row hB2' hl2 (tgA x)
  obtain ⟨r2, q2⟩ := h22
  have z2 : (rowAt Y3 g2).size = 33 := by rw [q2]; exact zT
  obtain ⟨r5, q5⟩ := h52
  have z5 : (rowAt Y3 g5).size = 33 := by rw [q5]; exact zX
  clear h42 hB2' kU
  go_wp2
  exact tg_bodyPost2 2 3 g2 x rfl rfl rfl HR.out ⟨rfl, HB.out⟩
set_option linter.unusedSimpArgs false in
set_option maxRecDepth 100000 in
set_option maxHeartbeats 3200000 in
theorem getSnap_no1 (s A : Sc) (x : Sn) (w : World)
    (kT : ∀ W, Calls Try.prog 29 #[.agg (secA s)] W fun e w' => e = .returned (.agg (snA x)) ∧ Below W.heap.size W w')
    (kP : ∀ W, Calls Try.prog 10 #[.agg (snA x)] W fun r w' => r = .returned (.tuple #[.agg (secA A), .int .i64 1]) ∧ Below W.heap.size W w') :
    Calls Try.prog 13 #[.agg (secA s)] w fun e w' => e = .returned (.tuple #[.agg (snA snZ), .int .i64 (bif secEq s secZ then 1 else 3)]) ∧ Below w.heap.size w w' := by
  have h1 : ScR ((w.alloc (.cells (secA s) 35)).alloc (.cells (snA snZ) 28)) w.heap.size s := (ScR.new w s _).kept (below_alloc _ _)
  have h2 : RowC ((w.alloc (.cells (secA s) 35)).alloc (.cells (snA snZ) 28)) (w.heap.size + 1) (snA snZ) := by
    have := RowC.new (w.alloc (.cells (secA s) 35)) (snA snZ) 28
    rw [World.size_alloc] at this
    exact this
  have hB : Below w.heap.size w ((w.alloc (.cells (secA s) 35)).alloc (.cells (snA snZ) 28)) := (below_alloc w _).alloc (by simp) _
  have kU := unread17 s
  obtain ⟨kd, hkd⟩ : ∃ q : Int, (bif secEq s secZ then 1 else 3) = q := ⟨_, rfl⟩
  simp only [hkd] at kU ⊢
  clear hkd
  go_enter Try.func13, Try.ntmps13
  go_upto_region 1 with fail
  obtain ⟨g2, hg2⟩ : ∃ g, w.heap.size + 1 = g := ⟨_, rfl⟩
  obtain ⟨g1, hg1⟩ : ∃ g, w.heap.size = g := ⟨_, rfl⟩
  have hl2 : w.heap.size ≤ g2 := by omega
  rw [hg2] at h2
  rw [hg1] at h1
  simp only [hg2]
  simp only [hg1]
  generalize ((w.alloc (.cells (secA s) 35)).alloc (.cells (snA snZ) 28)) = Y at hB h1 h2 ⊢
  clear hg1 hg2
  have bY := below_alloc Y (.cells (secA s) 66)
  have h4 := ScR.new Y s 66
  have h1' := h1.kept bY
  have h2' := h2.kept bY
  have hB' := hB.alloc hB.size (.cells (secA s) 66)
  obtain ⟨r1, q1⟩ := h1
  clear h2 hB bY
  go_upto_region 2 with fail
  obtain ⟨g4, hg4⟩ : ∃ q, Y.heap.size = q := ⟨_, rfl⟩
  rw [hg4] at h4
  simp only [hg4]
  generalize Y.alloc (.cells (secA s) 66) = Y1 at hB' h1' h2' h4 ⊢
  clear hg4 r1 q1
  obtain ⟨r4, q4⟩ := id h4
  go_wp2_with fail
  refine (kT _).mono ?_
  rintro e w1 ⟨rfl, hb⟩
  have bC := below_alloc w1 (.cells (snA x) 28)
  have h5 := RowC.new w1 (snA x) 28
  have h41 := (h4.kept hb).kept bC
  have h11 := (h1'.kept hb).kept bC
  have h21 := (h2'.kept hb).kept bC
  have hB1 := (hB'.trans (hb.mono hB'.size))
  have hB1' := hB1.alloc hB1.size (.cells (snA x) 28)
  have zT : (snA snZ).size = 34 := snA_size _
  have zX : (snA x).size = 34 := snA_size _
  have oX : OneC (snA x) = true := snA_one _
  clear h4 h1' h2' hB' hb bC hB1 kT r4 q4
  go_upto_region 3 with fail
  obtain ⟨g5, hg5⟩ : ∃ q, w1.heap.size = q := ⟨_, rfl⟩
  rw [hg5] at h5
  simp only [hg5]
  generalize w1.alloc (.cells (snA x) 28) = Y2 at hB1' h11 h21 h41 h5 ⊢
  clear hg5
  obtain ⟨r5, q5⟩ := id h5
  have z5 : (rowAt Y2 g5).size = 34 := by rw [q5]; exact zX
  go_wp2_with fail
  refine (kP _).mono ?_
  rintro e w2 ⟨rfl, hb⟩
  have bC := below_alloc w2 (.cells (secA A) 35)
  have h6 := ScR.new w2 A 35
  have h52 := (h5.kept hb).kept bC
  have h42 := (h41.kept hb).kept bC
  have h12 := (h11.kept hb).kept bC
  have h22 := (h21.kept hb).kept bC
  have hB2 := (hB1'.trans (hb.mono hB1'.size))
  have hB2' := hB2.alloc hB2.size (.cells (secA A) 35)
  clear h5 h41 h11 h21 hB1' hb bC hB2 kP r5 q5 z5
  go_upto_region 4 with fail
  obtain ⟨g6, hg6⟩ : ∃ q, w2.heap.size = q := ⟨_, rfl⟩
  rw [hg6] at h6
  simp only [hg6]
  generalize w2.alloc (.cells (secA A) 35) = Y3 at hB2' h12 h22 h42 h52 h6 ⊢
  clear hg6
  obtain ⟨r6, q6⟩ := h6
  obtain ⟨r1, q1⟩ := h12
  obtain ⟨r4, q4⟩ := h42
  clear h52
  go_wp2_with fail
  refine (kU _).mono ?_
  rintro e w3 ⟨rfl, hb⟩
  have h23 := h22.kept hb
  have hB3 := hB2'.trans (hb.mono hB2'.size)
  have HR : Hid _ := h23.setRow (snA snZ)
  have HB : Hid _ := below_row hB3 hl2 (snA snZ)
  obtain ⟨r2, q2⟩ := h23
  have z2 : (rowAt w3 g2).size = 34 := by rw [q2]; exact zT
  clear h22 hB2' hB3 hb kU r6 q6 r1 q1 r4 q4
  go_wp2
  exact sn_bodyPost2 2 3 g2 snZ rfl rfl rfl HR.out ⟨rfl, HB.out⟩
set_option linter.unusedSimpArgs false in
set_option maxRecDepth 100000 in
set_option maxHeartbeats 3200000 in
theorem getSnap_no2 (s A : Sc) (x : Sn) (w : World) (hz : secEq A s = false)
    (kT : ∀ W, Calls Try.prog 29 #[.agg (secA s)] W fun e w' => e = .returned (.agg (snA x)) ∧ Below W.heap.size W w')
    (kP : ∀ W, Calls Try.prog 10 #[.agg (snA x)] W fun r w' => r = .returned (.tuple #[.agg (secA A), .int .i64 0]) ∧ Below W.heap.size W w') :
    Calls Try.prog 13 #[.agg (secA s)] w fun e w' => e = .returned (.tuple #[.agg (snA snZ), .int .i64 (bif secEq s secZ then 1 else 3)]) ∧ Below w.heap.size w w' := by
  have h1 : ScR ((w.alloc (.cells (secA s) 35)).alloc (.cells (snA snZ) 28)) w.heap.size s := (ScR.new w s _).kept (below_alloc _ _)
  have h2 : RowC ((w.alloc (.cells (secA s) 35)).alloc (.cells (snA snZ) 28)) (w.heap.size + 1) (snA snZ) := by
    have := RowC.new (w.alloc (.cells (secA s) 35)) (snA snZ) 28
    rw [World.size_alloc] at this
    exact this
  have hB : Below w.heap.size w ((w.alloc (.cells (secA s) 35)).alloc (.cells (snA snZ) 28)) := (below_alloc w _).alloc (by simp) _
  have kU := unread17 s
  obtain ⟨kd, hkd⟩ : ∃ q : Int, (bif secEq s secZ then 1 else 3) = q := ⟨_, rfl⟩
  simp only [hkd] at kU ⊢
  clear hkd
  go_enter Try.func13, Try.ntmps13
  go_upto_region 1 with fail
  obtain ⟨g2, hg2⟩ : ∃ g, w.heap.size + 1 = g := ⟨_, rfl⟩
  obtain ⟨g1, hg1⟩ : ∃ g, w.heap.size = g := ⟨_, rfl⟩
  have hl2 : w.heap.size ≤ g2 := by omega
  rw [hg2] at h2
  rw [hg1] at h1
  simp only [hg2]
  simp only [hg1]
  generalize ((w.alloc (.cells (secA s) 35)).alloc (.cells (snA snZ) 28)) = Y at hB h1 h2 ⊢
  clear hg1 hg2
  have bY := below_alloc Y (.cells (secA s) 66)
  have h4 := ScR.new Y s 66
  have h1' := h1.kept bY
  have h2' := h2.kept bY
  have hB' := hB.alloc hB.size (.cells (secA s) 66)
  obtain ⟨r1, q1⟩ := h1
  clear h2 hB bY
  go_upto_region 2 with fail
  obtain ⟨g4, hg4⟩ : ∃ q, Y.heap.size = q := ⟨_, rfl⟩
  rw [hg4] at h4
  simp only [hg4]
  generalize Y.alloc (.cells (secA s) 66) = Y1 at hB' h1' h2' h4 ⊢
  clear hg4 r1 q1
  obtain ⟨r4, q4⟩ := id h4
  go_wp2_with fail
  refine (kT _).mono ?_
  rintro e w1 ⟨rfl, hb⟩
  have bC := below_alloc w1 (.cells (snA x) 28)
  have h5 := RowC.new w1 (snA x) 28
  have h41 := (h4.kept hb).kept bC
  have h11 := (h1'.kept hb).kept bC
  have h21 := (h2'.kept hb).kept bC
  have hB1 := (hB'.trans (hb.mono hB'.size))
  have hB1' := hB1.alloc hB1.size (.cells (snA x) 28)
  have zT : (snA snZ).size = 34 := snA_size _
  have zX : (snA x).size = 34 := snA_size _
  have oX : OneC (snA x) = true := snA_one _
  clear h4 h1' h2' hB' hb bC hB1 kT r4 q4
  go_upto_region 3 with fail
  obtain ⟨g5, hg5⟩ : ∃ q, w1.heap.size = q := ⟨_, rfl⟩
  rw [hg5] at h5
  simp only [hg5]
  generalize w1.alloc (.cells (snA x) 28) = Y2 at hB1' h11 h21 h41 h5 ⊢
  clear hg5
  obtain ⟨r5, q5⟩ := id h5
  have z5 : (rowAt Y2 g5).size = 34 := by rw [q5]; exact zX
  go_wp2_with fail
  refine (kP _).mono ?_
  rintro e w2 ⟨rfl, hb⟩
  have bC := below_alloc w2 (.cells (secA A) 35)
  have h6 := ScR.new w2 A 35
  have h52 := (h5.kept hb).kept bC
  have h42 := (h41.kept hb).kept bC
  have h12 := (h11.kept hb).kept bC
  have h22 := (h21.kept hb).kept bC
  have hB2 := (hB1'.trans (hb.mono hB1'.size))
  have hB2' := hB2.alloc hB2.size (.cells (secA A) 35)
  clear h5 h41 h11 h21 hB1' hb bC hB2 kP r5 q5 z5
  go_upto_region 4 with fail
  obtain ⟨g6, hg6⟩ : ∃ q, w2.heap.size = q := ⟨_, rfl⟩
  rw [hg6] at h6
  simp only [hg6]
  generalize w2.alloc (.cells (secA A) 35) = Y3 at hB2' h12 h22 h42 h52 h6 ⊢
  clear hg6
  obtain ⟨r6, q6⟩ := h6
  obtain ⟨r1, q1⟩ := h12
  obtain ⟨r4, q4⟩ := h42
  clear h52
  go_wp2_with fail
  refine (kU _).mono ?_
  rintro e w3 ⟨rfl, hb⟩
  have h23 := h22.kept hb
  have hB3 := hB2'.trans (hb.mono hB2'.size)
  have HR : Hid _ := h23.setRow (snA snZ)
  have HB : Hid _ := below_row hB3 hl2 (snA snZ)
  obtain ⟨r2, q2⟩ := h23
  have z2 : (rowAt w3 g2).size = 34 := by rw [q2]; exact zT
  clear h22 hB2' hB3 hb kU r6 q6 r1 q1 r4 q4
  go_wp2
  exact sn_bodyPost2 2 3 g2 snZ rfl rfl rfl HR.out ⟨rfl, HB.out⟩
set_option linter.unusedSimpArgs false in
set_option maxRecDepth 100000 in
set_option maxHeartbeats 3200000 in
theorem getSnap_yes (s A : Sc) (x : Sn) (w : World) (hz : secEq A s = true)
    (kT : ∀ W, Calls Try.prog 29 #[.agg (secA s)] W fun e w' => e = .returned (.agg (snA x)) ∧ Below W.heap.size W w')
    (kP : ∀ W, Calls Try.prog 10 #[.agg (snA x)] W fun r w' => r = .returned (.tuple #[.agg (secA A), .int .i64 0]) ∧ Below W.heap.size W w') :
    Calls Try.prog 13 #[.agg (secA s)] w fun e w' => e = .returned (.tuple #[.agg (snA x), .int .i64 (2)]) ∧ Below w.heap.size w w' := by
  have h1 : ScR ((w.alloc (.cells (secA s) 35)).alloc (.cells (snA snZ) 28)) w.heap.size s := (ScR.new w s _).kept (below_alloc _ _)
  have h2 : RowC ((w.alloc (.cells (secA s) 35)).alloc (.cells (snA snZ) 28)) (w.heap.size + 1) (snA snZ) := by
    have := RowC.new (w.alloc (.cells (secA s) 35)) (snA snZ) 28
    rw [World.size_alloc] at this
    exact this
  have hB : Below w.heap.size w ((w.alloc (.cells (secA s) 35)).alloc (.cells (snA snZ) 28)) := (below_alloc w _).alloc (by simp) _
  have kU := unread17 s
  obtain ⟨kd, hkd⟩ : ∃ q : Int, (bif secEq s secZ then 1 else 3) = q := ⟨_, rfl⟩
  simp only [hkd] at kU ⊢
  clear hkd
  go_enter Try.func13, Try.ntmps13
  go_upto_region 1 with fail
  obtain ⟨g2, hg2⟩ : ∃ g, w.heap.size + 1 = g := ⟨_, rfl⟩
  obtain ⟨g1, hg1⟩ : ∃ g, w.heap.size = g := ⟨_, rfl⟩
  have hl2 : w.heap.size ≤ g2 := by omega
  rw [hg2] at h2
  rw [hg1] at h1
  simp only [hg2]
  simp only [hg1]
  generalize ((w.alloc (.cells (secA s) 35)).alloc (.cells (snA snZ) 28)) = Y at hB h1 h2 ⊢
  clear hg1 hg2
  have bY := below_alloc Y (.cells (secA s) 66)
  have h4 := ScR.new Y s 66
  have h1' := h1.kept bY
  have h2' := h2.kept bY
  have hB' := hB.alloc hB.size (.cells (secA s) 66)
  obtain ⟨r1, q1⟩ := h1
  clear h2 hB bY
  go_upto_region 2 with fail
  obtain ⟨g4, hg4⟩ : ∃ q, Y.heap.size = q := ⟨_, rfl⟩
  rw [hg4] at h4
  simp only [hg4]
  generalize Y.alloc (.cells (secA s) 66) = Y1 at hB' h1' h2' h4 ⊢
  clear hg4 r1 q1
  obtain ⟨r4, q4⟩ := id h4
  go_wp2_with fail
  refine (kT _).mono ?_
  rintro e w1 ⟨rfl, hb⟩
  have bC := below_alloc w1 (.cells (snA x) 28)
  have h5 := RowC.new w1 (snA x) 28
  have h41 := (h4.kept hb).kept bC
  have h11 := (h1'.kept hb).kept bC
  have h21 := (h2'.kept hb).kept bC
  have hB1 := (hB'.trans (hb.mono hB'.size))
  have hB1' := hB1.alloc hB1.size (.cells (snA x) 28)
  have zT : (snA snZ).size = 34 := snA_size _
  have zX : (snA x).size = 34 := snA_size _
  have oX : OneC (snA x) = true := snA_one _
  clear h4 h1' h2' hB' hb bC hB1 kT r4 q4
  go_upto_region 3 with fail
  obtain ⟨g5, hg5⟩ : ∃ q, w1.heap.size = q := ⟨_, rfl⟩
  rw [hg5] at h5
  simp only [hg5]
  generalize w1.alloc (.cells (snA x) 28) = Y2 at hB1' h11 h21 h41 h5 ⊢
  clear hg5
  obtain ⟨r5, q5⟩ := id h5
  have z5 : (rowAt Y2 g5).size = 34 := by rw [q5]; exact zX
  go_wp2_with fail
  refine (kP _).mono ?_
  rintro e w2 ⟨rfl, hb⟩
  have bC := below_alloc w2 (.cells (secA A) 35)
  have h6 := ScR.new w2 A 35
  have h52 := (h5.kept hb).kept bC
  have h42 := (h41.kept hb).kept bC
  have h12 := (h11.kept hb).kept bC
  have h22 := (h21.kept hb).kept bC
  have hB2 := (hB1'.trans (hb.mono hB1'.size))
  have hB2' := hB2.alloc hB2.size (.cells (secA A) 35)
  clear h5 h41 h11 h21 hB1' hb bC hB2 kP r5 q5 z5
  go_upto_region 4 with fail
  obtain ⟨g6, hg6⟩ : ∃ q, w2.heap.size = q := ⟨_, rfl⟩
  rw [hg6] at h6
  simp only [hg6]
  generalize w2.alloc (.cells (secA A) 35) = Y3 at hB2' h12 h22 h42 h52 h6 ⊢
  clear hg6
  obtain ⟨r6, q6⟩ := h6
  obtain ⟨r1, q1⟩ := h12
  have HR : Hid _ := h22.setRow (snA x)
  have HB : Hid _ := below_row hB2' hl2 (snA x)
  obtain ⟨r2, q2⟩ := h22
  have z2 : (rowAt Y3 g2).size = 34 := by rw [q2]; exact zT
  obtain ⟨r5, q5⟩ := h52
  have z5 : (rowAt Y3 g5).size = 34 := by rw [q5]; exact zX
  clear h42 hB2' kU
  go_wp2
  exact sn_bodyPost2 2 3 g2 x rfl rfl rfl HR.out ⟨rfl, HB.out⟩
theorem getTag17 (s : Sc) (w : World) : Calls Try.prog 12 #[.agg (secA s)] w fun e w' => GtP s w e w' := by
  obtain ⟨hr, hL⟩ := tag_read s
  have kT := fun W => toldTag17 s W (s 1).toNat rfl _ rfl
  have h24 : (getS (subL s 2 24) ((s 1).toNat : Int)).length ≤ 24 := by
    unfold getS
    cases getB (subL s 2 24) ((s 1).toNat : Int)
    · show ([] : List UInt8).length ≤ 24; simp
    · show (List.take _ _).length ≤ 24
      rw [List.length_take, subL_length]; omega
  have kP := fun W => putTag17 ⟨(getS (subL s 2 24) ((s 1).toNat : Int)).toArray⟩ (tgK s) W (by
    show (getS (subL s 2 24) ((s 1).toNat : Int)).toArray.size ≤ _
    rw [List.size_toArray]; omega)
  simp only [lS_of] at kP
  generalize getS (subL s 2 24) ((s 1).toNat : Int) = L at hr hL kT kP
  unfold GtP gtL gtD gtK
  unfold ptS ptE at kP
  cases hN : isN L
  · rw [hN] at hr kP
    have hr' : tgR s = false := by rw [← hr]; rfl
    rw [hr']
    exact getTag_no1 s secZ _ w kT kP
  · rw [hN] at hr kP
    cases hz : secEq (tagS L (tgK s)) s
    · rw [hz] at hr
      have hr' : tgR s = false := by rw [← hr]; rfl
      rw [hr']
      exact getTag_no2 s _ _ w hz kT kP
    · rw [hz] at hr
      have hr' : tgR s = true := by rw [← hr]; rfl
      rw [hr', sl_ne (tgR_sl hr').1, ← hL hr']
      exact getTag_yes s _ _ w hz kT kP
theorem getSnapL (s : Sc) (w : World) (a b : Nat) (K : Nat → UInt8) (ha : a < 4294967296) (hb : b < 4294967296) (r : Bool) (hr : (!(a == 0) && secEq (snS a b K) s) = r) (hrz : r = true → secEq s secZ = false)
    (kT : ∀ W, Calls Try.prog 29 #[.agg (secA s)] W fun e w' => e = .returned (.agg (snA ⟨(a : Int), (b : Int), K⟩)) ∧ Below W.heap.size W w') :
    Calls Try.prog 13 #[.agg (secA s)] w fun e w' => e = .returned (.tuple #[.agg (snA (bif r then ⟨(a : Int), (b : Int), K⟩ else snZ)), .int .i64 (bif secEq s secZ then 1 else bif r then 2 else 3)]) ∧ Below w.heap.size w w' := by
  have kP := fun W => putSnap17 a b K W ha hb
  unfold psS psE at kP
  cases hN : (a == 0)
  · simp only [hN, cond_false] at kP
    rw [hN] at hr
    cases hz : secEq (snS a b K) s
    · obtain rfl : r = false := by rw [← hr, hz]; rfl
      simp only [cond_false]
      exact getSnap_no2 s _ _ w hz kT kP
    · obtain rfl : r = true := by rw [← hr, hz]; rfl
      simp only [hrz rfl, cond_false, cond_true]
      exact getSnap_yes s _ _ w hz kT kP
  · simp only [hN, cond_true] at kP
    rw [hN] at hr
    obtain rfl : r = false := by rw [← hr]; rfl
    simp only [cond_false]
    exact getSnap_no1 s secZ _ w kT kP
theorem num4_le (s : Sc) (a : Nat) : numN s a 4 < 4294967296 := by have := numN_lt s a 4; omega
theorem getSnap17 (s : Sc) (w : World) : Calls Try.prog 13 #[.agg (secA s)] w fun e w' => GsP s w e w' := by
  have hr := snap_read s
  obtain ⟨a, ha⟩ : ∃ q, numN s 4 4 = q := ⟨_, rfl⟩
  obtain ⟨b, hb⟩ : ∃ q, numN s 8 4 = q := ⟨_, rfl⟩
  have ha4 : a < 4294967296 := by rw [← ha]; exact num4_le s 4
  have hb4 : b < 4294967296 := by rw [← hb]; exact num4_le s 8
  have kT := fun W => toldSnap17 s W a b ha hb
  unfold GsP
  rw [gs_yes s a b ha hb]
  unfold gsK
  rw [ha, hb] at hr
  exact getSnapL s w a b (snK s) ha4 hb4 (snR s) hr (fun h => sl_ne (snR_sl h).1) kT
end Go.Proofs.Ytfdigmlhjjdggaa
