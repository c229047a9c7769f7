import Derived.Test.YtfdigmlhjjdggaaQNamY
import Derived.Test.YtfdigmlhjjdggaaQNam6
namespace Go.Proofs.Ytfdigmlhjjdggaa
open Go.RowKit

/-! name.Check, name.Put, name.Get: what name owes -/
set_option linter.unusedSimpArgs false in
set_option maxRecDepth 100000 in
set_option maxHeartbeats 4000000 in
theorem nChkOk : NChkOk := fun s w h63 => by
  have hls := lS_len s
  have hdec := dec_any s
  have hnext := fun (k : Nat) (h : k < s.size) (ty : TypeId) => run_next_any (P := Try.prog) w s k ty h
  have hend := fun (k : Nat) (h : ¬ k < s.size) (ty : TypeId) => run_next_end (P := Try.prog) w s k ty h
  obtain ⟨l, hl⟩ : ∃ q, lS s = q := ⟨_, rfl⟩
  rw [hl] at hls ⊢
  simp only [hl] at hdec
  obtain ⟨n, hn⟩ : ∃ q, s.size = q := ⟨_, rfl⟩
  rw [hn] at hls h63
  have HYES : Hid (okN l n = true → (1 ≤ n ∧ n ≤ 24) → chkN l = 0) := fun h h1 => by
    unfold chkN isN lenN
    rw [hls, h, decide_eq_true h1]; rfl
  have HNO : Hid (okN l n = false ∨ ¬ (1 ≤ n ∧ n ≤ 24) → chkN l = 36) := fun h => by
    unfold chkN isN lenN
    rw [hls]
    rcases h with h | h
    · rw [h, Bool.and_false]; rfl
    · rw [decide_eq_false h]; rfl
  by_cases h1 : n < 1
  · have i1 : (n : Int) < 1 := by omega
    have HP : Hid (chkN l = 36) := HNO.out (.inr (by omega))
    clear HYES HNO hdec hnext hend h1
    go_enter Try.func47, Try.ntmps47
    go_wp2
    go_ret
    rw [HP.out]
    exact ⟨rfl, Below.refl _ _⟩
  have i1 : ¬ (n : Int) < 1 := by omega
  by_cases h2 : 24 < n
  · have i2 : (24 : Int) < (n : Int) := by omega
    have HP : Hid (chkN l = 36) := HNO.out (.inr (by omega))
    clear HYES HNO hdec hnext hend h1
    go_enter Try.func47, Try.ntmps47
    go_wp2
    go_ret
    rw [HP.out]
    exact ⟨rfl, Below.refl _ _⟩
  have i2 : ¬ (24 : Int) < (n : Int) := by omega
  go_enter Try.func47, Try.ntmps47
  go_wp2_with fail
  go_loopw [3] (fun _ wr => ∃ k : Nat, k ≤ n ∧ wr = w.iter s k ∧ Hid (okN l k = true)) (fun _ wr => n - wr.iterPos w.heap.size)
  case atStart => exact ⟨0, by omega, rfl, rfl⟩
  case round =>
    obtain ⟨k, hk, rfl, HI⟩ := hrel
    by_cases hlt : k < n
    · obtain ⟨v, d, hdv, hv, hC, h1d⟩ := hdec k (by omega)
      have hnx := hnext k (by omega)
      rw [hdv] at hnx
      simp only at hnx
      clear hdec hnext hend
      rcases (by omega : v ≤ 44 ∨ (45 ≤ v ∧ v ≤ 45) ∨ (46 ≤ v ∧ v ≤ 46) ∨ (47 ≤ v ∧ v ≤ 47) ∨ (48 ≤ v ∧ v ≤ 57) ∨ (58 ≤ v ∧ v ≤ 64) ∨ (65 ≤ v ∧ v ≤ 90) ∨ (91 ≤ v ∧ v ≤ 94) ∨ (95 ≤ v ∧ v ≤ 95) ∨ (96 ≤ v ∧ v ≤ 96) ∨ (97 ≤ v ∧ v ≤ 122) ∨ 123 ≤ v) with hr | hr | hr | hr | hr | hr | hr | hr | hr | hr | hr | hr
      · have c1 : ¬ (65 : Int) ≤ (v : Int) := by omega
        have c2 : ¬ (97 : Int) ≤ (v : Int) := by omega
        have c3 : ¬ (48 : Int) ≤ (v : Int) := by omega
        have c4 : (v : Int) ≤ 90 := by omega
        have c5 : (v : Int) ≤ 122 := by omega
        have c6 : (v : Int) ≤ 57 := by omega
        have c7 : ((v : Int) == 95) = false := beq_eq_false_iff_ne.2 (by omega)
        have c8 : ((v : Int) == 46) = false := beq_eq_false_iff_ne.2 (by omega)
        have c9 : ((v : Int) == 45) = false := beq_eq_false_iff_ne.2 (by omega)
        have ho : okC l k = false := by rw [← hC]; unfold rnC; simp; omega
        clear hC hv
        have HP : Hid (chkN l = 36) := HNO.out (.inl (okN_not l k n hlt ho))
        clear h1d ho HI hdv
        go_wp2
        go_ret
        rw [HP.out]
        exact ⟨rfl, below_alloc w _⟩
      · by_cases hk0 : 0 < k
        · have c1 : ¬ (65 : Int) ≤ (v : Int) := by omega
          have c2 : ¬ (97 : Int) ≤ (v : Int) := by omega
          have c3 : ¬ (48 : Int) ≤ (v : Int) := by omega
          have c4 : (v : Int) ≤ 90 := by omega
          have c5 : (v : Int) ≤ 122 := by omega
          have c6 : (v : Int) ≤ 57 := by omega
          have c7 : ((v : Int) == 95) = false := beq_eq_false_iff_ne.2 (by omega)
          have c8 : ((v : Int) == 46) = false := beq_eq_false_iff_ne.2 (by omega)
          have c9 : ((v : Int) == 45) = true := beq_iff_eq.2 (by omega)
          have c0 : (0 : Int) < (k : Int) := by omega
          have ho : okC l k = true := by rw [← hC]; unfold rnC; simp; omega
          clear hC hv
          obtain rfl := h1d ho
          have HI2 : Hid (okN l (k + 1) = true) := by show okN l (k + 1) = true; rw [okN, HI.out, ho]; rfl
          clear h1d ho HI hdv
          go_wp2
          go_roundw
          case rel => exact ⟨k + 1, by omega, rfl, HI2⟩
          case measure => simp; omega
        · have c1 : ¬ (65 : Int) ≤ (v : Int) := by omega
          have c2 : ¬ (97 : Int) ≤ (v : Int) := by omega
          have c3 : ¬ (48 : Int) ≤ (v : Int) := by omega
          have c4 : (v : Int) ≤ 90 := by omega
          have c5 : (v : Int) ≤ 122 := by omega
          have c6 : (v : Int) ≤ 57 := by omega
          have c7 : ((v : Int) == 95) = false := beq_eq_false_iff_ne.2 (by omega)
          have c8 : ((v : Int) == 46) = false := beq_eq_false_iff_ne.2 (by omega)
          have c9 : ((v : Int) == 45) = true := beq_iff_eq.2 (by omega)
          have c0 : ¬ (0 : Int) < (k : Int) := by omega
          have ho : okC l k = false := by rw [← hC]; unfold rnC; simp; omega
          clear hC hv
          have HP : Hid (chkN l = 36) := HNO.out (.inl (okN_not l k n hlt ho))
          clear h1d ho HI hdv
          go_wp2
          go_ret
          rw [HP.out]
          exact ⟨rfl, below_alloc w _⟩
      · by_cases hk0 : 0 < k
        · have c1 : ¬ (65 : Int) ≤ (v : Int) := by omega
          have c2 : ¬ (97 : Int) ≤ (v : Int) := by omega
          have c3 : ¬ (48 : Int) ≤ (v : Int) := by omega
          have c4 : (v : Int) ≤ 90 := by omega
          have c5 : (v : Int) ≤ 122 := by omega
          have c6 : (v : Int) ≤ 57 := by omega
          have c7 : ((v : Int) == 95) = false := beq_eq_false_iff_ne.2 (by omega)
          have c8 : ((v : Int) == 46) = true := beq_iff_eq.2 (by omega)
          have c9 : ((v : Int) == 45) = false := beq_eq_false_iff_ne.2 (by omega)
          have c0 : (0 : Int) < (k : Int) := by omega
          have ho : okC l k = true := by rw [← hC]; unfold rnC; simp; omega
          clear hC hv
          obtain rfl := h1d ho
          have HI2 : Hid (okN l (k + 1) = true) := by show okN l (k + 1) = true; rw [okN, HI.out, ho]; rfl
          clear h1d ho HI hdv
          go_wp2
          go_roundw
          case rel => exact ⟨k + 1, by omega, rfl, HI2⟩
          case measure => simp; omega
        · have c1 : ¬ (65 : Int) ≤ (v : Int) := by omega
          have c2 : ¬ (97 : Int) ≤ (v : Int) := by omega
          have c3 : ¬ (48 : Int) ≤ (v : Int) := by omega
          have c4 : (v : Int) ≤ 90 := by omega
          have c5 : (v : Int) ≤ 122 := by omega
          have c6 : (v : Int) ≤ 57 := by omega
          have c7 : ((v : Int) == 95) = false := beq_eq_false_iff_ne.2 (by omega)
          have c8 : ((v : Int) == 46) = true := beq_iff_eq.2 (by omega)
          have c9 : ((v : Int) == 45) = false := beq_eq_false_iff_ne.2 (by omega)
          have c0 : ¬ (0 : Int) < (k : Int) := by omega
          have ho : okC l k = false := by rw [← hC]; unfold rnC; simp; omega
          clear hC hv
          have HP : Hid (chkN l = 36) := HNO.out (.inl (okN_not l k n hlt ho))
          clear h1d ho HI hdv
          go_wp2
          go_ret
          rw [HP.out]
          exact ⟨rfl, below_alloc w _⟩
      · have c1 : ¬ (65 : Int) ≤ (v : Int) := by omega
        have c2 : ¬ (97 : Int) ≤ (v : Int) := by omega
        have c3 : ¬ (48 : Int) ≤ (v : Int) := by omega
        have c4 : (v : Int) ≤ 90 := by omega
        have c5 : (v : Int) ≤ 122 := by omega
        have c6 : (v : Int) ≤ 57 := by omega
        have c7 : ((v : Int) == 95) = false := beq_eq_false_iff_ne.2 (by omega)
        have c8 : ((v : Int) == 46) = false := beq_eq_false_iff_ne.2 (by omega)
        have c9 : ((v : Int) == 45) = false := beq_eq_false_iff_ne.2 (by omega)
        have ho : okC l k = false := by rw [← hC]; unfold rnC; simp; omega
        clear hC hv
        have HP : Hid (chkN l = 36) := HNO.out (.inl (okN_not l k n hlt ho))
        clear h1d ho HI hdv
        go_wp2
        go_ret
        rw [HP.out]
        exact ⟨rfl, below_alloc w _⟩
      · have c1 : ¬ (65 : Int) ≤ (v : Int) := by omega
        have c2 : ¬ (97 : Int) ≤ (v : Int) := by omega
        have c3 : (48 : Int) ≤ (v : Int) := by omega
        have c4 : (v : Int) ≤ 90 := by omega
        have c5 : (v : Int) ≤ 122 := by omega
        have c6 : (v : Int) ≤ 57 := by omega
        have c7 : ((v : Int) == 95) = false := beq_eq_false_iff_ne.2 (by omega)
        have c8 : ((v : Int) == 46) = false := beq_eq_false_iff_ne.2 (by omega)
        have c9 : ((v : Int) == 45) = false := beq_eq_false_iff_ne.2 (by omega)
        have ho : okC l k = true := by rw [← hC]; unfold rnC; simp; omega
        clear hC hv
        obtain rfl := h1d ho
        have HI2 : Hid (okN l (k + 1) = true) := by show okN l (k + 1) = true; rw [okN, HI.out, ho]; rfl
        clear h1d ho HI hdv
        go_wp2
        go_roundw
        case rel => exact ⟨k + 1, by omega, rfl, HI2⟩
        case measure => simp; omega
      · have c1 : ¬ (65 : Int) ≤ (v : Int) := by omega
        have c2 : ¬ (97 : Int) ≤ (v : Int) := by omega
        have c3 : (48 : Int) ≤ (v : Int) := by omega
        have c4 : (v : Int) ≤ 90 := by omega
        have c5 : (v : Int) ≤ 122 := by omega
        have c6 : ¬ (v : Int) ≤ 57 := by omega
        have c7 : ((v : Int) == 95) = false := beq_eq_false_iff_ne.2 (by omega)
        have c8 : ((v : Int) == 46) = false := beq_eq_false_iff_ne.2 (by omega)
        have c9 : ((v : Int) == 45) = false := beq_eq_false_iff_ne.2 (by omega)
        have ho : okC l k = false := by rw [← hC]; unfold rnC; simp; omega
        clear hC hv
        have HP : Hid (chkN l = 36) := HNO.out (.inl (okN_not l k n hlt ho))
        clear h1d ho HI hdv
        go_wp2
        go_ret
        rw [HP.out]
        exact ⟨rfl, below_alloc w _⟩
      · have c1 : (65 : Int) ≤ (v : Int) := by omega
        have c2 : ¬ (97 : Int) ≤ (v : Int) := by omega
        have c3 : (48 : Int) ≤ (v : Int) := by omega
        have c4 : (v : Int) ≤ 90 := by omega
        have c5 : (v : Int) ≤ 122 := by omega
        have c6 : ¬ (v : Int) ≤ 57 := by omega
        have c7 : ((v : Int) == 95) = false := beq_eq_false_iff_ne.2 (by omega)
        have c8 : ((v : Int) == 46) = false := beq_eq_false_iff_ne.2 (by omega)
        have c9 : ((v : Int) == 45) = false := beq_eq_false_iff_ne.2 (by omega)
        have ho : okC l k = true := by rw [← hC]; unfold rnC; simp; omega
        clear hC hv
        obtain rfl := h1d ho
        have HI2 : Hid (okN l (k + 1) = true) := by show okN l (k + 1) = true; rw [okN, HI.out, ho]; rfl
        clear h1d ho HI hdv
        go_wp2
        go_roundw
        case rel => exact ⟨k + 1, by omega, rfl, HI2⟩
        case measure => simp; omega
      · have c1 : (65 : Int) ≤ (v : Int) := by omega
        have c2 : ¬ (97 : Int) ≤ (v : Int) := by omega
        have c3 : (48 : Int) ≤ (v : Int) := by omega
        have c4 : ¬ (v : Int) ≤ 90 := by omega
        have c5 : (v : Int) ≤ 122 := by omega
        have c6 : ¬ (v : Int) ≤ 57 := by omega
        have c7 : ((v : Int) == 95) = false := beq_eq_false_iff_ne.2 (by omega)
        have c8 : ((v : Int) == 46) = false := beq_eq_false_iff_ne.2 (by omega)
        have c9 : ((v : Int) == 45) = false := beq_eq_false_iff_ne.2 (by omega)
        have ho : okC l k = false := by rw [← hC]; unfold rnC; simp; omega
        clear hC hv
        have HP : Hid (chkN l = 36) := HNO.out (.inl (okN_not l k n hlt ho))
        clear h1d ho HI hdv
        go_wp2
        go_ret
        rw [HP.out]
        exact ⟨rfl, below_alloc w _⟩
      · have c1 : (65 : Int) ≤ (v : Int) := by omega
        have c2 : ¬ (97 : Int) ≤ (v : Int) := by omega
        have c3 : (48 : Int) ≤ (v : Int) := by omega
        have c4 : ¬ (v : Int) ≤ 90 := by omega
        have c5 : (v : Int) ≤ 122 := by omega
        have c6 : ¬ (v : Int) ≤ 57 := by omega
        have c7 : ((v : Int) == 95) = true := beq_iff_eq.2 (by omega)
        have c8 : ((v : Int) == 46) = false := beq_eq_false_iff_ne.2 (by omega)
        have c9 : ((v : Int) == 45) = false := beq_eq_false_iff_ne.2 (by omega)
        have ho : okC l k = true := by rw [← hC]; unfold rnC; simp; omega
        clear hC hv
        obtain rfl := h1d ho
        have HI2 : Hid (okN l (k + 1) = true) := by show okN l (k + 1) = true; rw [okN, HI.out, ho]; rfl
        clear h1d ho HI hdv
        go_wp2
        go_roundw
        case rel => exact ⟨k + 1, by omega, rfl, HI2⟩
        case measure => simp; omega
      · have c1 : (65 : Int) ≤ (v : Int) := by omega
        have c2 : ¬ (97 : Int) ≤ (v : Int) := by omega
        have c3 : (48 : Int) ≤ (v : Int) := by omega
        have c4 : ¬ (v : Int) ≤ 90 := by omega
        have c5 : (v : Int) ≤ 122 := by omega
        have c6 : ¬ (v : Int) ≤ 57 := by omega
        have c7 : ((v : Int) == 95) = false := beq_eq_false_iff_ne.2 (by omega)
        have c8 : ((v : Int) == 46) = false := beq_eq_false_iff_ne.2 (by omega)
        have c9 : ((v : Int) == 45) = false := beq_eq_false_iff_ne.2 (by omega)
        have ho : okC l k = false := by rw [← hC]; unfold rnC; simp; omega
        clear hC hv
        have HP : Hid (chkN l = 36) := HNO.out (.inl (okN_not l k n hlt ho))
        clear h1d ho HI hdv
        go_wp2
        go_ret
        rw [HP.out]
        exact ⟨rfl, below_alloc w _⟩
      · have c1 : (65 : Int) ≤ (v : Int) := by omega
        have c2 : (97 : Int) ≤ (v : Int) := by omega
        have c3 : (48 : Int) ≤ (v : Int) := by omega
        have c4 : ¬ (v : Int) ≤ 90 := by omega
        have c5 : (v : Int) ≤ 122 := by omega
        have c6 : ¬ (v : Int) ≤ 57 := by omega
        have c7 : ((v : Int) == 95) = false := beq_eq_false_iff_ne.2 (by omega)
        have c8 : ((v : Int) == 46) = false := beq_eq_false_iff_ne.2 (by omega)
        have c9 : ((v : Int) == 45) = false := beq_eq_false_iff_ne.2 (by omega)
        have ho : okC l k = true := by rw [← hC]; unfold rnC; simp; omega
        clear hC hv
        obtain rfl := h1d ho
        have HI2 : Hid (okN l (k + 1) = true) := by show okN l (k + 1) = true; rw [okN, HI.out, ho]; rfl
        clear h1d ho HI hdv
        go_wp2
        go_roundw
        case rel => exact ⟨k + 1, by omega, rfl, HI2⟩
        case measure => simp; omega
      · have c1 : (65 : Int) ≤ (v : Int) := by omega
        have c2 : (97 : Int) ≤ (v : Int) := by omega
        have c3 : (48 : Int) ≤ (v : Int) := by omega
        have c4 : ¬ (v : Int) ≤ 90 := by omega
        have c5 : ¬ (v : Int) ≤ 122 := by omega
        have c6 : ¬ (v : Int) ≤ 57 := by omega
        have c7 : ((v : Int) == 95) = false := beq_eq_false_iff_ne.2 (by omega)
        have c8 : ((v : Int) == 46) = false := beq_eq_false_iff_ne.2 (by omega)
        have c9 : ((v : Int) == 45) = false := beq_eq_false_iff_ne.2 (by omega)
        have ho : okC l k = false := by rw [← hC]; unfold rnC; simp; omega
        clear hC hv
        have HP : Hid (chkN l = 36) := HNO.out (.inl (okN_not l k n hlt ho))
        clear h1d ho HI hdv
        go_wp2
        go_ret
        rw [HP.out]
        exact ⟨rfl, below_alloc w _⟩
    · obtain rfl : k = n := by omega
      have hnx := hend k (by omega)
      have HP : Hid (chkN l = 0) := HYES.out HI.out (by omega)
      clear hdec hnext hend HI
      go_wp2
      go_ret
      rw [HP.out]
      exact ⟨rfl, below_alloc w _⟩
theorem byteCells_bytesA (l : List UInt8) : Lib.byteCells l = (bytesA l).toList := by
  unfold Lib.byteCells bytesA
  simp
theorem pad_rowN (l : List UInt8) (n : Nat) (_h : l.length ≤ n) : ((bytesA (List.replicate n 0)).toList.take 0 ++ Lib.byteCells l ++ (bytesA (List.replicate n 0)).toList.drop (0 + l.length)).toArray = bytesA (l ++ List.replicate (n - l.length) 0) := by
  apply Array.toList_inj.1
  unfold bytesA Lib.byteCells
  simp
theorem pad_row (l : List UInt8) (h : l.length ≤ 24) : ((bytesA (List.replicate 24 0)).toList.take 0 ++ Lib.byteCells l ++ (bytesA (List.replicate 24 0)).toList.drop (0 + l.length)).toArray = bytesA (padN l) := pad_rowN l 24 h
set_option linter.unusedSimpArgs false in
set_option maxRecDepth 100000 in
set_option maxHeartbeats 4000000 in
theorem nPutOk : NPutOk := fun s w h63 => by
  have hC := nChkOk s w h63
  have hls := lS_len s
  have hcp := fun (g : Nat) (W : World) (ty : TypeId) (hg : W.heap[g]? = some (.cells (bytesA (List.replicate 24 0)) 5 (0, 0))) (h : s.size ≤ 24) => Lib.run_copy_row_string (P := Try.prog) W 75 9 ty 5 g 0 24 24 s (bytesA (List.replicate 24 0)) 5 Try.underlying75 (by kernel_rfl) hg h (by simp [bytesA]; exact h)
  obtain ⟨l, hl⟩ : ∃ q, lS s = q := ⟨_, rfl⟩
  have hl2 : s.data.toList = l := hl
  rw [hl] at hC hls ⊢
  simp only [hl2, ← hls] at hcp
  obtain ⟨n, hn⟩ : ∃ q, s.size = q := ⟨_, rfl⟩
  rw [hn] at hls h63
  have hlen := @isN_len l
  obtain ⟨R, hR⟩ : ∃ q, isN l = q := ⟨_, rfl⟩
  unfold chkN at hC
  rw [hR] at hC hlen
  have HR : Hid (isN l = R) := hR
  clear hR
  go_enter Try.func36, Try.ntmps36
  go_wp2_with fail
  refine hC.mono ?_
  rintro e w1 ⟨rfl, hB⟩
  clear hC
  cases R
  · clear hlen hcp
    simp only [cond_false]
    go_wp2
    go_ret2
    exact ⟨.inr ⟨HR.out, none, 0, rfl, .inl ⟨rfl, rfl⟩⟩, hB⟩
  · have hl24 := hlen rfl
    clear hlen
    have hmk : (Instr.makeSlice 75 (.int .i64 24) (.int .i64 24)).run Try.prog w1 = .ok (.slice (some ⟨w1.heap.size, 0, none⟩) 24 24) (w1.alloc (.cells (bytesA (List.replicate 24 0)) 5)) := run_mk w1 24 (by omega)
    have hc := fun ty => hcp w1.heap.size (w1.alloc (.cells (bytesA (List.replicate 24 0)) 5)) ty (heap_alloc_last w1 _) (by omega)
    rw [pad_row l (by omega), World.setRow_alloc_new] at hc
    have hO := OwnB.new13 w1 (padN l) 24 (padN_len l HR.out) (by unfold maxLen; omega)
    have b0 := below_alloc w1 (.cells (bytesA (padN l)) 5)
    have HP : Hid (PutPost l w (.returned (.tuple #[.slice (some ⟨w1.heap.size, 0, none⟩) 24 24, .int .i64 0])) (w1.alloc (.cells (bytesA (padN l)) 5))) := ⟨.inl ⟨HR.out, w1.heap.size, 24, rfl, hO.1, hO.2.elim .inl fun ⟨g, cap, cur, hv, hg, r⟩ => .inr ⟨g, cap, cur, hv, Nat.le_trans hB.size hg, r⟩⟩, hB.trans (b0.mono hB.size)⟩
    generalize bytesA (List.replicate 24 0) = Z at hmk hc
    generalize bytesA (padN l) = Y at hc HP
    clear hO b0 hcp hl24 hl hl2
    simp only [cond_true]
    go_wp2
    go_ret2
    exact HP.out
set_option linter.unusedSimpArgs false in
set_option maxRecDepth 100000 in
set_option maxHeartbeats 4000000 in
theorem bytesEqual_any (x y : Option Addr) (n m c d : Nat) (l k : List UInt8) (w : World) (hl : IsB w (.slice x n c) l) (hk : IsB w (.slice y m d) k) : Calls Try.prog 51 #[.slice x n c, .slice y m d] w fun e w' => e = .returned (.bool (decide (l = k))) ∧ w' = w := by
  have h1 := hl.str
  have h2 := hk.str
  have e1 := lS_mk l
  have e2 := lS_mk k
  obtain ⟨s, hs⟩ : ∃ q, ByteArray.mk l.toArray = q := ⟨_, rfl⟩
  obtain ⟨t, ht⟩ : ∃ q, ByteArray.mk k.toArray = q := ⟨_, rfl⟩
  rw [hs] at h1 e1
  rw [ht] at h2 e2
  subst e1 e2
  clear hl hk hs ht
  by_cases h : s = t
  · subst h
    rw [decide_eq_true rfl]
    go_enter Try.func51, Try.ntmps51
    go_wp2
    go_ret
    exact ⟨rfl, rfl⟩
  · have hne := str_ne13 h
    rw [decide_eq_false (fun e => h (lS_inj e))]
    clear h
    go_enter Try.func51, Try.ntmps51
    go_wp2
    go_ret
    exact ⟨rfl, rfl⟩
theorem pad_is (l : List UInt8) (m : Nat) (hl : l.length = 24) (hm : m ≤ 24) : decide (padN (l.take m) = l) = zeroN l m (24 - m) := by
  have ht : (l.take m).length = m := by rw [List.length_take]; omega
  unfold padN
  rw [ht]
  by_cases h : zeroN l m (24 - m) = true
  · rw [h]
    refine decide_eq_true ?_
    have hz := (zeroN_all l m (24 - m)).1 h
    apply List.ext_getElem?
    intro j
    by_cases h1 : j < m
    · rw [List.getElem?_append_left (by omega), List.getElem?_take_of_lt h1]
    · rw [List.getElem?_append_right (by omega), ht]
      by_cases h2 : j < 24
      · rw [List.getElem?_replicate_of_lt (by omega)]
        have := hz (j - m) (by omega)
        rw [show m + (j - m) = j by omega] at this
        unfold lB at this
        rw [List.getElem?_eq_getElem (by omega)] at this ⊢
        rw [← this]; rfl
      · rw [List.getElem?_eq_none (by simp; omega), List.getElem?_eq_none (by omega)]
  · have hf : zeroN l m (24 - m) = false := by cases hz : zeroN l m (24 - m) with | true => exact absurd hz h | false => rfl
    rw [hf]
    refine decide_eq_false fun e => h ((zeroN_all l m (24 - m)).2 fun i hi => ?_)
    unfold lB
    rw [← e, List.getElem?_append_right (by omega), ht, List.getElem?_replicate_of_lt (by omega)]; rfl
set_option linter.unusedSimpArgs false in
set_option maxRecDepth 100000 in
set_option maxHeartbeats 4000000 in
theorem nGetOk : NGetOk := fun l x L c n w hL hLc _ _ _ hl => by
  have no : getB l n = false → ∀ w', Below w.heap.size w w' → GetPost l n w (.returned (.tuple #[.string ⟨#[]⟩, .bool false])) w' := fun h w' hb => ⟨by rw [get_no h, h], hb⟩
  by_cases h24 : L = 24
  · subst h24
    by_cases hn1 : n < 1
    · have HN : Hid _ := no (by unfold getB; rw [decide_eq_false (by omega : ¬ (1 ≤ n ∧ n ≤ 24))]; simp) w (Below.refl _ _)
      clear no
      go_enter Try.func42, Try.ntmps42
      go_wp2
      go_ret2
      exact HN.out
    by_cases hn2 : 24 < n
    · have HN : Hid _ := no (by unfold getB; rw [decide_eq_false (by omega : ¬ (1 ≤ n ∧ n ≤ 24))]; simp) w (Below.refl _ _)
      clear no
      go_enter Try.func42, Try.ntmps42
      go_wp2
      go_ret2
      exact HN.out
    obtain ⟨m, rfl⟩ : ∃ m : Nat, n = (m : Int) := ⟨n.toNat, by omega⟩
    have hGB : getB l (m : Int) = (isN (l.take m) && decide (padN (l.take m) = l)) := by
      rw [pad_is l m hL (by omega)]
      unfold getB
      rw [decide_eq_true hL, decide_eq_true (by omega : 1 ≤ (m : Int) ∧ (m : Int) ≤ 24), Int.toNat_natCast]; rfl
    obtain ⟨b, o, rfl, hbw⟩ : ∃ b o, x = some ⟨b, o, none⟩ ∧ b < w.heap.size := by
      have := hL ▸ hl
      obtain ⟨b, o, e, hb, -⟩ := IsB.spot this 0 (by omega)
      exact ⟨b, o, e, hb⟩
    have hfr := hl.front13 (m := m) (by omega)
    have hcv := hfr.str
    have hsz : (ByteArray.mk (l.take m).toArray).size = m := by show (l.take m).toArray.size = m; simp; omega
    have hP := nPutOk ⟨(l.take m).toArray⟩ w (by rw [hsz]; omega)
    rw [lS_mk] at hP
    have HT : Hid (getB l (m : Int) = true → ∀ w', Below w.heap.size w w' → GetPost l (m : Int) w (.returned (.tuple #[.string ⟨(l.take m).toArray⟩, .bool true])) w') := fun h w' hb => ⟨by rw [get_yes h, h, Int.toNat_natCast], hb⟩
    have HNO : Hid _ := no
    obtain ⟨S, hS⟩ : ∃ q, ByteArray.mk (l.take m).toArray = q := ⟨_, rfl⟩
    rw [hS] at hP hcv HT
    obtain ⟨T, hT⟩ : ∃ q, l.take m = q := ⟨_, rfl⟩
    rw [hT] at hP hGB
    have HGB : Hid _ := hGB
    have HL : Hid _ := hl
    have i1 : ¬ (m : Int) < 1 := by omega
    have i2 : ¬ (24 : Int) < (m : Int) := by omega
    have i3 : (0 : Int) ≤ (m : Int) := by omega
    have i4 : (m : Int) ≤ (c : Int) := by omega
    clear no hS hsz hfr hGB hl hn1 hn2 hT
    go_enter Try.func42, Try.ntmps42
    go_wp2_with fail
    refine hP.mono ?_
    rintro e w1 ⟨h1, hB⟩
    clear hP hcv
    rcases h1 with ⟨hN, g, c2, rfl, hO⟩ | ⟨hN, y, c2, rfl, -⟩
    · have hE := bytesEqual_any (some ⟨g, 0, none⟩) (some ⟨b, o, none⟩) 24 24 c2 c (padN T) l w1 hO.isB (IsB.kept HL.out hB)
      rw [hN, Bool.true_and] at HGB
      obtain ⟨R, hR⟩ : ∃ q, decide (padN T = l) = q := ⟨_, rfl⟩
      rw [hR] at hE HGB
      clear hO hN HL hR
      go_wp2_with fail
      refine hE.mono ?_
      rintro e w2 ⟨rfl, rfl⟩
      clear hE
      cases R
      · have HN : Hid _ := HNO.out HGB.out w2 hB
        clear HT HNO HGB
        go_wp2
        go_ret2
        exact HN.out
      · have HN : Hid _ := HT.out HGB.out w2 hB
        clear HT HNO HGB
        go_wp2
        go_ret2
        exact HN.out
    · have HN : Hid _ := HNO.out (by rw [HGB.out, hN]; rfl) w1 hB
      clear HT HNO HGB HL
      go_wp2
      go_ret2
      exact HN.out
  · have HN : Hid _ := no (by unfold getB; rw [decide_eq_false (by omega : ¬ l.length = 24)]; simp) w (Below.refl _ _)
    have hne : ((L : Int) != 24) = true := bne_iff_ne.2 (by omega)
    clear no
    go_enter Try.func42, Try.ntmps42
    go_wp2
    go_ret2
    exact HN.out
end Go.Proofs.Ytfdigmlhjjdggaa
