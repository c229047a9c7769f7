import Derived.Test.YtpckdkgbeemalaaQJb2
import Derived.Test.YtpckdkgbeemalaaQMrk2
namespace Go.Proofs.Ytpckdkgbeemalaa
open Go.RowKit

/-! The steps that go through a batch's writes -/
theorem jlW_get (l : List Wr) (k : Nat) (h : k < l.length) : (jlW l)[k]? = some (((3 + k : Nat) : Int), (l.getD k wrZ).2) := by
  unfold jlW
  rw [List.getElem?_map, List.getElem?_range h]
  rfl
theorem runR_some (st : DSt) (x : Wr) (r : List JAc) : runR st (some x :: r) = (if wrRes st x.1 = 0 then runR (wrSt st x.1 x.2) r else wrRes st x.1) := rfl
theorem runS_some (st : DSt) (x : Wr) (r : List JAc) : runS st (some x :: r) = (if wrRes st x.1 = 0 then runS (wrSt st x.1 x.2) r else wrSt st x.1 x.2) := rfl
theorem drop_get {α : Type} {l : List α} {k : Nat} {a : α} (h : l[k]? = some a) : l.drop k = a :: l.drop (k + 1) := by
  obtain ⟨hk, e⟩ := List.getElem?_eq_some_iff.1 h
  rw [List.drop_eq_getElem_cons hk, e]
set_option linter.unusedSimpArgs false in
set_option maxRecDepth 100000 in
set_option maxHeartbeats 2000000 in
theorem StepOk.apply (w0 : World) (F0 : List Nat) (d x : Option Addr) (L c : Nat) (l : List Wr) (s : Sc) (hL : l.length = L) (hL40 : L ≤ 1099511627776) (hl : IsK wrE w0 (.slice x L c) l) (hx : l ≠ [] → ∀ a, x = some a → a.block ∉ F0) : StepOk w0 F0 (.pointer d) (40, .agg (batA (.pointer d) (.slice x L c) s)) (l.map some) := by
  intro w1 st F1 R1 h hF1 hK hb
  show Calls Try.prog 40 #[.agg (batA (.pointer d) (.slice x L c) s)] w1 fun e w' => e = .returned (.int .i64 (runR st (l.map some))) ∧ DPost w1 (.pointer d) F1 R1 (runS st (l.map some)) w'
  obtain ⟨al, hal⟩ : ∃ q, l.map some = q := ⟨_, rfl⟩
  have halL : al.length = L := by rw [← hal]; simp [hL]
  have halG : ∀ k, k < L → al[k]? = some (some ((l.getD k wrZ).1, (l.getD k wrZ).2)) := fun k hk => by rw [← hal]; rw [List.getElem?_map, List.getD_eq_getElem?_getD, List.getElem?_eq_getElem (by omega)]; rfl
  rw [hal] at hb ⊢
  clear hal
  have hl1 := hl.keeps10 hK hx
  have hx1 : l ≠ [] → ∀ a, x = some a → a.block ∉ F1 := fun hne a ha hm => by
    obtain ⟨b, o, e, hlt, -⟩ := hl.at 0 _ (List.getElem?_eq_getElem (List.length_pos_iff.2 hne))
    rw [ha] at e
    cases e
    rcases hF1 _ hm with h | h
    · exact hx hne _ ha h
    · exact absurd hlt (by simp only at h ⊢; omega)
  clear hl hx hK hF1
  have bX := below_alloc w1 (.cells (batA (.pointer d) (.slice x L c) s) 75)
  have rX := RowC.new w1 (batA (.pointer d) (.slice x L c) s) 75
  obtain ⟨c0, c1, -⟩ := batRow rX
  have hD0 := devLater h bX
  have hgF : w1.heap.size ∉ F1 := fun hm => by have := dvOk.lt h _ (dvOk.sub h _ hm); omega
  have hl2 := hl1.kept bX
  obtain ⟨RE, hRE⟩ : ∃ q, runR st al = q := ⟨_, rfl⟩
  obtain ⟨RS, hRS⟩ : ∃ q, runS st al = q := ⟨_, rfl⟩
  rw [hRE, hRS]
  clear h hl1
  go_enter Try.func40, Try.ntmps40
  go_upto_region 1 with fail
  have hgX : w1.heap.size < (w1.alloc (.cells (batA (.pointer d) (.slice x L c) s) 75)).heap.size := by simp
  have HFIN : Hid (∀ st' w2, DPost (w1.alloc (.cells (batA (.pointer d) (.slice x L c) s) 75)) (.pointer d) F1 R1 st' w2 → DPost w1 (.pointer d) F1 R1 st' w2) := fun st' w2 h2 => DPost.step (fun _ h => .inl h) (fun _ h => .inl h) (Keep.of_below bX) h2
  obtain ⟨g, hg⟩ : ∃ q, w1.heap.size = q := ⟨_, rfl⟩
  rw [hg] at c0 c1 hgF hgX
  simp only [hg]
  generalize w1.alloc (.cells (batA (.pointer d) (.slice x L c) s) 75) = X at c0 c1 hD0 hl2 hgX HFIN ⊢
  clear bX rX hg
  have H0 : Hid (∃ st1 F2 R2, DevIs X (.pointer d) st1 F2 R2 ∧ (∀ q ∈ F2, q ∈ F1 ∨ X.heap.size ≤ q) ∧ (∀ q ∈ R2, q ∈ R1 ∨ X.heap.size ≤ q) ∧ Keep F1 X X ∧ Room st1 (al.drop 0) ∧ runR st1 (al.drop 0) = RE ∧ runS st1 (al.drop 0) = RS) := ⟨st, F1, R1, hD0, fun _ h => .inl h, fun _ h => .inl h, Keep.refl _ _, hb, hRE, hRS⟩
  clear hRE hRS hD0 hb
  go_wp2_with fail
  go_loopw [9] (fun iv wr => ∃ k : Nat, k ≤ L ∧ iv = .int .i64 k ∧ Hid (∃ st1 F2 R2, DevIs wr (.pointer d) st1 F2 R2 ∧ (∀ q ∈ F2, q ∈ F1 ∨ X.heap.size ≤ q) ∧ (∀ q ∈ R2, q ∈ R1 ∨ X.heap.size ≤ q) ∧ Keep F1 X wr ∧ Room st1 (al.drop k) ∧ runR st1 (al.drop k) = RE ∧ runS st1 (al.drop k) = RS)) (fun iv _ => L - (intOf iv).toNat)
  case atStart => exact ⟨0, by omega, rfl, H0⟩
  case round =>
    clear H0 c1
    obtain ⟨k, hk, rfl, HI⟩ := hrel
    obtain ⟨st1, F2, R2, i1, i2, i3, i4, i5, i6, i7⟩ := HI.out
    clear HI
    by_cases hlt : k < L
    · have hak := halG k hlt
      rw [drop_get hak] at i5 i6 i7
      obtain ⟨y, hy⟩ : ∃ y, l.getD k wrZ = y := ⟨_, rfl⟩
      have hyk : l[k]? = some y := by rw [← hy, List.getD_eq_getElem?_getD, List.getElem?_eq_getElem (by omega)]; rfl
      rw [hy] at i5 i6 i7
      have hlw := hl2.keeps10 i4 hx1
      obtain ⟨bz, oz, rfl, hbz, hr9⟩ := hlw.at k y hyk
      obtain ⟨rk, rv⟩ := wr_rg hr9
      have hk65 : wrE.k = 65 := rfl
      rw [hk65] at rk rv
      have cg : wr.cell? ⟨g, 0, none⟩ = some (.pointer d) := by
        unfold World.cell? at c0 ⊢
        rw [i4.block g hgX hgF]; exact c0
      have bW := below_alloc wr (.cells (wrA y) 54)
      have cgW : (wr.alloc (.cells (wrA y) 54)).cell? ⟨g, 0, none⟩ = some (.pointer d) := cell_later bW cg
      obtain ⟨q0, q1, q2⟩ := wrRow wr y
      rw [runR_some] at i6
      rw [runS_some] at i7
      simp only at i6 i7
      have hCall := devWrite _ _ st1 F2 R2 (y.1) y.2 (devLater i1 bW) i5.1.1 i5.1.2.1
      have i5' : wrRes st1 (y.1) = 0 → Room (wrSt st1 (y.1) y.2) (al.drop (k + 1)) := i5.2
      have HST : Hid (∀ w2, DPost (wr.alloc (.cells (wrA y) 54)) (.pointer d) F2 R2 (wrSt st1 (y.1) y.2) w2 → DPost X (.pointer d) F1 R1 (wrSt st1 (y.1) y.2) w2) := fun w2 h2 => DPost.step i2 i3 i4 (DPost.step (fun _ h => .inl h) (fun _ h => .inl h) (Keep.of_below bW) h2)
      have hk0 : (0 : Int) ≤ (k : Int) := by omega
      have hk1 : (k : Int) < (L : Int) := by omega
      have hbz' : bz < wr.heap.size := hbz
      have HC0 : Hid (X.cell? ⟨g, 0, none⟩ = some (.pointer d)) := c0
      have HL2 : Hid (IsK wrE X (.slice (some ⟨bz, oz, none⟩) L c) l) := hl2
      clear hr9 hak hy hyk hlw i1 i2 i3 i4 i5 cg bW hl2 c0
      obtain ⟨rr, hrr⟩ : ∃ q, wrRes st1 (y.1) = q := ⟨_, rfl⟩
      rw [hrr] at hCall i6 i7 i5'
      obtain ⟨W1, hW1⟩ : ∃ q, wr.alloc (.cells (wrA y) 54) = q := ⟨_, rfl⟩
      have HW1 : Hid (wr.alloc (.cells (wrA y) 54) = W1) := hW1
      rw [hW1] at cgW q0 q1 q2 hCall HST
      clear hW1
      go_upto_region 4 with fail
      rw [HW1.out]
      clear HW1 rk rv
      by_cases hz : rr = 0
      · subst hz
        rw [if_pos rfl] at i6 i7
        clear hrr
        go_wp2_with fail
        refine hCall.mono ?_
        rintro e w2 ⟨rfl, hD, -⟩
        have HI2 : Hid (∃ st1 F2 R2, DevIs w2 (.pointer d) st1 F2 R2 ∧ (∀ q ∈ F2, q ∈ F1 ∨ X.heap.size ≤ q) ∧ (∀ q ∈ R2, q ∈ R1 ∨ X.heap.size ≤ q) ∧ Keep F1 X w2 ∧ Room st1 (al.drop (k + 1)) ∧ runR st1 (al.drop (k + 1)) = RE ∧ runS st1 (al.drop (k + 1)) = RS) := by
          obtain ⟨F3, R3, b1, b2, b3, b4⟩ := HST.out w2 hD
          exact ⟨_, F3, R3, b1, b2, b3, b4, i5' (by first | rfl | trivial), i6, i7⟩
        clear hCall hD HST i5' i6 i7 q0 q1 q2 cgW
        go_wp2_with fail
        go_roundw
        case rel => exact ⟨k + 1, by omega, by go_num, HI2⟩
        case measure => simp [intOf]; omega
      · rw [if_neg hz] at i6 i7
        clear hrr
        have HE : Hid (rr = RE) := i6
        go_wp2_with fail
        refine hCall.mono ?_
        rintro e w2 ⟨rfl, hD, -⟩
        have HI2 : Hid (DPost w1 (.pointer d) F1 R1 RS w2) := by
          show DPost _ _ _ _ _ _
          rw [← i7]; exact HFIN.out _ _ (HST.out w2 hD)
        clear hCall hD HST i5' i6 i7 q0 q1 q2 cgW
        go_wp2_with fail
        go_ret
        exact ⟨by rw [← HE.out]; rfl, HI2.out⟩
    · obtain rfl : k = L := by omega
      have hlt' : ¬ (k : Int) < (k : Int) := by omega
      rw [List.drop_of_length_le (by omega)] at i6 i7
      have HI : Hid (DPost w1 (.pointer d) F1 R1 RS wr) := by show DPost _ _ _ _ _ _; rw [← i7]; exact HFIN.out _ _ ⟨F2, R2, i1, i2, i3, i4⟩
      have HZ : Hid (0 = RE) := i6
      clear i1 i2 i3 i4 i5 i6 i7 c0
      go_wp2_with fail
      go_ret
      exact ⟨by rw [← HZ.out]; rfl, HI.out⟩
set_option linter.unusedSimpArgs false in
set_option maxRecDepth 100000 in
set_option maxHeartbeats 2000000 in
theorem StepOk.keep (w0 : World) (F0 : List Nat) (d x : Option Addr) (L c : Nat) (l : List Wr) (s : Sc) (hL : l.length = L) (hL40 : L ≤ 1099511627776) (hl : IsK wrE w0 (.slice x L c) l) (hx : l ≠ [] → ∀ a, x = some a → a.block ∉ F0) : StepOk w0 F0 (.pointer d) (37, .agg (batA (.pointer d) (.slice x L c) s)) ((jlW l).map some) := by
  intro w1 st F1 R1 h hF1 hK hb
  show Calls Try.prog 37 #[.agg (batA (.pointer d) (.slice x L c) s)] w1 fun e w' => e = .returned (.int .i64 (runR st ((jlW l).map some))) ∧ DPost w1 (.pointer d) F1 R1 (runS st ((jlW l).map some)) w'
  obtain ⟨al, hal⟩ : ∃ q, (jlW l).map some = q := ⟨_, rfl⟩
  have halL : al.length = L := by rw [← hal]; simp [jlW_len, hL]
  have halG : ∀ k, k < L → al[k]? = some (some (((3 + k : Nat) : Int), (l.getD k wrZ).2)) := fun k hk => by rw [← hal]; rw [List.getElem?_map, jlW_get l k (by omega)]; rfl
  rw [hal] at hb ⊢
  clear hal
  have hl1 := hl.keeps10 hK hx
  have hx1 : l ≠ [] → ∀ a, x = some a → a.block ∉ F1 := fun hne a ha hm => by
    obtain ⟨b, o, e, hlt, -⟩ := hl.at 0 _ (List.getElem?_eq_getElem (List.length_pos_iff.2 hne))
    rw [ha] at e
    cases e
    rcases hF1 _ hm with h | h
    · exact hx hne _ ha h
    · exact absurd hlt (by simp only at h ⊢; omega)
  clear hl hx hK hF1
  have bX := below_alloc w1 (.cells (batA (.pointer d) (.slice x L c) s) 75)
  have rX := RowC.new w1 (batA (.pointer d) (.slice x L c) s) 75
  obtain ⟨c0, c1, -⟩ := batRow rX
  have hD0 := devLater h bX
  have hgF : w1.heap.size ∉ F1 := fun hm => by have := dvOk.lt h _ (dvOk.sub h _ hm); omega
  have hl2 := hl1.kept bX
  obtain ⟨RE, hRE⟩ : ∃ q, runR st al = q := ⟨_, rfl⟩
  obtain ⟨RS, hRS⟩ : ∃ q, runS st al = q := ⟨_, rfl⟩
  rw [hRE, hRS]
  clear h hl1
  go_enter Try.func37, Try.ntmps37
  go_upto_region 1 with fail
  have hgX : w1.heap.size < (w1.alloc (.cells (batA (.pointer d) (.slice x L c) s) 75)).heap.size := by simp
  have HFIN : Hid (∀ st' w2, DPost (w1.alloc (.cells (batA (.pointer d) (.slice x L c) s) 75)) (.pointer d) F1 R1 st' w2 → DPost w1 (.pointer d) F1 R1 st' w2) := fun st' w2 h2 => DPost.step (fun _ h => .inl h) (fun _ h => .inl h) (Keep.of_below bX) h2
  obtain ⟨g, hg⟩ : ∃ q, w1.heap.size = q := ⟨_, rfl⟩
  rw [hg] at c0 c1 hgF hgX
  simp only [hg]
  generalize w1.alloc (.cells (batA (.pointer d) (.slice x L c) s) 75) = X at c0 c1 hD0 hl2 hgX HFIN ⊢
  clear bX rX hg
  have H0 : Hid (∃ st1 F2 R2, DevIs X (.pointer d) st1 F2 R2 ∧ (∀ q ∈ F2, q ∈ F1 ∨ X.heap.size ≤ q) ∧ (∀ q ∈ R2, q ∈ R1 ∨ X.heap.size ≤ q) ∧ Keep F1 X X ∧ Room st1 (al.drop 0) ∧ runR st1 (al.drop 0) = RE ∧ runS st1 (al.drop 0) = RS) := ⟨st, F1, R1, hD0, fun _ h => .inl h, fun _ h => .inl h, Keep.refl _ _, hb, hRE, hRS⟩
  clear hRE hRS hD0 hb
  go_wp2_with fail
  go_loopw [9] (fun iv wr => ∃ k : Nat, k ≤ L ∧ iv = .int .i64 k ∧ Hid (∃ st1 F2 R2, DevIs wr (.pointer d) st1 F2 R2 ∧ (∀ q ∈ F2, q ∈ F1 ∨ X.heap.size ≤ q) ∧ (∀ q ∈ R2, q ∈ R1 ∨ X.heap.size ≤ q) ∧ Keep F1 X wr ∧ Room st1 (al.drop k) ∧ runR st1 (al.drop k) = RE ∧ runS st1 (al.drop k) = RS)) (fun iv _ => L - (intOf iv).toNat)
  case atStart => exact ⟨0, by omega, rfl, H0⟩
  case round =>
    clear H0 c1
    obtain ⟨k, hk, rfl, HI⟩ := hrel
    obtain ⟨st1, F2, R2, i1, i2, i3, i4, i5, i6, i7⟩ := HI.out
    clear HI
    by_cases hlt : k < L
    · have hak := halG k hlt
      rw [drop_get hak] at i5 i6 i7
      obtain ⟨y, hy⟩ : ∃ y, l.getD k wrZ = y := ⟨_, rfl⟩
      have hyk : l[k]? = some y := by rw [← hy, List.getD_eq_getElem?_getD, List.getElem?_eq_getElem (by omega)]; rfl
      rw [hy] at i5 i6 i7
      have hlw := hl2.keeps10 i4 hx1
      obtain ⟨bz, oz, rfl, hbz, hr9⟩ := hlw.at k y hyk
      obtain ⟨rk, rv⟩ := wr_rg hr9
      have hk65 : wrE.k = 65 := rfl
      rw [hk65] at rk rv
      have cg : wr.cell? ⟨g, 0, none⟩ = some (.pointer d) := by
        unfold World.cell? at c0 ⊢
        rw [i4.block g hgX hgF]; exact c0
      have bW := below_alloc wr (.cells (wrA y) 54)
      have cgW : (wr.alloc (.cells (wrA y) 54)).cell? ⟨g, 0, none⟩ = some (.pointer d) := cell_later bW cg
      obtain ⟨q0, q1, q2⟩ := wrRow wr y
      rw [runR_some] at i6
      rw [runS_some] at i7
      simp only at i6 i7
      have hCall := devWrite _ _ st1 F2 R2 (((3 + k : Nat) : Int)) y.2 (devLater i1 bW) i5.1.1 i5.1.2.1
      have i5' : wrRes st1 (((3 + k : Nat) : Int)) = 0 → Room (wrSt st1 (((3 + k : Nat) : Int)) y.2) (al.drop (k + 1)) := i5.2
      have HST : Hid (∀ w2, DPost (wr.alloc (.cells (wrA y) 54)) (.pointer d) F2 R2 (wrSt st1 (((3 + k : Nat) : Int)) y.2) w2 → DPost X (.pointer d) F1 R1 (wrSt st1 (((3 + k : Nat) : Int)) y.2) w2) := fun w2 h2 => DPost.step i2 i3 i4 (DPost.step (fun _ h => .inl h) (fun _ h => .inl h) (Keep.of_below bW) h2)
      have hk0 : (0 : Int) ≤ (k : Int) := by omega
      have hk1 : (k : Int) < (L : Int) := by omega
      have hbz' : bz < wr.heap.size := hbz
      have HC0 : Hid (X.cell? ⟨g, 0, none⟩ = some (.pointer d)) := c0
      have HL2 : Hid (IsK wrE X (.slice (some ⟨bz, oz, none⟩) L c) l) := hl2
      clear hr9 hak hy hyk hlw i1 i2 i3 i4 i5 cg bW hl2 c0
      obtain ⟨rr, hrr⟩ : ∃ q, wrRes st1 (((3 + k : Nat) : Int)) = q := ⟨_, rfl⟩
      rw [hrr] at hCall i6 i7 i5'
      obtain ⟨W1, hW1⟩ : ∃ q, wr.alloc (.cells (wrA y) 54) = q := ⟨_, rfl⟩
      have HW1 : Hid (wr.alloc (.cells (wrA y) 54) = W1) := hW1
      rw [hW1] at cgW q0 q1 q2 hCall HST
      clear hW1
      go_upto_region 4 with fail
      rw [HW1.out]
      clear HW1 rk rv
      by_cases hz : rr = 0
      · subst hz
        rw [if_pos rfl] at i6 i7
        clear hrr
        go_wp2_with fail
        refine hCall.mono ?_
        rintro e w2 ⟨rfl, hD, -⟩
        have HI2 : Hid (∃ st1 F2 R2, DevIs w2 (.pointer d) st1 F2 R2 ∧ (∀ q ∈ F2, q ∈ F1 ∨ X.heap.size ≤ q) ∧ (∀ q ∈ R2, q ∈ R1 ∨ X.heap.size ≤ q) ∧ Keep F1 X w2 ∧ Room st1 (al.drop (k + 1)) ∧ runR st1 (al.drop (k + 1)) = RE ∧ runS st1 (al.drop (k + 1)) = RS) := by
          obtain ⟨F3, R3, b1, b2, b3, b4⟩ := HST.out w2 hD
          exact ⟨_, F3, R3, b1, b2, b3, b4, i5' (by first | rfl | trivial), i6, i7⟩
        clear hCall hD HST i5' i6 i7 q0 q1 q2 cgW
        go_wp2_with fail
        go_roundw
        case rel => exact ⟨k + 1, by omega, by go_num, HI2⟩
        case measure => simp [intOf]; omega
      · rw [if_neg hz] at i6 i7
        clear hrr
        have HE : Hid (rr = RE) := i6
        go_wp2_with fail
        refine hCall.mono ?_
        rintro e w2 ⟨rfl, hD, -⟩
        have HI2 : Hid (DPost w1 (.pointer d) F1 R1 RS w2) := by
          show DPost _ _ _ _ _ _
          rw [← i7]; exact HFIN.out _ _ (HST.out w2 hD)
        clear hCall hD HST i5' i6 i7 q0 q1 q2 cgW
        go_wp2_with fail
        go_ret
        exact ⟨by rw [← HE.out]; rfl, HI2.out⟩
    · obtain rfl : k = L := by omega
      have hlt' : ¬ (k : Int) < (k : Int) := by omega
      rw [List.drop_of_length_le (by omega)] at i6 i7
      have HI : Hid (DPost w1 (.pointer d) F1 R1 RS wr) := by show DPost _ _ _ _ _ _; rw [← i7]; exact HFIN.out _ _ ⟨F2, R2, i1, i2, i3, i4⟩
      have HZ : Hid (0 = RE) := i6
      clear i1 i2 i3 i4 i5 i6 i7 c0
      go_wp2_with fail
      go_ret
      exact ⟨by rw [← HZ.out]; rfl, HI.out⟩
end Go.Proofs.Ytpckdkgbeemalaa
namespace Go.Proofs.Ytpckdkgbeemalaa
open Go.RowKit

/-! journal.Clear -/
theorem isG_new (w : World) (cs : List Value) (t : TypeId) (n : Nat) (hn : cs.length = n) : IsG (w.alloc (.cells cs.toArray t)) (.slice (some ⟨w.heap.size, 0, none⟩) n n) cs := by
  subst hn
  refine .inr ⟨_, _, rfl, fun i hi => ?_⟩
  rw [addr_add, cell_of_row _ _ _ _ _ _ (heap_alloc_last w _), Nat.zero_add]
  simp [hi]
theorem notF {w : World} {d : Value} {st : DSt} {F R : List Nat} (h : DevIs w d st F R) {g : Nat} (hg : w.heap.size ≤ g) : g ∉ F := fun hm => by have := dvOk.lt h _ (dvOk.sub h _ hm); omega
theorem seq_clear (st : DSt) : jpR st clrL = runR st [some (2, secZ), none] ∧ jpS st clrL = runS st [some (2, secZ), none] := put_run clrL st
theorem StSm.room {st : DSt} (h : StSm st) (a : List JAc) (ha : a.length ≤ 11) : Room st a := Room.few a st (by have := h.pend; omega) (by have := h.wt; omega) (by have := h.fl; omega)
set_option linter.unusedSimpArgs false in
set_option maxRecDepth 100000 in
set_option maxHeartbeats 1000000 in
theorem jClear (w : World) (d : Value) (st : DSt) (F R : List Nat) (h : DevIs w d st F R) (hs : StSm st) :
    Calls Try.prog 25 #[d] w fun e w' => e = .returned (.int .i64 (jpR st clrL)) ∧ DPost w d F R (jpS st clrL) w' := by
  obtain ⟨a, rfl⟩ := dvOk.ptr h
  rw [(seq_clear st).1, (seq_clear st).2]
  obtain ⟨W, hW⟩ : ∃ q, (w.alloc (.cells (batA (.pointer (some a)) (.slice none 0 0) secZ) 75)) = q := ⟨_, rfl⟩
  have bW : Below w.heap.size w W := by rw [← hW]; exact below_alloc _ _
  have rW : RowC W w.heap.size (batA (.pointer (some a)) (.slice none 0 0) secZ) := by rw [← hW]; exact RowC.new _ _ _
  obtain ⟨mE, hmE⟩ : ∃ q, mvV (41, .agg (batA (.pointer (some a)) (.slice none 0 0) secZ)) = q := ⟨_, rfl⟩
  obtain ⟨mF, hmF⟩ : ∃ q, mvV (38, .pointer (some a)) = q := ⟨_, rfl⟩
  have bS := below_alloc W (.cells #[mE, mF] 110)
  have hS : IsG (W.alloc (.cells #[mE, mF] 110)) (.slice (some ⟨W.heap.size, 0, none⟩) 2 2) [mE, mF] := isG_new W [mE, mF] 110 2 rfl
  have hD : DevIs (W.alloc (.cells #[mE, mF] 110)) (.pointer (some a)) st F R := devLater (devLater h bW) bS
  have hT := inTurn_any _ _ st F R hD _ 2 2 [(41, .agg (batA (.pointer (some a)) (.slice none 0 0) secZ)), (38, .pointer (some a))] [[some (2, secZ)], [none]] rfl rfl (by omega) (by rw [List.map_cons, List.map_cons, hmE, hmF]; exact hS) (fun x hx => by cases hx; exact notF h bW.size) (fun p hp => by
      simp only [List.mem_cons, List.not_mem_nil, or_false] at hp
      rcases hp with rfl | rfl
      · intro args w; rfl
      · intro args w; rfl) (fun i p l hp hl => by
      match i with
      | 0 => cases hp; cases hl; exact StepOk.empty _ _ _ _ _
      | 1 => cases hp; cases hl; exact StepOk.flush _ _ _
      | i + 2 => cases hp) (hs.room _ (by simp))
  have hfl : [[some ((2 : Int), secZ)], [none]].flatten = [some (2, secZ), none] := rfl
  rw [hfl] at hT
  clear hfl
  obtain ⟨RE, hRE⟩ : ∃ q, runR st [some (2, secZ), none] = q := ⟨_, rfl⟩
  obtain ⟨RS, hRS⟩ : ∃ q, runS st [some (2, secZ), none] = q := ⟨_, rfl⟩
  rw [hRE, hRS] at hT ⊢
  have HB : Hid (Below w.heap.size w (W.alloc (.cells #[mE, mF] 110))) := bW.trans (bS.mono bW.size)
  clear hRE hRS hS hD h bS hs
  have HW : Hid _ := hW
  clear hW
  obtain ⟨rW1, rW2⟩ := rW
  go_enter Try.func25, Try.ntmps25
  go_upto_region 4 with fail
  rw [HW.out]
  clear HW
  go_wp2_with fail
  subst hmE hmF
  refine hT.mono ?_
  rintro e w2 ⟨rfl, hP⟩
  have HP : Hid (DPost w (.pointer (some a)) F R RS w2) := DPost.step (fun _ h => .inl h) (fun _ h => .inl h) (Keep.of_below HB.out) hP
  clear hT hP HB rW1 rW2 bW
  go_wp2_with fail
  go_ret
  exact ⟨rfl, HP.out⟩
theorem jClear0 (w : World) : Calls Try.prog 25 #[.pointer none] w fun e w' => e = .returned (.int .i64 1) ∧ Below w.heap.size w w' := by
  go_enter Try.func25, Try.ntmps25
  go_wp2
  go_ret
  exact ⟨rfl, Below.refl _ _⟩
theorem jReplay0 (w : World) : Calls Try.prog 10 #[.pointer none] w fun e w' => e = .returned (.tuple #[.int .i64 0, .int .i64 1]) ∧ Below w.heap.size w w' := by
  go_enter Try.func10, Try.ntmps10
  go_wp2
  go_ret2
  exact ⟨rfl, Below.refl _ _⟩
theorem jDo0 (w : World) (x : Option Addr) (L c : Nat) : Calls Try.prog 17 #[.pointer none, .slice x L c] w fun e w' => e = .returned (.int .i64 1) ∧ Below w.heap.size w w' := by
  go_enter Try.func17, Try.ntmps17
  go_wp2
  go_ret
  exact ⟨rfl, Below.refl _ _⟩
theorem jNil : JNil := ⟨jDo0, jReplay0, jClear0⟩
end Go.Proofs.Ytpckdkgbeemalaa
namespace Go.Proofs.Ytpckdkgbeemalaa
open Go.RowKit

/-! journal's left: the steps that a mark of some state leaves -/
def leftF (d : Value) (b : Array Value) (k : Int) : List (FuncId × Value) := if k = 2 then [(40, .agg b), (38, d), (41, .agg b), (38, d)] else if k = 3 then [(41, .agg b), (38, d)] else []
set_option linter.unusedSimpArgs false in
set_option maxRecDepth 100000 in
set_option maxHeartbeats 1000000 in
theorem jLeft (w : World) (d x : Option Addr) (n c : Nat) (s : Sc) (k : Int) : Calls Try.prog 30 #[.agg (batA (.pointer d) (.slice x n c) s), .int .i64 k] w fun e w' => ∃ y c' n', (leftF (.pointer d) (batA (.pointer d) (.slice x n c) s) k).length = n' ∧ e = .returned (.slice y n' c') ∧ IsG w' (.slice y n' c') ((leftF (.pointer d) (batA (.pointer d) (.slice x n c) s) k).map mvV) ∧ (∀ a, y = some a → w.heap.size ≤ a.block) ∧ Below w.heap.size w w' := by
  obtain ⟨W, hW⟩ : ∃ q, (w.alloc (.cells (batA (.pointer d) (.slice x n c) s) 75)) = q := ⟨_, rfl⟩
  have bW : Below w.heap.size w W := by rw [← hW]; exact below_alloc _ _
  have rW : RowC W w.heap.size (batA (.pointer d) (.slice x n c) s) := by rw [← hW]; exact RowC.new _ _ _
  obtain ⟨c0, -⟩ := batRow rW
  obtain ⟨rW1, rW2⟩ := rW
  generalize hb : batA (.pointer d) (.slice x n c) s = b at hW rW2 ⊢
  have hbs : b.size = 66 := by rw [← hb]; exact batA_size _ _ _
  have HW : Hid _ := hW
  clear hW hb
  go_enter Try.func30, Try.ntmps30
  go_upto_region 1 with fail
  rw [HW.out]
  clear HW
  obtain ⟨g, hg⟩ : ∃ q, w.heap.size = q := ⟨_, rfl⟩
  rw [hg] at bW rW1 rW2 c0 ⊢
  by_cases h2 : k = 2
  · subst h2
    go_wp2
    go_ret
    exact ⟨some ⟨W.heap.size, 0, none⟩, 4, 4, rfl, rfl, isG_new W ((leftF (.pointer d) b 2).map mvV) 110 4 rfl, fun a ha => by cases ha; show w.heap.size ≤ W.heap.size; exact bW.size, by rw [hg]; exact bW.trans ((below_alloc W _).mono (by have := bW.size; omega))⟩
  · by_cases h3 : k = 3
    · subst h3
      go_wp2
      go_ret
      exact ⟨some ⟨W.heap.size, 0, none⟩, 2, 2, rfl, rfl, isG_new W ((leftF (.pointer d) b 3).map mvV) 110 2 rfl, fun a ha => by cases ha; show w.heap.size ≤ W.heap.size; exact bW.size, by rw [hg]; exact bW.trans ((below_alloc W _).mono (by have := bW.size; omega))⟩
    · go_wp2
      go_ret
      have e : leftF (.pointer d) b k = [] := by unfold leftF; rw [if_neg h2, if_neg h3]
      rw [e]
      exact ⟨none, 0, 0, rfl, rfl, .inl ⟨rfl, rfl⟩, (fun a ha => by cases ha), by rw [hg]; exact bW⟩
end Go.Proofs.Ytpckdkgbeemalaa
