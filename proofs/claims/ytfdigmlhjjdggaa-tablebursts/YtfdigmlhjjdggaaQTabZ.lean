import Derived.Test.YtfdigmlhjjdggaaQTzf
namespace Go.Proofs.Ytfdigmlhjjdggaa
open Go.RowKit

/-! table: GetCounts; what table owes -/
set_option linter.unusedSimpArgs false in
set_option maxRecDepth 100000 in
set_option maxHeartbeats 3200000 in
theorem getCounts_yes (s A : Sc) (n : Int) (m : Nat) (M0 : n < 0 → m = 0) (M1 : 0 ≤ n → n ≤ 15 → n = (m : Int)) (M2 : 15 < n → m = 15) (l : List Nat) (hl : l.length = m)  (w : World) (hz : secEq A s = true)
    (kT : ∀ W (v : Int), v = (m : Int) → Calls Try.prog 30 #[.agg (secA s), .int .i64 v] W fun e w' => (∃ v, e = .returned v ∧ OwnG 26 w' W.heap.size v (uV l)) ∧ Below W.heap.size W w')
    (kP : ∀ x c W, IsG W (.slice x m c) (uV l) → Calls Try.prog 11 #[.slice x m c] W fun r w' => r = .returned (.tuple #[.agg (secA A), .int .i64 0]) ∧ Below W.heap.size W w') :
    Calls Try.prog 14 #[.agg (secA s), .int .i64 n] w fun e w' => (∃ v, e = .returned (.tuple #[v, .bool true]) ∧ OwnG 26 w' w.heap.size v (uV l)) ∧ Below w.heap.size w w' := by
  have h1 := ScR.new w s 35
  have hB : Below w.heap.size w (w.alloc (.cells (secA s) 35)) := below_alloc w _
  go_enter Try.func14, Try.ntmps14
  go_upto_region 1 with fail
  obtain ⟨g1, hg1⟩ : ∃ g, w.heap.size = g := ⟨_, rfl⟩
  rw [hg1] at h1
  simp only [hg1]
  generalize w.alloc (.cells (secA s) 35) = Y at hB h1 ⊢
  clear hg1
  have bY := below_alloc Y (.cells (secA s) 68)
  have h4 := ScR.new Y s 68
  have h1' := h1.kept bY
  have hB' := hB.alloc hB.size (.cells (secA s) 68)
  obtain ⟨r1, q1⟩ := h1
  clear hB bY
  go_upto_region 2 with fail
  obtain ⟨g4, hg4⟩ : ∃ q, Y.heap.size = q := ⟨_, rfl⟩
  rw [hg4] at h4
  simp only [hg4]
  generalize Y.alloc (.cells (secA s) 68) = Y1 at hB' h1' h4 ⊢
  clear hg4 r1 q1
  obtain ⟨r4, q4⟩ := id h4
  go_wp2_with fail
  all_goals
    rename_i h9
    refine (kT _ _ (by revert h9; split <;> intro h9 <;> omega)).mono ?_
    rintro e w1 ⟨⟨v, rfl, hO⟩, hb⟩
    have hx := hO.isG
    obtain ⟨xl, cl, rfl⟩ := hx.len
    rw [uV_len, hl] at hx hO ⊢
    have hO1 := hO.le (Nat.le_trans hB'.size (Nat.le_refl _))
    have h11 := h1'.kept hb
    have hB1 := hB'.trans (hb.mono hB'.size)
    clear h h9 hO hb r4 q4 h4 h1' hB' kT
    go_wp2_with fail
    refine (kP _ _ _ hx).mono ?_
    rintro e w2 ⟨rfl, hb⟩
    have bC := below_alloc w2 (.cells (secA A) 35)
    have h6 := ScR.new w2 A 35
    have h12 := (h11.kept hb).kept bC
    have HO : Hid _ := (hO1.keep hb).keep bC
    have hB2 := hB1.trans (hb.mono hB1.size)
    have HB : Hid _ := hB2.trans (bC.mono hB2.size)
    clear kP hb hB1 hB2 hO1 h11 bC hx
    go_upto_region 4 with fail
    generalize w2.alloc (.cells (secA A) 35) = Y3 at HB HO h12 h6 ⊢
    generalize w2.heap.size = g6 at h6 ⊢
    obtain ⟨r6, q6⟩ := h6
    obtain ⟨r1, q1⟩ := h12
    go_wp2
    go_ret2
    exact ⟨⟨_, rfl, HO.out⟩, HB.out⟩
set_option linter.unusedSimpArgs false in
set_option maxRecDepth 100000 in
set_option maxHeartbeats 3200000 in
theorem getCounts_no (s A : Sc) (n : Int) (m : Nat) (M0 : n < 0 → m = 0) (M1 : 0 ≤ n → n ≤ 15 → n = (m : Int)) (M2 : 15 < n → m = 15) (l : List Nat) (hl : l.length = m)  (w : World) (hz : secEq A s = false)
    (kT : ∀ W (v : Int), v = (m : Int) → Calls Try.prog 30 #[.agg (secA s), .int .i64 v] W fun e w' => (∃ v, e = .returned v ∧ OwnG 26 w' W.heap.size v (uV l)) ∧ Below W.heap.size W w')
    (kP : ∀ x c W, IsG W (.slice x m c) (uV l) → Calls Try.prog 11 #[.slice x m c] W fun r w' => r = .returned (.tuple #[.agg (secA A), .int .i64 0]) ∧ Below W.heap.size W w') :
    Calls Try.prog 14 #[.agg (secA s), .int .i64 n] w fun e w' => (∃ v, e = .returned (.tuple #[v, .bool false]) ∧ OwnG 26 w' w.heap.size v (uV [])) ∧ Below w.heap.size w w' := by
  have h1 := ScR.new w s 35
  have hB : Below w.heap.size w (w.alloc (.cells (secA s) 35)) := below_alloc w _
  go_enter Try.func14, Try.ntmps14
  go_upto_region 1 with fail
  obtain ⟨g1, hg1⟩ : ∃ g, w.heap.size = g := ⟨_, rfl⟩
  rw [hg1] at h1
  simp only [hg1]
  generalize w.alloc (.cells (secA s) 35) = Y at hB h1 ⊢
  clear hg1
  have bY := below_alloc Y (.cells (secA s) 68)
  have h4 := ScR.new Y s 68
  have h1' := h1.kept bY
  have hB' := hB.alloc hB.size (.cells (secA s) 68)
  obtain ⟨r1, q1⟩ := h1
  clear hB bY
  go_upto_region 2 with fail
  obtain ⟨g4, hg4⟩ : ∃ q, Y.heap.size = q := ⟨_, rfl⟩
  rw [hg4] at h4
  simp only [hg4]
  generalize Y.alloc (.cells (secA s) 68) = Y1 at hB' h1' h4 ⊢
  clear hg4 r1 q1
  obtain ⟨r4, q4⟩ := id h4
  go_wp2_with fail
  all_goals
    rename_i h9
    refine (kT _ _ (by revert h9; split <;> intro h9 <;> omega)).mono ?_
    rintro e w1 ⟨⟨v, rfl, hO⟩, hb⟩
    have hx := hO.isG
    obtain ⟨xl, cl, rfl⟩ := hx.len
    rw [uV_len, hl] at hx hO ⊢
    have hO1 := hO.le (Nat.le_trans hB'.size (Nat.le_refl _))
    have h11 := h1'.kept hb
    have hB1 := hB'.trans (hb.mono hB'.size)
    clear h h9 hO hb r4 q4 h4 h1' hB' kT
    go_wp2_with fail
    refine (kP _ _ _ hx).mono ?_
    rintro e w2 ⟨rfl, hb⟩
    have bC := below_alloc w2 (.cells (secA A) 35)
    have h6 := ScR.new w2 A 35
    have h12 := (h11.kept hb).kept bC
    have HO : Hid _ := (hO1.keep hb).keep bC
    have hB2 := hB1.trans (hb.mono hB1.size)
    have HB : Hid _ := hB2.trans (bC.mono hB2.size)
    clear kP hb hB1 hB2 hO1 h11 bC hx
    go_upto_region 4 with fail
    generalize w2.alloc (.cells (secA A) 35) = Y3 at HB HO h12 h6 ⊢
    generalize w2.heap.size = g6 at h6 ⊢
    obtain ⟨r6, q6⟩ := h6
    obtain ⟨r1, q1⟩ := h12
    go_wp2
    go_ret2
    exact ⟨⟨_, rfl, OwnG.nil _ _ _⟩, HB.out⟩
theorem getCounts17 (s : Sc) (n : Int) (w : World) : Calls Try.prog 14 #[.agg (secA s), .int .i64 n] w fun e w' => GcP s n w e w' := by
  have hm15 := cnN_le n
  have M0 : n < 0 → cnN n = 0 := fun h => by unfold cnN; rw [if_pos h]
  have M1 : 0 ≤ n → n ≤ 15 → n = (cnN n : Int) := fun h h' => by unfold cnN; rw [if_neg (by omega), if_neg (by omega)]; omega
  have M2 : 15 < n → cnN n = 15 := fun h => by unfold cnN; rw [if_neg (by omega), if_pos h]
  unfold GcP gcL gcB
  generalize cnN n = m at hm15 M0 M1 M2
  have kT := fun W (v : Int) (hv : v = (m : Int)) => hv ▸ toldCounts17 s W m hm15
  have hlen := cnL_len s m
  have hlim : ∀ (i : Nat) (v : Nat), (cnL s m)[i]? = some v → v < 4294967296 := fun i v hv => by
    have hi9 := (List.getElem?_eq_some_iff.1 hv).1
    rw [cnL_len] at hi9
    rw [cnL_get s m i hi9] at hv
    rw [← Option.some.inj hv]
    exact num4_le s (4 * i)
  have kP := fun x c W hx => putCounts17 (cnL s m) x m c W hlen (by omega) hlim hx
  generalize cnL s m = l at hlen kT kP
  unfold pcS pcE at kP
  simp only [hlen, decide_eq_true hm15, cond_true] at kP
  cases hz : secEq (cnS l) s
  · exact getCounts_no s _ n m M0 M1 M2 l hlen w hz kT kP
  · exact getCounts_yes s _ n m M0 M1 M2 l hlen w hz kT kP
theorem tabOk : TabOk where
  pt nm key w h := putTag17 nm key w h
  gt s w := getTag17 s w
  ps a b key w ha hb := putSnap17 a b key w ha hb
  gs s w := getSnap17 s w
  pc l x n c w hn _ h47 hv hl := putCounts17 l x n c w hn h47 hv hl
  gc s n w _ _ := getCounts17 s n w
end Go.Proofs.Ytfdigmlhjjdggaa
