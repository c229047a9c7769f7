import Derived.Test.YtafbkdpheneceaaQExs
namespace Go.Proofs.Ytafbkdpheneceaa
open Go.RowKit

/-! assayref08's Turn, Taken, Left -/
theorem fV_set (f : Nat → Bool) (a k q : Nat) (b : Bool) : (fV f a k).set q (.bool b) = fV (fun z => if z = a + q then b else f z) a k := by
  apply List.ext_getElem?
  intro i
  rw [List.getElem?_set]
  by_cases hi : q = i
  · subst hi
    rw [if_pos rfl, fV_len]
    by_cases hq : q < k
    · rw [if_pos hq, fV_at _ _ _ _ hq, if_pos rfl]
    · rw [if_neg hq, List.getElem?_eq_none (by rw [fV_len]; omega)]
  · rw [if_neg hi]
    by_cases hq : i < k
    · rw [fV_at _ _ _ _ hq, fV_at _ _ _ _ hq, if_neg (by omega)]
    · rw [List.getElem?_eq_none (by rw [fV_len]; omega), List.getElem?_eq_none (by rw [fV_len]; omega)]
theorem leftU_le (f : Nat → Bool) (a : Nat) : ∀ k, leftU f a k ≤ k
  | 0 => Nat.le_refl _
  | k + 1 => by
    have := leftU_le f a k
    rw [leftU]
    cases f (a + k) <;> simp <;> omega
def fT (f : Nat → Bool) (s : Nat) (b : Bool) (i : Nat) : Nat → Bool := fun z => if s ≤ z ∧ z < s + i then b else f z
theorem fT_zero (f : Nat → Bool) (s : Nat) (b : Bool) : fT f s b 0 = f := by
  funext z; unfold fT; rw [if_neg (by omega)]
theorem fT_succ (f : Nat → Bool) (s : Nat) (b : Bool) (i : Nat) : (fun z => if z = s + i then b else fT f s b i z) = fT f s b (i + 1) := by
  funext z
  unfold fT
  by_cases h : z = s + i
  · rw [if_pos h, if_pos (by omega)]
  · rw [if_neg h]
    by_cases h2 : s ≤ z ∧ z < s + i
    · rw [if_pos h2, if_pos (by omega)]
    · rw [if_neg h2, if_neg (by omega)]
theorem xTurn_fT (st : XSt) (s n : Int) (b : Bool) (a k : Nat) (hs : s = (a : Int)) (hn : n = (k : Int)) (h : xOk st s n b = true) : xTurn st s n b = { st with f := fT st.f a b k } := by
  unfold xTurn
  rw [if_pos h]
  congr 1
  funext z
  unfold fT
  by_cases h2 : a ≤ z ∧ z < a + k
  · rw [if_pos (by omega), if_pos h2]
  · rw [if_neg (by omega), if_neg h2]
set_option linter.unusedSimpArgs false in
set_option maxRecDepth 100000 in
set_option maxHeartbeats 1000000 in
theorem turn_loop (w : World) (r : Nat) (g m c fr a k : Nat) (f : Nat → Bool) (s n : Int) (b : Bool) (st : XSt) (F : List Nat) (hv : R8 w (.pointer (some ⟨r, 0, none⟩)) st F) (d0 : w.cell? ⟨r, 0, none⟩ = some (.int .i64 (fr : Int))) (d1 : w.cell? ⟨r, 1, none⟩ = some (.slice (some ⟨g, 0, none⟩) m c)) (hO : OwnG 4 w 0 (.slice (some ⟨g, 0, none⟩) m c) (fV f fr m)) (hgr : g ≠ r) (hm : fr + m ≤ 1024) (hk : a + k ≤ m) (hs : s = ((fr + a : Nat) : Int)) (hn : n = (k : Int)) (hok : xOk st s n b = true) :
    Calls Try.prog 33 #[.pointer (some ⟨r, 0, none⟩), .int .i64 s, .int .i64 n, .bool b] w fun e w' => e = .returned (.bool true) ∧ OwnG 4 w' 0 (.slice (some ⟨g, 0, none⟩) m c) (fV (fT f (fr + a) b k) fr m) ∧ Keep [g] w w' := by
  have HS0 : Hid (s = ((fr + a : Nat) : Int) ∧ n = (k : Int)) := ⟨hs, hn⟩
  have hall := refAll8 w _ st F s n (!b) hv
  rw [Bool.not_not, hok] at hall
  clear hs hn hok
  go_enter Try.func33, Try.ntmps33
  go_wp2_with fail
  go_at_call 41
  refine hall.mono ?_
  rintro e w1 ⟨rfl, hb1⟩
  have e0 := cell_later hb1 d0
  have e1 := cell_later hb1 d1
  have hO1 := hO.keep hb1
  have hK1 : Keep [g] w w1 := Keep.of_below hb1
  clear hall d0 d1 hO hb1
  have HO1 : Hid _ := hO1
  clear hO1
  go_wp2
  go_loopw [9] (fun iv wr => ∃ i : Nat, i ≤ k ∧ iv = .int .i64 i ∧ OwnG 4 wr 0 (.slice (some ⟨g, 0, none⟩) m c) (fV (fT f (fr + a) b i) fr m) ∧ Keep [g] w wr ∧ Keep [g] w1 wr) (fun iv _ => k - (intOf iv).toNat)
  case atStart => exact ⟨0, by omega, rfl, by rw [fT_zero]; exact HO1.out, hK1, Keep.refl _ _⟩
  case round =>
    clear HO1 hK1
    obtain ⟨i, hi, rfl, hO, hK, hK1⟩ := hrel
    by_cases hlt : i < k
    · have hsn := HS0.out
      have hlt' : (i : Int) < n := by omega
      obtain ⟨q, hq⟩ : ∃ q, a + i = q := ⟨_, rfl⟩
      have d0 := cell_keepF hK1 e0 (by simp; omega)
      have d1 := cell_keepF hK1 e1 (by simp; omega)
      have d2 := hO.cell q _ (fV_at _ fr m q (by omega))
      have FC : Hid (s - (fr : Int) = (a : Int) ∧ IntKind.i64.wrap (a : Int) = (a : Int) ∧ (a : Int) + (i : Int) = (q : Int) ∧ IntKind.i64.wrap (q : Int) = (q : Int) ∧ (q : Int) < (m : Int)) := ⟨by omega, by rw [IntKind.wrap_i64]; omega, by omega, by rw [IntKind.wrap_i64]; omega, by omega⟩
      have hfun := fT_succ f (fr + a) b i
      rw [Nat.add_assoc, hq] at hfun
      have Hq : Hid _ := hfun
      have HO : Hid (OwnG 4 wr 0 (.slice (some ⟨g, 0, none⟩) m c) (fV (fT f (fr + a) b i) fr m)) := hO
      have HK : Hid (Keep [g] w wr ∧ Keep [g] w1 wr) := ⟨hK, hK1⟩
      clear hq hfun hO hK hK1 hsn
      go_upto_region 6 with fail
      clear hlt'
      refine wp_reliesT [Fx (.pointer (some ⟨r, 0, none⟩)), Fx (.pointer (some ⟨r, 0, none⟩)), Fx (.pointer (some ⟨r, 1, none⟩)), Fx (.slice (some ⟨g, 0, none⟩) m c), Fx (.int .i64 (s)), Fx (.pointer (some ⟨r, 0, none⟩)), Fx (.pointer (some ⟨r, 0, none⟩)), Fx (.pointer (some ⟨r, 0, none⟩)), Fx (.int .i64 ((fr : Int))), Fx (.int .i64 ((a : Int))), Fx (.int .i64 ((i : Int))), Fx (.int .i64 ((q : Int))), Fx (.bool b), Fx (.pointer (some ⟨g, q, none⟩))] (by kernel_rfl) (by kernel_rfl) ?_ ?_ ?_
      · repeat' (first | exact all_nil | apply all_cons)
        all_goals intro v y y' hv hb
        all_goals first | exact Fx_mono _ _ _ _ hv hb
      · refine ⟨?_, ?_, ?_, ?_, ?_, ?_, ?_, ?_, ?_, ?_, ?_, ?_, ?_, ?_, trivial⟩
        all_goals
          intro ρ x hp ρc ρg ρf ho hd
          have o0 : ρ (.tmp 0) = .pointer (some ⟨r, 0, none⟩) := ho 0 rfl
          have o1 : ρ (.tmp 1) = .int .i64 (s) := ho 1 rfl
          have o3 : ρ (.tmp 3) = .bool b := ho 3 rfl
          have o9 : ρ (.tmp 9) = .int .i64 ((i : Int)) := ho 9 rfl
          clear ho
          have k0 := cell_later hp d0
          have k1 := cell_later hp d1
          have k2 := cell_later hp d2
          simp only [depsR, depR, slotR, Fx, List.getElem?_cons_succ, List.getElem?_cons_zero, Region.binds, forall_const] at hd
          simp only [guardR]
          go_split_ands
        · go_simp
        · go_simp
        · go_simp
        · go_simp
        · go_simp
        · go_simp
        · go_simp
        · go_simp
        · go_simp
        · have hq := FC.out
          go_simp
        · go_simp
        · have hq := FC.out
          go_simp
        · go_simp
        · have hq := FC.out
          go_simp
      · intro vs x1 hp hw
        simp only [owed, Fx] at hw
        obtain ⟨e0, e1, e2, e3, e4, e5, e6, e7, e8, e9, e10, e11, e12, e13, -⟩ := hw
        simp only [List.length_cons, List.length_nil, List.take_succ_cons, List.take_zero, List.drop_succ_cons, List.drop_zero, asg, List.cons_append, List.nil_append, e0, e1, e2, e3, e4, e5, e6, e7, e8, e9, e10, e11, e12, e13]
        clear e0 e1 e2 e3 e4 e5 e6 e7 e8 e9 e10 e11 e12 e13
        have hO2 := OwnG.keep HO.out hp
        have hc2 := cell_later hp d2
        have hf2 := hO2.frozen q
        obtain ⟨hO3, hg3⟩ := hO2.put q (.bool b)
        rw [fV_set, Hq.out] at hO3
        have HO3 : Hid _ := hO3
        have HK3 : Hid _ := And.intro ((HK.out.1.trans (Keep.of_below hp)).trans (Keep.of_grown (F := [g]) hg3 (fun z hz => by simp at hz; simp [hz]))) ((HK.out.2.trans (Keep.of_below hp)).trans (Keep.of_grown (F := [g]) hg3 (fun z hz => by simp at hz; simp [hz])))
        clear d0 d1 d2 FC hp HO HK hO2 hO3 hg3 Hq
        go_wp2
        go_roundw
        case rel => exact ⟨i + 1, by omega, by go_num, HO3.out, HK3.out.1, HK3.out.2⟩
        case measure => simp [intOf]; omega
    · obtain rfl : i = k := by omega
      have hlt' : ¬ (i : Int) < n := by have := HS0.out; omega
      have HR : Hid _ := And.intro hO hK
      clear hO hK hK1
      go_wp2
      go_ret
      exact ⟨rfl, HR.out.1, HR.out.2⟩
set_option linter.unusedSimpArgs false in
set_option maxRecDepth 100000 in
set_option maxHeartbeats 400000 in
theorem turn_no (w : World) (v : Value) (st : XSt) (F : List Nat) (s n : Int) (b : Bool) (h : R8 w v st F) (hok : xOk st s n b = false) :
    Calls Try.prog 33 #[v, .int .i64 s, .int .i64 n, .bool b] w fun e w' => e = .returned (.bool false) ∧ Below w.heap.size w w' := by
  have hall := refAll8 w v st F s n (!b) h
  rw [Bool.not_not, hok] at hall
  go_enter Try.func33, Try.ntmps33
  go_wp2_with fail
  go_at_call 41
  refine hall.mono ?_
  rintro e w1 ⟨rfl, hb1⟩
  clear hall
  go_wp2
  go_ret
  exact ⟨rfl, hb1⟩
set_option linter.unusedSimpArgs false in
set_option maxRecDepth 100000 in
set_option maxHeartbeats 400000 in
theorem turn_zero (w : World) (v : Value) (st : XSt) (F : List Nat) (s : Int) (b : Bool) (h : R8 w v st F) :
    Calls Try.prog 33 #[v, .int .i64 s, .int .i64 0, .bool b] w fun e w' => e = .returned (.bool true) ∧ Below w.heap.size w w' := by
  have hall := refAll8 w v st F s 0 (!b) h
  have hok : xOk st s 0 b = true := by simp [xOk]
  rw [Bool.not_not, hok] at hall
  go_enter Try.func33, Try.ntmps33
  go_wp2_with fail
  go_at_call 41
  refine hall.mono ?_
  rintro e w1 ⟨rfl, hb1⟩
  clear hall
  go_wp2
  go_loopw [9] (fun iv wr => iv = .int .i64 0 ∧ wr = w1) (fun _ _ => 0)
  case atStart => exact ⟨rfl, rfl⟩
  case round =>
    obtain ⟨rfl, rfl⟩ := hrel
    go_wp2
    go_ret
    exact ⟨rfl, hb1⟩
theorem refTurn8 (w : World) (v : Value) (st : XSt) (F : List Nat) (s n : Int) (b : Bool) (h : R8 w v st F) :
    Calls Try.prog 33 #[v, .int .i64 s, .int .i64 n, .bool b] w fun e w' => e = .returned (.bool (xOk st s n b)) ∧ XStep R8 F w v (xTurn st s n b) w' := by
  cases hok : xOk st s n b
  · rw [xTurn_no _ _ _ _ hok]
    exact (turn_no w v st F s n b h hok).mono fun e w' hh => ⟨hh.1, h.reads hh.2⟩
  · by_cases h0 : n = 0
    · subst h0
      have e : xTurn st s 0 b = st := by
        unfold xTurn
        rw [if_pos hok]
        cases st
        congr 1
        funext z
        rw [if_neg (by omega)]
      rw [e]
      exact (turn_zero w v st F s b h).mono fun e w' hh => ⟨hh.1, h.reads hh.2⟩
    · have hr : 0 < n ∧ (st.fr : Int) ≤ s ∧ s + n ≤ (st.hi : Int) := by
        have hh := hok
        unfold xOk at hh
        rw [Bool.or_eq_true, Bool.and_eq_true, decide_eq_true_iff, decide_eq_true_iff] at hh
        rcases hh with hh | hh
        · exact absurd hh h0
        · exact hh.1
      have h9 := h
      obtain ⟨r, x, c, rfl, h1, h2, rfl, h4, h5, h6⟩ := h
      obtain ⟨d0, d1⟩ := R8.cells h1
      obtain ⟨g, c', hg, -⟩ := OwnG.form h2 (by intro hh; have := congrArg List.length hh; rw [fV_len] at this; simp at this; omega)
      rw [fV_len] at hg
      cases hg
      have hgr : g ≠ r := by
        intro e
        subst e
        exact h4 (by simp [Value.ownBlock])
      obtain ⟨a, ha⟩ : ∃ a, s.toNat - st.fr = a := ⟨_, rfl⟩
      obtain ⟨k, hk⟩ : ∃ k, n.toNat = k := ⟨_, rfl⟩
      refine (turn_loop w r g (st.hi - st.fr) c st.fr a k st.f s n b st _ h9 d0 d1 h2 hgr (by omega) (by omega) (by omega) (by omega) hok).mono ?_
      rintro e w' ⟨rfl, hO, hK⟩
      refine ⟨rfl, _, ?_, fun _ hq => .inl hq, hK.mono (fun q hq => by simp at hq; subst hq; exact .inl (by simp [Value.ownBlock]))⟩
      rw [xTurn_fT st s n b (st.fr + a) k (by omega) (by omega) hok]
      refine ⟨r, _, c, rfl, ?_, hO, rfl, h4, h5, h6⟩
      rw [hK.block r (Array.getElem?_eq_some_iff.1 h1).1 (by simp; omega)]
      exact h1
set_option linter.unusedSimpArgs false in
set_option maxRecDepth 100000 in
set_option maxHeartbeats 1000000 in
theorem taken_low (w : World) (r : Nat) (x : Option Addr) (m c fr : Nat) (a : Int) (d0 : w.cell? ⟨r, 0, none⟩ = some (.int .i64 (fr : Int))) (d1 : w.cell? ⟨r, 1, none⟩ = some (.slice x m c)) (h : ¬ (fr : Int) ≤ a) :
    Calls Try.prog 34 #[.pointer (some ⟨r, 0, none⟩), .int .i64 a] w fun e w' => e = .returned (.bool false) ∧ Below w.heap.size w w' := by
  go_enter Try.func34, Try.ntmps34
  go_upto_region 1 with fail
  have FC : Hid (¬ (fr : Int) ≤ a ∧ True) := ⟨h, trivial⟩
  clear h
  refine wp_reliesT [Fx (.int .i64 (a)), Fx (.pointer (some ⟨r, 0, none⟩)), Fx (.pointer (some ⟨r, 0, none⟩)), Fx (.pointer (some ⟨r, 0, none⟩)), Fx (.int .i64 ((fr : Int))), Fx (.bool false), Fx (.bool false), Fx (undef), Fx (undef), Fx (undef), Fx (undef), Fx (undef), Fx (undef), Fx (undef), Fx (undef), Fx (undef), Fx (undef), Fx (undef), Fx (undef), Fx (.bool false), Fx (.bool false), Fx (undef), Fx (undef), Fx (undef), Fx (undef), Fx (undef), Fx (undef), Fx (undef), Fx (undef), Fx (undef), Fx (undef), Fx (undef), Fx (undef), Fx (.bool false)] (by kernel_rfl) (by kernel_rfl) ?_ ?_ ?_
  · repeat' (first | exact all_nil | apply all_cons)
    all_goals intro v y y' hv hb
    all_goals first | exact Fx_mono _ _ _ _ hv hb
  · refine ⟨?_, ?_, ?_, ?_, ?_, ?_, ?_, ?_, ?_, ?_, ?_, ?_, ?_, ?_, ?_, ?_, ?_, ?_, ?_, ?_, ?_, ?_, ?_, ?_, ?_, ?_, ?_, ?_, ?_, ?_, ?_, ?_, ?_, ?_, trivial⟩
    all_goals
      intro ρ x hp ρc ρg ρf ho hd
      have o0 : ρ (.tmp 0) = .pointer (some ⟨r, 0, none⟩) := ho 0 rfl
      have o1 : ρ (.tmp 1) = .int .i64 (a) := ho 1 rfl
      clear ho
      have k0 := cell_later hp d0
      have k1 := cell_later hp d1
      simp only [depsR, depR, slotR, Fx, List.getElem?_cons_succ, List.getElem?_cons_zero, Region.binds, forall_const] at hd
      simp only [guardR]
      go_split_ands
    · go_simp
    · go_simp
    · go_simp
    · go_simp
    · go_simp
    · have hq := FC.out
      go_simp
    · go_simp
    · refine ⟨fun hy => ?_, fun _ => rfl⟩
      exfalso; simp [yieldR, slotR, undef, *] at hy
    · refine ⟨fun hy => ?_, fun _ => rfl⟩
      exfalso; simp [yieldR, slotR, undef, *] at hy
    · refine ⟨fun hy => ?_, fun _ => rfl⟩
      exfalso; simp [yieldR, slotR, undef, *] at hy
    · refine ⟨fun hy => ?_, fun _ => rfl⟩
      exfalso; simp [yieldR, slotR, undef, *] at hy
    · refine ⟨fun hy => ?_, fun _ => rfl⟩
      exfalso; simp [yieldR, slotR, undef, *] at hy
    · refine ⟨fun hy => ?_, fun _ => rfl⟩
      exfalso; simp [yieldR, slotR, undef, *] at hy
    · refine ⟨fun hy => ?_, fun _ => rfl⟩
      exfalso; simp [yieldR, slotR, undef, *] at hy
    · refine ⟨fun hy => ?_, fun _ => rfl⟩
      exfalso; simp [yieldR, slotR, undef, *] at hy
    · refine ⟨fun hy => ?_, fun _ => rfl⟩
      exfalso; simp [yieldR, slotR, undef, *] at hy
    · refine ⟨fun hy => ?_, fun _ => rfl⟩
      exfalso; simp [yieldR, slotR, undef, *] at hy
    · refine ⟨fun hy => ?_, fun _ => rfl⟩
      exfalso; simp [yieldR, slotR, undef, *] at hy
    · refine ⟨fun hy => ?_, fun _ => rfl⟩
      exfalso; simp [yieldR, slotR, undef, *] at hy
    · go_simp
    · go_simp
    · refine ⟨fun hy => ?_, fun _ => rfl⟩
      exfalso; simp [yieldR, slotR, undef, *] at hy
    · refine ⟨fun hy => ?_, fun _ => rfl⟩
      exfalso; simp [yieldR, slotR, undef, *] at hy
    · refine ⟨fun hy => ?_, fun _ => rfl⟩
      exfalso; simp [yieldR, slotR, undef, *] at hy
    · refine ⟨fun hy => ?_, fun _ => rfl⟩
      exfalso; simp [yieldR, slotR, undef, *] at hy
    · refine ⟨fun hy => ?_, fun _ => rfl⟩
      exfalso; simp [yieldR, slotR, undef, *] at hy
    · refine ⟨fun hy => ?_, fun _ => rfl⟩
      exfalso; simp [yieldR, slotR, undef, *] at hy
    · refine ⟨fun hy => ?_, fun _ => rfl⟩
      exfalso; simp [yieldR, slotR, undef, *] at hy
    · refine ⟨fun hy => ?_, fun _ => rfl⟩
      exfalso; simp [yieldR, slotR, undef, *] at hy
    · refine ⟨fun hy => ?_, fun _ => rfl⟩
      exfalso; simp [yieldR, slotR, undef, *] at hy
    · refine ⟨fun hy => ?_, fun _ => rfl⟩
      exfalso; simp [yieldR, slotR, undef, *] at hy
    · refine ⟨fun hy => ?_, fun _ => rfl⟩
      exfalso; simp [yieldR, slotR, undef, *] at hy
    · refine ⟨fun hy => ?_, fun _ => rfl⟩
      exfalso; simp [yieldR, slotR, undef, *] at hy
    · go_simp
  · intro vs x1 hp hw
    simp only [owed, Fx] at hw
    obtain ⟨e0, e1, e2, e3, e4, e5, e6, e7, e8, e9, e10, e11, e12, e13, e14, e15, e16, e17, e18, e19, e20, e21, e22, e23, e24, e25, e26, e27, e28, e29, e30, e31, e32, e33, -⟩ := hw
    simp only [List.length_cons, List.length_nil, List.take_succ_cons, List.take_zero, List.drop_succ_cons, List.drop_zero, asg, List.cons_append, List.nil_append, e0, e1, e2, e3, e4, e5, e6, e7, e8, e9, e10, e11, e12, e13, e14, e15, e16, e17, e18, e19, e20, e21, e22, e23, e24, e25, e26, e27, e28, e29, e30, e31, e32, e33]
    clear e0 e1 e2 e3 e4 e5 e6 e7 e8 e9 e10 e11 e12 e13 e14 e15 e16 e17 e18 e19 e20 e21 e22 e23 e24 e25 e26 e27 e28 e29 e30 e31 e32 e33
    have HB : Hid _ := hp
    clear d0 d1 FC hp
    go_wp2
    go_ret
    exact ⟨rfl, HB.out⟩
set_option linter.unusedSimpArgs false in
set_option maxRecDepth 100000 in
set_option maxHeartbeats 1000000 in
theorem taken_high (w : World) (r : Nat) (x : Option Addr) (m c fr : Nat) (a : Int) (d0 : w.cell? ⟨r, 0, none⟩ = some (.int .i64 (fr : Int))) (d1 : w.cell? ⟨r, 1, none⟩ = some (.slice x m c)) (hm : fr + m ≤ 1024) (h0 : (fr : Int) ≤ a) (h : ¬ a < (fr : Int) + (m : Int)) :
    Calls Try.prog 34 #[.pointer (some ⟨r, 0, none⟩), .int .i64 a] w fun e w' => e = .returned (.bool false) ∧ Below w.heap.size w w' := by
  go_enter Try.func34, Try.ntmps34
  go_upto_region 1 with fail
  have FC : Hid ((fr : Int) ≤ a ∧ ¬ a < (fr : Int) + (m : Int) ∧ IntKind.i64.wrap ((fr : Int) + (m : Int)) = (fr : Int) + (m : Int)) := ⟨h0, h, by rw [IntKind.wrap_i64]; omega⟩
  clear h h0
  refine wp_reliesT [Fx (.int .i64 (a)), Fx (.pointer (some ⟨r, 0, none⟩)), Fx (.pointer (some ⟨r, 0, none⟩)), Fx (.pointer (some ⟨r, 0, none⟩)), Fx (.int .i64 ((fr : Int))), Fx (.bool true), Fx (.bool true), Fx (.int .i64 (a)), Fx (.pointer (some ⟨r, 0, none⟩)), Fx (.pointer (some ⟨r, 0, none⟩)), Fx (.pointer (some ⟨r, 0, none⟩)), Fx (.int .i64 ((fr : Int))), Fx (.pointer (some ⟨r, 0, none⟩)), Fx (.pointer (some ⟨r, 0, none⟩)), Fx (.pointer (some ⟨r, 1, none⟩)), Fx (.slice x m c), Fx (.int .i64 ((m : Int))), Fx (.int .i64 ((fr : Int) + (m : Int))), Fx (.bool false), Fx (.bool false), Fx (.bool false), Fx (undef), Fx (undef), Fx (undef), Fx (undef), Fx (undef), Fx (undef), Fx (undef), Fx (undef), Fx (undef), Fx (undef), Fx (undef), Fx (undef), Fx (.bool false)] (by kernel_rfl) (by kernel_rfl) ?_ ?_ ?_
  · repeat' (first | exact all_nil | apply all_cons)
    all_goals intro v y y' hv hb
    all_goals first | exact Fx_mono _ _ _ _ hv hb
  · refine ⟨?_, ?_, ?_, ?_, ?_, ?_, ?_, ?_, ?_, ?_, ?_, ?_, ?_, ?_, ?_, ?_, ?_, ?_, ?_, ?_, ?_, ?_, ?_, ?_, ?_, ?_, ?_, ?_, ?_, ?_, ?_, ?_, ?_, ?_, trivial⟩
    all_goals
      intro ρ x hp ρc ρg ρf ho hd
      have o0 : ρ (.tmp 0) = .pointer (some ⟨r, 0, none⟩) := ho 0 rfl
      have o1 : ρ (.tmp 1) = .int .i64 (a) := ho 1 rfl
      clear ho
      have k0 := cell_later hp d0
      have k1 := cell_later hp d1
      simp only [depsR, depR, slotR, Fx, List.getElem?_cons_succ, List.getElem?_cons_zero, Region.binds, forall_const] at hd
      simp only [guardR]
      go_split_ands
    · go_simp
    · go_simp
    · go_simp
    · go_simp
    · go_simp
    · have hq := FC.out
      go_simp
    · go_simp
    · refine ⟨fun _ => ?_, fun hy => absurd (by simp [yieldR, slotR, *]) hy⟩
      go_simp
    · refine ⟨fun _ => ?_, fun hy => absurd (by simp [yieldR, slotR, *]) hy⟩
      go_simp
    · refine ⟨fun _ => ?_, fun hy => absurd (by simp [yieldR, slotR, *]) hy⟩
      go_simp
    · refine ⟨fun _ => ?_, fun hy => absurd (by simp [yieldR, slotR, *]) hy⟩
      go_simp
    · refine ⟨fun _ => ?_, fun hy => absurd (by simp [yieldR, slotR, *]) hy⟩
      go_simp
    · refine ⟨fun _ => ?_, fun hy => absurd (by simp [yieldR, slotR, *]) hy⟩
      go_simp
    · refine ⟨fun _ => ?_, fun hy => absurd (by simp [yieldR, slotR, *]) hy⟩
      go_simp
    · refine ⟨fun _ => ?_, fun hy => absurd (by simp [yieldR, slotR, *]) hy⟩
      go_simp
    · refine ⟨fun _ => ?_, fun hy => absurd (by simp [yieldR, slotR, *]) hy⟩
      go_simp
    · refine ⟨fun _ => ?_, fun hy => absurd (by simp [yieldR, slotR, *]) hy⟩
      go_simp
    · refine ⟨fun _ => ?_, fun hy => absurd (by simp [yieldR, slotR, *]) hy⟩
      have hq := FC.out
      go_simp
    · refine ⟨fun _ => ?_, fun hy => absurd (by simp [yieldR, slotR, *]) hy⟩
      have hq := FC.out
      go_simp
    · go_simp
    · go_simp
    · refine ⟨fun hy => ?_, fun _ => rfl⟩
      exfalso; simp [yieldR, slotR, undef, *] at hy
    · refine ⟨fun hy => ?_, fun _ => rfl⟩
      exfalso; simp [yieldR, slotR, undef, *] at hy
    · refine ⟨fun hy => ?_, fun _ => rfl⟩
      exfalso; simp [yieldR, slotR, undef, *] at hy
    · refine ⟨fun hy => ?_, fun _ => rfl⟩
      exfalso; simp [yieldR, slotR, undef, *] at hy
    · refine ⟨fun hy => ?_, fun _ => rfl⟩
      exfalso; simp [yieldR, slotR, undef, *] at hy
    · refine ⟨fun hy => ?_, fun _ => rfl⟩
      exfalso; simp [yieldR, slotR, undef, *] at hy
    · refine ⟨fun hy => ?_, fun _ => rfl⟩
      exfalso; simp [yieldR, slotR, undef, *] at hy
    · refine ⟨fun hy => ?_, fun _ => rfl⟩
      exfalso; simp [yieldR, slotR, undef, *] at hy
    · refine ⟨fun hy => ?_, fun _ => rfl⟩
      exfalso; simp [yieldR, slotR, undef, *] at hy
    · refine ⟨fun hy => ?_, fun _ => rfl⟩
      exfalso; simp [yieldR, slotR, undef, *] at hy
    · refine ⟨fun hy => ?_, fun _ => rfl⟩
      exfalso; simp [yieldR, slotR, undef, *] at hy
    · refine ⟨fun hy => ?_, fun _ => rfl⟩
      exfalso; simp [yieldR, slotR, undef, *] at hy
    · go_simp
  · intro vs x1 hp hw
    simp only [owed, Fx] at hw
    obtain ⟨e0, e1, e2, e3, e4, e5, e6, e7, e8, e9, e10, e11, e12, e13, e14, e15, e16, e17, e18, e19, e20, e21, e22, e23, e24, e25, e26, e27, e28, e29, e30, e31, e32, e33, -⟩ := hw
    simp only [List.length_cons, List.length_nil, List.take_succ_cons, List.take_zero, List.drop_succ_cons, List.drop_zero, asg, List.cons_append, List.nil_append, e0, e1, e2, e3, e4, e5, e6, e7, e8, e9, e10, e11, e12, e13, e14, e15, e16, e17, e18, e19, e20, e21, e22, e23, e24, e25, e26, e27, e28, e29, e30, e31, e32, e33]
    clear e0 e1 e2 e3 e4 e5 e6 e7 e8 e9 e10 e11 e12 e13 e14 e15 e16 e17 e18 e19 e20 e21 e22 e23 e24 e25 e26 e27 e28 e29 e30 e31 e32 e33
    have HB : Hid _ := hp
    clear d0 d1 FC hp
    go_wp2
    go_ret
    exact ⟨rfl, HB.out⟩
set_option linter.unusedSimpArgs false in
set_option maxRecDepth 100000 in
set_option maxHeartbeats 1000000 in
theorem taken_in (w : World) (r g m c fr q : Nat) (f : Nat → Bool) (a : Int) (d0 : w.cell? ⟨r, 0, none⟩ = some (.int .i64 (fr : Int))) (d1 : w.cell? ⟨r, 1, none⟩ = some (.slice (some ⟨g, 0, none⟩) m c)) (d2 : w.cell? ⟨g, q, none⟩ = some (.bool (f (fr + q)))) (hm : fr + m ≤ 1024) (hq : q < m) (ha : a = ((fr + q : Nat) : Int)) :
    Calls Try.prog 34 #[.pointer (some ⟨r, 0, none⟩), .int .i64 a] w fun e w' => e = .returned (.bool (f (fr + q))) ∧ Below w.heap.size w w' := by
  obtain ⟨z, hz⟩ : ∃ z, f (fr + q) = z := ⟨_, rfl⟩
  have HZ : Hid (f (fr + q) = z) := hz
  go_enter Try.func34, Try.ntmps34
  go_upto_region 1 with fail
  have FC : Hid ((fr : Int) ≤ a ∧ a < (fr : Int) + (m : Int) ∧ IntKind.i64.wrap ((fr : Int) + (m : Int)) = (fr : Int) + (m : Int) ∧ a - (fr : Int) = (q : Int) ∧ IntKind.i64.wrap (q : Int) = (q : Int) ∧ (q : Int) < (m : Int)) := ⟨by omega, by omega, by rw [IntKind.wrap_i64]; omega, by omega, by rw [IntKind.wrap_i64]; omega, by omega⟩
  clear ha hz
  refine wp_reliesT [Fx (.int .i64 (a)), Fx (.pointer (some ⟨r, 0, none⟩)), Fx (.pointer (some ⟨r, 0, none⟩)), Fx (.pointer (some ⟨r, 0, none⟩)), Fx (.int .i64 ((fr : Int))), Fx (.bool true), Fx (.bool true), Fx (.int .i64 (a)), Fx (.pointer (some ⟨r, 0, none⟩)), Fx (.pointer (some ⟨r, 0, none⟩)), Fx (.pointer (some ⟨r, 0, none⟩)), Fx (.int .i64 ((fr : Int))), Fx (.pointer (some ⟨r, 0, none⟩)), Fx (.pointer (some ⟨r, 0, none⟩)), Fx (.pointer (some ⟨r, 1, none⟩)), Fx (.slice (some ⟨g, 0, none⟩) m c), Fx (.int .i64 ((m : Int))), Fx (.int .i64 ((fr : Int) + (m : Int))), Fx (.bool true), Fx (.bool true), Fx (.bool true), Fx (.pointer (some ⟨r, 0, none⟩)), Fx (.pointer (some ⟨r, 0, none⟩)), Fx (.pointer (some ⟨r, 1, none⟩)), Fx (.slice (some ⟨g, 0, none⟩) m c), Fx (.int .i64 (a)), Fx (.pointer (some ⟨r, 0, none⟩)), Fx (.pointer (some ⟨r, 0, none⟩)), Fx (.pointer (some ⟨r, 0, none⟩)), Fx (.int .i64 ((fr : Int))), Fx (.int .i64 ((q : Int))), Fx (.pointer (some ⟨g, q, none⟩)), Fx (.bool (f (fr + q))), Fx (.bool (f (fr + q)))] (by kernel_rfl) (by kernel_rfl) ?_ ?_ ?_
  · repeat' (first | exact all_nil | apply all_cons)
    all_goals intro v y y' hv hb
    all_goals first | exact Fx_mono _ _ _ _ hv hb
  · refine ⟨?_, ?_, ?_, ?_, ?_, ?_, ?_, ?_, ?_, ?_, ?_, ?_, ?_, ?_, ?_, ?_, ?_, ?_, ?_, ?_, ?_, ?_, ?_, ?_, ?_, ?_, ?_, ?_, ?_, ?_, ?_, ?_, ?_, ?_, trivial⟩
    all_goals
      intro ρ x hp ρc ρg ρf ho hd
      have o0 : ρ (.tmp 0) = .pointer (some ⟨r, 0, none⟩) := ho 0 rfl
      have o1 : ρ (.tmp 1) = .int .i64 (a) := ho 1 rfl
      clear ho
      have k0 := cell_later hp d0
      have k1 := cell_later hp d1
      have k2 := cell_later hp d2
      simp only [depsR, depR, slotR, Fx, List.getElem?_cons_succ, List.getElem?_cons_zero, Region.binds, forall_const] at hd
      simp only [guardR]
      go_split_ands
    · go_simp
    · go_simp
    · go_simp
    · go_simp
    · go_simp
    · have hq := FC.out
      go_simp
    · go_simp
    · refine ⟨fun _ => ?_, fun hy => absurd (by simp [yieldR, slotR, *]) hy⟩
      go_simp
    · refine ⟨fun _ => ?_, fun hy => absurd (by simp [yieldR, slotR, *]) hy⟩
      go_simp
    · refine ⟨fun _ => ?_, fun hy => absurd (by simp [yieldR, slotR, *]) hy⟩
      go_simp
    · refine ⟨fun _ => ?_, fun hy => absurd (by simp [yieldR, slotR, *]) hy⟩
      go_simp
    · refine ⟨fun _ => ?_, fun hy => absurd (by simp [yieldR, slotR, *]) hy⟩
      go_simp
    · refine ⟨fun _ => ?_, fun hy => absurd (by simp [yieldR, slotR, *]) hy⟩
      go_simp
    · refine ⟨fun _ => ?_, fun hy => absurd (by simp [yieldR, slotR, *]) hy⟩
      go_simp
    · refine ⟨fun _ => ?_, fun hy => absurd (by simp [yieldR, slotR, *]) hy⟩
      go_simp
    · refine ⟨fun _ => ?_, fun hy => absurd (by simp [yieldR, slotR, *]) hy⟩
      go_simp
    · refine ⟨fun _ => ?_, fun hy => absurd (by simp [yieldR, slotR, *]) hy⟩
      go_simp
    · refine ⟨fun _ => ?_, fun hy => absurd (by simp [yieldR, slotR, *]) hy⟩
      have hq := FC.out
      go_simp
    · refine ⟨fun _ => ?_, fun hy => absurd (by simp [yieldR, slotR, *]) hy⟩
      have hq := FC.out
      go_simp
    · go_simp
    · go_simp
    · refine ⟨fun _ => ?_, fun hy => absurd (by simp [yieldR, slotR, *]) hy⟩
      go_simp
    · refine ⟨fun _ => ?_, fun hy => absurd (by simp [yieldR, slotR, *]) hy⟩
      go_simp
    · refine ⟨fun _ => ?_, fun hy => absurd (by simp [yieldR, slotR, *]) hy⟩
      go_simp
    · refine ⟨fun _ => ?_, fun hy => absurd (by simp [yieldR, slotR, *]) hy⟩
      go_simp
    · refine ⟨fun _ => ?_, fun hy => absurd (by simp [yieldR, slotR, *]) hy⟩
      go_simp
    · refine ⟨fun _ => ?_, fun hy => absurd (by simp [yieldR, slotR, *]) hy⟩
      go_simp
    · refine ⟨fun _ => ?_, fun hy => absurd (by simp [yieldR, slotR, *]) hy⟩
      go_simp
    · refine ⟨fun _ => ?_, fun hy => absurd (by simp [yieldR, slotR, *]) hy⟩
      go_simp
    · refine ⟨fun _ => ?_, fun hy => absurd (by simp [yieldR, slotR, *]) hy⟩
      go_simp
    · refine ⟨fun _ => ?_, fun hy => absurd (by simp [yieldR, slotR, *]) hy⟩
      have hq := FC.out
      go_simp
    · refine ⟨fun _ => ?_, fun hy => absurd (by simp [yieldR, slotR, *]) hy⟩
      have hq := FC.out
      go_simp
    · refine ⟨fun _ => ?_, fun hy => absurd (by simp [yieldR, slotR, *]) hy⟩
      go_simp
    · go_simp
  · intro vs x1 hp hw
    simp only [owed, Fx] at hw
    obtain ⟨e0, e1, e2, e3, e4, e5, e6, e7, e8, e9, e10, e11, e12, e13, e14, e15, e16, e17, e18, e19, e20, e21, e22, e23, e24, e25, e26, e27, e28, e29, e30, e31, e32, e33, -⟩ := hw
    simp only [List.length_cons, List.length_nil, List.take_succ_cons, List.take_zero, List.drop_succ_cons, List.drop_zero, asg, List.cons_append, List.nil_append, e0, e1, e2, e3, e4, e5, e6, e7, e8, e9, e10, e11, e12, e13, e14, e15, e16, e17, e18, e19, e20, e21, e22, e23, e24, e25, e26, e27, e28, e29, e30, e31, e32, e33]
    clear e0 e1 e2 e3 e4 e5 e6 e7 e8 e9 e10 e11 e12 e13 e14 e15 e16 e17 e18 e19 e20 e21 e22 e23 e24 e25 e26 e27 e28 e29 e30 e31 e32 e33
    have HB : Hid _ := hp
    clear d0 d1 d2 FC hp
    go_wp2
    go_ret
    exact ⟨rfl, HB.out⟩
theorem refTaken8 (w : World) (v : Value) (st : XSt) (F : List Nat) (a : Int) (h : R8 w v st F) :
    Calls Try.prog 34 #[v, .int .i64 a] w fun e w' => e = .returned (.bool (xTaken st a)) ∧ Below w.heap.size w w' := by
  obtain ⟨r, x, c, rfl, h1, h2, rfl, h4, h5, h6⟩ := h
  obtain ⟨d0, d1⟩ := R8.cells h1
  unfold xTaken
  by_cases h7 : (st.fr : Int) ≤ a
  · by_cases h8 : a < (st.hi : Int)
    · rw [decide_eq_true ⟨h7, h8⟩, Bool.true_and]
      obtain ⟨g, c', hg, -⟩ := OwnG.form h2 (by intro hh; have := congrArg List.length hh; rw [fV_len] at this; simp at this; omega)
      rw [fV_len] at hg
      cases hg
      obtain ⟨q, hq⟩ : ∃ q, a.toNat - st.fr = q := ⟨_, rfl⟩
      have := taken_in w r g (st.hi - st.fr) c st.fr q st.f a d0 d1 (h2.cell q _ (fV_at _ _ _ _ (by omega))) (by omega) (by omega) (by omega)
      rwa [show st.fr + q = a.toNat by omega] at this
    · rw [decide_eq_false (fun hh => h8 hh.2), Bool.false_and]
      exact taken_high w r x _ c st.fr a d0 d1 (by omega) h7 (by omega)
  · rw [decide_eq_false (fun hh => h7 hh.1), Bool.false_and]
    exact taken_low w r x _ c st.fr a d0 d1 h7
set_option linter.unusedSimpArgs false in
set_option maxRecDepth 100000 in
set_option maxHeartbeats 1000000 in
theorem refLeft8 (w : World) (v : Value) (st : XSt) (F : List Nat) (h : R8 w v st F) :
    Calls Try.prog 20 #[v] w fun e w' => e = .returned (.int .i64 (xLeft st : Nat)) ∧ Below w.heap.size w w' := by
  obtain ⟨r, x, c, rfl, h1, h2, rfl, h4, h5, h6⟩ := h
  obtain ⟨d0, d1⟩ := R8.cells h1
  unfold xLeft
  obtain ⟨m, hm⟩ : ∃ m, st.hi - st.fr = m := ⟨_, rfl⟩
  rw [hm] at h2 d1 ⊢
  have hm4 : m ≤ 1024 := by omega
  clear h1 h4 hm
  go_enter Try.func20, Try.ntmps20
  go_wp2
  go_loopw [3, 4] (fun nv iv wr => ∃ i : Nat, i ≤ m ∧ iv = .int .i64 i ∧ nv = .int .i64 (leftU st.f st.fr i : Nat) ∧ wr = w) (fun _ iv _ => m - (intOf iv).toNat)
  case atStart => exact ⟨0, by omega, rfl, rfl, rfl⟩
  case round =>
    obtain ⟨i, hi, rfl, rfl, rfl⟩ := hrel
    by_cases hlt : i < m
    · have hlt' : (i : Int) < (m : Int) := by omega
      obtain ⟨g, c', hg, -⟩ := OwnG.form h2 (by intro hh; have := congrArg List.length hh; rw [fV_len] at this; simp at this; omega)
      rw [fV_len] at hg
      cases hg
      have d2 := h2.cell i _ (fV_at _ _ _ _ hlt)
      have hsucc : leftU st.f st.fr (i + 1) = leftU st.f st.fr i + (bif st.f (st.fr + i) then 0 else 1) := rfl
      have hll : leftU st.f st.fr i ≤ i := leftU_le _ _ _
      obtain ⟨z, hz⟩ : ∃ z, leftU st.f st.fr i = z := ⟨_, rfl⟩
      rw [hz] at hsucc hll ⊢
      clear hz
      cases hb : st.f (st.fr + i)
      · rw [hb] at hsucc d2
        have HS : Hid _ := hsucc
        clear hsucc hb h2
        go_wp2
        go_roundw
        case rel => exact ⟨i + 1, by omega, by go_num, by rw [HS.out]; go_num, trivial⟩
        case measure => simp [intOf]; omega
      · rw [hb] at hsucc d2
        have HS : Hid _ := hsucc
        clear hsucc hb h2
        go_wp2
        go_roundw
        case rel => exact ⟨i + 1, by omega, by go_num, by rw [HS.out]; go_num, trivial⟩
        case measure => simp [intOf]; omega
    · obtain rfl : i = m := by omega
      go_wp2
      go_ret
      exact ⟨rfl, Below.refl _ _⟩
end Go.Proofs.Ytafbkdpheneceaa
