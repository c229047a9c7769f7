import Derived.Test.YtafbkdpheneceaaQHea2
namespace Go.Proofs.Ytafbkdpheneceaa
open Go.RowKit

/-! The heap's rise -/
theorem wrapSub1 (k : Nat) (h : 0 < k) (h2 : k ≤ 1048576) : IntKind.i64.wrap ((k : Int) - 1) = ((k - 1 : Nat) : Int) := by rw [IntKind.wrap_i64]; omega
theorem quo2 (k p : Nat) (h : (k - 1) / 2 = p) : Int.tdiv ((k - 1 : Nat) : Int) 2 = (p : Int) := by rw [← h]; simp [Int.tdiv]
theorem wrapNat (p : Nat) (h : p ≤ 4194304) : IntKind.i64.wrap (p : Int) = (p : Int) := by rw [IntKind.wrap_i64]; omega
set_option linter.unusedSimpArgs false in
set_option maxHeartbeats 2000000 in
theorem rise_any (w : World) (b o g n c : Nat) (cur : Array Value) (T : TypeId) (l : List Pr) (i : Nat) (h : HpAt w b o cur T (.slice (some ⟨g, 0, none⟩) n c) l) (hi : i < n) (hn : n ≤ 1048576) (hU : UpOk l i) :
    Calls Try.prog 39 #[.pointer (some ⟨b, o, none⟩), .int .i64 (i : Int)] w fun e w' => (∃ u, e = .returned u) ∧ (∃ l', HpAt w' b o cur T (.slice (some ⟨g, 0, none⟩) n c) l' ∧ l'.Perm l ∧ Hp l') ∧ Keep [g] w w' := by
  go_enter Try.func39, Try.ntmps39
  go_wp2
  go_loopw [1] (fun iv wr => ∃ (k : Nat) (l1 : List Pr), k < n ∧ iv = .int .i64 k ∧ HpAt wr b o cur T (.slice (some ⟨g, 0, none⟩) n c) l1 ∧ l1.Perm l ∧ UpOk l1 k ∧ Keep [g] w wr) (fun iv _ => (intOf iv).toNat)
  case atStart => exact ⟨i, l, hi, rfl, h, List.Perm.refl _, hU, Keep.refl _ _⟩
  case round =>
    obtain ⟨k, l1, hk, rfl, hH, hP1, hU1, hK1⟩ := hrel
    obtain ⟨p, hpe⟩ : ∃ p, (k - 1) / 2 = p := ⟨_, rfl⟩
    have HP : Hid ((k - 1) / 2 = p) := hpe
    have hpn : p < n := by omega
    clear hpe
    have hi1 : (k : Int) < (n : Int) := by omega
    have hi0 : (0 : Int) ≤ (k : Int) := by omega
    have hp1 : (p : Int) < (n : Int) := by omega
    have hp0 : (0 : Int) ≤ (p : Int) := by omega
    obtain ⟨bk, hbk⟩ : ∃ q, decide (0 < k) = q := ⟨_, rfl⟩
    have HB : Hid (decide (0 < k) = bk) := hbk
    clear hbk
    have hlen : l1.length = n := by
      obtain ⟨-, hn', -⟩ := hH.own.heap
      exact hn'.symm
    go_upto_region 0 with fail
    refine wp_reliesT [Fx (.int .i64 ((k : Int))), Fx (.bool bk), Fx (.bool bk), Fx (bif bk then .pointer (some ⟨b, o, none⟩) else undef), Fx (bif bk then .pointer (some ⟨b, o, none⟩) else undef), Fx (bif bk then .pointer (some ⟨b, o, none⟩) else undef), Fx (bif bk then .slice (some ⟨g, 0, none⟩) n c else undef), Fx (bif bk then .int .i64 ((k : Int)) else undef), Fx (bif bk then .pointer (some ⟨g, k * 2, none⟩) else undef), Fx (bif bk then .agg (prA (gp l1 k)) else undef), Fx (bif bk then .iface 56 (.agg (prA (gp l1 k))) else undef), Fx (bif bk then .pointer (some ⟨b, o, none⟩) else undef), Fx (bif bk then .pointer (some ⟨b, o, none⟩) else undef), Fx (bif bk then .pointer (some ⟨b, o, none⟩) else undef), Fx (bif bk then .slice (some ⟨g, 0, none⟩) n c else undef), Fx (bif bk then .int .i64 ((k : Int)) else undef), Fx (bif bk then .int .i64 (((k - 1 : Nat) : Int)) else undef), Fx (bif bk then .int .i64 ((p : Int)) else undef), Fx (bif bk then .pointer (some ⟨g, p * 2, none⟩) else undef), Fx (bif bk then .agg (prA (gp l1 p)) else undef), Fx (bif bk then .bool (decide ((gp l1 k).1 < (gp l1 p).1)) else undef)] (by kernel_rfl) (by kernel_rfl) ?_ ?_ ?_
    · repeat' (first | exact all_nil | apply all_cons)
      all_goals intro v y y' hv hb
      all_goals first | exact Fx_mono _ _ _ _ hv hb
    · refine ⟨?_, ?_, ?_, ?_, ?_, ?_, ?_, ?_, ?_, ?_, ?_, ?_, ?_, ?_, ?_, ?_, ?_, ?_, ?_, ?_, ?_, trivial⟩
      all_goals
        intro ρ x hp ρc ρg ρf ho hd
        have o0 : ρ (.tmp 0) = .pointer (some ⟨b, o, none⟩) := ho 0 rfl
        have o1 : ρ (.tmp 1) = .int .i64 ((k : Int)) := ho 1 rfl
        clear ho
        have hx := hH.later hp
        have kc := hx.cell
        simp only [depsR, depR, slotR, Fx, List.getElem?_cons_succ, List.getElem?_cons_zero, Region.binds, forall_const] at hd
        simp only [guardR]
        go_split_ands
      · go_simp
      · have hq := HB.out
        go_simp
      · go_simp
      · refine ⟨fun hy => ?_, fun hy => ?_⟩
        · obtain rfl : bk = true := by cases bk <;> first | rfl | (exfalso; simp [yieldR, slotR, undef, *] at hy)
          go_simp
        · obtain rfl : bk = false := by cases bk <;> first | rfl | (exfalso; simp [yieldR, slotR, undef, *] at hy)
          rfl
      · refine ⟨fun hy => ?_, fun hy => ?_⟩
        · obtain rfl : bk = true := by cases bk <;> first | rfl | (exfalso; simp [yieldR, slotR, undef, *] at hy)
          go_simp
        · obtain rfl : bk = false := by cases bk <;> first | rfl | (exfalso; simp [yieldR, slotR, undef, *] at hy)
          rfl
      · refine ⟨fun hy => ?_, fun hy => ?_⟩
        · obtain rfl : bk = true := by cases bk <;> first | rfl | (exfalso; simp [yieldR, slotR, undef, *] at hy)
          go_simp
        · obtain rfl : bk = false := by cases bk <;> first | rfl | (exfalso; simp [yieldR, slotR, undef, *] at hy)
          rfl
      · refine ⟨fun hy => ?_, fun hy => ?_⟩
        · obtain rfl : bk = true := by cases bk <;> first | rfl | (exfalso; simp [yieldR, slotR, undef, *] at hy)
          go_simp
        · obtain rfl : bk = false := by cases bk <;> first | rfl | (exfalso; simp [yieldR, slotR, undef, *] at hy)
          rfl
      · refine ⟨fun hy => ?_, fun hy => ?_⟩
        · obtain rfl : bk = true := by cases bk <;> first | rfl | (exfalso; simp [yieldR, slotR, undef, *] at hy)
          go_simp
        · obtain rfl : bk = false := by cases bk <;> first | rfl | (exfalso; simp [yieldR, slotR, undef, *] at hy)
          rfl
      · refine ⟨fun hy => ?_, fun hy => ?_⟩
        · obtain rfl : bk = true := by cases bk <;> first | rfl | (exfalso; simp [yieldR, slotR, undef, *] at hy)
          go_simp
        · obtain rfl : bk = false := by cases bk <;> first | rfl | (exfalso; simp [yieldR, slotR, undef, *] at hy)
          rfl
      · refine ⟨fun hy => ?_, fun hy => ?_⟩
        · obtain rfl : bk = true := by cases bk <;> first | rfl | (exfalso; simp [yieldR, slotR, undef, *] at hy)
          have hh := hx.rg k hk
          go_simp
        · obtain rfl : bk = false := by cases bk <;> first | rfl | (exfalso; simp [yieldR, slotR, undef, *] at hy)
          rfl
      · refine ⟨fun hy => ?_, fun hy => ?_⟩
        · obtain rfl : bk = true := by cases bk <;> first | rfl | (exfalso; simp [yieldR, slotR, undef, *] at hy)
          go_simp
        · obtain rfl : bk = false := by cases bk <;> first | rfl | (exfalso; simp [yieldR, slotR, undef, *] at hy)
          rfl
      · refine ⟨fun hy => ?_, fun hy => ?_⟩
        · obtain rfl : bk = true := by cases bk <;> first | rfl | (exfalso; simp [yieldR, slotR, undef, *] at hy)
          go_simp
        · obtain rfl : bk = false := by cases bk <;> first | rfl | (exfalso; simp [yieldR, slotR, undef, *] at hy)
          rfl
      · refine ⟨fun hy => ?_, fun hy => ?_⟩
        · obtain rfl : bk = true := by cases bk <;> first | rfl | (exfalso; simp [yieldR, slotR, undef, *] at hy)
          go_simp
        · obtain rfl : bk = false := by cases bk <;> first | rfl | (exfalso; simp [yieldR, slotR, undef, *] at hy)
          rfl
      · refine ⟨fun hy => ?_, fun hy => ?_⟩
        · obtain rfl : bk = true := by cases bk <;> first | rfl | (exfalso; simp [yieldR, slotR, undef, *] at hy)
          go_simp
        · obtain rfl : bk = false := by cases bk <;> first | rfl | (exfalso; simp [yieldR, slotR, undef, *] at hy)
          rfl
      · refine ⟨fun hy => ?_, fun hy => ?_⟩
        · obtain rfl : bk = true := by cases bk <;> first | rfl | (exfalso; simp [yieldR, slotR, undef, *] at hy)
          go_simp
        · obtain rfl : bk = false := by cases bk <;> first | rfl | (exfalso; simp [yieldR, slotR, undef, *] at hy)
          rfl
      · refine ⟨fun hy => ?_, fun hy => ?_⟩
        · obtain rfl : bk = true := by cases bk <;> first | rfl | (exfalso; simp [yieldR, slotR, undef, *] at hy)
          go_simp
        · obtain rfl : bk = false := by cases bk <;> first | rfl | (exfalso; simp [yieldR, slotR, undef, *] at hy)
          rfl
      · refine ⟨fun hy => ?_, fun hy => ?_⟩
        · obtain rfl : bk = true := by cases bk <;> first | rfl | (exfalso; simp [yieldR, slotR, undef, *] at hy)
          have hk0 : 0 < k := of_decide_eq_true HB.out
          have hw := wrapSub1 k hk0 (by omega)
          go_simp
        · obtain rfl : bk = false := by cases bk <;> first | rfl | (exfalso; simp [yieldR, slotR, undef, *] at hy)
          rfl
      · refine ⟨fun hy => ?_, fun hy => ?_⟩
        · obtain rfl : bk = true := by cases bk <;> first | rfl | (exfalso; simp [yieldR, slotR, undef, *] at hy)
          have hk0 : 0 < k := of_decide_eq_true HB.out
          have hw := quo2 k p HP.out
          have hw2 := wrapNat p (by omega)
          go_simp
        · obtain rfl : bk = false := by cases bk <;> first | rfl | (exfalso; simp [yieldR, slotR, undef, *] at hy)
          rfl
      · refine ⟨fun hy => ?_, fun hy => ?_⟩
        · obtain rfl : bk = true := by cases bk <;> first | rfl | (exfalso; simp [yieldR, slotR, undef, *] at hy)
          go_simp
        · obtain rfl : bk = false := by cases bk <;> first | rfl | (exfalso; simp [yieldR, slotR, undef, *] at hy)
          rfl
      · refine ⟨fun hy => ?_, fun hy => ?_⟩
        · obtain rfl : bk = true := by cases bk <;> first | rfl | (exfalso; simp [yieldR, slotR, undef, *] at hy)
          have hh := hx.rg p hpn
          go_simp
        · obtain rfl : bk = false := by cases bk <;> first | rfl | (exfalso; simp [yieldR, slotR, undef, *] at hy)
          rfl
      · refine ⟨fun hy => ?_, fun hy => ?_⟩
        · obtain rfl : bk = true := by cases bk <;> first | rfl | (exfalso; simp [yieldR, slotR, undef, *] at hy)
          go_simp
          refine (before_any x (gp l1 k) (gp l1 p)).mono ?_
          rintro e w' ⟨rfl, hw⟩
          exact ⟨_, rfl, rfl, hw⟩
        · obtain rfl : bk = false := by cases bk <;> first | rfl | (exfalso; simp [yieldR, slotR, undef, *] at hy)
          rfl
    · intro vs x hp hw
      simp only [owed, Fx] at hw
      obtain ⟨e0, e1, e2, e3, e4, e5, e6, e7, e8, e9, e10, e11, e12, e13, e14, e15, e16, e17, e18, e19, e20, -⟩ := hw
      simp only [List.length_cons, List.length_nil, List.take_succ_cons, List.take_zero, List.drop_succ_cons, List.drop_zero, asg, List.cons_append, List.nil_append, e0, e1, e2, e3, e4, e5, e6, e7, e8, e9, e10, e11, e12, e13, e14, e15, e16, e17, e18, e19, e20]
      clear e0 e1 e2 e3 e4 e5 e6 e7 e8 e9 e10 e11 e12 e13 e14 e15 e16 e17 e18 e19 e20
      have hH2 := hH.later hp
      have hK2 : Keep [g] w x := hK1.trans (Keep.of_below hp)
      cases bk
      · have hk0 : k = 0 := by have := HB.out; rw [decide_eq_false_iff_not] at this; omega
        subst hk0
        simp only [cond_false]
        go_wp2
        go_end0
        exact ⟨⟨_, rfl⟩, ⟨l1, hH2, hP1, hU1.done0⟩, hK2⟩
      · have hk0 : 0 < k := of_decide_eq_true HB.out
        simp only [cond_true]
        obtain ⟨q, hq⟩ : ∃ q, decide ((gp l1 k).1 < (gp l1 p).1) = q := ⟨_, rfl⟩
        rw [hq]
        cases q
        · go_wp2
          go_end0
          refine ⟨⟨_, rfl⟩, ⟨l1, hH2, hP1, hU1.done ?_⟩, hK2⟩
          rw [decide_eq_false_iff_not] at hq
          rw [HP.out]
          show (gp l1 p).1 ≤ (gp l1 k).1
          omega
        · have hw1 := wrapSub1 k hk0 (by omega)
          have hw2 := quo2 k p HP.out
          have hsw := swap_any x b o g n c cur T l1 k p hH2 hk hpn
          have hstep := hU1.step hk0 (by omega) (by rw [HP.out]; exact of_decide_eq_true hq)
          rw [HP.out] at hstep
          have hperm := (swapL_perm l1 k p (by omega) (by omega)).trans hP1
          have hpk : p < k := by have := HP.out; omega
          have hw3 := wrapNat p (by omega)
          clear hU1 hH
          go_wp2_with fail
          go_at_call 44
          refine hsw.mono ?_
          rintro e w2 ⟨⟨u, rfl⟩, hH3, hK3⟩
          go_wp2
          go_roundw
          case rel => exact ⟨p, _, hpn, rfl, hH3, hperm, hstep, hK2.trans hK3⟩
          case measure => simp [intOf]; omega
theorem wrapDbl (k : Nat) (h : k ≤ 1048576) : IntKind.i64.wrap (2 * (k : Int)) = ((2 * k : Nat) : Int) ∧ IntKind.i64.wrap (((2 * k : Nat) : Int) + 1) = ((2 * k + 1 : Nat) : Int) ∧ IntKind.i64.wrap (((2 * k : Nat) : Int) + 2) = ((2 * k + 2 : Nat) : Int) := by
  refine ⟨?_, ?_, ?_⟩ <;> (rw [IntKind.wrap_i64]; omega)
theorem low2 (l : List Pr) (m : Nat) (a : Nat) (ha : lowOf l l.length (lowOf l l.length m (2 * m + 1)) (2 * m + 2) = a) :
    (a = m ∧ ∀ d, 0 < d → d < l.length → (d - 1) / 2 = m → kx l m ≤ kx l d) ∨ (0 < a ∧ a < l.length ∧ (a - 1) / 2 = m ∧ kx l a < kx l m ∧ m < a ∧ ∀ d, 0 < d → d < l.length → (d - 1) / 2 = m → kx l a ≤ kx l d) := by
  have hd : ∀ d, 0 < d → (d - 1) / 2 = m → d = 2 * m + 1 ∨ d = 2 * m + 2 := fun d h0 h1 => by omega
  by_cases h1 : 2 * m + 1 < l.length ∧ kx l (2 * m + 1) < kx l m
  · have e1 : lowOf l l.length m (2 * m + 1) = 2 * m + 1 := by unfold lowOf; rw [if_pos h1]
    rw [e1] at ha
    by_cases h2 : 2 * m + 2 < l.length ∧ kx l (2 * m + 2) < kx l (2 * m + 1)
    · have e2 : lowOf l l.length (2 * m + 1) (2 * m + 2) = 2 * m + 2 := by unfold lowOf; rw [if_pos h2]
      rw [e2] at ha; subst ha
      refine .inr ⟨by omega, h2.1, by omega, by omega, by omega, fun d h0 hl h3 => ?_⟩
      rcases hd d h0 h3 with rfl | rfl <;> omega
    · have e2 : lowOf l l.length (2 * m + 1) (2 * m + 2) = 2 * m + 1 := by unfold lowOf; rw [if_neg h2]
      rw [e2] at ha; subst ha
      refine .inr ⟨by omega, h1.1, by omega, by omega, by omega, fun d h0 hl h3 => ?_⟩
      rcases hd d h0 h3 with rfl | rfl <;> omega
  · have e1 : lowOf l l.length m (2 * m + 1) = m := by unfold lowOf; rw [if_neg h1]
    rw [e1] at ha
    by_cases h2 : 2 * m + 2 < l.length ∧ kx l (2 * m + 2) < kx l m
    · have e2 : lowOf l l.length m (2 * m + 2) = 2 * m + 2 := by unfold lowOf; rw [if_pos h2]
      rw [e2] at ha; subst ha
      refine .inr ⟨by omega, h2.1, by omega, by omega, by omega, fun d h0 hl h3 => ?_⟩
      rcases hd d h0 h3 with rfl | rfl <;> omega
    · have e2 : lowOf l l.length m (2 * m + 2) = m := by unfold lowOf; rw [if_neg h2]
      rw [e2] at ha; subst ha
      refine .inl ⟨rfl, fun d h0 hl h3 => ?_⟩
      rcases hd d h0 h3 with rfl | rfl <;> omega
set_option linter.unusedSimpArgs false in
set_option maxHeartbeats 2000000 in
theorem sink_any (w : World) (b o g n c : Nat) (cur : Array Value) (T : TypeId) (l : List Pr) (i : Nat) (h : HpAt w b o cur T (.slice (some ⟨g, 0, none⟩) n c) l) (hi : i < n) (hn : n ≤ 1048576) (hU : DnOk l i i) :
    Calls Try.prog 38 #[.pointer (some ⟨b, o, none⟩), .int .i64 (i : Int)] w fun e w' => (∃ u, e = .returned u) ∧ (∃ l', HpAt w' b o cur T (.slice (some ⟨g, 0, none⟩) n c) l' ∧ l'.Perm l ∧ UpOk l' i) ∧ Keep [g] w w' := by
  go_enter Try.func38, Try.ntmps38
  go_wp2
  go_loopw [1] (fun iv wr => ∃ (k : Nat) (l1 : List Pr), k < n ∧ iv = .int .i64 k ∧ HpAt wr b o cur T (.slice (some ⟨g, 0, none⟩) n c) l1 ∧ l1.Perm l ∧ DnOk l1 k i ∧ Keep [g] w wr) (fun iv _ => n - (intOf iv).toNat)
  case atStart => exact ⟨i, l, hi, rfl, h, List.Perm.refl _, hU, Keep.refl _ _⟩
  case round =>
    obtain ⟨k, l1, hk, rfl, hH, hP1, hU1, hK1⟩ := hrel
    have hlen : l1.length = n := by
      obtain ⟨-, hn', -⟩ := hH.own.heap
      exact hn'.symm
    obtain ⟨hw0, hw1, hw2⟩ := wrapDbl k (by omega)
    obtain ⟨j1, hj1⟩ : ∃ j, 2 * k + 1 = j := ⟨_, rfl⟩
    obtain ⟨j2, hj2⟩ : ∃ j, 2 * k + 2 = j := ⟨_, rfl⟩
    obtain ⟨j0, hj0⟩ : ∃ j, 2 * k = j := ⟨_, rfl⟩
    have hlo1 := lower_any wr b o g n c cur T l1 k j1 hH hk
    obtain ⟨a, hae⟩ : ∃ a, lowOf l1 n k j1 = a := ⟨_, rfl⟩
    have han : a < n := by have := lowOf_or l1 n k j1; rw [hae] at this; omega
    obtain ⟨m, hme⟩ : ∃ m, lowOf l1 n a j2 = m := ⟨_, rfl⟩
    have hmn : m < n := by have := lowOf_or l1 n a j2; rw [hme] at this; omega
    have h2 := low2 l1 k m (by rw [hlen, hj1, hj2, hae]; exact hme)
    rw [hj1] at hw1
    rw [hj2] at hw2
    rw [hj0] at hw0 hw1 hw2
    have H2 : Hid _ := h2
    rw [hae] at hlo1
    clear hj1 hj2 hj0 hae h2
    go_wp2_with fail
    go_at_call 43
    refine hlo1.mono ?_
    rintro e w2 ⟨rfl, hB2⟩
    have hH2 := hH.later hB2
    have hlo2 := lower_any w2 b o g n c cur T l1 a j2 hH2 han
    rw [hme] at hlo2
    clear hme hlo1
    go_wp2_with fail
    go_at_call 43
    refine hlo2.mono ?_
    rintro e w3 ⟨rfl, hB3⟩
    have hH3 := hH2.later hB3
    have hK3 : Keep [g] w w3 := (hK1.trans (Keep.of_below hB2)).trans (Keep.of_below hB3)
    clear hlo2 hH hH2 hB2 hB3 hK1
    rcases H2.out with ⟨hmk, hle⟩ | ⟨ha0, hal, hap, hlt, hmlt, hle⟩
    · subst hmk
      have hup := hU1.done (by omega) hle
      go_wp2
      refine bodyPost_ret (results_none rfl _ _ _) rfl ?_
      exact ⟨⟨_, rfl⟩, ⟨l1, hH3, hP1, hup⟩, hK3⟩
    · have heq : ((m : Int) == (k : Int)) = false := by simp; omega
      have heq2 : ¬ m = k := by omega
      have heq3 : ¬ (m : Int) = (k : Int) := by omega
      have hsw := swap_any w3 b o g n c cur T l1 k m hH3 hk hmn
      have hstep := hU1.step (by omega) ha0 hal hap hlt hle
      have hperm := (swapL_perm l1 k m (by omega) (by omega)).trans hP1
      clear hle hlt
      go_wp2_with fail
      go_at_call 44
      refine hsw.mono ?_
      rintro e w4 ⟨⟨u, rfl⟩, hH4, hK4⟩
      go_wp2
      go_roundw
      case rel => exact ⟨m, _, hmn, rfl, hH4, hperm, hstep, hK3.trans hK4⟩
      case measure => simp [intOf]; omega
end Go.Proofs.Ytafbkdpheneceaa
