import Derived.Test.YtafbkdpheneceaaQExZ1
namespace Go.Proofs.Ytafbkdpheneceaa
open Go.RowKit Go.Shelf

/-! The landed extent: Free, Taken -/
def MtQ (l : List Pr) (p : Pr) (q : Bool) : Prop := q = true ↔ ∃ s ∈ l, meetsB p s = true
def FcQ (l : List Pr) (p : Pr) (v : Value) : Prop := ∃ q, v = .bool q ∧ MtQ l p q
def FcN (l : List Pr) (p : Pr) (v : Value) : Prop := ∃ q, v = .bool (!q) ∧ MtQ l p q
set_option linter.unusedSimpArgs false in
set_option maxHeartbeats 4000000 in
theorem xfree_any (w : World) (b : Nat) (st : XSt) (sv : Value) (l : List Pr) (a n : Int) (h : ExAt w b st sv l) (ha : i64 a) (hn : i64 n) :
    Calls Try.prog 9 #[.pointer (some ⟨b, 0, none⟩), .int .i64 a, .int .i64 n] w fun e w' => e = .returned (.bool (xOk st a n false)) ∧ XStep EIs (b :: sv.ownBlock.toList) w (.pointer (some ⟨b, 0, none⟩)) (xTurn st a n false) w' := by
  by_cases h0 : n = 0
  · subst h0
    rw [xTurn_0.1, xTurn_0.2]
    have hq := h.quiet (Below.refl _ _)
    clear ha hn
    go_enter Try.func9, Try.ntmps9
    go_wp2_with fail
    go_ret
    exact ⟨rfl, hq⟩
  · have h0b : (n == 0) = false := by simp [h0]
    have hpa := part_any w b st.fr st.hi a n h.at_.c0 h.at_.c1 h.hi ha hn
    have hlen := h.len
    obtain ⟨xp, cp, rfl⟩ := (h.at_.own.isK spE_ok).len
    obtain ⟨k, hk⟩ : ∃ k, l.length = k := ⟨_, rfl⟩
    rw [hk] at h hlen ⊢
    cases hpb : partB st.fr st.hi a n
    · rw [xTurnNo (xok_part h0 hpb), xok_part h0 hpb]
      rw [hpb] at hpa
      go_enter Try.func9, Try.ntmps9
      go_wp2_with fail
      go_at_call 23
      refine hpa.mono ?_
      rintro e w1 ⟨rfl, hB1⟩
      have hB2 := (hB1.trans (below_alloc w1 (.cells (prA prZ) 56) |>.mono hB1.size))
      clear hpa
      go_upto_region 6 with fail
      generalize w1.alloc (.cells (prA prZ) 56) = X at hB2 ⊢
      refine wp_reliesT [Fx (.bool false), Fx (.bool true), Fx (.bool true), Fx (undef), Fx (undef), Fx (undef), Fx (undef), Fx (undef), Fx (undef), Fx (undef), Fx (undef)] (by kernel_rfl) (by kernel_rfl) ?_ ?_ ?_
      · repeat' (first | exact all_nil | apply all_cons)
        all_goals intro v y y' hv hb
        all_goals first | exact Fx_mono _ _ _ _ hv hb
      · refine ⟨?_, ?_, ?_, ?_, ?_, ?_, ?_, ?_, ?_, ?_, ?_, trivial⟩
        all_goals
          intro ρ x hp ρc ρg ρf ho hd
          have o8 : ρ (.tmp 8) = .bool false := ho 8 rfl
          clear ho
          simp only [depsR, depR, slotR, Fx, List.getElem?_cons_succ, List.getElem?_cons_zero, Region.binds, forall_const] at hd
          simp only [guardR]
          go_split_ands
        · go_simp
        · go_simp
        · go_simp
        · refine ⟨fun hy => ?_, fun _ => rfl⟩
          exfalso; simp [yieldR, slotR, undef, *] at hy
        · refine ⟨fun hy => ?_, fun _ => rfl⟩
          exfalso; simp [yieldR, slotR, undef, *] at hy
        · refine ⟨fun hy => ?_, fun _ => rfl⟩
          exfalso; simp [yieldR, slotR, undef, *] at hy
        · refine ⟨fun hy => ?_, fun _ => rfl⟩
          exfalso; simp [yieldR, slotR, undef, *] at hy
        · refine ⟨fun hy => ?_, fun _ => rfl⟩
          exfalso; simp [yieldR, slotR, undef, *] at hy
        · refine ⟨fun hy => ?_, fun _ => rfl⟩
          exfalso; simp [yieldR, slotR, undef, *] at hy
        · refine ⟨fun hy => ?_, fun _ => rfl⟩
          exfalso; simp [yieldR, slotR, undef, *] at hy
        · refine ⟨fun hy => ?_, fun _ => rfl⟩
          exfalso; simp [yieldR, slotR, undef, *] at hy
      · intro vs x2 hp hw
        simp only [owed, Fx] at hw
        obtain ⟨e0, e1, e2, e3, e4, e5, e6, e7, e8, e9, e10, -⟩ := hw
        simp only [List.length_cons, List.length_nil, List.take_succ_cons, List.take_zero, List.drop_succ_cons, List.drop_zero, asg, List.cons_append, List.nil_append, e0, e1, e2, e3, e4, e5, e6, e7, e8, e9, e10]
        clear e0 e1 e2 e3 e4 e5 e6 e7 e8 e9 e10
        have hq := h.quiet (hB2.trans (hp.mono hB2.size))
        go_wp2_with fail
        go_ret
        exact ⟨rfl, hq⟩
    · rw [hpb, if_pos rfl] at hpa
      have hxo := xok_taken h.fr h0 hpb
      unfold partB at hpb
      rw [decide_eq_true_eq] at hpb
      obtain ⟨Z, hZ⟩ : ∃ q, xOk st a n false = q := ⟨_, rfl⟩
      obtain ⟨st', hst'⟩ : ∃ s, xTurn st a n false = s := ⟨_, rfl⟩
      rw [hZ, hst']
      have hxo' : Hid _ := hxo
      have HZ : Hid _ := hZ
      have HST : Hid _ := hst'
      clear hxo hZ hst'
      go_enter Try.func9, Try.ntmps9
      go_wp2_with fail
      go_at_call 23
      refine hpa.mono ?_
      rintro e w1 ⟨rfl, hB1⟩
      clear hpa
      have hB2 : Below w.heap.size w (w1.alloc (.cells (prA (a, a + n)) 56)) := hB1.trans (below_alloc w1 (.cells (prA (a, a + n)) 56) |>.mono hB1.size)
      have h2 := h.later hB2
      have k7 := RowC.newB w1 (prA (a, a + n)) 56
      have hs7 : w.heap.size ≤ w1.heap.size := hB1.size
      obtain ⟨g7, hg7⟩ : ∃ g, w1.heap.size = g := ⟨_, rfl⟩
      rw [hg7] at k7 hs7
      have hK2 : Keep (b :: (Value.slice xp k cp).ownBlock.toList) w (w1.alloc (.cells (prA (a, a + n)) 56)) := Keep.of_below hB2
      have hbw : b < w.heap.size := h.at_.blt
      have hos : ∀ q, (Value.slice xp k cp).ownBlock = some q → q < w.heap.size := fun q hq => (World.ownsRow.lt h.at_.own q hq).2
      go_upto_region 6 with fail
      try simp only [hg7]
      generalize w1.alloc (.cells (prA (a, a + n)) 56) = X at hB2 h2 k7 hK2 ⊢
      clear hB1 h
      refine wp_reliesT [Fx (.bool true), Fx (.bool false), Fx (.bool false), Fx (.pointer (some ⟨b, 0, none⟩)), Fx (.pointer (some ⟨b, 0, none⟩)), Fx (.pointer (some ⟨b, 2, none⟩)), Fx (.pointer (some ⟨b, 2, none⟩)), Fx (.slice xp k cp), Fx (.agg (prA (a, a + n))), Fx (.func (.func 29) #[.agg (prA (a, a + n))] #[]), fun v _ => FcQ l (a, a + n) v] (by kernel_rfl) (by kernel_rfl) ?_ ?_ ?_
      · repeat' (first | exact all_nil | apply all_cons)
        all_goals intro v y y' hv hb
        all_goals first | exact Fx_mono _ _ _ _ hv hb | exact hv
      · refine ⟨?_, ?_, ?_, ?_, ?_, ?_, ?_, ?_, ?_, ?_, ?_, trivial⟩
        all_goals
          intro ρ x hp ρc ρg ρf ho hd
          have o0 : ρ (.tmp 0) = .pointer (some ⟨b, 0, none⟩) := ho 0 rfl
          have o7 : ρ (.tmp 7) = .pointer (some ⟨g7, 0, none⟩) := ho 7 rfl
          have o8 : ρ (.tmp 8) = .bool true := ho 8 rfl
          clear ho
          have hx := h2.later hp
          have kc := hx.at_.cell
          have q7 := k7.kept hp
          have r1 := q7.1
          have r2 := q7.2
          have r3 : (rowAt x g7).size = 2 := by rw [r2]; exact prA_size _
          simp only [depsR, depR, slotR, Fx, List.getElem?_cons_succ, List.getElem?_cons_zero, Region.binds, forall_const] at hd
          simp only [guardR]
          go_split_ands
        · go_simp
        · go_simp
        · go_simp
        · refine ⟨fun _ => ?_, fun hy => absurd (by simp [yieldR, slotR, *]) hy⟩
          go_simp
        · refine ⟨fun _ => ?_, fun hy => absurd (by simp [yieldR, slotR, *]) hy⟩
          go_simp
        · refine ⟨fun _ => ?_, fun hy => absurd (by simp [yieldR, slotR, *]) hy⟩
          go_simp
        · refine ⟨fun _ => ?_, fun hy => absurd (by simp [yieldR, slotR, *]) hy⟩
          go_simp
        · refine ⟨fun _ => ?_, fun hy => absurd (by simp [yieldR, slotR, *]) hy⟩
          go_simp
        · refine ⟨fun _ => ?_, fun hy => absurd (by simp [yieldR, slotR, *]) hy⟩
          go_simp
        · refine ⟨fun _ => ?_, fun hy => absurd (by simp [yieldR, slotR, *]) hy⟩
          go_simp
        · refine ⟨fun _ => ?_, fun hy => absurd (by simp [yieldR, slotR, *]) hy⟩
          go_simp
          refine (contains_meets x xp k cp l hk (hx.at_.own.isK spE_ok) (by omega) (a, a + n)).mono ?_
          rintro e w' ⟨⟨q, rfl, hq⟩, hw⟩
          exact ⟨_, rfl, ⟨q, rfl, hq⟩, hw⟩
      · intro vs x2 hp hw
        simp only [owed, Fx] at hw
        obtain ⟨e0, e1, e2, e3, e4, e5, e6, e7, e8, e9, ⟨q, e10, hq⟩, -⟩ := hw
        simp only [List.length_cons, List.length_nil, List.take_succ_cons, List.take_zero, List.drop_succ_cons, List.drop_zero, asg, List.cons_append, List.nil_append, e0, e1, e2, e3, e4, e5, e6, e7, e8, e9, e10]
        clear e0 e1 e2 e3 e4 e5 e6 e7 e8 e9 e10
        have h3 := h2.later hp
        have k73 := k7.kept hp
        have hK3 : Keep (b :: (Value.slice xp k cp).ownBlock.toList) w x2 := hK2.trans (Keep.of_below hp)
        clear h2 k7 hK2 hp
        have hxo := hxo'.out
        have hst' := HST.out
        cases q
        · have hno : ∀ s ∈ l, ¬ (a < s.2 ∧ s.1 < a + n) := fun s hs hh => by
            have := hq.2 ⟨s, hs, decide_eq_true hh⟩
            cases this
          obtain rfl : Z = true := by rw [← HZ.out]; exact hxo.2 hno
          rw [xTurn_eq HZ.out] at hst'
          have hJ := h3.fr.jn a n (by omega) hpb.2.1 hpb.2.2 hno
          rw [hst'] at hJ
          have hle := h3.le
          have hhi := h3.hi
          have hjo := joined_any st' x2 b _ _ _ l (a, a + n) h3.at_ h3.hp (by omega) hJ
          have r1 := k73.1
          have r2 := k73.2
          have r3 : (rowAt x2 g7).size = 2 := by rw [r2]; exact prA_size _
          clear hno hJ hxo hxo' hq HST
          go_wp2_with fail
          go_at_call 30
          refine hjo.mono ?_
          rintro e w4 ⟨⟨s', v4, l4, rfl, hH4, hU4, hl4, hF4, hv4⟩, hK4⟩
          have hbs := hF4.bnd s' (List.mem_cons_self ..)
          have e1 : st'.fr = st.fr := by rw [← hst']
          have e2 : st'.hi = st.hi := by rw [← hst']
          rw [e1, e2] at hbs
          have hgi := give_any w4 b _ _ _ l4 s' hH4 (by omega) hU4 (by omega) (by omega) (by omega) (by omega)
          have hgv : gv s' = [s'] := by unfold gv; rw [if_pos hbs.2.1]
          rw [hgv] at hgi
          have hsw : w.heap.size ≤ w4.heap.size := by have := hK3.size; have := hK4.size; omega
          have hsw2 : x2.heap.size ≤ w4.heap.size := hK4.size
          have hK5 := hK3.trans hK4
          clear hjo h3 k73 hK3 hK4 hH4 r1 r2 r3
          go_wp2_with fail
          go_at_call 22
          refine hgi.mono ?_
          rintro e w7 ⟨⟨u7, rfl⟩, ⟨v8, l8, hH8, hP8, hU8, hv8⟩, hK9⟩
          have hE : ExAt w7 b st' v8 l8 := ⟨by rw [e1, e2]; exact hH8, hU8, hF4.perm hP8, by rw [e1, e2]; exact hle, by rw [e2]; exact hhi⟩
          have hfin := hE.step (sv := .slice xp k cp) (w := w) (hK5.trans2 hK9 (fun q hq => by
            rcases List.mem_cons.1 hq with rfl | hq
            · exact .inl (by simp)
            · exact .inl (List.mem_cons_of_mem _ (by have := hv4 q (by simpa using hq); simpa using this)))) (fun q hq => by
            rcases hv8 q hq with h9 | h9
            · exact .inl (hv4 q h9)
            · exact .inr (by omega))
          clear hgi hH8 hE hK9 hv8 hP8 hF4
          go_wp2_with fail
          go_ret
          exact ⟨rfl, hfin⟩
        · obtain rfl : Z = false := by
            cases Z with
            | false => rfl
            | true =>
              exfalso
              obtain ⟨p, hp, hm⟩ := hq.1 rfl
              exact hxo.1 HZ.out p hp (of_decide_eq_true hm)
          obtain rfl : st = st' := by rw [← hst', xTurnNo HZ.out]
          have hfin := h3.step hK3 (fun _ hq => .inl hq)
          go_wp2_with fail
          go_ret
          exact ⟨rfl, hfin⟩
theorem xtaken_eq {st : XSt} {l : List Pr} {a : Int} (hF : Fr st l) (h : partB st.fr st.hi a 1 = true) : xTaken st a = true ↔ ¬ ∃ p ∈ l, meetsB (a, a + 1) p = true := by
  unfold partB at h
  rw [decide_eq_true_eq] at h
  unfold xTaken
  rw [decide_eq_true (by omega : (st.fr : Int) ≤ a ∧ a < (st.hi : Int)), Bool.true_and]
  have hc := hF.cov a.toNat (by omega) (by omega)
  rw [Int.toNat_of_nonneg (by omega)] at hc
  constructor
  · rintro h1 ⟨p, hp, hm⟩
    have hm := of_decide_eq_true hm
    simp only at hm
    rw [hc.2 ⟨p, hp, by omega, by omega⟩] at h1
    cases h1
  · intro h1
    cases hf : st.f a.toNat with
    | true => rfl
    | false =>
      exfalso
      obtain ⟨p, hp, e1, e2⟩ := hc.1 hf
      exact h1 ⟨p, hp, decide_eq_true (by simp only; omega)⟩
set_option linter.unusedSimpArgs false in
set_option maxHeartbeats 4000000 in
theorem xtaken_any (w : World) (b : Nat) (st : XSt) (sv : Value) (l : List Pr) (a : Int) (h : ExAt w b st sv l) (ha : i64 a) :
    Calls Try.prog 11 #[.pointer (some ⟨b, 0, none⟩), .int .i64 a] w fun e w' => e = .returned (.bool (xTaken st a)) ∧ Below w.heap.size w w' := by
  have hpa := part_any w b st.fr st.hi a 1 h.at_.c0 h.at_.c1 h.hi ha (by unfold i64; omega)
  have hlen := h.len
  obtain ⟨xp, cp, rfl⟩ := (h.at_.own.isK spE_ok).len
  obtain ⟨k, hk⟩ : ∃ k, l.length = k := ⟨_, rfl⟩
  rw [hk] at h hlen
  obtain ⟨Z, hZ⟩ : ∃ q, xTaken st a = q := ⟨_, rfl⟩
  cases hpb : partB st.fr st.hi a 1
  · have hz : xTaken st a = false := by
      unfold partB at hpb
      rw [decide_eq_false_iff_not] at hpb
      unfold xTaken
      rw [decide_eq_false (by omega)]; rfl
    rw [hz]
    rw [hpb] at hpa
    clear hZ
    · go_enter Try.func11, Try.ntmps11
      go_wp2_with fail
      go_at_call 23
      refine hpa.mono ?_
      rintro e w1 ⟨rfl, hB1⟩
      have hB2 := (hB1.trans (below_alloc w1 (.cells (prA prZ) 56) |>.mono hB1.size))
      clear hpa
      go_upto_region 4 with fail
      generalize w1.alloc (.cells (prA prZ) 56) = X at hB2 ⊢
      refine wp_reliesT [Fx (.bool false), Fx (.bool false), Fx (undef), Fx (undef), Fx (undef), Fx (undef), Fx (undef), Fx (undef), Fx (undef), Fx (undef), Fx (undef), Fx (.bool false)] (by kernel_rfl) (by kernel_rfl) ?_ ?_ ?_
      · repeat' (first | exact all_nil | apply all_cons)
        all_goals intro v y y' hv hb
        all_goals first | exact Fx_mono _ _ _ _ hv hb
      · refine ⟨?_, ?_, ?_, ?_, ?_, ?_, ?_, ?_, ?_, ?_, ?_, ?_, trivial⟩
        all_goals
          intro ρ x hp ρc ρg ρf ho hd
          have o6 : ρ (.tmp 6) = .bool false := ho 6 rfl
          clear ho
          simp only [depsR, depR, slotR, Fx, List.getElem?_cons_succ, List.getElem?_cons_zero, Region.binds, forall_const] at hd
          simp only [guardR]
          go_split_ands
        · go_simp
        · go_simp
        · refine ⟨fun hy => ?_, fun _ => rfl⟩
          exfalso; simp [yieldR, slotR, undef, *] at hy
        · refine ⟨fun hy => ?_, fun _ => rfl⟩
          exfalso; simp [yieldR, slotR, undef, *] at hy
        · refine ⟨fun hy => ?_, fun _ => rfl⟩
          exfalso; simp [yieldR, slotR, undef, *] at hy
        · refine ⟨fun hy => ?_, fun _ => rfl⟩
          exfalso; simp [yieldR, slotR, undef, *] at hy
        · refine ⟨fun hy => ?_, fun _ => rfl⟩
          exfalso; simp [yieldR, slotR, undef, *] at hy
        · refine ⟨fun hy => ?_, fun _ => rfl⟩
          exfalso; simp [yieldR, slotR, undef, *] at hy
        · refine ⟨fun hy => ?_, fun _ => rfl⟩
          exfalso; simp [yieldR, slotR, undef, *] at hy
        · refine ⟨fun hy => ?_, fun _ => rfl⟩
          exfalso; simp [yieldR, slotR, undef, *] at hy
        · refine ⟨fun hy => ?_, fun _ => rfl⟩
          exfalso; simp [yieldR, slotR, undef, *] at hy
        · go_simp
      · intro vs x2 hp hw
        simp only [owed, Fx] at hw
        obtain ⟨e0, e1, e2, e3, e4, e5, e6, e7, e8, e9, e10, e11, -⟩ := hw
        simp only [List.length_cons, List.length_nil, List.take_succ_cons, List.take_zero, List.drop_succ_cons, List.drop_zero, asg, List.cons_append, List.nil_append, e0, e1, e2, e3, e4, e5, e6, e7, e8, e9, e10, e11]
        clear e0 e1 e2 e3 e4 e5 e6 e7 e8 e9 e10 e11
        have hq := (hB2.trans (hp.mono hB2.size))
        go_wp2_with fail
        go_ret
        exact ⟨rfl, hq⟩
  · rw [hpb, if_pos rfl] at hpa
    have hxo := xtaken_eq h.fr hpb
    rw [hZ] at hxo ⊢
    have HXO : Hid _ := hxo
    clear hxo hZ hpb
    · go_enter Try.func11, Try.ntmps11
      go_wp2_with fail
      go_at_call 23
      refine hpa.mono ?_
      rintro e w1 ⟨rfl, hB1⟩
      clear hpa
      have hB2 : Below w.heap.size w (w1.alloc (.cells (prA (a, a + 1)) 56)) := hB1.trans (below_alloc w1 (.cells (prA (a, a + 1)) 56) |>.mono hB1.size)
      have h2 := h.later hB2
      have k7 := RowC.newB w1 (prA (a, a + 1)) 56
      obtain ⟨g7, hg7⟩ : ∃ g, w1.heap.size = g := ⟨_, rfl⟩
      rw [hg7] at k7
      go_upto_region 4 with fail
      try simp only [hg7]
      generalize w1.alloc (.cells (prA (a, a + 1)) 56) = X at hB2 h2 k7 ⊢
      clear hB1 h
      refine wp_reliesT [Fx (.bool true), Fx (.bool true), Fx (.pointer (some ⟨b, 0, none⟩)), Fx (.pointer (some ⟨b, 0, none⟩)), Fx (.pointer (some ⟨b, 2, none⟩)), Fx (.pointer (some ⟨b, 2, none⟩)), Fx (.slice xp k cp), Fx (.agg (prA (a, a + 1))), Fx (.func (.func 29) #[.agg (prA (a, a + 1))] #[]), fun v _ => FcQ l (a, a + 1) v, fun v _ => FcN l (a, a + 1) v, fun v _ => FcN l (a, a + 1) v] (by kernel_rfl) (by kernel_rfl) ?_ ?_ ?_
      · repeat' (first | exact all_nil | apply all_cons)
        all_goals intro v y y' hv hb
        all_goals first | exact Fx_mono _ _ _ _ hv hb | exact hv
      · refine ⟨?_, ?_, ?_, ?_, ?_, ?_, ?_, ?_, ?_, ?_, ?_, ?_, trivial⟩
        all_goals
          intro ρ x hp ρc ρg ρf ho hd
          have o0 : ρ (.tmp 0) = .pointer (some ⟨b, 0, none⟩) := ho 0 rfl
          have o5 : ρ (.tmp 5) = .pointer (some ⟨g7, 0, none⟩) := ho 5 rfl
          have o6 : ρ (.tmp 6) = .bool true := ho 6 rfl
          clear ho
          have hx := h2.later hp
          have kc := hx.at_.cell
          have q7 := k7.kept hp
          have r1 := q7.1
          have r2 := q7.2
          have r3 : (rowAt x g7).size = 2 := by rw [r2]; exact prA_size _
          simp only [depsR, depR, slotR, Fx, List.getElem?_cons_succ, List.getElem?_cons_zero, Region.binds, forall_const] at hd
          simp only [guardR]
          go_split_ands
        · go_simp
        · go_simp
        · refine ⟨fun _ => ?_, fun hy => absurd (by simp [yieldR, slotR, *]) hy⟩
          go_simp
        · refine ⟨fun _ => ?_, fun hy => absurd (by simp [yieldR, slotR, *]) hy⟩
          go_simp
        · refine ⟨fun _ => ?_, fun hy => absurd (by simp [yieldR, slotR, *]) hy⟩
          go_simp
        · refine ⟨fun _ => ?_, fun hy => absurd (by simp [yieldR, slotR, *]) hy⟩
          go_simp
        · refine ⟨fun _ => ?_, fun hy => absurd (by simp [yieldR, slotR, *]) hy⟩
          go_simp
        · refine ⟨fun _ => ?_, fun hy => absurd (by simp [yieldR, slotR, *]) hy⟩
          go_simp
        · refine ⟨fun _ => ?_, fun hy => absurd (by simp [yieldR, slotR, *]) hy⟩
          go_simp
        · refine ⟨fun _ => ?_, fun hy => absurd (by simp [yieldR, slotR, *]) hy⟩
          go_simp
          refine (contains_meets x xp k cp l hk (hx.at_.own.isK spE_ok) (by omega) (a, a + 1)).mono ?_
          rintro e w' ⟨⟨q, rfl, hq⟩, hw⟩
          exact ⟨_, rfl, ⟨q, rfl, hq⟩, hw⟩
        · refine ⟨fun _ => ?_, fun hy => absurd (by simp [yieldR, slotR, *]) hy⟩
          obtain ⟨q9, hq8, hq9⟩ : FcQ l (a, a + 1) (ρ (.tmp 24)) := by first | exact hd | exact hd.1 | assumption
          go_simp
          exact ⟨q9, rfl, hq9⟩
        · obtain ⟨q9, hq8, hq9⟩ : FcN l (a, a + 1) (ρ (.tmp 25)) := by first | exact hd.2 | assumption
          go_simp
          exact ⟨q9, rfl, hq9⟩
      · intro vs x2 hp hw
        simp only [owed, Fx] at hw
        obtain ⟨e0, e1, e2, e3, e4, e5, e6, e7, e8, ⟨q, e9, hq⟩, ⟨q2, e10, hq2⟩, ⟨q3, e11, hq3⟩, -⟩ := hw
        simp only [List.length_cons, List.length_nil, List.take_succ_cons, List.take_zero, List.drop_succ_cons, List.drop_zero, asg, List.cons_append, List.nil_append, e0, e1, e2, e3, e4, e5, e6, e7, e8, e9, e10, e11]
        clear e0 e1 e2 e3 e4 e5 e6 e7 e8 e9 e10 e11
        have hB3 := hB2.trans (hp.mono hB2.size)
        have hz : (!q3) = Z := by
          have h5 := HXO.out
          unfold MtQ at hq3
          rw [← hq3] at h5
          rw [Bool.eq_iff_iff, h5]
          cases q3 <;> simp
        go_wp2_with fail
        go_ret
        exact ⟨by rw [← hz]; rfl, hB3⟩
end Go.Proofs.Ytafbkdpheneceaa
