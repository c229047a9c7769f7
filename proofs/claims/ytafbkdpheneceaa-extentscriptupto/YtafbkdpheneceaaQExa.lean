import Derived.Test.YtafbkdpheneceaaQExw
namespace Go.Proofs.Ytafbkdpheneceaa
open Go.RowKit

/-! assaylaw08's answered: one call of both -/
structure Both (X : World → Value → XSt → List Nat → Prop) (w : World) (vx vr : Value) (st : XSt) (F G : List Nat) : Prop where
  x : X w vx st F
  r : R8 w vr st G
  apart : ∀ q ∈ F, q ∉ G
def acted (st : XSt) (o : Op8) : XSt := if o.k = 0 then xTurn st o.a o.b true else if o.k = 1 then xTurn st o.a o.b false else st
/-- Both in a new state: they lie where they lay, or in new blocks. -/
def BStep (X : World → Value → XSt → List Nat → Prop) (F G : List Nat) (w : World) (vx vr : Value) (st : XSt) (w' : World) : Prop := ∃ F' G', Both X w' vx vr st F' G' ∧ (∀ q ∈ F', q ∈ F ∨ w.heap.size ≤ q) ∧ (∀ q ∈ G', q ∈ G ∨ w.heap.size ≤ q) ∧ Keep (F ++ G) w w'
section
variable {X : World → Value → XSt → List Nat → Prop}
/-- First the one, then the other. -/
theorem Both.steps (O : ExtOk X) {w w1 w2 : World} {vx vr : Value} {st st' : XSt} {F G : List Nat} (h : Both X w vx vr st F G) (h1 : XStep X F w vx st' w1) (h2 : ∀ G1, (∀ q ∈ G1, q ∈ G) → R8 w1 vr st G1 → G1 = G → XStep R8 G w1 vr st' w2) : BStep X F G w vx vr st' w2 := by
  obtain ⟨F1, x1, x2, x3⟩ := h1
  have hr1 : R8 w1 vr st G := h.r.keeps x3 (fun q hq hm => h.apart q hm hq)
  obtain ⟨G2, r1, r2, r3⟩ := h2 G (fun _ hq => hq) hr1 rfl
  have hG := h.r.lt
  have hF1 := O.lt x1
  have hap1 : ∀ q ∈ F1, q ∉ G := fun q hq hm => (x2 q hq).elim (fun hf => h.apart q hf hm) (fun hs => by have := hG q hm; omega)
  refine ⟨F1, G2, ⟨O.keeps x1 r3 hap1, r1, fun q hq hm => ?_⟩, x2, fun q hq => (r2 q hq).imp id (fun hs => Nat.le_trans x3.size hs), ?_⟩
  · rcases r2 q hm with hg | hs
    · exact hap1 q hq hg
    · have := hF1 q hq; omega
  · refine ⟨r3.os.trans x3.os, r3.tape.trans x3.tape, r3.output.trans x3.output, Nat.le_trans x3.size r3.size, fun k hk hn => ?_⟩
    rw [List.mem_append, not_or] at hn
    exact (r3.block k (Nat.lt_of_lt_of_le hk x3.size) hn.2).trans (x3.block k hk hn.1)
theorem Both.keeps (O : ExtOk X) {w w' : World} {vx vr : Value} {st : XSt} {F G H : List Nat} (h : Both X w vx vr st F G) (hK : Keep H w w') (h1 : ∀ q ∈ F, q ∉ H) (h2 : ∀ q ∈ G, q ∉ H) : Both X w' vx vr st F G :=
  ⟨O.keeps h.x hK h1, h.r.keeps hK h2, h.apart⟩
theorem Both.later (O : ExtOk X) {w w' : World} {vx vr : Value} {st : XSt} {F G : List Nat} (h : Both X w vx vr st F G) (hb : Below w.heap.size w w') : Both X w' vx vr st F G := h.keeps O (H := []) (Keep.of_below hb) (fun _ _ => by simp) (fun _ _ => by simp)
theorem BStep.from_below {F G : List Nat} {w w1 w2 : World} {vx vr : Value} {st : XSt} (hb : Below w.heap.size w w1) (h : BStep X F G w1 vx vr st w2) : BStep X F G w vx vr st w2 := by
  obtain ⟨F', G', h1, h2, h3, h4⟩ := h
  exact ⟨F', G', h1, fun q hq => (h2 q hq).imp id (fun hs => Nat.le_trans hb.size hs), fun q hq => (h3 q hq).imp id (fun hs => Nat.le_trans hb.size hs), (Keep.of_below hb).trans h4⟩
set_option linter.unusedSimpArgs false in
set_option maxRecDepth 100000 in
set_option maxHeartbeats 2000000 in
theorem answered_any (O : ExtOk X) (w : World) (vx vr : Value) (st : XSt) (F G : List Nat) (o : Op8) (h : Both X w vx vr st F G) (ho : o.Ok) :
    Calls Try.prog 16 #[vx, vr, .agg (op8A o)] w fun e w' => e = .returned (.bool true) ∧ BStep X F G w vx vr (acted st o) w' := by
  obtain ⟨hk, hon, ha, hb⟩ := ho
  obtain ⟨ad, rfl⟩ := O.ptr h.x
  obtain ⟨rd, rfl⟩ := h.r.ptr
  obtain ⟨st', hst'⟩ : ∃ st', acted st o = st' := ⟨_, rfl⟩
  have HST : Hid (acted st o = st') := hst'
  rw [hst']
  clear hst'
  have hA := below_alloc w (.cells (op8A o) 29)
  have hrow : (w.alloc (.cells (op8A o) 29)).rangeAt w.heap.size 0 (opE8.enc o) := fun j u hu => by
    rw [Nat.zero_add, cell_of_row _ _ j _ _ _ (heap_alloc_last w _)]
    rw [opE8_enc, Array.getElem?_toList] at hu; exact hu
  obtain ⟨c0, -, c2, c3⟩ := op8_cells hrow
  simp only [Nat.zero_add] at c0 c2 c3
  clear hrow
  go_enter Try.func16, Try.ntmps16
  go_upto_region 1 with fail
  have hW := h.later O hA
  obtain ⟨no, hno⟩ : ∃ no, w.heap.size = no := ⟨_, rfl⟩
  have hnF : no ∉ F := fun hm => by have := O.lt h.x no hm; omega
  have hnG : no ∉ G := fun hm => by have := h.r.lt no hm; omega
  rw [hno] at c0 c2 c3 ⊢
  have HA : Hid _ := hA
  generalize w.alloc (.cells (op8A o) 29) = W at c0 c2 c3 hW HA ⊢
  clear hno h hA
  obtain ⟨ha0, ha1⟩ := ha
  obtain ⟨hb0, hb1⟩ := hb
  have HI : Hid (i64 o.a ∧ i64 o.b) := ⟨⟨ha0, ha1⟩, ⟨hb0, hb1⟩⟩
  by_cases k0 : o.k = 0
  · have hs : st' = xTurn st o.a o.b true := by rw [← HST.out]; unfold acted; rw [if_pos k0]
    have Hs : Hid (xTurn st o.a o.b true = st') := hs.symm
    obtain ⟨z, hz⟩ : ∃ z, xOk st o.a o.b true = z := ⟨_, rfl⟩
    have Hz : Hid (xOk st o.a o.b true = z) := hz
    have HW : Hid (Both X W (.pointer (some ad)) (.pointer (some rd)) st F G) := hW
    clear hs hz hW
    go_upto_region 3 with fail
    clear c0 k0
    refine wp_reliesK (kokp8 (G := F)) 5 [0, 1, 2, 3, 4] [Fx (.pointer (some ad)), Fx (.pointer (some ⟨no, 2, none⟩)), Fx (.int .i64 (o.a)), Fx (.pointer (some ⟨no, 3, none⟩)), Fx (.int .i64 (o.b)), fun v x => v = .bool z ∧ ∃ F', X x (.pointer (some ad)) st' F' ∧ ∀ q ∈ F', q ∈ F ∨ W.heap.size ≤ q, Fx (.pointer (some rd)), Fx (.pointer (some ⟨no, 2, none⟩)), Fx (.int .i64 (o.a)), Fx (.pointer (some ⟨no, 3, none⟩)), Fx (.int .i64 (o.b))] (by simp) (by kernel_rfl) (by kernel_rfl) (by kernel_rfl) ?_ ?_ ?_ ?_
    · repeat' (first | exact all_nil | apply all_cons)
      all_goals intro v y y' hv hb
      all_goals first | exact Fx_mono _ _ _ _ hv hb | (obtain ⟨h1, F9, h2, h3⟩ := hv; exact ⟨h1, F9, O.keeps (G := []) h2 (Keep.of_below hb) (fun _ _ => by simp), h3⟩)
    · simp only [List.eraseIdx]
      repeat' (first | exact all_nil | apply all_cons)
      all_goals intro v y y' hv hb
      all_goals first | exact (show Fx _ _ _ from hv)
    · refine ⟨?_, ?_, ?_, ?_, ?_, ?_, ?_, ?_, ?_, ?_, ?_, trivial⟩
      all_goals
        intro ρ x hk hp ρc ρg ρf ho hd
        first | (replace hp := hp (by decide)) | clear hp
        have o0 : ρ (.tmp 0) = .pointer (some ad) := ho 0 rfl
        have o1 : ρ (.tmp 1) = .pointer (some rd) := ho 1 rfl
        have o5 : ρ (.tmp 5) = .pointer (some ⟨no, 0, none⟩) := ho 5 rfl
        clear ho
        have k2 := cell_keepF hk c2 hnF
        have k3 := cell_keepF hk c3 hnF
        simp only [depsR, depR, slotR, Fx, List.getElem?_cons_succ, List.getElem?_cons_zero, Region.binds, forall_const] at hd
        simp only [guardR, Nat.reduceBEq, cond_true, cond_false]
        go_split_ands
      · go_simp
      · go_simp
      · go_simp
      · go_simp
      · go_simp
      · go_simp
        have hX9 := O.keeps (G := []) HW.out.x (Keep.of_below hp) (fun _ _ => by simp)
        refine (O.take _ _ _ _ o.a o.b hX9 HI.out.1 HI.out.2).mono ?_
        rintro e x' ⟨rfl, F', g1, g2, g3⟩
        rw [Hz.out]
        rw [Hs.out] at g1
        exact ⟨_, rfl, ⟨rfl, F', g1, fun q hq => (g2 q hq).imp id (fun hh => Nat.le_trans hp.size hh)⟩, g3⟩
      · go_simp
      · go_simp
      · go_simp
      · go_simp
      · go_simp
    · intro vs x1 hk hw
      simp only [owed, Fx] at hw
      obtain ⟨e0, e1, e2, e3, e4, ⟨e5, F', hXn, hFn⟩, e6, e7, e8, e9, e10, -⟩ := hw
      simp only [List.length_cons, List.length_nil, List.take_succ_cons, List.take_zero, List.drop_succ_cons, List.drop_zero, asg, List.cons_append, List.nil_append, e0, e1, e2, e3, e4, e5, e6, e7, e8, e9, e10]
      clear e0 e1 e2 e3 e4 e5 e6 e7 e8 e9 e10
      have hr1 : R8 x1 (.pointer (some rd)) st G := HW.out.r.keeps hk (fun q hq hm => HW.out.apart q hm hq)
      have hR := refTurn8 x1 _ st G o.a o.b true hr1
      rw [Hz.out, Hs.out] at hR
      clear c2 c3
      go_wp2_with fail
      go_at_call 33
      refine hR.mono ?_
      rintro e w2 ⟨rfl, hr2⟩
      have HB : Hid (BStep X F G w (.pointer (some ad)) (.pointer (some rd)) st' w2) := BStep.from_below HA.out (HW.out.steps O ⟨F', hXn, hFn, hk⟩ (fun G1 _ _ _ => hr2))
      clear hR hr1 hr2 hXn hFn hk HW
      go_wp2
      go_ret
      exact ⟨by simp, HB.out⟩
  · by_cases k1 : o.k = 1
    · have hs : st' = xTurn st o.a o.b false := by rw [← HST.out]; unfold acted; rw [if_neg k0, if_pos k1]
      have Hs : Hid (xTurn st o.a o.b false = st') := hs.symm
      obtain ⟨z, hz⟩ : ∃ z, xOk st o.a o.b false = z := ⟨_, rfl⟩
      have Hz : Hid (xOk st o.a o.b false = z) := hz
      have HW : Hid (Both X W (.pointer (some ad)) (.pointer (some rd)) st F G) := hW
      clear hs hz hW
      go_upto_region 5 with fail
      clear c0 k0 k1
      refine wp_reliesK (kokp8 (G := F)) 5 [0, 1, 2, 3, 4] [Fx (.pointer (some ad)), Fx (.pointer (some ⟨no, 2, none⟩)), Fx (.int .i64 (o.a)), Fx (.pointer (some ⟨no, 3, none⟩)), Fx (.int .i64 (o.b)), fun v x => v = .bool z ∧ ∃ F', X x (.pointer (some ad)) st' F' ∧ ∀ q ∈ F', q ∈ F ∨ W.heap.size ≤ q, Fx (.pointer (some rd)), Fx (.pointer (some ⟨no, 2, none⟩)), Fx (.int .i64 (o.a)), Fx (.pointer (some ⟨no, 3, none⟩)), Fx (.int .i64 (o.b))] (by simp) (by kernel_rfl) (by kernel_rfl) (by kernel_rfl) ?_ ?_ ?_ ?_
      · repeat' (first | exact all_nil | apply all_cons)
        all_goals intro v y y' hv hb
        all_goals first | exact Fx_mono _ _ _ _ hv hb | (obtain ⟨h1, F9, h2, h3⟩ := hv; exact ⟨h1, F9, O.keeps (G := []) h2 (Keep.of_below hb) (fun _ _ => by simp), h3⟩)
      · simp only [List.eraseIdx]
        repeat' (first | exact all_nil | apply all_cons)
        all_goals intro v y y' hv hb
        all_goals first | exact (show Fx _ _ _ from hv)
      · refine ⟨?_, ?_, ?_, ?_, ?_, ?_, ?_, ?_, ?_, ?_, ?_, trivial⟩
        all_goals
          intro ρ x hk hp ρc ρg ρf ho hd
          first | (replace hp := hp (by decide)) | clear hp
          have o0 : ρ (.tmp 0) = .pointer (some ad) := ho 0 rfl
          have o1 : ρ (.tmp 1) = .pointer (some rd) := ho 1 rfl
          have o5 : ρ (.tmp 5) = .pointer (some ⟨no, 0, none⟩) := ho 5 rfl
          clear ho
          have k2 := cell_keepF hk c2 hnF
          have k3 := cell_keepF hk c3 hnF
          simp only [depsR, depR, slotR, Fx, List.getElem?_cons_succ, List.getElem?_cons_zero, Region.binds, forall_const] at hd
          simp only [guardR, Nat.reduceBEq, cond_true, cond_false]
          go_split_ands
        · go_simp
        · go_simp
        · go_simp
        · go_simp
        · go_simp
        · go_simp
          have hX9 := O.keeps (G := []) HW.out.x (Keep.of_below hp) (fun _ _ => by simp)
          refine (O.free _ _ _ _ o.a o.b hX9 HI.out.1 HI.out.2).mono ?_
          rintro e x' ⟨rfl, F', g1, g2, g3⟩
          rw [Hz.out]
          rw [Hs.out] at g1
          exact ⟨_, rfl, ⟨rfl, F', g1, fun q hq => (g2 q hq).imp id (fun hh => Nat.le_trans hp.size hh)⟩, g3⟩
        · go_simp
        · go_simp
        · go_simp
        · go_simp
        · go_simp
      · intro vs x1 hk hw
        simp only [owed, Fx] at hw
        obtain ⟨e0, e1, e2, e3, e4, ⟨e5, F', hXn, hFn⟩, e6, e7, e8, e9, e10, -⟩ := hw
        simp only [List.length_cons, List.length_nil, List.take_succ_cons, List.take_zero, List.drop_succ_cons, List.drop_zero, asg, List.cons_append, List.nil_append, e0, e1, e2, e3, e4, e5, e6, e7, e8, e9, e10]
        clear e0 e1 e2 e3 e4 e5 e6 e7 e8 e9 e10
        have hr1 : R8 x1 (.pointer (some rd)) st G := HW.out.r.keeps hk (fun q hq hm => HW.out.apart q hm hq)
        have hR := refTurn8 x1 _ st G o.a o.b false hr1
        rw [Hz.out, Hs.out] at hR
        clear c2 c3
        go_wp2_with fail
        go_at_call 33
        refine hR.mono ?_
        rintro e w2 ⟨rfl, hr2⟩
        have HB : Hid (BStep X F G w (.pointer (some ad)) (.pointer (some rd)) st' w2) := BStep.from_below HA.out (HW.out.steps O ⟨F', hXn, hFn, hk⟩ (fun G1 _ _ _ => hr2))
        clear hR hr1 hr2 hXn hFn hk HW
        go_wp2
        go_ret
        exact ⟨by simp, HB.out⟩
    · have hs : st' = st := by rw [← HST.out]; unfold acted; rw [if_neg k0, if_neg k1]
      subst hs
      by_cases k2 : o.k = 2
      · obtain ⟨z, hz⟩ : ∃ z, xTaken st' o.a = z := ⟨_, rfl⟩
        have Hz : Hid (xTaken st' o.a = z) := hz
        have HW : Hid (Both X W (.pointer (some ad)) (.pointer (some rd)) st' F G) := hW
        clear hz hW
        go_upto_region 7 with fail
        clear c0 k0 k1 k2
        refine wp_reliesK (kokp8 (G := F)) 3 [0, 1, 2] [Fx (.pointer (some ad)), Fx (.pointer (some ⟨no, 2, none⟩)), Fx (.int .i64 (o.a)), fun v x => v = .bool z ∧ ∃ F', X x (.pointer (some ad)) st' F' ∧ ∀ q ∈ F', q ∈ F ∨ W.heap.size ≤ q, Fx (.pointer (some rd)), Fx (.pointer (some ⟨no, 2, none⟩)), Fx (.int .i64 (o.a))] (by simp) (by kernel_rfl) (by kernel_rfl) (by kernel_rfl) ?_ ?_ ?_ ?_
        · repeat' (first | exact all_nil | apply all_cons)
          all_goals intro v y y' hv hb
          all_goals first | exact Fx_mono _ _ _ _ hv hb | (obtain ⟨h1, F9, h2, h3⟩ := hv; exact ⟨h1, F9, O.keeps (G := []) h2 (Keep.of_below hb) (fun _ _ => by simp), h3⟩)
        · simp only [List.eraseIdx]
          repeat' (first | exact all_nil | apply all_cons)
          all_goals intro v y y' hv hb
          all_goals first | exact (show Fx _ _ _ from hv)
        · refine ⟨?_, ?_, ?_, ?_, ?_, ?_, ?_, trivial⟩
          all_goals
            intro ρ x hk hp ρc ρg ρf ho hd
            first | (replace hp := hp (by decide)) | clear hp
            have o0 : ρ (.tmp 0) = .pointer (some ad) := ho 0 rfl
            have o1 : ρ (.tmp 1) = .pointer (some rd) := ho 1 rfl
            have o5 : ρ (.tmp 5) = .pointer (some ⟨no, 0, none⟩) := ho 5 rfl
            clear ho
            have k2 := cell_keepF hk c2 hnF
            simp only [depsR, depR, slotR, Fx, List.getElem?_cons_succ, List.getElem?_cons_zero, Region.binds, forall_const] at hd
            simp only [guardR, Nat.reduceBEq, cond_true, cond_false]
            go_split_ands
          · go_simp
          · go_simp
          · go_simp
          · go_simp
            have hX9 := O.keeps (G := []) HW.out.x (Keep.of_below hp) (fun _ _ => by simp)
            refine (O.taken _ _ _ _ o.a hX9 HI.out.1).mono ?_
            rintro e x' ⟨rfl, F', g1, g2, g3⟩
            rw [Hz.out]
            exact ⟨_, rfl, ⟨rfl, F', g1, fun q hq => (g2 q hq).imp id (fun hh => Nat.le_trans hp.size hh)⟩, g3⟩
          · go_simp
          · go_simp
          · go_simp
        · intro vs x1 hk hw
          simp only [owed, Fx] at hw
          obtain ⟨e0, e1, e2, ⟨e3, F', hXn, hFn⟩, e4, e5, e6, -⟩ := hw
          simp only [List.length_cons, List.length_nil, List.take_succ_cons, List.take_zero, List.drop_succ_cons, List.drop_zero, asg, List.cons_append, List.nil_append, e0, e1, e2, e3, e4, e5, e6]
          clear e0 e1 e2 e3 e4 e5 e6
          have hr1 : R8 x1 (.pointer (some rd)) st' G := HW.out.r.keeps hk (fun q hq hm => HW.out.apart q hm hq)
          have hR := refTaken8 x1 _ st' G o.a hr1
          rw [Hz.out] at hR
          clear c2 c3
          go_wp2_with fail
          go_at_call 34
          refine hR.mono ?_
          rintro e w2 ⟨rfl, hb2⟩
          have HB : Hid (BStep X F G w (.pointer (some ad)) (.pointer (some rd)) st' w2) := BStep.from_below HA.out (HW.out.steps O ⟨F', hXn, hFn, hk⟩ (fun G1 _ _ _ => hr1.reads hb2))
          clear hR hr1 hb2 hXn hFn hk HW
          go_wp2
          go_ret
          exact ⟨by simp, HB.out⟩
      · by_cases k3 : o.k = 3
        · have hX := O.lowest W _ st' F o.a hW.x HI.out.1
          go_wp2_with fail
          go_at_call 12
          refine hX.mono ?_
          rintro e w1 ⟨rfl, hx1⟩
          obtain ⟨F1, g1, g2, g3⟩ := hx1
          have hr1 : R8 w1 (.pointer (some rd)) st' G := hW.r.keeps g3 (fun q hq hm => hW.apart q hm hq)
          have d2 := cell_keepF g3 c2 hnF
          have hR := refLowest8 w1 _ st' G o.a hr1
          obtain ⟨lo, hlo⟩ : ∃ lo, xLow st' o.a = lo := ⟨_, rfl⟩
          rw [hlo] at hR ⊢
          clear hX c2 c3 c0
          go_wp2_with fail
          go_at_call 35
          refine hR.mono ?_
          rintro e w2 ⟨rfl, hb2⟩
          have HB : Hid (BStep X F G w (.pointer (some ad)) (.pointer (some rd)) st' w2) := BStep.from_below HA.out (hW.steps O ⟨F1, g1, g2, g3⟩ (fun G1 _ _ _ => hr1.reads hb2))
          clear hR hr1 g1 g2 g3 hW hb2 d2
          go_wp2
          go_ret
          exact ⟨rfl, HB.out⟩
        · by_cases k4 : o.k = 4
          · have hX := O.left W _ st' F hW.x
            go_wp2_with fail
            go_at_call 13
            refine hX.mono ?_
            rintro e w1 ⟨rfl, hx1⟩
            obtain ⟨F1, g1, g2, g3⟩ := hx1
            have hr1 : R8 w1 (.pointer (some rd)) st' G := hW.r.keeps g3 (fun q hq hm => hW.apart q hm hq)
            have hR := refLeft8 w1 _ st' G hr1
            obtain ⟨lo, hlo⟩ : ∃ lo, xLeft st' = lo := ⟨_, rfl⟩
            rw [hlo] at hR ⊢
            clear hX c2 c3 c0
            go_wp2_with fail
            go_at_call 20
            refine hR.mono ?_
            rintro e w2 ⟨rfl, hb2⟩
            have HB : Hid (BStep X F G w (.pointer (some ad)) (.pointer (some rd)) st' w2) := BStep.from_below HA.out (hW.steps O ⟨F1, g1, g2, g3⟩ (fun G1 _ _ _ => hr1.reads hb2))
            clear hR hr1 g1 g2 g3 hW hb2
            go_wp2
            go_ret
            exact ⟨rfl, HB.out⟩
          · have HB : Hid (BStep X F G w (.pointer (some ad)) (.pointer (some rd)) st' W) := BStep.from_below HA.out ⟨F, G, hW, fun _ hq => .inl hq, fun _ hq => .inl hq, Keep.refl _ _⟩
            clear hW
            go_wp2
            go_ret
            exact ⟨rfl, HB.out⟩
end
end Go.Proofs.Ytafbkdpheneceaa
