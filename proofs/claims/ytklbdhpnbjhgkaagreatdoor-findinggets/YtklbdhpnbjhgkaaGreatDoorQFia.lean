import Derived.Test.YtklbdhpnbjhgkaaGreatDoorQFin3
namespace Go.Proofs.YtklbdhpnbjhgkaaGreatDoor
open Go.RowKit Go.Sort

/-! Whether a report is in form -/
set_option linter.unusedSimpArgs false in
theorem isFinding22 (f : Fd) (w : World) : Calls Tryz.prog 54 #[.agg (fdA f)] w fun e w' => e = .returned (.bool (okF f)) ∧ Below w.heap.size w w' := by
  have b0 := below_alloc w (.cells (fdA f) 25)
  have c0 : (w.alloc (.cells (fdA f) 25)).cell? ⟨w.heap.size, 0, none⟩ = some (.int .i64 f.1) := by rw [(RowC.new w _ _).cell]; rfl
  have c1 : (w.alloc (.cells (fdA f) 25)).cell? ⟨w.heap.size, 1, none⟩ = some (.int .i64 f.2) := by rw [(RowC.new w _ _).cell]; rfl
  have h1 := isKind22 f.1 (w.alloc (.cells (fdA f) 25))
  have h2 := isAt22 f.2 (w.alloc (.cells (fdA f) 25))
  cases hk : okR 1 19 f.1
  · have hF : okF f = false := by unfold okR at hk; unfold okF; simp at hk ⊢; omega
    rw [hF]
    rw [hk] at h1
    go_enter Tryz.func54, Tryz.ntmps54
    go_upto_region 1 with fail
    generalize w.alloc (.cells (fdA f) 25) = W at b0 c0 c1 h1 h2 ⊢
    go_wp2_with fail
    refine h1.mono ?_
    rintro e w' ⟨rfl, rfl⟩
    go_wp2
    go_ret
    exact ⟨rfl, b0⟩
  · have hF : okF f = okR 0 1023 f.2 := by unfold okR at hk ⊢; unfold okF; rw [Bool.eq_iff_iff]; simp at hk ⊢; omega
    rw [hF]
    rw [hk] at h1
    go_enter Tryz.func54, Tryz.ntmps54
    go_upto_region 1 with fail
    generalize w.alloc (.cells (fdA f) 25) = W at b0 c0 c1 h1 h2 ⊢
    go_wp2_with fail
    refine h1.mono ?_
    rintro e w' ⟨rfl, rfl⟩
    go_wp2_with fail
    refine h2.mono ?_
    rintro e w'' ⟨rfl, rfl⟩
    go_wp2
    go_ret
    exact ⟨rfl, b0⟩
theorem isSlot22b (v : Int) (w : World) : Calls Tryz.prog 58 #[.int .i64 v] w fun e w' => e = .returned (.bool (okI v)) ∧ Below w.heap.size w w' :=
  (isSlot22 v w).mono fun e w' ⟨h1, h2⟩ => by subst h2; exact ⟨h1, Below.refl _ _⟩
theorem anyDig22b (d : Dg) (w : World) : Calls Tryz.prog 56 #[.agg (dg_secA d)] w fun e w' => e = .returned (.bool (okD d)) ∧ Below w.heap.size w w' := anyDig22 d w
def prevL {α : Type} (l : List α) (k : Nat) : Option α := if k = 0 then none else l[k - 1]?
theorem drop_at22 {α : Type} (l : List α) (k : Nat) (v : α) (h : l[k]? = some v) : l.drop k = v :: l.drop (k + 1) := by
  obtain ⟨hk, rfl⟩ := List.getElem?_eq_some_iff.1 h
  exact List.drop_eq_getElem_cons hk
theorem chk_range {α : Type} {ok : α → Bool} {lt : α → α → Bool} {l : List α} {k : Nat} {v : α} (p : Option α) (hv : l[k]? = some v) (ho : ok v = false) : chkL ok lt p (l.drop k) = 13 := by
  rw [drop_at22 l k v hv, chkL, ho]; rfl
theorem chk_form {α : Type} {ok : α → Bool} {lt : α → α → Bool} {l : List α} {k : Nat} {v : α} {p : Option α} (hv : l[k]? = some v) (ho : ok v = true) (hb : behO lt p v = false) : chkL ok lt p (l.drop k) = 11 := by
  rw [drop_at22 l k v hv, chkL, ho, hb]; rfl
theorem chk_next {α : Type} {ok : α → Bool} {lt : α → α → Bool} {l : List α} {k : Nat} {v : α} {p : Option α} (hv : l[k]? = some v) (ho : ok v = true) (hb : behO lt p v = true) : chkL ok lt p (l.drop k) = chkL ok lt (prevL l (k + 1)) (l.drop (k + 1)) := by
  rw [drop_at22 l k v hv, chkL, ho, hb]
  show chkL ok lt (some v) _ = _
  unfold prevL
  rw [if_neg (by omega), Nat.add_sub_cancel, hv]
set_option linter.unusedSimpArgs false in
set_option maxRecDepth 100000 in
set_option maxHeartbeats 4000000 in
theorem check_fd22 (w : World) (x : Option Addr) (n c : Nat) (l : List Fd) (hl : IsK fdE w (.slice x n c) l) (hn : l.length = n) (hs : n ≤ 65535) :
    Calls Tryz.prog 53 #[.slice x n c, .func (.func 54) #[] #[], .func (.func 23) #[] #[]] w fun e w' => e = .returned (.int .i64 (chkL okF ltF none l : Nat)) ∧ Below w.heap.size w w' := by
  have en1 : ∀ args w, (callFunc 54 args).run Tryz.prog w = .ok (.enter 54 args) w := enters_of Tryz.func54 (by kernel_rfl) rfl
  have en2 : ∀ args w, (callFunc 23 args).run Tryz.prog w = .ok (.enter 23 args) w := enters_of Tryz.func23 (by kernel_rfl) rfl
  obtain ⟨RES, hres⟩ : ∃ r, chkL okF ltF none l = r := ⟨_, rfl⟩
  have HRES : Hid (chkL okF ltF none l = RES) := hres
  rw [hres]
  clear hres
  go_enter Tryz.func53, Tryz.ntmps53
  go_wp2_with fail
  go_loopw [11] (fun kv wr => ∃ k : Nat, k ≤ n ∧ kv = .int .i64 k ∧ chkL okF ltF none l = chkL okF ltF (prevL l k) (l.drop k) ∧ Below w.heap.size w wr) (fun kv _ => n - (intOf kv).toNat)
  case atStart => exact ⟨0, by omega, rfl, rfl, Below.refl _ _⟩
  case round =>
    obtain ⟨k, hk, rfl, hE, hB⟩ := hrel
    by_cases hlt : k < n
    · have i0 : (k : Int) < (n : Int) := by omega
      have i1 : (0 : Int) ≤ (k : Int) := by omega
      have wk2 : IntKind.i64.wrap ((k : Int) + 1) = (k : Int) + 1 := by rw [IntKind.wrap_i64]; omega
      obtain ⟨v, hv⟩ : ∃ v, l[k]? = some v := ⟨_, List.getElem?_eq_getElem (by omega)⟩
      obtain ⟨gl, o, rfl, hgl, -, -, k1, k2⟩ := fd_at (hl.kept hB) k v hv
      have ldk := run_fd_mid wr gl (o + k * 2) k1
      rw [k2] at ldk
      clear k1 k2
      have HE : Hid (RES = chkL okF ltF (prevL l k) (l.drop k)) := HRES.out.symm.trans hE
      have HV : Hid (l[k]? = some v) := hv
      have HBL : Hid (Below w.heap.size w wr) := hB
      have HSZ : Hid (gl < wr.heap.size) := hgl
      have HL : Hid (IsK fdE w (.slice (some ⟨gl, o, none⟩) n c) l) := hl
      have HNN : Hid (l.length = n) := hn
      have HS9 : Hid (n ≤ 65535) := hs
      clear hE hv hB hgl hl hn hs
      have st := run_store_fd (wr.alloc (.cells (fdA fdZ) 25)) wr.heap.size (fdA v) (by rw [(RowC.new wr _ _).1]) (by rw [(RowC.new wr _ _).2]; rfl) rfl (fdA_one _)
      have bS := below_alloc wr (.cells (fdA v) 25)
      have hV := RowC.new wr (fdA v) 25
      go_upto_region 4 with fail
      obtain ⟨zv, hzv⟩ : ∃ z, wr.heap.size = z := ⟨_, rfl⟩
      try simp only [hzv]
      rw [hzv] at hV
      clear st ldk
      generalize wr.alloc (.cells (fdA v) 25) = W at bS hV ⊢
      clear hzv
      have HBW : Hid (Below w.heap.size w W) := HBL.out.trans (bS.mono HBL.out.size)
      have ld := run_load_fd W zv hV.1 (by rw [hV.2]; rfl)
      rw [hV.2] at ld
      clear bS
      have hw := isFinding22 v W
      cases hok : okF v
      · rw [hok] at hw
        have HE3 : Hid (RES = 13) := by show _ = _; rw [HE.out]; exact chk_range _ HV.out hok
        clear hok
        go_wp2_with fail
        refine hw.mono ?_
        rintro e w2 ⟨rfl, b2⟩
        have HB2 : Hid (Below w.heap.size w w2) := HBW.out.trans (b2.mono HBW.out.size)
        clear hw b2
        go_wp2
        go_ret
        exact ⟨by rw [HE3.out]; rfl, HB2.out⟩
      · rw [hok] at hw
        have HOK : Hid (okF v = true) := hok
        clear hok
        go_wp2_with fail
        refine hw.mono ?_
        rintro e w2 ⟨rfl, b2⟩
        have HB2 : Hid (Below w.heap.size w w2) := HBW.out.trans (b2.mono HBW.out.size)
        have CV : Hid (∀ y, Below w2.heap.size w2 y → (bigLoad 25 (.pointer (some ⟨zv, 0, none⟩))).run Tryz.prog y = .ok (.value (.agg (fdA v))) y) := fun y hy => by
          have r9 := (hV.kept b2).kept hy
          have h9 := run_load_fd y zv r9.1 (by rw [r9.2]; rfl)
          rw [r9.2] at h9
          exact h9
        clear ld hV
        clear hw
        go_upto_region 6 with fail
        by_cases hk0 : k = 0
        · subst hk0
          have HB9 : Hid (false = !behO ltF (prevL l 0) v) := rfl
          refine wp_reliesT [Fx (.int .i64 (0 : Int)), Fx (.bool false), Fx (.bool false), Fx (undef), Fx (undef), Fx (undef), Fx (undef), Fx (undef), Fx (undef), Fx (undef), Fx (undef), Fx (undef)] (by kernel_rfl) (by kernel_rfl) ?_ ?_ ?_
          · repeat' (first | exact all_nil | apply all_cons)
            all_goals intro v y y' hv hb
            all_goals first | exact Fx_mono _ _ _ _ hv hb
          · refine ⟨?_, ?_, ?_, ?_, ?_, ?_, ?_, ?_, ?_, ?_, ?_, ?_, trivial⟩
            all_goals
              intro ρ y9 hp ρc ρg ρf ho hd
              have o7 : ρ (.tmp 7) = .int .i64 (0 : Int) := ho 7 rfl
              clear ho
              simp only [depsR, depR, slotR, Fx, List.getElem?_cons_succ, List.getElem?_cons_zero, Region.binds, forall_const] at hd
              simp only [guardR]
              go_split_ands
            · go_simp
            · go_simp
            · go_simp
            · refine ⟨fun hy => ?_, fun _ => rfl⟩
              exfalso; simp [yieldR, slotR, undef, *] at hy
            · refine ⟨fun hy => ?_, fun _ => rfl⟩
              exfalso; simp [yieldR, slotR, undef, *] at hy
            · refine ⟨fun hy => ?_, fun _ => rfl⟩
              exfalso; simp [yieldR, slotR, undef, *] at hy
            · refine ⟨fun hy => ?_, fun _ => rfl⟩
              exfalso; simp [yieldR, slotR, undef, *] at hy
            · refine ⟨fun hy => ?_, fun _ => rfl⟩
              exfalso; simp [yieldR, slotR, undef, *] at hy
            · refine ⟨fun hy => ?_, fun _ => rfl⟩
              exfalso; simp [yieldR, slotR, undef, *] at hy
            · refine ⟨fun hy => ?_, fun _ => rfl⟩
              exfalso; simp [yieldR, slotR, undef, *] at hy
            · refine ⟨fun hy => ?_, fun _ => rfl⟩
              exfalso; simp [yieldR, slotR, undef, *] at hy
            · refine ⟨fun hy => ?_, fun _ => rfl⟩
              exfalso; simp [yieldR, slotR, undef, *] at hy
          · intro us x1 hp1 hw
            simp only [owed, Fx] at hw
            obtain ⟨e0, e1, e2, e3, e4, e5, e6, e7, e8, e9, e10, e11, -⟩ := hw
            simp only [List.length_cons, List.length_nil, List.take_succ_cons, List.take_zero, List.drop_succ_cons, List.drop_zero, asg, List.cons_append, List.nil_append, e0, e1, e2, e3, e4, e5, e6, e7, e8, e9, e10, e11]
            clear e0 e1 e2 e3 e4 e5 e6 e7 e8 e9 e10 e11
            cases hb : behO ltF (prevL l 0) v
            · have h9 := HB9.out
              rw [hb] at h9
              cases h9
            · have HE3 : Hid (chkL okF ltF none l = chkL okF ltF (prevL l (0 + 1)) (l.drop (0 + 1))) := by
                show _ = _; rw [HRES.out, HE.out]; exact chk_next HV.out HOK.out hb
              have HB3 : Hid (Below w.heap.size w x1) := HB2.out.trans (hp1.mono HB2.out.size)
              have HLT : Hid (0 < n) := hlt
              clear hp1 hb
              go_wp2_with fail
              go_roundw
              case rel => first | exact ⟨0 + 1, by have := HLT.out; omega, by go_num, HE3.out, HB3.out⟩ | ((repeat apply Exists.intro); refine ⟨⟨0 + 1, by have := HLT.out; omega, ?_, HE3.out, HB3.out⟩, rfl⟩; go_num)
              case measure => have := HLT.out; simp [intOf]; omega
        · obtain ⟨u, hu⟩ : ∃ u, l[k - 1]? = some u := ⟨_, List.getElem?_eq_getElem (by have := HNN.out; omega)⟩
          have hpv : prevL l k = some u := by unfold prevL; rw [if_neg hk0]; exact hu
          have HB9 : Hid ((!ltF u v) = !behO ltF (prevL l k) v) := by show _ = _; rw [hpv]; rfl
          have CL : Hid (∀ y, Below w2.heap.size w2 y → (bigLoad 25 (.pointer (some ⟨gl, o + (k - 1) * 2, none⟩))).run Tryz.prog y = .ok (.value (.agg (fdA u))) y) := fun y hy => by
            obtain ⟨b', o', he, -, -, -, k1, k2⟩ := fd_at ((HL.out.kept HB2.out).kept hy) (k - 1) u hu
            cases he
            have h9 := run_fd_mid y gl (o + (k - 1) * 2) k1
            rw [k2] at h9
            exact h9
          have leB := cmpF_le u v
          have wk1 : IntKind.i64.wrap ((k : Int) - 1) = ((k - 1 : Nat) : Int) := by rw [IntKind.wrap_i64]; have := HS9.out; omega
          have q0 : (0 : Int) < (k : Int) := by omega
          have q1 : ((k - 1 : Nat) : Int) < (n : Int) := by omega
          have q2 : (0 : Int) ≤ ((k - 1 : Nat) : Int) := by omega
          clear hu hpv
          refine wp_reliesT [Fx (.int .i64 (k : Int)), Fx (.bool true), Fx (.bool true), Fx (.func (.func 23) #[] #[]), Fx (.slice (some ⟨gl, o, none⟩) n c), Fx (.int .i64 (k : Int)), Fx (.int .i64 (((k - 1 : Nat)) : Int)), Fx (.pointer (some ⟨gl, o + (k - 1) * 2, none⟩)), Fx (.agg (fdA u)), Fx (.agg (fdA v)), Fx (.int .i64 (cmpF u v)), Fx (.bool (!ltF u v))] (by kernel_rfl) (by kernel_rfl) ?_ ?_ ?_
          · repeat' (first | exact all_nil | apply all_cons)
            all_goals intro v y y' hv hb
            all_goals first | exact Fx_mono _ _ _ _ hv hb
          · refine ⟨?_, ?_, ?_, ?_, ?_, ?_, ?_, ?_, ?_, ?_, ?_, ?_, trivial⟩
            all_goals
              intro ρ y9 hp ρc ρg ρf ho hd
              have o0 : ρ (.tmp 0) = .slice (some ⟨gl, o, none⟩) n c := ho 0 rfl
              have o2 : ρ (.tmp 2) = .func (.func 23) #[] #[] := ho 2 rfl
              have o7 : ρ (.tmp 7) = .int .i64 (k : Int) := ho 7 rfl
              have o8 : ρ (.tmp 8) = .pointer (some ⟨zv, 0, none⟩) := ho 8 rfl
              clear ho
              have z9 := CV.out y9 hp
              simp only [depsR, depR, slotR, Fx, List.getElem?_cons_succ, List.getElem?_cons_zero, Region.binds, forall_const] at hd
              simp only [guardR]
              go_split_ands
            · go_simp
            · go_simp
              try (unfold Fx; simp; omega)
            · go_simp
            · refine ⟨fun _ => ?_, fun hy => absurd (by simp [yieldR, slotR, *]) hy⟩
              go_simp
            · refine ⟨fun _ => ?_, fun hy => absurd (by simp [yieldR, slotR, *]) hy⟩
              go_simp
            · refine ⟨fun _ => ?_, fun hy => absurd (by simp [yieldR, slotR, *]) hy⟩
              go_simp
            · refine ⟨fun _ => ?_, fun hy => absurd (by simp [yieldR, slotR, *]) hy⟩
              go_simp
              try exact wk1
            · refine ⟨fun _ => ?_, fun hy => absurd (by simp [yieldR, slotR, *]) hy⟩
              go_simp
            · refine ⟨fun _ => ?_, fun hy => absurd (by simp [yieldR, slotR, *]) hy⟩
              have z1 := CL.out y9 hp
              go_simp
            · refine ⟨fun _ => ?_, fun hy => absurd (by simp [yieldR, slotR, *]) hy⟩
              go_simp
            · refine ⟨fun _ => ?_, fun hy => absurd (by simp [yieldR, slotR, *]) hy⟩
              go_simp
              exact (byKind22 _ _ _).mono fun e w' ⟨q1, q2⟩ => ⟨_, q1, rfl, below_of_grow q2⟩
            · refine ⟨fun _ => ?_, fun hy => absurd (by simp [yieldR, slotR, *]) hy⟩
              go_simp
              try exact leB
          · intro us x1 hp1 hw
            simp only [owed, Fx] at hw
            obtain ⟨e0, e1, e2, e3, e4, e5, e6, e7, e8, e9, e10, e11, -⟩ := hw
            simp only [List.length_cons, List.length_nil, List.take_succ_cons, List.take_zero, List.drop_succ_cons, List.drop_zero, asg, List.cons_append, List.nil_append, e0, e1, e2, e3, e4, e5, e6, e7, e8, e9, e10, e11]
            clear e0 e1 e2 e3 e4 e5 e6 e7 e8 e9 e10 e11
            cases hb : behO ltF (prevL l k) v
            · have HE3 : Hid (RES = 11) := by show _ = _; rw [HE.out]; exact chk_form HV.out HOK.out hb
              rw [HB9.out, hb]
              have HB3 : Hid (Below w.heap.size w x1) := HB2.out.trans (hp1.mono HB2.out.size)
              clear hp1 hb
              go_wp2
              go_ret
              exact ⟨by rw [HE3.out]; rfl, HB3.out⟩
            · have HE3 : Hid (chkL okF ltF none l = chkL okF ltF (prevL l (k + 1)) (l.drop (k + 1))) := by
                show _ = _; rw [HRES.out, HE.out]; exact chk_next HV.out HOK.out hb
              rw [HB9.out, hb]
              have HB3 : Hid (Below w.heap.size w x1) := HB2.out.trans (hp1.mono HB2.out.size)
              have HLT : Hid (k < n) := hlt
              clear hp1 hb
              go_wp2_with fail
              go_roundw
              case rel => first | exact ⟨k + 1, by have := HLT.out; omega, by go_num, HE3.out, HB3.out⟩ | ((repeat apply Exists.intro); refine ⟨⟨k + 1, by have := HLT.out; omega, ?_, HE3.out, HB3.out⟩, rfl⟩; go_num)
              case measure => have := HLT.out; simp [intOf]; omega
    · obtain rfl : k = n := by omega
      have HE3 : Hid (RES = 0) := by show _ = _; rw [← HRES.out, hE, List.drop_of_length_le (by omega)]; rfl
      have i0 : ¬ (k : Int) < (k : Int) := by omega
      clear hE
      go_wp2
      go_ret
      exact ⟨by rw [HE3.out]; rfl, hB⟩
set_option linter.unusedSimpArgs false in
set_option maxRecDepth 100000 in
set_option maxHeartbeats 4000000 in
theorem check_dg22 (w : World) (x : Option Addr) (n c : Nat) (l : List Dg) (hl : IsK dgE w (.slice x n c) l) (hn : l.length = n) (hs : n ≤ 65535) :
    Calls Tryz.prog 55 #[.slice x n c, .func (.func 56) #[] #[], .func (.func 47) #[] #[]] w fun e w' => e = .returned (.int .i64 (chkL okD ltD none l : Nat)) ∧ Below w.heap.size w w' := by
  have en1 : ∀ args w, (callFunc 56 args).run Tryz.prog w = .ok (.enter 56 args) w := enters_of Tryz.func56 (by kernel_rfl) rfl
  have en2 : ∀ args w, (callFunc 47 args).run Tryz.prog w = .ok (.enter 47 args) w := enters_of Tryz.func47 (by kernel_rfl) rfl
  obtain ⟨RES, hres⟩ : ∃ r, chkL okD ltD none l = r := ⟨_, rfl⟩
  have HRES : Hid (chkL okD ltD none l = RES) := hres
  rw [hres]
  clear hres
  go_enter Tryz.func55, Tryz.ntmps55
  go_wp2_with fail
  go_loopw [11] (fun kv wr => ∃ k : Nat, k ≤ n ∧ kv = .int .i64 k ∧ chkL okD ltD none l = chkL okD ltD (prevL l k) (l.drop k) ∧ Below w.heap.size w wr) (fun kv _ => n - (intOf kv).toNat)
  case atStart => exact ⟨0, by omega, rfl, rfl, Below.refl _ _⟩
  case round =>
    obtain ⟨k, hk, rfl, hE, hB⟩ := hrel
    by_cases hlt : k < n
    · have i0 : (k : Int) < (n : Int) := by omega
      have i1 : (0 : Int) ≤ (k : Int) := by omega
      have wk2 : IntKind.i64.wrap ((k : Int) + 1) = (k : Int) + 1 := by rw [IntKind.wrap_i64]; omega
      obtain ⟨v, hv⟩ : ∃ v, l[k]? = some v := ⟨_, List.getElem?_eq_getElem (by omega)⟩
      obtain ⟨gl, o, rfl, hgl, k1, k2⟩ := dg_at (hl.kept hB) k v hv
      have ldk := run_dg_mid wr gl (o + k * 32) k1
      rw [k2] at ldk
      clear k1 k2
      have HE : Hid (RES = chkL okD ltD (prevL l k) (l.drop k)) := HRES.out.symm.trans hE
      have HV : Hid (l[k]? = some v) := hv
      have HBL : Hid (Below w.heap.size w wr) := hB
      have HSZ : Hid (gl < wr.heap.size) := hgl
      have HL : Hid (IsK dgE w (.slice (some ⟨gl, o, none⟩) n c) l) := hl
      have HNN : Hid (l.length = n) := hn
      have HS9 : Hid (n ≤ 65535) := hs
      clear hE hv hB hgl hl hn hs
      have st := dg_run_secStore (wr.alloc (.cells (dg_secA dg_secZ) 50)) wr.heap.size (v) (RowC.new wr _ _).dg.1
      have bS := below_alloc wr (.cells (dg_secA v) 50)
      have hV := RowC.new wr (dg_secA v) 50
      go_upto_region 4 with fail
      obtain ⟨zv, hzv⟩ : ∃ z, wr.heap.size = z := ⟨_, rfl⟩
      try simp only [hzv]
      rw [hzv] at hV
      clear st ldk
      generalize wr.alloc (.cells (dg_secA v) 50) = W at bS hV ⊢
      clear hzv
      have HBW : Hid (Below w.heap.size w W) := HBL.out.trans (bS.mono HBL.out.size)
      have ld := dg_run_secLoad W zv hV.dg.1
      rw [hV.dg.2] at ld
      clear bS
      have hw := anyDig22b v W
      cases hok : okD v
      · rw [hok] at hw
        have HE3 : Hid (RES = 13) := by show _ = _; rw [HE.out]; exact chk_range _ HV.out hok
        clear hok
        go_wp2_with fail
        refine hw.mono ?_
        rintro e w2 ⟨rfl, b2⟩
        have HB2 : Hid (Below w.heap.size w w2) := HBW.out.trans (b2.mono HBW.out.size)
        clear hw b2
        go_wp2
        go_ret
        exact ⟨by rw [HE3.out]; rfl, HB2.out⟩
      · rw [hok] at hw
        have HOK : Hid (okD v = true) := hok
        clear hok
        go_wp2_with fail
        refine hw.mono ?_
        rintro e w2 ⟨rfl, b2⟩
        have HB2 : Hid (Below w.heap.size w w2) := HBW.out.trans (b2.mono HBW.out.size)
        have CV : Hid (∀ y, Below w2.heap.size w2 y → (dg_secLoad (.pointer (some ⟨zv, 0, none⟩))).run Tryz.prog y = .ok (.value (.agg (dg_secA v))) y) := fun y hy => by
          have r9 := (hV.kept b2).kept hy
          have h9 := dg_run_secLoad y zv r9.dg.1
          rw [r9.dg.2] at h9
          exact h9
        clear ld hV
        clear hw
        go_upto_region 6 with fail
        by_cases hk0 : k = 0
        · subst hk0
          have HB9 : Hid (false = !behO ltD (prevL l 0) v) := rfl
          refine wp_reliesT [Fx (.int .i64 (0 : Int)), Fx (.bool false), Fx (.bool false), Fx (undef), Fx (undef), Fx (undef), Fx (undef), Fx (undef), Fx (undef), Fx (undef), Fx (undef), Fx (undef)] (by kernel_rfl) (by kernel_rfl) ?_ ?_ ?_
          · repeat' (first | exact all_nil | apply all_cons)
            all_goals intro v y y' hv hb
            all_goals first | exact Fx_mono _ _ _ _ hv hb
          · refine ⟨?_, ?_, ?_, ?_, ?_, ?_, ?_, ?_, ?_, ?_, ?_, ?_, trivial⟩
            all_goals
              intro ρ y9 hp ρc ρg ρf ho hd
              have o7 : ρ (.tmp 7) = .int .i64 (0 : Int) := ho 7 rfl
              clear ho
              simp only [depsR, depR, slotR, Fx, List.getElem?_cons_succ, List.getElem?_cons_zero, Region.binds, forall_const] at hd
              simp only [guardR]
              go_split_ands
            · go_simp
            · go_simp
            · go_simp
            · refine ⟨fun hy => ?_, fun _ => rfl⟩
              exfalso; simp [yieldR, slotR, undef, *] at hy
            · refine ⟨fun hy => ?_, fun _ => rfl⟩
              exfalso; simp [yieldR, slotR, undef, *] at hy
            · refine ⟨fun hy => ?_, fun _ => rfl⟩
              exfalso; simp [yieldR, slotR, undef, *] at hy
            · refine ⟨fun hy => ?_, fun _ => rfl⟩
              exfalso; simp [yieldR, slotR, undef, *] at hy
            · refine ⟨fun hy => ?_, fun _ => rfl⟩
              exfalso; simp [yieldR, slotR, undef, *] at hy
            · refine ⟨fun hy => ?_, fun _ => rfl⟩
              exfalso; simp [yieldR, slotR, undef, *] at hy
            · refine ⟨fun hy => ?_, fun _ => rfl⟩
              exfalso; simp [yieldR, slotR, undef, *] at hy
            · refine ⟨fun hy => ?_, fun _ => rfl⟩
              exfalso; simp [yieldR, slotR, undef, *] at hy
            · refine ⟨fun hy => ?_, fun _ => rfl⟩
              exfalso; simp [yieldR, slotR, undef, *] at hy
          · intro us x1 hp1 hw
            simp only [owed, Fx] at hw
            obtain ⟨e0, e1, e2, e3, e4, e5, e6, e7, e8, e9, e10, e11, -⟩ := hw
            simp only [List.length_cons, List.length_nil, List.take_succ_cons, List.take_zero, List.drop_succ_cons, List.drop_zero, asg, List.cons_append, List.nil_append, e0, e1, e2, e3, e4, e5, e6, e7, e8, e9, e10, e11]
            clear e0 e1 e2 e3 e4 e5 e6 e7 e8 e9 e10 e11
            cases hb : behO ltD (prevL l 0) v
            · have h9 := HB9.out
              rw [hb] at h9
              cases h9
            · have HE3 : Hid (chkL okD ltD none l = chkL okD ltD (prevL l (0 + 1)) (l.drop (0 + 1))) := by
                show _ = _; rw [HRES.out, HE.out]; exact chk_next HV.out HOK.out hb
              have HB3 : Hid (Below w.heap.size w x1) := HB2.out.trans (hp1.mono HB2.out.size)
              have HLT : Hid (0 < n) := hlt
              clear hp1 hb
              go_wp2_with fail
              go_roundw
              case rel => first | exact ⟨0 + 1, by have := HLT.out; omega, by go_num, HE3.out, HB3.out⟩ | ((repeat apply Exists.intro); refine ⟨⟨0 + 1, by have := HLT.out; omega, ?_, HE3.out, HB3.out⟩, rfl⟩; go_num)
              case measure => have := HLT.out; simp [intOf]; omega
        · obtain ⟨u, hu⟩ : ∃ u, l[k - 1]? = some u := ⟨_, List.getElem?_eq_getElem (by have := HNN.out; omega)⟩
          have hpv : prevL l k = some u := by unfold prevL; rw [if_neg hk0]; exact hu
          have HB9 : Hid ((!ltD u v) = !behO ltD (prevL l k) v) := by show _ = _; rw [hpv]; rfl
          have CL : Hid (∀ y, Below w2.heap.size w2 y → (dg_secLoad (.pointer (some ⟨gl, o + (k - 1) * 32, none⟩))).run Tryz.prog y = .ok (.value (.agg (dg_secA u))) y) := fun y hy => by
            obtain ⟨b', o', he, -, k1, k2⟩ := dg_at ((HL.out.kept HB2.out).kept hy) (k - 1) u hu
            cases he
            have h9 := run_dg_mid y gl (o + (k - 1) * 32) k1
            rw [k2] at h9
            exact h9
          have leB := dcmp_le u v
          have wk1 : IntKind.i64.wrap ((k : Int) - 1) = ((k - 1 : Nat) : Int) := by rw [IntKind.wrap_i64]; have := HS9.out; omega
          have q0 : (0 : Int) < (k : Int) := by omega
          have q1 : ((k - 1 : Nat) : Int) < (n : Int) := by omega
          have q2 : (0 : Int) ≤ ((k - 1 : Nat) : Int) := by omega
          clear hu hpv
          refine wp_reliesT [Fx (.int .i64 (k : Int)), Fx (.bool true), Fx (.bool true), Fx (.func (.func 47) #[] #[]), Fx (.slice (some ⟨gl, o, none⟩) n c), Fx (.int .i64 (k : Int)), Fx (.int .i64 (((k - 1 : Nat)) : Int)), Fx (.pointer (some ⟨gl, o + (k - 1) * 32, none⟩)), Fx (.agg (dg_secA u)), Fx (.agg (dg_secA v)), Fx (.int .i64 (dcmp u v)), Fx (.bool (!ltD u v))] (by kernel_rfl) (by kernel_rfl) ?_ ?_ ?_
          · repeat' (first | exact all_nil | apply all_cons)
            all_goals intro v y y' hv hb
            all_goals first | exact Fx_mono _ _ _ _ hv hb
          · refine ⟨?_, ?_, ?_, ?_, ?_, ?_, ?_, ?_, ?_, ?_, ?_, ?_, trivial⟩
            all_goals
              intro ρ y9 hp ρc ρg ρf ho hd
              have o0 : ρ (.tmp 0) = .slice (some ⟨gl, o, none⟩) n c := ho 0 rfl
              have o2 : ρ (.tmp 2) = .func (.func 47) #[] #[] := ho 2 rfl
              have o7 : ρ (.tmp 7) = .int .i64 (k : Int) := ho 7 rfl
              have o8 : ρ (.tmp 8) = .pointer (some ⟨zv, 0, none⟩) := ho 8 rfl
              clear ho
              have z9 := CV.out y9 hp
              simp only [depsR, depR, slotR, Fx, List.getElem?_cons_succ, List.getElem?_cons_zero, Region.binds, forall_const] at hd
              simp only [guardR]
              go_split_ands
            · go_simp
            · go_simp
              try (unfold Fx; simp; omega)
            · go_simp
            · refine ⟨fun _ => ?_, fun hy => absurd (by simp [yieldR, slotR, *]) hy⟩
              go_simp
            · refine ⟨fun _ => ?_, fun hy => absurd (by simp [yieldR, slotR, *]) hy⟩
              go_simp
            · refine ⟨fun _ => ?_, fun hy => absurd (by simp [yieldR, slotR, *]) hy⟩
              go_simp
            · refine ⟨fun _ => ?_, fun hy => absurd (by simp [yieldR, slotR, *]) hy⟩
              go_simp
              try exact wk1
            · refine ⟨fun _ => ?_, fun hy => absurd (by simp [yieldR, slotR, *]) hy⟩
              go_simp
            · refine ⟨fun _ => ?_, fun hy => absurd (by simp [yieldR, slotR, *]) hy⟩
              have z1 := CL.out y9 hp
              go_simp
            · refine ⟨fun _ => ?_, fun hy => absurd (by simp [yieldR, slotR, *]) hy⟩
              go_simp
            · refine ⟨fun _ => ?_, fun hy => absurd (by simp [yieldR, slotR, *]) hy⟩
              go_simp
              exact (byBytes22 _ _ _).mono fun e w' ⟨q1, q2⟩ => ⟨_, q1, rfl, q2⟩
            · refine ⟨fun _ => ?_, fun hy => absurd (by simp [yieldR, slotR, *]) hy⟩
              go_simp
              try exact leB
          · intro us x1 hp1 hw
            simp only [owed, Fx] at hw
            obtain ⟨e0, e1, e2, e3, e4, e5, e6, e7, e8, e9, e10, e11, -⟩ := hw
            simp only [List.length_cons, List.length_nil, List.take_succ_cons, List.take_zero, List.drop_succ_cons, List.drop_zero, asg, List.cons_append, List.nil_append, e0, e1, e2, e3, e4, e5, e6, e7, e8, e9, e10, e11]
            clear e0 e1 e2 e3 e4 e5 e6 e7 e8 e9 e10 e11
            cases hb : behO ltD (prevL l k) v
            · have HE3 : Hid (RES = 11) := by show _ = _; rw [HE.out]; exact chk_form HV.out HOK.out hb
              rw [HB9.out, hb]
              have HB3 : Hid (Below w.heap.size w x1) := HB2.out.trans (hp1.mono HB2.out.size)
              clear hp1 hb
              go_wp2
              go_ret
              exact ⟨by rw [HE3.out]; rfl, HB3.out⟩
            · have HE3 : Hid (chkL okD ltD none l = chkL okD ltD (prevL l (k + 1)) (l.drop (k + 1))) := by
                show _ = _; rw [HRES.out, HE.out]; exact chk_next HV.out HOK.out hb
              rw [HB9.out, hb]
              have HB3 : Hid (Below w.heap.size w x1) := HB2.out.trans (hp1.mono HB2.out.size)
              have HLT : Hid (k < n) := hlt
              clear hp1 hb
              go_wp2_with fail
              go_roundw
              case rel => first | exact ⟨k + 1, by have := HLT.out; omega, by go_num, HE3.out, HB3.out⟩ | ((repeat apply Exists.intro); refine ⟨⟨k + 1, by have := HLT.out; omega, ?_, HE3.out, HB3.out⟩, rfl⟩; go_num)
              case measure => have := HLT.out; simp [intOf]; omega
    · obtain rfl : k = n := by omega
      have HE3 : Hid (RES = 0) := by show _ = _; rw [← HRES.out, hE, List.drop_of_length_le (by omega)]; rfl
      have i0 : ¬ (k : Int) < (k : Int) := by omega
      clear hE
      go_wp2
      go_ret
      exact ⟨by rw [HE3.out]; rfl, hB⟩
set_option linter.unusedSimpArgs false in
set_option maxRecDepth 100000 in
set_option maxHeartbeats 4000000 in
theorem check_in22 (w : World) (x : Option Addr) (n c : Nat) (l : List Int) (hl : IsG w (.slice x n c) (inV l)) (hn : l.length = n) (hs : n ≤ 65535) :
    Calls Tryz.prog 57 #[.slice x n c, .func (.func 58) #[] #[], .func (.func 50) #[] #[]] w fun e w' => e = .returned (.int .i64 (chkL okI ltI none l : Nat)) ∧ Below w.heap.size w w' := by
  have en1 : ∀ args w, (callFunc 58 args).run Tryz.prog w = .ok (.enter 58 args) w := enters_of Tryz.func58 (by kernel_rfl) rfl
  have en2 : ∀ args w, (callFunc 50 args).run Tryz.prog w = .ok (.enter 50 args) w := enters_of Tryz.func50 (by kernel_rfl) rfl
  obtain ⟨RES, hres⟩ : ∃ r, chkL okI ltI none l = r := ⟨_, rfl⟩
  have HRES : Hid (chkL okI ltI none l = RES) := hres
  rw [hres]
  clear hres
  go_enter Tryz.func57, Tryz.ntmps57
  go_wp2_with fail
  go_loopw [11] (fun kv wr => ∃ k : Nat, k ≤ n ∧ kv = .int .i64 k ∧ chkL okI ltI none l = chkL okI ltI (prevL l k) (l.drop k) ∧ Below w.heap.size w wr) (fun kv _ => n - (intOf kv).toNat)
  case atStart => exact ⟨0, by omega, rfl, rfl, Below.refl _ _⟩
  case round =>
    obtain ⟨k, hk, rfl, hE, hB⟩ := hrel
    by_cases hlt : k < n
    · have i0 : (k : Int) < (n : Int) := by omega
      have i1 : (0 : Int) ≤ (k : Int) := by omega
      have wk2 : IntKind.i64.wrap ((k : Int) + 1) = (k : Int) + 1 := by rw [IntKind.wrap_i64]; omega
      obtain ⟨v, hv⟩ : ∃ v, l[k]? = some v := ⟨_, List.getElem?_eq_getElem (by omega)⟩
      have hlW : IsG wr (.slice x (inV l).length c) (inV l) := by rw [inV_len, hn]; exact hl.kept hB
      obtain ⟨gl, o, rfl, hgl, k1⟩ := hlW.spot k (by rw [inV_len]; omega)
      have ldk : wr.cell? ⟨gl, o + k, none⟩ = some (.int .i64 v) := k1 k _ (inV_get l k v hv)
      clear hlW
      clear k1
      have HE : Hid (RES = chkL okI ltI (prevL l k) (l.drop k)) := HRES.out.symm.trans hE
      have HV : Hid (l[k]? = some v) := hv
      have HBL : Hid (Below w.heap.size w wr) := hB
      have HSZ : Hid (gl < wr.heap.size) := hgl
      have HL : Hid (IsG w (.slice (some ⟨gl, o, none⟩) n c) (inV l)) := hl
      have HNN : Hid (l.length = n) := hn
      have HS9 : Hid (n ≤ 65535) := hs
      clear hE hv hB hgl hl hn hs
      go_upto_region 4 with fail
      clear ldk
      generalize hWr : wr = W at *
      clear hWr
      have HBW : Hid (Below w.heap.size w W) := HBL
      have hw := isSlot22b v W
      cases hok : okI v
      · rw [hok] at hw
        have HE3 : Hid (RES = 13) := by show _ = _; rw [HE.out]; exact chk_range _ HV.out hok
        clear hok
        go_wp2_with fail
        refine hw.mono ?_
        rintro e w2 ⟨rfl, b2⟩
        have HB2 : Hid (Below w.heap.size w w2) := HBW.out.trans (b2.mono HBW.out.size)
        clear hw b2
        go_wp2
        go_ret
        exact ⟨by rw [HE3.out]; rfl, HB2.out⟩
      · rw [hok] at hw
        have HOK : Hid (okI v = true) := hok
        clear hok
        go_wp2_with fail
        refine hw.mono ?_
        rintro e w2 ⟨rfl, b2⟩
        have HB2 : Hid (Below w.heap.size w w2) := HBW.out.trans (b2.mono HBW.out.size)
        clear hw
        go_upto_region 6 with fail
        by_cases hk0 : k = 0
        · subst hk0
          have HB9 : Hid (false = !behO ltI (prevL l 0) v) := rfl
          refine wp_plainsT [Fx (.int .i64 (0 : Int)), Fx (.bool false), Fx (.bool false), Fx (undef), Fx (undef), Fx (undef), Fx (undef), Fx (undef), Fx (undef), Fx (undef), Fx (undef), Fx (undef)] (by kernel_rfl) (by kernel_rfl) ?_ ?_ ?_
          · repeat' (first | exact all_nil | apply all_cons)
            all_goals intro v y y' hv hb
            all_goals first | exact Fx_mono _ _ _ _ hv hb
          · refine ⟨?_, ?_, ?_, ?_, ?_, ?_, ?_, ?_, ?_, ?_, ?_, ?_, trivial⟩
            all_goals
              intro ρ y9 hp ρc ρg ρf ho hd
              have o7 : ρ (.tmp 7) = .int .i64 (0 : Int) := ho 7 rfl
              clear ho
              simp only [depsR, depR, slotR, Fx, List.getElem?_cons_succ, List.getElem?_cons_zero, Region.binds, forall_const] at hd
              simp only [guardR]
              go_split_ands
            · go_simp
            · go_simp
            · go_simp
            · refine ⟨fun hy => ?_, fun _ => rfl⟩
              exfalso; simp [yieldR, slotR, undef, *] at hy
            · refine ⟨fun hy => ?_, fun _ => rfl⟩
              exfalso; simp [yieldR, slotR, undef, *] at hy
            · refine ⟨fun hy => ?_, fun _ => rfl⟩
              exfalso; simp [yieldR, slotR, undef, *] at hy
            · refine ⟨fun hy => ?_, fun _ => rfl⟩
              exfalso; simp [yieldR, slotR, undef, *] at hy
            · refine ⟨fun hy => ?_, fun _ => rfl⟩
              exfalso; simp [yieldR, slotR, undef, *] at hy
            · refine ⟨fun hy => ?_, fun _ => rfl⟩
              exfalso; simp [yieldR, slotR, undef, *] at hy
            · refine ⟨fun hy => ?_, fun _ => rfl⟩
              exfalso; simp [yieldR, slotR, undef, *] at hy
            · refine ⟨fun hy => ?_, fun _ => rfl⟩
              exfalso; simp [yieldR, slotR, undef, *] at hy
            · refine ⟨fun hy => ?_, fun _ => rfl⟩
              exfalso; simp [yieldR, slotR, undef, *] at hy
          · intro us x1 hp1 hw
            simp only [owed, Fx] at hw
            obtain ⟨e0, e1, e2, e3, e4, e5, e6, e7, e8, e9, e10, e11, -⟩ := hw
            simp only [List.length_cons, List.length_nil, List.take_succ_cons, List.take_zero, List.drop_succ_cons, List.drop_zero, asg, List.cons_append, List.nil_append, e0, e1, e2, e3, e4, e5, e6, e7, e8, e9, e10, e11]
            clear e0 e1 e2 e3 e4 e5 e6 e7 e8 e9 e10 e11
            cases hb : behO ltI (prevL l 0) v
            · have h9 := HB9.out
              rw [hb] at h9
              cases h9
            · have HE3 : Hid (chkL okI ltI none l = chkL okI ltI (prevL l (0 + 1)) (l.drop (0 + 1))) := by
                show _ = _; rw [HRES.out, HE.out]; exact chk_next HV.out HOK.out hb
              have HB3 : Hid (Below w.heap.size w x1) := HB2.out.trans (hp1.mono HB2.out.size)
              have HLT : Hid (0 < n) := hlt
              clear hp1 hb
              go_wp2_with fail
              go_roundw
              case rel => first | exact ⟨0 + 1, by have := HLT.out; omega, by go_num, HE3.out, HB3.out⟩ | ((repeat apply Exists.intro); refine ⟨⟨0 + 1, by have := HLT.out; omega, ?_, HE3.out, HB3.out⟩, rfl⟩; go_num)
              case measure => have := HLT.out; simp [intOf]; omega
        · obtain ⟨u, hu⟩ : ∃ u, l[k - 1]? = some u := ⟨_, List.getElem?_eq_getElem (by have := HNN.out; omega)⟩
          have hpv : prevL l k = some u := by unfold prevL; rw [if_neg hk0]; exact hu
          have HB9 : Hid ((!ltI u v) = !behO ltI (prevL l k) v) := by show _ = _; rw [hpv]; rfl
          have CL : Hid (∀ y, Below w2.heap.size w2 y → y.cell? ⟨gl, o + (k - 1), none⟩ = some (.int .i64 u)) := fun y hy => by
            have hlW : IsG y (.slice (some ⟨gl, o, none⟩) (inV l).length c) (inV l) := by rw [inV_len, HNN.out]; exact (HL.out.kept HB2.out).kept hy
            obtain ⟨g9, o9, he, -, k1⟩ := hlW.spot (k - 1) (by rw [inV_len]; have := HNN.out; omega)
            cases he
            exact k1 _ _ (inV_get l (k - 1) u hu)
          have leB := cmpI_le u v
          have wk1 : IntKind.i64.wrap ((k : Int) - 1) = ((k - 1 : Nat) : Int) := by rw [IntKind.wrap_i64]; have := HS9.out; omega
          have q0 : (0 : Int) < (k : Int) := by omega
          have q1 : ((k - 1 : Nat) : Int) < (n : Int) := by omega
          have q2 : (0 : Int) ≤ ((k - 1 : Nat) : Int) := by omega
          clear hu hpv
          refine wp_plainsT [Fx (.int .i64 (k : Int)), Fx (.bool true), Fx (.bool true), Fx (.func (.func 50) #[] #[]), Fx (.slice (some ⟨gl, o, none⟩) n c), Fx (.int .i64 (k : Int)), Fx (.int .i64 (((k - 1 : Nat)) : Int)), Fx (.pointer (some ⟨gl, o + (k - 1), none⟩)), Fx (.int .i64 u), Fx (.int .i64 v), Fx (.int .i64 (cmpI u v)), Fx (.bool (!ltI u v))] (by kernel_rfl) (by kernel_rfl) ?_ ?_ ?_
          · repeat' (first | exact all_nil | apply all_cons)
            all_goals intro v y y' hv hb
            all_goals first | exact Fx_mono _ _ _ _ hv hb
          · refine ⟨?_, ?_, ?_, ?_, ?_, ?_, ?_, ?_, ?_, ?_, ?_, ?_, trivial⟩
            all_goals
              intro ρ y9 hp ρc ρg ρf ho hd
              have o0 : ρ (.tmp 0) = .slice (some ⟨gl, o, none⟩) n c := ho 0 rfl
              have o2 : ρ (.tmp 2) = .func (.func 50) #[] #[] := ho 2 rfl
              have o7 : ρ (.tmp 7) = .int .i64 (k : Int) := ho 7 rfl
              have o8 : ρ (.tmp 8) = .int .i64 v := ho 8 rfl
              clear ho
              simp only [depsR, depR, slotR, Fx, List.getElem?_cons_succ, List.getElem?_cons_zero, Region.binds, forall_const] at hd
              simp only [guardR]
              go_split_ands
            · go_simp
            · go_simp
              try (unfold Fx; simp; omega)
            · go_simp
            · refine ⟨fun _ => ?_, fun hy => absurd (by simp [yieldR, slotR, *]) hy⟩
              go_simp
            · refine ⟨fun _ => ?_, fun hy => absurd (by simp [yieldR, slotR, *]) hy⟩
              go_simp
            · refine ⟨fun _ => ?_, fun hy => absurd (by simp [yieldR, slotR, *]) hy⟩
              go_simp
            · refine ⟨fun _ => ?_, fun hy => absurd (by simp [yieldR, slotR, *]) hy⟩
              go_simp
              try exact wk1
            · refine ⟨fun _ => ?_, fun hy => absurd (by simp [yieldR, slotR, *]) hy⟩
              go_simp
            · refine ⟨fun _ => ?_, fun hy => absurd (by simp [yieldR, slotR, *]) hy⟩
              have z1 := CL.out y9 hp
              go_simp
            · refine ⟨fun _ => ?_, fun hy => absurd (by simp [yieldR, slotR, *]) hy⟩
              go_simp
            · refine ⟨fun _ => ?_, fun hy => absurd (by simp [yieldR, slotR, *]) hy⟩
              go_simp
              exact (bySlot22 _ _ _).mono fun e w' ⟨q1, q2⟩ => ⟨_, q1, rfl, q2⟩
            · refine ⟨fun _ => ?_, fun hy => absurd (by simp [yieldR, slotR, *]) hy⟩
              go_simp
              try exact leB
          · intro us x1 hp1 hw
            simp only [owed, Fx] at hw
            obtain ⟨e0, e1, e2, e3, e4, e5, e6, e7, e8, e9, e10, e11, -⟩ := hw
            simp only [List.length_cons, List.length_nil, List.take_succ_cons, List.take_zero, List.drop_succ_cons, List.drop_zero, asg, List.cons_append, List.nil_append, e0, e1, e2, e3, e4, e5, e6, e7, e8, e9, e10, e11]
            clear e0 e1 e2 e3 e4 e5 e6 e7 e8 e9 e10 e11
            cases hb : behO ltI (prevL l k) v
            · have HE3 : Hid (RES = 11) := by show _ = _; rw [HE.out]; exact chk_form HV.out HOK.out hb
              rw [HB9.out, hb]
              have HB3 : Hid (Below w.heap.size w x1) := HB2.out.trans (hp1.mono HB2.out.size)
              clear hp1 hb
              go_wp2
              go_ret
              exact ⟨by rw [HE3.out]; rfl, HB3.out⟩
            · have HE3 : Hid (chkL okI ltI none l = chkL okI ltI (prevL l (k + 1)) (l.drop (k + 1))) := by
                show _ = _; rw [HRES.out, HE.out]; exact chk_next HV.out HOK.out hb
              rw [HB9.out, hb]
              have HB3 : Hid (Below w.heap.size w x1) := HB2.out.trans (hp1.mono HB2.out.size)
              have HLT : Hid (k < n) := hlt
              clear hp1 hb
              go_wp2_with fail
              go_roundw
              case rel => first | exact ⟨k + 1, by have := HLT.out; omega, by go_num, HE3.out, HB3.out⟩ | ((repeat apply Exists.intro); refine ⟨⟨k + 1, by have := HLT.out; omega, ?_, HE3.out, HB3.out⟩, rfl⟩; go_num)
              case measure => have := HLT.out; simp [intOf]; omega
    · obtain rfl : k = n := by omega
      have HE3 : Hid (RES = 0) := by show _ = _; rw [← HRES.out, hE, List.drop_of_length_le (by omega)]; rfl
      have i0 : ¬ (k : Int) < (k : Int) := by omega
      clear hE
      go_wp2
      go_ret
      exact ⟨by rw [HE3.out]; rfl, hB⟩
end Go.Proofs.YtklbdhpnbjhgkaaGreatDoor
namespace Go.Proofs.YtklbdhpnbjhgkaaGreatDoor
open Go.RowKit Go.Sort

/-! check; Put -/
/-- A report as a value. -/
structure RpI (w : World) (r : Rp) (xf : Option Addr) (nf cf : Nat) (xd : Option Addr) (nd cd : Nat) (xi : Option Addr) (ni ci : Nat) : Prop where
  f : IsK fdE w (.slice xf nf cf) r.fs
  d : IsK dgE w (.slice xd nd cd) r.ds
  i : IsG w (.slice xi ni ci) (inV r.dr)
  nf : r.fs.length = nf
  nd : r.ds.length = nd
  ni : r.dr.length = ni
theorem RpI.kept {w w' : World} {r : Rp} {xf : Option Addr} {nf cf : Nat} {xd : Option Addr} {nd cd : Nat} {xi : Option Addr} {ni ci : Nat} (h : RpI w r xf nf cf xd nd cd xi ni ci) (hb : Below w.heap.size w w') : RpI w' r xf nf cf xd nd cd xi ni ci :=
  ⟨h.f.kept hb, h.d.kept hb, h.i.kept hb, h.nf, h.nd, h.ni⟩
theorem checkM_st {r : Rp} (h : okSt r.st = false) : checkM r = 1 := by unfold checkM; rw [h]; rfl
theorem checkM_long {r : Rp} (h : okSt r.st = true) (hl : longM r = true) : checkM r = 2 := by unfold checkM; rw [h, hl]; rfl
theorem checkM_3 {r : Rp} (h : okSt r.st = true) (hl : longM r = false) : checkM r = chk3 r := by unfold checkM; rw [h, hl]; rfl
set_option linter.unusedSimpArgs false in
set_option maxHeartbeats 1600000 in
theorem check22 (w : World) (r : Rp) (xf : Option Addr) (nf cf : Nat) (xd : Option Addr) (nd cd : Nat) (xi : Option Addr) (ni ci : Nat) (h : RpI w r xf nf cf xd nd cd xi ni ci) :
    Calls Tryz.prog 26 #[.agg (rpA r.st (.slice xf nf cf) (.slice xd nd cd) (.slice xi ni ci))] w fun e w' => e = .returned (.int .i64 (checkM r : Nat)) ∧ Below w.heap.size w w' := by
  have b0 := below_alloc w (.cells (rpA r.st (.slice xf nf cf) (.slice xd nd cd) (.slice xi ni ci)) 32)
  have r0 := RowC.new w (rpA r.st (.slice xf nf cf) (.slice xd nd cd) (.slice xi ni ci)) 32
  have h0 := h.kept b0
  have hst := isStatus22 r.st (w.alloc (.cells (rpA r.st (.slice xf nf cf) (.slice xd nd cd) (.slice xi ni ci)) 32))
  have c0 : (w.alloc (.cells (rpA r.st (.slice xf nf cf) (.slice xd nd cd) (.slice xi ni ci)) 32)).cell? ⟨w.heap.size, 0, none⟩ = some (.int .i64 r.st) := by rw [r0.cell]; rfl
  have c1 : (w.alloc (.cells (rpA r.st (.slice xf nf cf) (.slice xd nd cd) (.slice xi ni ci)) 32)).cell? ⟨w.heap.size, 1, none⟩ = some (.slice xf nf cf) := by rw [r0.cell]; rfl
  have c2 : (w.alloc (.cells (rpA r.st (.slice xf nf cf) (.slice xd nd cd) (.slice xi ni ci)) 32)).cell? ⟨w.heap.size, 2, none⟩ = some (.slice xd nd cd) := by rw [r0.cell]; rfl
  have c3 : (w.alloc (.cells (rpA r.st (.slice xf nf cf) (.slice xd nd cd) (.slice xi ni ci)) 32)).cell? ⟨w.heap.size, 3, none⟩ = some (.slice xi ni ci) := by rw [r0.cell]; rfl
  obtain ⟨C, hC⟩ : ∃ C, checkM r = C := ⟨_, rfl⟩
  have HC : Hid (checkM r = C) := hC
  rw [hC]
  clear hC h r0
  go_enter Tryz.func26, Tryz.ntmps26
  go_upto_region 1 with fail
  obtain ⟨z, hz⟩ : ∃ z, w.heap.size = z := ⟨_, rfl⟩
  try simp only [hz]
  rw [hz] at c0 c1 c2 c3
  have b0' : Hid (Below w.heap.size w (w.alloc (.cells (rpA r.st (.slice xf nf cf) (.slice xd nd cd) (.slice xi ni ci)) 32))) := b0
  generalize w.alloc (.cells (rpA r.st (.slice xf nf cf) (.slice xd nd cd) (.slice xi ni ci)) 32) = W at b0' h0 hst c0 c1 c2 c3 ⊢
  clear hz b0
  cases hok : okSt r.st
  · rw [hok] at hst
    have HE : Hid (C = 1) := by show _ = _; rw [← HC.out]; exact checkM_st hok
    clear hok h0
    go_wp2_with fail
    refine hst.mono ?_
    rintro e w1 ⟨rfl, rfl⟩
    clear hst
    go_wp2
    go_ret
    exact ⟨by rw [HE.out]; rfl, b0'.out⟩
  · rw [hok] at hst
    have HOK : Hid (okSt r.st = true) := hok
    clear hok
    go_wp2_with fail
    refine hst.mono ?_
    rintro e w1 ⟨rfl, rfl⟩
    clear hst
    have hlong : longM r = decide (65535 < nf ∨ 65535 < nd ∨ 65535 < ni) := by unfold longM; rw [h0.nf, h0.nd, h0.ni]
    by_cases hL : 65535 < nf ∨ 65535 < nd ∨ 65535 < ni
    · have HE : Hid (C = 2) := by show _ = _; rw [← HC.out]; exact checkM_long HOK.out (by rw [hlong]; exact decide_eq_true hL)
      have HL : Hid _ := hL
      clear hlong h0 hL
      go_wp2_with fail
      all_goals first
        | (exfalso; have := HL.out; omega)
        | (go_ret; exact ⟨by rw [HE.out]; rfl, b0'.out⟩)
    · have HE : Hid (C = chk3 r) := by show _ = _; rw [← HC.out]; exact checkM_3 HOK.out (by rw [hlong]; exact decide_eq_false hL)
      have m1 : (nf : Int) ≤ 65535 := by omega
      have m2 : (nd : Int) ≤ 65535 := by omega
      have m3 : (ni : Int) ≤ 65535 := by omega
      have hF := check_fd22 w1 xf nf cf r.fs h0.f h0.nf (by omega)
      have HI : Hid (RpI w1 r xf nf cf xd nd cd xi ni ci) := h0
      have HL : Hid _ := hL
      have HB1 : Hid (Below w.heap.size w w1) := b0'
      clear hlong h0 hL b0'
      go_wp2_with fail
      all_goals first | (exfalso; omega) | skip
      all_goals (
        refine hF.mono ?_
        rintro e w2 ⟨rfl, b2⟩
        have d2 := cell_later b2 c2
        have d3 := cell_later b2 c3
        have HI2 : Hid (RpI w2 r xf nf cf xd nd cd xi ni ci) := HI.out.kept b2
        have HB2 : Hid (Below w.heap.size w w2) := HB1.out.trans (b2.mono HB1.out.size)
        clear hF HI HB1 b2 c0 c1 c2 c3
        by_cases q1 : chkL okF ltF none r.fs = 0
        · have hD := check_dg22 w2 xd nd cd r.ds HI2.out.d HI2.out.nd (by have := HL.out; omega)
          have q1' : ((chkL okF ltF none r.fs : Nat) : Int) = 0 := by omega
          go_wp2_with fail
          refine hD.mono ?_
          rintro e w3 ⟨rfl, b3⟩
          have f3 := cell_later b3 d3
          have HI3 : Hid (RpI w3 r xf nf cf xd nd cd xi ni ci) := HI2.out.kept b3
          have HB3 : Hid (Below w.heap.size w w3) := HB2.out.trans (b3.mono HB2.out.size)
          clear hD HI2 HB2 b3 d2 d3
          by_cases q2 : chkL okD ltD none r.ds = 0
          · have hN := check_in22 w3 xi ni ci r.dr HI3.out.i HI3.out.ni (by have := HL.out; omega)
            have q2' : ((chkL okD ltD none r.ds : Nat) : Int) = 0 := by omega
            have HE3 : Hid (C = chkL okI ltI none r.dr) := by show _ = _; rw [HE.out]; unfold chk3; rw [if_neg (by simp [q1]), if_neg (by simp [q2])]
            go_wp2_with fail
            refine hN.mono ?_
            rintro e w4 ⟨rfl, b4⟩
            have HB4 : Hid (Below w.heap.size w w4) := HB3.out.trans (b4.mono HB3.out.size)
            clear hN b4 f3 q1 q1' q2 q2'
            go_wp2
            go_ret
            exact ⟨by rw [HE3.out]; rfl, HB4.out⟩
          · have q2' : ¬ ((chkL okD ltD none r.ds : Nat) : Int) = 0 := by omega
            have HE3 : Hid (C = chkL okD ltD none r.ds) := by show _ = _; rw [HE.out]; unfold chk3; rw [if_neg (by simp [q1]), if_pos q2]
            clear f3 q1 q1' q2
            go_wp2
            go_ret
            exact ⟨by rw [HE3.out]; rfl, HB3.out⟩
        · have q1' : ¬ ((chkL okF ltF none r.fs : Nat) : Int) = 0 := by omega
          have HE3 : Hid (C = chkL okF ltF none r.fs) := by show _ = _; rw [HE.out]; unfold chk3; rw [if_pos q1]
          clear d2 d3 q1
          go_wp2
          go_ret
          exact ⟨by rw [HE3.out]; rfl, HB2.out⟩)
end Go.Proofs.YtklbdhpnbjhgkaaGreatDoor
namespace Go.Proofs.YtklbdhpnbjhgkaaGreatDoor
open Go.RowKit Go.Sort

/-! Put -/
theorem run_app1Mk (w : World) (g y c : Nat) (l : List UInt8) (b1 : UInt8) (ty : TypeId) (hh : w.heap[g]? = some (.cells (bytesA l) 5 (l.length, l.length + 1))) (hy : w.cell? ⟨y, 0, none⟩ = some (Value.int .u8 (b1.toNat : Int))) (hl : l.length + 1 ≤ 140737488355328) :
    ∃ v' w', (Builtin.append_ #[33, 33] ty #[.slice (some ⟨g, 0, none⟩) l.length l.length, .slice (some ⟨y, 0, none⟩) 1 c]).run Tryz.prog w = .ok v' w' ∧ OwnB w' w.heap.size v' (l ++ [b1]) ∧ Below w.heap.size w w' := by
  obtain ⟨i, hi, hzz⟩ := Option.map_eq_some_iff.1 info5
  simp only [Prod.mk.injEq] at hzz
  obtain ⟨hz, hs, hby⟩ := hzz
  have hr := run_append_grow (P := Tryz.prog) w 33 ty 5 i _ Tryz.underlying33 hi hz ⟨g, 0, none⟩ l.length l.length (bytesA l).toList (by rw [hs]; simp [bytesA])
    (fun j u hu => by
      rw [addr_add, Nat.zero_add]
      unfold World.cell?
      simp only [hh]
      rw [Array.getElem?_toList] at hu
      simpa using hu) ⟨y, 0, none⟩ 1 c [Value.int .u8 (b1.toNat : Int)] (by rw [hs]; rfl)
    (fun j u hu => by
      rw [addr_add, Nat.zero_add]
      rcases j with _ | j
      · simp at hu; subst hu; exact hy
      · simp at hu) (by omega) (by omega) (growslice_fits (by omega) (by rw [hby]; omega))
  refine ⟨_, _, hr, ?_, (below_alloc _ _).drew⟩
  have e : (bytesA (l ++ [b1])).toList = (bytesA l).toList ++ [Value.int .u8 (b1.toNat : Int)] := by simp [bytesA]
  have hlen : ((bytesA l).toList ++ [Value.int .u8 (b1.toNat : Int)]).length = (l.length + 1) * 1 := by simp [bytesA]
  have hge := grownCap_ge w (l.length + 1) l.length 5
  have hcm : grownCap w (l.length + 1) l.length 5 ≤ maxLen := grownCap_le_maxLen w _ _ _ (by unfold maxLen; omega)
  unfold OwnB
  rw [List.length_append, e]
  refine ⟨hlen, .inr ⟨w.heap.size, _, _, rfl, Nat.le_refl _, heap_alloc_new w.drew _, hge, hcm, ?_, ?_⟩⟩
  · simp only [Array.size_append, List.size_toArray, size_zeroCells, Array.length_toList]
    simp [bytesA, Value.cells]
    omega
  · simp only [Array.toList_append, List.append_assoc]
    rw [← List.append_assoc]
    have hq := hlen
    simp only [List.length_append] at hq
    exact (congrArg (fun n => List.take n _) hlen.symm).trans List.take_left
theorem OwnB.le22 {w : World} {B B' : Nat} {v : Value} {l : List UInt8} (h : OwnB w B v l) (hb : B' ≤ B) : OwnB w B' v l :=
  ⟨h.1, h.2.imp id fun ⟨g, cap, cur, h1, h2, h3⟩ => ⟨g, cap, cur, h1, Nat.le_trans hb h2, h3⟩⟩
theorem OwnB.lt22 {w : World} {B : Nat} {v : Value} {l : List UInt8} (h : OwnB w B v l) : ∀ k, v.ownBlock = some k → B ≤ k ∧ k < w.heap.size := World.ownsRow.lt h
/-- append of bytes: where it lies, and what stays. -/
theorem appB22 (w : World) (B : Nat) (v : Value) (l : List UInt8) (x : Option Addr) (n c : Nat) (m : List UInt8) (ty : TypeId) (hv : OwnB w B v l) (hn : m.length = n) (h : IsB w (.slice x n c) m) (hl : l.length + m.length ≤ 140737488355328) (hb : B ≤ w.heap.size) :
    ∃ v' w', (Builtin.append_ #[33, 33] ty #[v, .slice x n c]).run Tryz.prog w = .ok v' w' ∧ OwnB w' B v' (l ++ m) ∧ Below B w w' ∧ w.grownBy w' v.ownBlock := by
  subst hn
  obtain ⟨v', w', h1, h2, h3, -⟩ := run_app_more w B v l x c m ty hv h hl hb
  exact ⟨v', w', h1, h2, below_by hv h3 hb, h3⟩
theorem isB_dg22 {w : World} {g : Nat} {d : Dg} (h : RowC w g (dg_secA d)) : IsB w (.slice (some ⟨g, 0, none⟩) 32 32) (dB d) := by
  refine .inr ⟨⟨g, 0, none⟩, 32, by rw [dB_len], fun i hi => ?_⟩
  rw [dB_len] at hi
  rw [addr_add, Nat.zero_add, h.cell, dg_secA_get d i hi]
  simp [dB]
theorem grown_cell22 {w w' : World} {row : Option Nat} (h : w.grownBy w' row) {b i : Nat} {v : Value} (hc : w.cell? ⟨b, i, none⟩ = some v) (hr : row ≠ some b) : w'.cell? ⟨b, i, none⟩ = some v := by
  have hl := World.block_lt_of_cell? w _ hc
  have := h.block b hl (fun e => hr e.symm)
  unfold World.cell? at hc ⊢
  rw [this]; exact hc
/-- What Put leaves. -/
def PtQ (w : World) (r : Rp) (e : Ending) (w' : World) : Prop := Below w.heap.size w w' ∧ ∃ v, e = .returned (.tuple #[v, .int .i64 (checkM r : Nat)]) ∧ OwnB w' w.heap.size v (putM r)
theorem flat_take {α : Type} (f : α → List UInt8) (l : List α) (k : Nat) (v : α) (h : l[k]? = some v) : (l.take (k + 1)).flatMap f = (l.take k).flatMap f ++ f v := by
  obtain ⟨hk, rfl⟩ := List.getElem?_eq_some_iff.1 h
  rw [List.take_succ_eq_append_getElem hk, List.flatMap_append]; simp
theorem flat_len {α : Type} (f : α → List UInt8) (n : Nat) (hf : ∀ x, (f x).length = n) : ∀ l : List α, (l.flatMap f).length = n * l.length
  | [] => by simp
  | a :: r => by rw [List.flatMap_cons, List.length_append, flat_len f n hf r, hf, List.length_cons, Nat.mul_succ]; omega
theorem chkL_ok {α : Type} {ok : α → Bool} {lt : α → α → Bool} : ∀ (l : List α) (p : Option α), chkL ok lt p l = 0 → ∀ v ∈ l, ok v = true
  | [], _, _, v, hv => by cases hv
  | a :: r, p, h, v, hv => by
    unfold chkL at h
    cases h1 : ok a
    · rw [h1] at h; cases h
    · rw [h1, cond_true] at h
      cases h2 : behO lt p a
      · rw [h2] at h; cases h
      · rw [h2, cond_true] at h
        rcases List.mem_cons.1 hv with rfl | hv
        · exact h1
        · exact chkL_ok r _ h v hv
set_option linter.unusedSimpArgs false in
set_option maxRecDepth 100000 in
set_option maxHeartbeats 6000000 in
theorem put22 (w : World) (r : Rp) (xf : Option Addr) (nf cf : Nat) (xd : Option Addr) (nd cd : Nat) (xi : Option Addr) (ni ci : Nat) (h : RpI w r xf nf cf xd nd cd xi ni ci) :
    Calls Tryz.prog 12 #[.agg (rpA r.st (.slice xf nf cf) (.slice xd nd cd) (.slice xi ni ci))] w fun e w' => PtQ w r e w' := by
  have b0 := below_alloc w (.cells (rpA r.st (.slice xf nf cf) (.slice xd nd cd) (.slice xi ni ci)) 32)
  have r0 := RowC.new w (rpA r.st (.slice xf nf cf) (.slice xd nd cd) (.slice xi ni ci)) 32
  have h0 := h.kept b0
  have hck := check22 (w.alloc (.cells (rpA r.st (.slice xf nf cf) (.slice xd nd cd) (.slice xi ni ci)) 32)) r xf nf cf xd nd cd xi ni ci h0
  have ld := run_load_rp (w.alloc (.cells (rpA r.st (.slice xf nf cf) (.slice xd nd cd) (.slice xi ni ci)) 32)) w.heap.size r0.1 (by rw [r0.2]; rfl)
  rw [r0.2] at ld
  go_enter Tryz.func12, Tryz.ntmps12
  go_upto_region 1 with fail
  obtain ⟨z, hz⟩ : ∃ z, w.heap.size = z := ⟨_, rfl⟩
  try simp only [hz]
  rw [hz] at ld r0
  have HB0 : Hid (Below w.heap.size w (w.alloc (.cells (rpA r.st (.slice xf nf cf) (.slice xd nd cd) (.slice xi ni ci)) 32))) := b0
  generalize w.alloc (.cells (rpA r.st (.slice xf nf cf) (.slice xd nd cd) (.slice xi ni ci)) 32) = W at HB0 h0 hck ld r0 ⊢
  clear hz b0 h
  go_wp2_with fail
  refine hck.mono ?_
  rintro e w1 ⟨rfl, b1⟩
  have r1 := r0.kept b1
  have h1 := h0.kept b1
  have HB1 : Hid (Below w.heap.size w w1) := HB0.out.trans (b1.mono HB0.out.size)
  clear hck ld r0 h0 b1 HB0
  by_cases hC : checkM r = 0
  · have hC' : ((checkM r : Nat) : Int) = 0 := by omega
    obtain ⟨a0, ⟨a1, a2, a3⟩, k1, k2, k3⟩ := (checkM_zero r).1 hC
    have okf := chkL_ok _ _ k1
    have oki := chkL_ok _ _ k3
    have HC : Hid (checkM r = 0) := hC
    have hnf := h1.nf
    have hnd := h1.nd
    have hni := h1.ni
    unfold okSt at a0
    simp only [decide_eq_true_eq] at a0
    have c0 : w1.cell? ⟨z, 0, none⟩ = some (.int .i64 r.st) := by rw [r1.cell]; rfl
    have c1 : w1.cell? ⟨z, 1, none⟩ = some (.slice xf nf cf) := by rw [r1.cell]; rfl
    have c2 : w1.cell? ⟨z, 2, none⟩ = some (.slice xd nd cd) := by rw [r1.cell]; rfl
    have c3 : w1.cell? ⟨z, 3, none⟩ = some (.slice xi ni ci) := by rw [r1.cell]; rfl
    clear k1 k2 k3 r1 hC
    obtain ⟨sb, hsb⟩ : ∃ b : UInt8, b = UInt8.ofNat r.st.toNat := ⟨_, rfl⟩
    have hsb2 : r.st % 256 = (sb.toNat : Int) := by rw [hsb, UInt8.toNat_ofNat']; omega
    have HSB : Hid (sb = UInt8.ofNat r.st.toNat) := hsb
    clear hsb a0
    have kc := Lib.run_convert_bytes_const (P := Tryz.prog) w1 33 5 #[.int .u8 65, .int .u8 82, .int .u8 1] 3 3 Tryz.underlying33 Tryz.underlying5
    have k7 : (#[.int .u8 65, .int .u8 82, .int .u8 1] : Array Value).size = 3 := rfl
    rw [k7] at kc
    clear k7
    have bM := below_alloc w1 (.cells #[.int .u8 65, .int .u8 82, .int .u8 1] 5 (3, 3 + 1))
    have cM := cell_later bM c0
    have hM : (w1.alloc (.cells #[.int .u8 65, .int .u8 82, .int .u8 1] 5 (3, 3 + 1))).heap[w1.heap.size]? = some (.cells (bytesA [65, 82, 1]) 5 (3, 3 + 1)) := heap_alloc_last w1 _
    have bN := below_alloc (w1.alloc (.cells #[.int .u8 65, .int .u8 82, .int .u8 1] 5 (3, 3 + 1))) (.cells #[.int .u8 (sb.toNat : Int)] 5)
    obtain ⟨v2, w2, hra, hO, b2⟩ := run_app1Mk ((w1.alloc (.cells #[.int .u8 65, .int .u8 82, .int .u8 1] 5 (3, 3 + 1))).alloc (.cells #[.int .u8 (sb.toNat : Int)] 5)) w1.heap.size (w1.heap.size + 1) 1 [65, 82, 1] sb 33 (by rw [bN.block _ (by simp)]; exact hM) (by simp) (by simp)
    have b12 : Below w1.heap.size w1 w2 := (bM.trans (bN.mono bM.size)).trans (b2.mono (Nat.le_trans bM.size bN.size))
    have hO2 : OwnB w2 w1.heap.size v2 [65, 82, 1, sb] := OwnB.le22 hO (Nat.le_trans bM.size bN.size)
    clear bM bN hM hO b2
    obtain ⟨P0, hP0⟩ : ∃ P, [65, 82, 1, sb] = P := ⟨_, rfl⟩
    have HP0 : Hid (P0 = [65, 82, 1, sb]) := hP0.symm
    have hL0 : P0.length = 4 := by rw [← hP0]; rfl
    rw [hP0] at hO2
    have hO := hO2
    clear hO2 hP0
    go_upto_region 5 with (first | (at_builtin; refine wpL_appG 33 rfl _ _ rfl _ w2 (by exact hra) ?_))
    clear hra c0 cM kc
    have f1 := cell_later b12 c1
    have hT := two22 (nf) (by omega) w2
    go_wp2_with fail
    refine hT.mono ?_
    rintro e w2t ⟨gt, rfl, hgt, hrow, bT⟩
    obtain ⟨v4, w4, hra, hO9, bA, -⟩ := appB22 w2t w1.heap.size v2 (P0) (some ⟨gt, 0, none⟩) 2 2 (two (nf)) 33 (hO.keep bT) rfl (hrow.isB 2) (by rw [two_len]; omega) (Nat.le_trans b12.size bT.size)
    have b9 : Below w1.heap.size w1 w4 := (b12.trans (bT.mono b12.size)).trans bA
    clear hT hgt hrow bT bA hO b12
    have hO := hO9
    have b12 := b9
    clear hO9 b9
    clear f1
    have f1 := cell_later b12 c1
    go_wp2_with (first | (at_builtin; refine wpL_appG 33 rfl _ _ rfl _ w4 (by exact hra) ?_))
    clear hra f1
    obtain ⟨P1, hP1⟩ : ∃ P, P0 ++ two nf = P := ⟨_, rfl⟩
    have HP1 : Hid (P1 = P0 ++ two nf) := hP1.symm
    have hL1 : P1.length = 6 := by rw [← hP1, List.length_append, hL0]; rfl
    rw [hP1] at hO
    clear hP1
    go_loopw [5, 33] (fun bv kv wr => ∃ (bv0 : Value) (k : Nat), bv0 = bv ∧ k ≤ nf ∧ kv = .int .i64 k ∧ OwnB wr w1.heap.size bv0 (P1 ++ (r.fs.take k).flatMap fB) ∧ Below w1.heap.size w1 wr) (fun _ kv _ => nf - (intOf kv).toNat)
    case atStart => exact ⟨_, 0, rfl, by omega, rfl, by simpa using hO, b12⟩
    case round =>
      clear hO b12
      obtain ⟨bv, k, rfl, hk, rfl, hO, b12⟩ := hrel
      by_cases hlt : k < nf
      · have i0 : (k : Int) < (nf : Int) := by omega
        have i1 : (0 : Int) ≤ (k : Int) := by omega
        have wk2 : IntKind.i64.wrap ((k : Int) + 1) = (k : Int) + 1 := by rw [IntKind.wrap_i64]; omega
        obtain ⟨v, hv⟩ : ∃ v, r.fs[k]? = some v := ⟨_, List.getElem?_eq_getElem (by omega)⟩
        have hft := flat_take fB r.fs k v hv
        have hfl : ((r.fs.take k).flatMap fB).length ≤ 196605 := by rw [flat_len fB 3 fB_len, List.length_take]; omega
        obtain ⟨Q, hQ⟩ : ∃ Q, P1 ++ (r.fs.take k).flatMap fB = Q := ⟨_, rfl⟩
        have hQl : Q.length ≤ P1.length + 196605 := by rw [← hQ, List.length_append]; omega
        have HQ : Hid (P1 ++ (r.fs.take (k + 1)).flatMap fB = Q ++ fB v) := by show _ = _; rw [hft, ← List.append_assoc, hQ]
        rw [hQ] at hO
        clear hft hQ hfl
        obtain ⟨gl, o, rfl, hgl, -, -, q1, q2⟩ := fd_at (h1.f.kept b12) k v hv
        have ldk := run_fd_mid wr gl (o + k * 2) q1
        rw [q2] at ldk
        have hov := okf v (List.mem_of_getElem? hv)
        unfold okF at hov
        simp only [decide_eq_true_eq] at hov
        obtain ⟨kb, hkb⟩ : ∃ b : UInt8, b = UInt8.ofNat v.1.toNat := ⟨_, rfl⟩
        have hkb2 : v.1 % 256 = (kb.toNat : Int) := by rw [hkb, UInt8.toNat_ofNat']; omega
        obtain ⟨va, hva⟩ : ∃ n : Nat, v.2 = (n : Int) := ⟨v.2.toNat, by omega⟩
        have HEN : Hid (fB v = [kb] ++ two va) := by show _ = _; rw [fB_app, hkb, hva, Int.toNat_natCast]
        have hva9 : va ≤ 1023 := by omega
        have st := run_store_fd (wr.alloc (.cells (fdA fdZ) 25)) wr.heap.size (fdA v) (by rw [(RowC.new wr _ _).1]) (by rw [(RowC.new wr _ _).2]; rfl) rfl (fdA_one _)
        have bS := below_alloc wr (.cells (fdA v) 25)
        have hV := RowC.new wr (fdA v) 25
        clear q1 q2 hgl hkb hov
        go_upto_region 9 with fail
        have e0 : (wr.alloc (.cells (fdA v) 25)).cell? ⟨wr.heap.size, 0, none⟩ = some (.int .i64 v.1) := by rw [hV.cell]; rfl
        have e1 : (wr.alloc (.cells (fdA v) 25)).cell? ⟨wr.heap.size, 1, none⟩ = some (.int .i64 v.2) := by rw [hV.cell]; rfl
        have hOX := hO.keep bS
        have bX : Below w1.heap.size w1 (wr.alloc (.cells (fdA v) 25)) := b12.trans (bS.mono b12.size)
        have hbo := hO.lt22
        obtain ⟨zv, hzv⟩ : ∃ z, wr.heap.size = z := ⟨_, rfl⟩
        try simp only [hzv]
        rw [hzv] at e0 e1 hbo
        rw [hva] at e1
        clear st ldk hV hO b12 bS hzv
        generalize wr.alloc (.cells (fdA v) 25) = X at e0 e1 hOX bX ⊢
        have bY := below_alloc X (.cells #[.int .u8 (kb.toNat : Int)] 5)
        have hy : IsB (X.alloc (.cells #[.int .u8 (kb.toNat : Int)] 5)) (.slice (some ⟨X.heap.size, 0, none⟩) 1 1) [kb] := (show rowB (X.alloc (.cells #[.int .u8 (kb.toNat : Int)] 5)) X.heap.size [kb] from heap_alloc_last X _).isB 1
        obtain ⟨v5, w5, hra, hO5, b5, hg5⟩ := appB22 (X.alloc (.cells #[.int .u8 (kb.toNat : Int)] 5)) w1.heap.size bv Q (some ⟨X.heap.size, 0, none⟩) 1 1 [kb] 33 (hOX.keep bY) rfl hy (by simp; omega) (Nat.le_trans bX.size bY.size)
        have e1' : w5.cell? ⟨zv, 1, none⟩ = some (.int .i64 (va : Int)) := grown_cell22 hg5 (cell_later bY e1) (fun h9 => by have := (hbo zv h9).2; omega)
        have b15 : Below w1.heap.size w1 w5 := (bX.trans (bY.mono bX.size)).trans b5
        clear bY hy b5 hg5 hOX bX hbo e1
        go_upto_region 10 with (first | (at_builtin; refine wpL_appG 33 rfl _ _ rfl _ w5 (by exact hra) ?_))
        clear hra
        have hT := two22 (va) (by omega) w5
        go_wp2_with fail
        refine hT.mono ?_
        rintro e w5t ⟨gt, rfl, hgt, hrow, bT⟩
        obtain ⟨v6, w6, hra, hO9, bA, -⟩ := appB22 w5t w1.heap.size v5 (Q ++ [kb]) (some ⟨gt, 0, none⟩) 2 2 (two (va)) 33 (hO5.keep bT) rfl (hrow.isB 2) (by rw [two_len]; rw [List.length_append]; simp; omega) (Nat.le_trans b15.size bT.size)
        have b9 : Below w1.heap.size w1 w6 := (b15.trans (bT.mono b15.size)).trans bA
        clear hT hgt hrow bT bA hO5 b15
        have hO5 := hO9
        have b15 := b9
        clear hO9 b9
        have HO9 : Hid (OwnB w6 w1.heap.size v6 (P1 ++ (r.fs.take (k + 1)).flatMap fB)) := by show OwnB _ _ _ _; rw [HQ.out, HEN.out, ← List.append_assoc]; exact hO5
        have HB9 : Hid (Below w1.heap.size w1 w6) := b15
        have HLT : Hid (k < nf) := hlt
        clear hO5 b15
        go_wp2_with (first | (at_builtin; refine wpL_appG 33 rfl _ _ rfl _ w6 (by exact hra) ?_))
        clear hra
        go_roundw
        case rel => first | exact ⟨_, k + 1, rfl, by have := HLT.out; omega, by go_num, HO9.out, HB9.out⟩ | ((repeat apply Exists.intro); refine ⟨⟨_, k + 1, rfl, by have := HLT.out; omega, ?_, HO9.out, HB9.out⟩, rfl⟩; go_num)
        case measure => have := HLT.out; simp [intOf]; omega
      · obtain rfl : k = nf := by omega
        have i0 : ¬ (k : Int) < (k : Int) := by omega
        rw [List.take_of_length_le (by omega)] at hO
        have hL2 : (P1 ++ r.fs.flatMap fB).length ≤ 196611 := by rw [List.length_append, flat_len fB 3 fB_len]; omega
        have HP2 : Hid _ := (rfl : P1 ++ r.fs.flatMap fB = P1 ++ r.fs.flatMap fB)
        obtain ⟨R1, hR1⟩ : ∃ R, P1 ++ r.fs.flatMap fB = R := ⟨_, rfl⟩
        have HR1 : Hid (R1 = P1 ++ r.fs.flatMap fB) := hR1.symm
        rw [hR1] at hO hL2
        have f2 := cell_later b12 c2
        clear hR1 HP2 hlt hk
        go_upto_region 12 with fail
        clear i0
        have hT := two22 (nd) (by omega) wr
        go_wp2_with fail
        refine hT.mono ?_
        rintro e wrt ⟨gt, rfl, hgt, hrow, bT⟩
        obtain ⟨v4b, w4b, hra, hO9, bA, -⟩ := appB22 wrt w1.heap.size bv (R1) (some ⟨gt, 0, none⟩) 2 2 (two (nd)) 33 (hO.keep bT) rfl (hrow.isB 2) (by rw [two_len]; omega) (Nat.le_trans b12.size bT.size)
        have b9 : Below w1.heap.size w1 w4b := (b12.trans (bT.mono b12.size)).trans bA
        clear hT hgt hrow bT bA hO b12
        have hO := hO9
        have b12 := b9
        clear hO9 b9
        clear f2
        have f2 := cell_later b12 c2
        go_wp2_with (first | (at_builtin; refine wpL_appG 33 rfl _ _ rfl _ w4b (by exact hra) ?_))
        clear hra f2
        obtain ⟨P2, hP2⟩ : ∃ P, R1 ++ two nd = P := ⟨_, rfl⟩
        have HP2 : Hid (P2 = R1 ++ two nd) := hP2.symm
        have hM2 : P2.length ≤ 196613 := by rw [← hP2, List.length_append, two_len]; omega
        rw [hP2] at hO
        clear hP2
        go_loopw [5, 58] (fun bv kv wr => ∃ (bv0 : Value) (k : Nat), bv0 = bv ∧ k ≤ nd ∧ kv = .int .i64 k ∧ OwnB wr w1.heap.size bv0 (P2 ++ (r.ds.take k).flatMap dB) ∧ Below w1.heap.size w1 wr) (fun _ kv _ => nd - (intOf kv).toNat)
        case atStart => exact ⟨_, 0, rfl, by omega, rfl, by simpa using hO, b12⟩
        case round =>
          clear hO b12
          obtain ⟨bv, k, rfl, hk, rfl, hO, b12⟩ := hrel
          by_cases hlt : k < nd
          · have i0 : (k : Int) < (nd : Int) := by omega
            have i1 : (0 : Int) ≤ (k : Int) := by omega
            have wk2 : IntKind.i64.wrap ((k : Int) + 1) = (k : Int) + 1 := by rw [IntKind.wrap_i64]; omega
            obtain ⟨v, hv⟩ : ∃ v, r.ds[k]? = some v := ⟨_, List.getElem?_eq_getElem (by omega)⟩
            have hft := flat_take dB r.ds k v hv
            have hfl : ((r.ds.take k).flatMap dB).length ≤ 2097120 := by rw [flat_len dB 32 dB_len, List.length_take]; omega
            obtain ⟨Q, hQ⟩ : ∃ Q, P2 ++ (r.ds.take k).flatMap dB = Q := ⟨_, rfl⟩
            have hQl : Q.length ≤ P2.length + 2097120 := by rw [← hQ, List.length_append]; omega
            have HQ : Hid (P2 ++ (r.ds.take (k + 1)).flatMap dB = Q ++ dB v) := by show _ = _; rw [hft, ← List.append_assoc, hQ]
            rw [hQ] at hO
            clear hft hQ hfl
            obtain ⟨gl, o, rfl, hgl, q1, q2⟩ := dg_at (h1.d.kept b12) k v hv
            have ldk := run_dg_mid wr gl (o + k * 32) q1
            rw [q2] at ldk
            have st := dg_run_secStore (wr.alloc (.cells (dg_secA dg_secZ) 50)) wr.heap.size v (RowC.new wr _ _).dg.1
            have bS := below_alloc wr (.cells (dg_secA v) 50)
            have hV := RowC.new wr (dg_secA v) 50
            clear q1 q2 hgl
            go_upto_region 16 with fail
            have hOX := hO.keep bS
            have bX : Below w1.heap.size w1 (wr.alloc (.cells (dg_secA v) 50)) := b12.trans (bS.mono b12.size)
            obtain ⟨zv, hzv⟩ : ∃ z, wr.heap.size = z := ⟨_, rfl⟩
            try simp only [hzv]
            rw [hzv] at hV
            clear st ldk hO b12 bS hzv
            generalize wr.alloc (.cells (dg_secA v) 50) = X at hV hOX bX ⊢
            obtain ⟨v6, w6, hra, hO5, b5, -⟩ := appB22 X w1.heap.size bv Q (some ⟨zv, 0, none⟩) 32 32 (dB v) 33 hOX (dB_len v) (isB_dg22 hV) (by rw [dB_len]; omega) bX.size
            have HO9 : Hid (OwnB w6 w1.heap.size v6 (P2 ++ (r.ds.take (k + 1)).flatMap dB)) := by show OwnB _ _ _ _; rw [HQ.out]; exact hO5
            have HB9 : Hid (Below w1.heap.size w1 w6) := bX.trans b5
            have HLT : Hid (k < nd) := hlt
            clear hO5 b5 hOX bX hV
            go_wp2_with (first | (at_builtin; refine wpL_appG 33 rfl _ _ rfl _ w6 (by exact hra) ?_))
            clear hra
            go_roundw
            case rel => first | exact ⟨_, k + 1, rfl, by have := HLT.out; omega, by go_num, HO9.out, HB9.out⟩ | ((repeat apply Exists.intro); refine ⟨⟨_, k + 1, rfl, by have := HLT.out; omega, ?_, HO9.out, HB9.out⟩, rfl⟩; go_num)
            case measure => have := HLT.out; simp [intOf]; omega
          · obtain rfl : k = nd := by omega
            have i0 : ¬ (k : Int) < (k : Int) := by omega
            rw [List.take_of_length_le (by omega)] at hO
            have hL3 : (P2 ++ r.ds.flatMap dB).length ≤ 2293733 := by rw [List.length_append, flat_len dB 32 dB_len]; omega
            obtain ⟨R2, hR2⟩ : ∃ R, P2 ++ r.ds.flatMap dB = R := ⟨_, rfl⟩
            have HR2 : Hid (R2 = P2 ++ r.ds.flatMap dB) := hR2.symm
            rw [hR2] at hO hL3
            have f3 := cell_later b12 c3
            clear hR2 hlt hk
            go_upto_region 18 with fail
            clear i0
            have hT := two22 (ni) (by omega) wr
            go_wp2_with fail
            refine hT.mono ?_
            rintro e wrt ⟨gt, rfl, hgt, hrow, bT⟩
            obtain ⟨v4c, w4c, hra, hO9, bA, -⟩ := appB22 wrt w1.heap.size bv (R2) (some ⟨gt, 0, none⟩) 2 2 (two (ni)) 33 (hO.keep bT) rfl (hrow.isB 2) (by rw [two_len]; omega) (Nat.le_trans b12.size bT.size)
            have b9 : Below w1.heap.size w1 w4c := (b12.trans (bT.mono b12.size)).trans bA
            clear hT hgt hrow bT bA hO b12
            have hO := hO9
            have b12 := b9
            clear hO9 b9
            clear f3
            have f3 := cell_later b12 c3
            go_wp2_with (first | (at_builtin; refine wpL_appG 33 rfl _ _ rfl _ w4c (by exact hra) ?_))
            clear hra f3
            obtain ⟨P3, hP3⟩ : ∃ P, R2 ++ two ni = P := ⟨_, rfl⟩
            have HP3 : Hid (P3 = R2 ++ two ni) := hP3.symm
            have hM3 : P3.length ≤ 2293735 := by rw [← hP3, List.length_append, two_len]; omega
            rw [hP3] at hO
            clear hP3
            go_loopw [5, 75] (fun bv kv wr => ∃ (bv0 : Value) (k : Nat), bv0 = bv ∧ k ≤ ni ∧ kv = .int .i64 k ∧ OwnB wr w1.heap.size bv0 (P3 ++ (r.dr.take k).flatMap sB) ∧ Below w1.heap.size w1 wr) (fun _ kv _ => ni - (intOf kv).toNat)
            case atStart => exact ⟨_, 0, rfl, by omega, rfl, by simpa using hO, b12⟩
            case round =>
              clear hO b12
              obtain ⟨bv, k, rfl, hk, rfl, hO, b12⟩ := hrel
              by_cases hlt : k < ni
              · have i0 : (k : Int) < (ni : Int) := by omega
                have i1 : (0 : Int) ≤ (k : Int) := by omega
                have wk2 : IntKind.i64.wrap ((k : Int) + 1) = (k : Int) + 1 := by rw [IntKind.wrap_i64]; omega
                obtain ⟨v, hv⟩ : ∃ v, r.dr[k]? = some v := ⟨_, List.getElem?_eq_getElem (by omega)⟩
                have hft := flat_take sB r.dr k v hv
                have hfl : ((r.dr.take k).flatMap sB).length ≤ 131070 := by rw [flat_len sB 2 (fun _ => rfl), List.length_take]; omega
                obtain ⟨Q, hQ⟩ : ∃ Q, P3 ++ (r.dr.take k).flatMap sB = Q := ⟨_, rfl⟩
                have hQl : Q.length ≤ P3.length + 131070 := by rw [← hQ, List.length_append]; omega
                have HQ : Hid (P3 ++ (r.dr.take (k + 1)).flatMap sB = Q ++ sB v) := by show _ = _; rw [hft, ← List.append_assoc, hQ]
                rw [hQ] at hO
                clear hft hQ hfl
                have hlW : IsG wr (.slice xi (inV r.dr).length ci) (inV r.dr) := by rw [inV_len, hni]; exact h1.i.kept b12
                obtain ⟨gl, o, rfl, hgl, q1⟩ := hlW.spot k (by rw [inV_len]; omega)
                have ldk : wr.cell? ⟨gl, o + k, none⟩ = some (.int .i64 v) := q1 k _ (inV_get r.dr k v hv)
                have hov := oki v (List.mem_of_getElem? hv)
                unfold okI at hov
                simp only [decide_eq_true_eq] at hov
                obtain ⟨va, hva⟩ : ∃ n : Nat, v = (n : Int) := ⟨v.toNat, by omega⟩
                have HEN : Hid (sB v = two va) := by show _ = _; unfold sB; rw [hva, Int.toNat_natCast]
                have hva9 : va ≤ 127 := by omega
                rw [hva] at ldk
                clear q1 hgl hlW hov hva
                go_upto_region 22 with fail
                clear ldk
                have hT := two22 (va) (by omega) wr
                go_wp2_with fail
                refine hT.mono ?_
                rintro e wrt ⟨gt, rfl, hgt, hrow, bT⟩
                obtain ⟨v6, w6, hra, hO9, bA, -⟩ := appB22 wrt w1.heap.size bv (Q) (some ⟨gt, 0, none⟩) 2 2 (two (va)) 33 (hO.keep bT) rfl (hrow.isB 2) (by rw [two_len]; omega) (Nat.le_trans b12.size bT.size)
                have b9 : Below w1.heap.size w1 w6 := (b12.trans (bT.mono b12.size)).trans bA
                clear hT hgt hrow bT bA hO b12
                have hO := hO9
                have b12 := b9
                clear hO9 b9
                have HO9 : Hid (OwnB w6 w1.heap.size v6 (P3 ++ (r.dr.take (k + 1)).flatMap sB)) := by show OwnB _ _ _ _; rw [HQ.out, HEN.out]; exact hO
                have HB9 : Hid (Below w1.heap.size w1 w6) := b12
                have HLT : Hid (k < ni) := hlt
                clear hO b12
                go_wp2_with (first | (at_builtin; refine wpL_appG 33 rfl _ _ rfl _ w6 (by exact hra) ?_))
                clear hra
                go_roundw
                case rel => first | exact ⟨_, k + 1, rfl, by have := HLT.out; omega, by go_num, HO9.out, HB9.out⟩ | ((repeat apply Exists.intro); refine ⟨⟨_, k + 1, rfl, by have := HLT.out; omega, ?_, HO9.out, HB9.out⟩, rfl⟩; go_num)
                case measure => have := HLT.out; simp [intOf]; omega
              · obtain rfl : k = ni := by omega
                have i0 : ¬ (k : Int) < (k : Int) := by omega
                rw [List.take_of_length_le (by omega)] at hO
                have hL4 : (P3 ++ r.dr.flatMap sB).length ≤ 2424805 := by rw [List.length_append, flat_len sB 2 (fun _ => rfl)]; omega
                have HBD : Hid (P3 ++ r.dr.flatMap sB = bodyM r) := by
                  show _ = _
                  rw [HP3.out, HR2.out, HP2.out, HR1.out, HP1.out, HP0.out, HSB.out]
                  unfold bodyM
                  rw [hnf, hnd, hni]
                  simp only [List.append_assoc]
                rw [HBD.out] at hO hL4
                obtain ⟨xb, cb, hbv⟩ := hO.isB.len
                obtain ⟨nb, hnb⟩ : ∃ n, (bodyM r).length = n := ⟨_, rfl⟩
                rw [hnb] at hbv
                subst hbv
                have hsu := sumOf22 xb nb cb (bodyM r) wr hO.isB (by unfold maxLen; omega)
                clear hlt hk hnf hnd hni okf oki
                go_wp2_with fail
                refine hsu.mono ?_
                rintro e w8 ⟨gs, rfl, hgs, hrow, bT⟩
                obtain ⟨v9, w9, hra, hO9, bA, -⟩ := appB22 w8 w1.heap.size (.slice xb nb cb) (bodyM r) (some ⟨gs, 0, none⟩) 4 4 (le4 (sumL (bodyM r)).toNat) 33 (hO.keep bT) rfl (hrow.isB 4) (by rw [le4_len]; omega) (Nat.le_trans b12.size bT.size)
                have HB9 : Hid (Below w.heap.size w w9) := HB1.out.trans (((b12.trans (bT.mono b12.size)).trans bA).mono HB1.out.size)
                have HO9 : Hid (OwnB w9 w.heap.size v9 (putM r)) := by
                  show OwnB _ _ _ _
                  unfold putM
                  rw [if_pos HC.out]
                  exact OwnB.le22 hO9 HB1.out.size
                clear hsu hO b12 hgs hrow bT bA hO9
                go_wp2_with (first | (at_builtin; refine wpL_appG 33 rfl _ _ rfl _ w9 (by exact hra) ?_))
                (try simp only [Exit.inBlock, Exit.then])
                go_ret2
                refine ⟨HB9.out, v9, ?_, HO9.out⟩
                rw [HC.out]
                rfl
  · have hC' : ¬ ((checkM r : Nat) : Int) = 0 := by omega
    have HP : Hid (putM r = []) := by show _ = _; unfold putM; rw [if_neg hC]
    clear h1 r1 hC
    go_wp2
    go_ret2
    refine ⟨HB1.out, _, rfl, ?_⟩
    rw [HP.out]
    exact OwnB.nil _ _
end Go.Proofs.YtklbdhpnbjhgkaaGreatDoor
