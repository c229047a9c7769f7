import Derived.Test.YtklbdhpnbjhgkaaGreatDoorQFin3
namespace Go.Proofs.YtklbdhpnbjhgkaaGreatDoor
open Go.RowKit Go.Sort

/-! Whether a report is in form -/
set_option linter.unusedSimpArgs false in
theorem isFinding22 (f : Fd) (w : World) : Calls Tryz.prog 54 #[.agg (fdA f)] w fun e w' => e = .returned (.bool (okF f)) ∧ Below w.heap.size w w' := by
  have b0 := below_alloc w (.cells (fdA f) 25)
  have c0 : (w.alloc (.cells (fdA f) 25)).cell? ⟨w.heap.size, 0, none⟩ = some (.int .i64 f.1) := by rw [(RowC.new w _ _).cell]; rfl
  have c1 : (w.alloc (.cells (fdA f) 25)).cell? ⟨w.heap.size, 1, none⟩ = some (.int .i64 f.2) := by rw [(RowC.new w _ _).cell]; rfl
  have h1 := isKind22 f.1 (w.alloc (.cells (fdA f) 25))
  have h2 := isAt22 f.2 (w.alloc (.cells (fdA f) 25))
  cases hk : okR 1 19 f.1
  · have hF : okF f = false := by unfold okR at hk; unfold okF; simp at hk ⊢; omega
    rw [hF]
    rw [hk] at h1
    go_enter Tryz.func54, Tryz.ntmps54
    go_upto_region 1 with fail
    generalize w.alloc (.cells (fdA f) 25) = W at b0 c0 c1 h1 h2 ⊢
    go_wp2_with fail
    refine h1.mono ?_
    rintro e w' ⟨rfl, rfl⟩
    go_wp2
    go_ret
    exact ⟨rfl, b0⟩
  · have hF : okF f = okR 0 1023 f.2 := by unfold okR at hk ⊢; unfold okF; rw [Bool.eq_iff_iff]; simp at hk ⊢; omega
    rw [hF]
    rw [hk] at h1
    go_enter Tryz.func54, Tryz.ntmps54
    go_upto_region 1 with fail
    generalize w.alloc (.cells (fdA f) 25) = W at b0 c0 c1 h1 h2 ⊢
    go_wp2_with fail
    refine h1.mono ?_
    rintro e w' ⟨rfl, rfl⟩
    go_wp2_with fail
    refine h2.mono ?_
    rintro e w'' ⟨rfl, rfl⟩
    go_wp2
    go_ret
    exact ⟨rfl, b0⟩
theorem isSlot22b (v : Int) (w : World) : Calls Tryz.prog 58 #[.int .i64 v] w fun e w' => e = .returned (.bool (okI v)) ∧ Below w.heap.size w w' :=
  (isSlot22 v w).mono fun e w' ⟨h1, h2⟩ => by subst h2; exact ⟨h1, Below.refl _ _⟩
theorem anyDig22b (d : Dg) (w : World) : Calls Tryz.prog 56 #[.agg (dg_secA d)] w fun e w' => e = .returned (.bool (okD d)) ∧ Below w.heap.size w w' := anyDig22 d w
def prevL {α : Type} (l : List α) (k : Nat) : Option α := if k = 0 then none else l[k - 1]?
theorem drop_at22 {α : Type} (l : List α) (k : Nat) (v : α) (h : l[k]? = some v) : l.drop k = v :: l.drop (k + 1) := by
  obtain ⟨hk, rfl⟩ := List.getElem?_eq_some_iff.1 h
  exact List.drop_eq_getElem_cons hk
theorem chk_range {α : Type} {ok : α → Bool} {lt : α → α → Bool} {l : List α} {k : Nat} {v : α} (p : Option α) (hv : l[k]? = some v) (ho : ok v = false) : chkL ok lt p (l.drop k) = 13 := by
  rw [drop_at22 l k v hv, chkL, ho]; rfl
theorem chk_form {α : Type} {ok : α → Bool} {lt : α → α → Bool} {l : List α} {k : Nat} {v : α} {p : Option α} (hv : l[k]? = some v) (ho : ok v = true) (hb : behO lt p v = false) : chkL ok lt p (l.drop k) = 11 := by
  rw [drop_at22 l k v hv, chkL, ho, hb]; rfl
theorem chk_next {α : Type} {ok : α → Bool} {lt : α → α → Bool} {l : List α} {k : Nat} {v : α} {p : Option α} (hv : l[k]? = some v) (ho : ok v = true) (hb : behO lt p v = true) : chkL ok lt p (l.drop k) = chkL ok lt (prevL l (k + 1)) (l.drop (k + 1)) := by
  rw [drop_at22 l k v hv, chkL, ho, hb]
  show chkL ok lt (some v) _ = _
  unfold prevL
  rw [if_neg (by omega), Nat.add_sub_cancel, hv]
set_option linter.unusedSimpArgs false in
set_option maxRecDepth 100000 in
set_option maxHeartbeats 4000000 in
theorem check_fd22 (w : World) (x : Option Addr) (n c : Nat) (l : List Fd) (hl : IsK fdE w (.slice x n c) l) (hn : l.length = n) (hs : n ≤ 65535) :
    Calls Tryz.prog 53 #[.slice x n c, .func (.func 54) #[] #[], .func (.func 23) #[] #[]] w fun e w' => e = .returned (.int .i64 (chkL okF ltF none l : Nat)) ∧ Below w.heap.size w w' := by
  have en1 : ∀ args w, (callFunc 54 args).run Tryz.prog w = .ok (.enter 54 args) w := enters_of Tryz.func54 (by kernel_rfl) rfl
  have en2 : ∀ args w, (callFunc 23 args).run Tryz.prog w = .ok (.enter 23 args) w := enters_of Tryz.func23 (by kernel_rfl) rfl
  obtain ⟨RES, hres⟩ : ∃ r, chkL okF ltF none l = r := ⟨_, rfl⟩
  have HRES : Hid (chkL okF ltF none l = RES) := hres
  rw [hres]
  clear hres
  go_enter Tryz.func53, Tryz.ntmps53
  go_wp2_with fail
  go_loopw [11] (fun kv wr => ∃ k : Nat, k ≤ n ∧ kv = .int .i64 k ∧ chkL okF ltF none l = chkL okF ltF (prevL l k) (l.drop k) ∧ Below w.heap.size w wr) (fun kv _ => n - (intOf kv).toNat)
  case atStart => exact ⟨0, by omega, rfl, rfl, Below.refl _ _⟩
  case round =>
    obtain ⟨k, hk, rfl, hE, hB⟩ := hrel
    by_cases hlt : k < n
    · have i0 : (k : Int) < (n : Int) := by omega
      have i1 : (0 : Int) ≤ (k : Int) := by omega
      have wk2 : IntKind.i64.wrap ((k : Int) + 1) = (k : Int) + 1 := by rw [IntKind.wrap_i64]; omega
      obtain ⟨v, hv⟩ : ∃ v, l[k]? = some v := ⟨_, List.getElem?_eq_getElem (by omega)⟩
      obtain ⟨gl, o, rfl, hgl, -, -, k1, k2⟩ := fd_at (hl.kept hB) k v hv
      have ldk := run_fd_mid wr gl (o + k * 2) k1
      rw [k2] at ldk
      clear k1 k2
      have HE : Hid (RES = chkL okF ltF (prevL l k) (l.drop k)) := HRES.out.symm.trans hE
      have HV : Hid (l[k]? = some v) := hv
      have HBL : Hid (Below w.heap.size w wr) := hB
      have HSZ : Hid (gl < wr.heap.size) := hgl
      have HL : Hid (IsK fdE w (.slice (some ⟨gl, o, none⟩) n c) l) := hl
      have HNN : Hid (l.length = n) := hn
      have HS9 : Hid (n ≤ 65535) := hs
      clear hE hv hB hgl hl hn hs
      have st := run_store_fd (wr.alloc (.cells (fdA fdZ) 25)) wr.heap.size (fdA v) (by rw [(RowC.new wr _ _).1]) (by rw [(RowC.new wr _ _).2]; rfl) rfl (fdA_one _)
      have bS := below_alloc wr (.cells (fdA v) 25)
      have hV := RowC.new wr (fdA v) 25
      go_upto_region 4 with fail
      obtain ⟨zv, hzv⟩ : ∃ z, wr.heap.size = z := ⟨_, rfl⟩
      try simp only [hzv]
      rw [hzv] at hV
      clear st ldk
      generalize wr.alloc (.cells (fdA v) 25) = W at bS hV ⊢
      clear hzv
      have HBW : Hid (Below w.heap.size w W) := HBL.out.trans (bS.mono HBL.out.size)
      have ld := run_load_fd W zv hV.1 (by rw [hV.2]; rfl)
      rw [hV.2] at ld
      clear bS
      have hw := isFinding22 v W
      cases hok : okF v
      · rw [hok] at hw
        have HE3 : Hid (RES = 13) := by show _ = _; rw [HE.out]; exact chk_range _ HV.out hok
        clear hok
        go_wp2_with fail
        refine hw.mono ?_
        rintro e w2 ⟨rfl, b2⟩
        have HB2 : Hid (Below w.heap.size w w2) := HBW.out.trans (b2.mono HBW.out.size)
        clear hw b2
        go_wp2
        go_ret
        exact ⟨by rw [HE3.out]; rfl, HB2.out⟩
      · rw [hok] at hw
        have HOK : Hid (okF v = true) := hok
        clear hok
        go_wp2_with fail
        refine hw.mono ?_
        rintro e w2 ⟨rfl, b2⟩
        have HB2 : Hid (Below w.heap.size w w2) := HBW.out.trans (b2.mono HBW.out.size)
        have CV : Hid (∀ y, Below w2.heap.size w2 y → (bigLoad 25 (.pointer (some ⟨zv, 0, none⟩))).run Tryz.prog y = .ok (.value (.agg (fdA v))) y) := fun y hy => by
          have r9 := (hV.kept b2).kept hy
          have h9 := run_load_fd y zv r9.1 (by rw [r9.2]; rfl)
          rw [r9.2] at h9
          exact h9
        clear ld hV
        clear hw
        go_upto_region 6 with fail
        by_cases hk0 : k = 0
        · subst hk0
          have HB9 : Hid (false = !behO ltF (prevL l 0) v) := rfl
          refine wp_reliesT [Fx (.int .i64 (0 : Int)), Fx (.bool false), Fx (.bool false), Fx (undef), Fx (undef), Fx (undef), Fx (undef), Fx (undef), Fx (undef), Fx (undef), Fx (undef), Fx (undef)] (by kernel_rfl) (by kernel_rfl) ?_ ?_ ?_
          · repeat' (first | exact all_nil | apply all_cons)
            all_goals intro v y y' hv hb
            all_goals first | exact Fx_mono _ _ _ _ hv hb
          · refine ⟨?_, ?_, ?_, ?_, ?_, ?_, ?_, ?_, ?_, ?_, ?_, ?_, trivial⟩
            all_goals
              intro ρ y9 hp ρc ρg ρf ho hd
              have o7 : ρ (.tmp 7) = .int .i64 (0 : Int) := ho 7 rfl
              clear ho
              simp only [depsR, depR, slotR, Fx, List.getElem?_cons_succ, List.getElem?_cons_zero, Region.binds, forall_const] at hd
              simp only [guardR]
              go_split_ands
            · go_simp
            · go_simp
            · go_simp
            · refine ⟨fun hy => ?_, fun _ => rfl⟩
              exfalso; simp [yieldR, slotR, undef, *] at hy
            · refine ⟨fun hy => ?_, fun _ => rfl⟩
              exfalso; simp [yieldR, slotR, undef, *] at hy
            · refine ⟨fun hy => ?_, fun _ => rfl⟩
              exfalso; simp [yieldR, slotR, undef, *] at hy
            · refine ⟨fun hy => ?_, fun _ => rfl⟩
              exfalso; simp [yieldR, slotR, undef, *] at hy
            · refine ⟨fun hy => ?_, fun _ => rfl⟩
              exfalso; simp [yieldR, slotR, undef, *] at hy
            · refine ⟨fun hy => ?_, fun _ => rfl⟩
              exfalso; simp [yieldR, slotR, undef, *] at hy
            · refine ⟨fun hy => ?_, fun _ => rfl⟩
              exfalso; simp [yieldR, slotR, undef, *] at hy
            · refine ⟨fun hy => ?_, fun _ => rfl⟩
              exfalso; simp [yieldR, slotR, undef, *] at hy
            · refine ⟨fun hy => ?_, fun _ => rfl⟩
              exfalso; simp [yieldR, slotR, undef, *] at hy
          · intro us x1 hp1 hw
            simp only [owed, Fx] at hw
            obtain ⟨e0, e1, e2, e3, e4, e5, e6, e7, e8, e9, e10, e11, -⟩ := hw
            simp only [List.length_cons, List.length_nil, List.take_succ_cons, List.take_zero, List.drop_succ_cons, List.drop_zero, asg, List.cons_append, List.nil_append, e0, e1, e2, e3, e4, e5, e6, e7, e8, e9, e10, e11]
            clear e0 e1 e2 e3 e4 e5 e6 e7 e8 e9 e10 e11
            cases hb : behO ltF (prevL l 0) v
            · have h9 := HB9.out
              rw [hb] at h9
              cases h9
            · have HE3 : Hid (chkL okF ltF none l = chkL okF ltF (prevL l (0 + 1)) (l.drop (0 + 1))) := by
                show _ = _; rw [HRES.out, HE.out]; exact chk_next HV.out HOK.out hb
              have HB3 : Hid (Below w.heap.size w x1) := HB2.out.trans (hp1.mono HB2.out.size)
              have HLT : Hid (0 < n) := hlt
              clear hp1 hb
              go_wp2_with fail
              go_roundw
              case rel => first | exact ⟨0 + 1, by have := HLT.out; omega, by go_num, HE3.out, HB3.out⟩ | ((repeat apply Exists.intro); refine ⟨⟨0 + 1, by have := HLT.out; omega, ?_, HE3.out, HB3.out⟩, rfl⟩; go_num)
              case measure => have := HLT.out; simp [intOf]; omega
        · obtain ⟨u, hu⟩ : ∃ u, l[k - 1]? = some u := ⟨_, List.getElem?_eq_getElem (by have := HNN.out; omega)⟩
          have hpv : prevL l k = some u := by unfold prevL; rw [if_neg hk0]; exact hu
          have HB9 : Hid ((!ltF u v) = !behO ltF (prevL l k) v) := by show _ = _; rw [hpv]; rfl
          have CL : Hid (∀ y, Below w2.heap.size w2 y → (bigLoad 25 (.pointer (some ⟨gl, o + (k - 1) * 2, none⟩))).run Tryz.prog y = .ok (.value (.agg (fdA u))) y) := fun y hy => by
            obtain ⟨b', o', he, -, -, -, k1, k2⟩ := fd_at ((HL.out.kept HB2.out).kept hy) (k - 1) u hu
            cases he
            have h9 := run_fd_mid y gl (o + (k - 1) * 2) k1
            rw [k2] at h9
            exact h9
          have leB := cmpF_le u v
          have wk1 : IntKind.i64.wrap ((k : Int) - 1) = ((k - 1 : Nat) : Int) := by rw [IntKind.wrap_i64]; have := HS9.out; omega
          have q0 : (0 : Int) < (k : Int) := by omega
          have q1 : ((k - 1 : Nat) : Int) < (n : Int) := by omega
          have q2 : (0 : Int) ≤ ((k - 1 : Nat) : Int) := by omega
          clear hu hpv
          refine wp_reliesT [Fx (.int .i64 (k : Int)), Fx (.bool true), Fx (.bool true), Fx (.func (.func 23) #[] #[]), Fx (.slice (some ⟨gl, o, none⟩) n c), Fx (.int .i64 (k : Int)), Fx (.int .i64 (((k - 1 : Nat)) : Int)), Fx (.pointer (some ⟨gl, o + (k - 1) * 2, none⟩)), Fx (.agg (fdA u)), Fx (.agg (fdA v)), Fx (.int .i64 (cmpF u v)), Fx (.bool (!ltF u v))] (by kernel_rfl) (by kernel_rfl) ?_ ?_ ?_
          · repeat' (first | exact all_nil | apply all_cons)
            all_goals intro v y y' hv hb
            all_goals first | exact Fx_mono _ _ _ _ hv hb
          · refine ⟨?_, ?_, ?_, ?_, ?_, ?_, ?_, ?_, ?_, ?_, ?_, ?_, trivial⟩
            all_goals
              intro ρ y9 hp ρc ρg ρf ho hd
              have o0 : ρ (.tmp 0) = .slice (some ⟨gl, o, none⟩) n c := ho 0 rfl
              have o2 : ρ (.tmp 2) = .func (.func 23) #[] #[] := ho 2 rfl
              have o7 : ρ (.tmp 7) = .int .i64 (k : Int) := ho 7 rfl
              have o8 : ρ (.tmp 8) = .pointer (some ⟨zv, 0, none⟩) := ho 8 rfl
              clear ho
              have z9 := CV.out y9 hp
              simp only [depsR, depR, slotR, Fx, List.getElem?_cons_succ, List.getElem?_cons_zero, Region.binds, forall_const] at hd
              simp only [guardR]
              go_split_ands
            · go_simp
            · go_simp
              try (unfold Fx; simp; omega)
            · go_simp
            · refine ⟨fun _ => ?_, fun hy => absurd (by simp [yieldR, slotR, *]) hy⟩
              go_simp
            · refine ⟨fun _ => ?_, fun hy => absurd (by simp [yieldR, slotR, *]) hy⟩
              go_simp
            · refine ⟨fun _ => ?_, fun hy => absurd (by simp [yieldR, slotR, *]) hy⟩
              go_simp
            · refine ⟨fun _ => ?_, fun hy => absurd (by simp [yieldR, slotR, *]) hy⟩
              go_simp
              try exact wk1
            · refine ⟨fun _ => ?_, fun hy => absurd (by simp [yieldR, slotR, *]) hy⟩
              go_simp
            · refine ⟨fun _ => ?_, fun hy => absurd (by simp [yieldR, slotR, *]) hy⟩
              have z1 := CL.out y9 hp
              go_simp
            · refine ⟨fun _ => ?_, fun hy => absurd (by simp [yieldR, slotR, *]) hy⟩
              go_simp
            · refine ⟨fun _ => ?_, fun hy => absurd (by simp [yieldR, slotR, *]) hy⟩
              go_simp
              exact (byKind22 _ _ _).mono fun e w' ⟨q1, q2⟩ => ⟨_, q1, rfl, below_of_grow q2⟩
            · refine ⟨fun _ => ?_, fun hy => absurd (by simp [yieldR, slotR, *]) hy⟩
              go_simp
              try exact leB
          · intro us x1 hp1 hw
            simp only [owed, Fx] at hw
            obtain ⟨e0, e1, e2, e3, e4, e5, e6, e7, e8, e9, e10, e11, -⟩ := hw
            simp only [List.length_cons, List.length_nil, List.take_succ_cons, List.take_zero, List.drop_succ_cons, List.drop_zero, asg, List.cons_append, List.nil_append, e0, e1, e2, e3, e4, e5, e6, e7, e8, e9, e10, e11]
            clear e0 e1 e2 e3 e4 e5 e6 e7 e8 e9 e10 e11
            cases hb : behO ltF (prevL l k) v
            · have HE3 : Hid (RES = 11) := by show _ = _; rw [HE.out]; exact chk_form HV.out HOK.out hb
              rw [HB9.out, hb]
              have HB3 : Hid (Below w.heap.size w x1) := HB2.out.trans (hp1.mono HB2.out.size)
              clear hp1 hb
              go_wp2
              go_ret
              exact ⟨by rw [HE3.out]; rfl, HB3.out⟩
            · have HE3 : Hid (chkL okF ltF none l = chkL okF ltF (prevL l (k + 1)) (l.drop (k + 1))) := by
                show _ = _; rw [HRES.out, HE.out]; exact chk_next HV.out HOK.out hb
              rw [HB9.out, hb]
              have HB3 : Hid (Below w.heap.size w x1) := HB2.out.trans (hp1.mono HB2.out.size)
              have HLT : Hid (k < n) := hlt
              clear hp1 hb
              go_wp2_with fail
              go_roundw
              case rel => first | exact ⟨k + 1, by have := HLT.out; omega, by go_num, HE3.out, HB3.out⟩ | ((repeat apply Exists.intro); refine ⟨⟨k + 1, by have := HLT.out; omega, ?_, HE3.out, HB3.out⟩, rfl⟩; go_num)
              case measure => have := HLT.out; simp [intOf]; omega
    · obtain rfl : k = n := by omega
      have HE3 : Hid (RES = 0) := by show _ = _; rw [← HRES.out, hE, List.drop_of_length_le (by omega)]; rfl
      have i0 : ¬ (k : Int) < (k : Int) := by omega
      clear hE
      go_wp2
      go_ret
      exact ⟨by rw [HE3.out]; rfl, hB⟩
set_option linter.unusedSimpArgs false in
set_option maxRecDepth 100000 in
set_option maxHeartbeats 4000000 in
theorem check_dg22 (w : World) (x : Option Addr) (n c : Nat) (l : List Dg) (hl : IsK dgE w (.slice x n c) l) (hn : l.length = n) (hs : n ≤ 65535) :
    Calls Tryz.prog 55 #[.slice x n c, .func (.func 56) #[] #[], .func (.func 47) #[] #[]] w fun e w' => e = .returned (.int .i64 (chkL okD ltD none l : Nat)) ∧ Below w.heap.size w w' := by
  have en1 : ∀ args w, (callFunc 56 args).run Tryz.prog w = .ok (.enter 56 args) w := enters_of Tryz.func56 (by kernel_rfl) rfl
  have en2 : ∀ args w, (callFunc 47 args).run Tryz.prog w = .ok (.enter 47 args) w := enters_of Tryz.func47 (by kernel_rfl) rfl
  obtain ⟨RES, hres⟩ : ∃ r, chkL okD ltD none l = r := ⟨_, rfl⟩
  have HRES : Hid (chkL okD ltD none l = RES) := hres
  rw [hres]
  clear hres
  go_enter Tryz.func55, Tryz.ntmps55
  go_wp2_with fail
  go_loopw [11] (fun kv wr => ∃ k : Nat, k ≤ n ∧ kv = .int .i64 k ∧ chkL okD ltD none l = chkL okD ltD (prevL l k) (l.drop k) ∧ Below w.heap.size w wr) (fun kv _ => n - (intOf kv).toNat)
  case atStart => exact ⟨0, by omega, rfl, rfl, Below.refl _ _⟩
  case round =>
    obtain ⟨k, hk, rfl, hE, hB⟩ := hrel
    by_cases hlt : k < n
    · have i0 : (k : Int) < (n : Int) := by omega
      have i1 : (0 : Int) ≤ (k : Int) := by omega
      have wk2 : IntKind.i64.wrap ((k : Int) + 1) = (k : Int) + 1 := by rw [IntKind.wrap_i64]; omega
      obtain ⟨v, hv⟩ : ∃ v, l[k]? = some v := ⟨_, List.getElem?_eq_getElem (by omega)⟩
      obtain ⟨gl, o, rfl, hgl, k1, k2⟩ := dg_at (hl.kept hB) k v hv
      have ldk := run_dg_mid wr gl (o + k * 32) k1
      rw [k2] at ldk
      clear k1 k2
      have HE : Hid (RES = chkL okD ltD (prevL l k) (l.drop k)) := HRES.out.symm.trans hE
      have HV : Hid (l[k]? = some v) := hv
      have HBL : Hid (Below w.heap.size w wr) := hB
      have HSZ : Hid (gl < wr.heap.size) := hgl
      have HL : Hid (IsK dgE w (.slice (some ⟨gl, o, none⟩) n c) l) := hl
      have HNN : Hid (l.length = n) := hn
      have HS9 : Hid (n ≤ 65535) := hs
      clear hE hv hB hgl hl hn hs
      have st := dg_run_secStore (wr.alloc (.cells (dg_secA dg_secZ) 50)) wr.heap.size (v) (RowC.new wr _ _).dg.1
      have bS := below_alloc wr (.cells (dg_secA v) 50)
      have hV := RowC.new wr (dg_secA v) 50
      go_upto_region 4 with fail
      obtain ⟨zv, hzv⟩ : ∃ z, wr.heap.size = z := ⟨_, rfl⟩
      try simp only [hzv]
      rw [hzv] at hV
      clear st ldk
      generalize wr.alloc (.cells (dg_secA v) 50) = W at bS hV ⊢
      clear hzv
      have HBW : Hid (Below w.heap.size w W) := HBL.out.trans (bS.mono HBL.out.size)
      have ld := dg_run_secLoad W zv hV.dg.1
      rw [hV.dg.2] at ld
      clear bS
      have hw := anyDig22b v W
      cases hok : okD v
      · rw [hok] at hw
        have HE3 : Hid (RES = 13) := by show _ = _; rw [HE.out]; exact chk_range _ HV.out hok
        clear hok
        go_wp2_with fail
        refine hw.mono ?_
        rintro e w2 ⟨rfl, b2⟩
        have HB2 : Hid (Below w.heap.size w w2) := HBW.out.trans (b2.mono HBW.out.size)
        clear hw b2
        go_wp2
        go_ret
        exact ⟨by rw [HE3.out]; rfl, HB2.out⟩
      · rw [hok] at hw
        have HOK : Hid (okD v = true) := hok
        clear hok
        go_wp2_with fail
        refine hw.mono ?_
        rintro e w2 ⟨rfl, b2⟩
        have HB2 : Hid (Below w.heap.size w w2) := HBW.out.trans (b2.mono HBW.out.size)
        have CV : Hid (∀ y, Below w2.heap.size w2 y → (dg_secLoad (.pointer (some ⟨zv, 0, none⟩))).run Tryz.prog y = .ok (.value (.agg (dg_secA v))) y) := fun y hy => by
          have r9 := (hV.kept b2).kept hy
          have h9 := dg_run_secLoad y zv r9.dg.1
          rw [r9.dg.2] at h9
          exact h9
        clear ld hV
        clear hw
        go_upto_region 6 with fail
        by_cases hk0 : k = 0
        · subst hk0
          have HB9 : Hid (false = !behO ltD (prevL l 0) v) := rfl
          refine wp_reliesT [Fx (.int .i64 (0 : Int)), Fx (.bool false), Fx (.bool false), Fx (undef), Fx (undef), Fx (undef), Fx (undef), Fx (undef), Fx (undef), Fx (undef), Fx (undef), Fx (undef)] (by kernel_rfl) (by kernel_rfl) ?_ ?_ ?_
          · repeat' (first | exact all_nil | apply all_cons)
            all_goals intro v y y' hv hb
            all_goals first | exact Fx_mono _ _ _ _ hv hb
          · refine ⟨?_, ?_, ?_, ?_, ?_, ?_, ?_, ?_, ?_, ?_, ?_, ?_, trivial⟩
            all_goals
              intro ρ y9 hp ρc ρg ρf ho hd
              have o7 : ρ (.tmp 7) = .int .i64 (0 : Int) := ho 7 rfl
              clear ho
              simp only [depsR, depR, slotR, Fx, List.getElem?_cons_succ, List.getElem?_cons_zero, Region.binds, forall_const] at hd
              simp only [guardR]
              go_split_ands
            · go_simp
            · go_simp
            · go_simp
            · refine ⟨fun hy => ?_, fun _ => rfl⟩
              exfalso; simp [yieldR, slotR, undef, *] at hy
            · refine ⟨fun hy => ?_, fun _ => rfl⟩
              exfalso; simp [yieldR, slotR, undef, *] at hy
            · refine ⟨fun hy => ?_, fun _ => rfl⟩
              exfalso; simp [yieldR, slotR, undef, *] at hy
            · refine ⟨fun hy => ?_, fun _ => rfl⟩
              exfalso; simp [yieldR, slotR, undef, *] at hy
            · refine ⟨fun hy => ?_, fun _ => rfl⟩
              exfalso; simp [yieldR, slotR, undef, *] at hy
            · refine ⟨fun hy => ?_, fun _ => rfl⟩
              exfalso; simp [yieldR, slotR, undef, *] at hy
            · refine ⟨fun hy => ?_, fun _ => rfl⟩
              exfalso; simp [yieldR, slotR, undef, *] at hy
            · refine ⟨fun hy => ?_, fun _ => rfl⟩
              exfalso; simp [yieldR, slotR, undef, *] at hy
            · refine ⟨fun hy => ?_, fun _ => rfl⟩
              exfalso; simp [yieldR, slotR, undef, *] at hy
          · intro us x1 hp1 hw
            simp only [owed, Fx] at hw
            obtain ⟨e0, e1, e2, e3, e4, e5, e6, e7, e8, e9, e10, e11, -⟩ := hw
            simp only [List.length_cons, List.length_nil, List.take_succ_cons, List.take_zero, List.drop_succ_cons, List.drop_zero, asg, List.cons_append, List.nil_append, e0, e1, e2, e3, e4, e5, e6, e7, e8, e9, e10, e11]
            clear e0 e1 e2 e3 e4 e5 e6 e7 e8 e9 e10 e11
            cases hb : behO ltD (prevL l 0) v
            · have h9 := HB9.out
              rw [hb] at h9
              cases h9
            · have HE3 : Hid (chkL okD ltD none l = chkL okD ltD (prevL l (0 + 1)) (l.drop (0 + 1))) := by
                show _ = _; rw [HRES.out, HE.out]; exact chk_next HV.out HOK.out hb
              have HB3 : Hid (Below w.heap.size w x1) := HB2.out.trans (hp1.mono HB2.out.size)
              have HLT : Hid (0 < n) := hlt
              clear hp1 hb
              go_wp2_with fail
              go_roundw
              case rel => first | exact ⟨0 + 1, by have := HLT.out; omega, by go_num, HE3.out, HB3.out⟩ | ((repeat apply Exists.intro); refine ⟨⟨0 + 1, by have := HLT.out; omega, ?_, HE3.out, HB3.out⟩, rfl⟩; go_num)
              case measure => have := HLT.out; simp [intOf]; omega
        · obtain ⟨u, hu⟩ : ∃ u, l[k - 1]? = some u := ⟨_, List.getElem?_eq_getElem (by have := HNN.out; omega)⟩
          have hpv : prevL l k = some u := by unfold prevL; rw [if_neg hk0]; exact hu
          have HB9 : Hid ((!ltD u v) = !behO ltD (prevL l k) v) := by show _ = _; rw [hpv]; rfl
          have CL : Hid (∀ y, Below w2.heap.size w2 y → (dg_secLoad (.pointer (some ⟨gl, o + (k - 1) * 32, none⟩))).run Tryz.prog y = .ok (.value (.agg (dg_secA u))) y) := fun y hy => by
            obtain ⟨b', o', he, -, k1, k2⟩ := dg_at ((HL.out.kept HB2.out).kept hy) (k - 1) u hu
            cases he
            have h9 := run_dg_mid y gl (o + (k - 1) * 32) k1
            rw [k2] at h9
            exact h9
          have leB := dcmp_le u v
          have wk1 : IntKind.i64.wrap ((k : Int) - 1) = ((k - 1 : Nat) : Int) := by rw [IntKind.wrap_i64]; have := HS9.out; omega
          have q0 : (0 : Int) < (k : Int) := by omega
          have q1 : ((k - 1 : Nat) : Int) < (n : Int) := by omega
          have q2 : (0 : Int) ≤ ((k - 1 : Nat) : Int) := by omega
          clear hu hpv
          refine wp_reliesT [Fx (.int .i64 (k : Int)), Fx (.bool true), Fx (.bool true), Fx (.func (.func 47) #[] #[]), Fx (.slice (some ⟨gl, o, none⟩) n c), Fx (.int .i64 (k : Int)), Fx (.int .i64 (((k - 1 : Nat)) : Int)), Fx (.pointer (some ⟨gl, o + (k - 1) * 32, none⟩)), Fx (.agg (dg_secA u)), Fx (.agg (dg_secA v)), Fx (.int .i64 (dcmp u v)), Fx (.bool (!ltD u v))] (by kernel_rfl) (by kernel_rfl) ?_ ?_ ?_
          · repeat' (first | exact all_nil | apply all_cons)
            all_goals intro v y y' hv hb
            all_goals first | exact Fx_mono _ _ _ _ hv hb
          · refine ⟨?_, ?_, ?_, ?_, ?_, ?_, ?_, ?_, ?_, ?_, ?_, ?_, trivial⟩
            all_goals
              intro ρ y9 hp ρc ρg ρf ho hd
              have o0 : ρ (.tmp 0) = .slice (some ⟨gl, o, none⟩) n c := ho 0 rfl
              have o2 : ρ (.tmp 2) = .func (.func 47) #[] #[] := ho 2 rfl
              have o7 : ρ (.tmp 7) = .int .i64 (k : Int) := ho 7 rfl
              have o8 : ρ (.tmp 8) = .pointer (some ⟨zv, 0, none⟩) := ho 8 rfl
              clear ho
              have z9 := CV.out y9 hp
              simp only [depsR, depR, slotR, Fx, List.getElem?_cons_succ, List.getElem?_cons_zero, Region.binds, forall_const] at hd
              simp only [guardR]
              go_split_ands
            · go_simp
            · go_simp
              try (unfold Fx; simp; omega)
            · go_simp
            · refine ⟨fun _ => ?_, fun hy => absurd (by simp [yieldR, slotR, *]) hy⟩
              go_simp
            · refine ⟨fun _ => ?_, fun hy => absurd (by simp [yieldR, slotR, *]) hy⟩
              go_simp
            · refine ⟨fun _ => ?_, fun hy => absurd (by simp [yieldR, slotR, *]) hy⟩
              go_simp
            · refine ⟨fun _ => ?_, fun hy => absurd (by simp [yieldR, slotR, *]) hy⟩
              go_simp
              try exact wk1
            · refine ⟨fun _ => ?_, fun hy => absurd (by simp [yieldR, slotR, *]) hy⟩
              go_simp
            · refine ⟨fun _ => ?_, fun hy => absurd (by simp [yieldR, slotR, *]) hy⟩
              have z1 := CL.out y9 hp
              go_simp
            · refine ⟨fun _ => ?_, fun hy => absurd (by simp [yieldR, slotR, *]) hy⟩
              go_simp
            · refine ⟨fun _ => ?_, fun hy => absurd (by simp [yieldR, slotR, *]) hy⟩
              go_simp
              exact (byBytes22 _ _ _).mono fun e w' ⟨q1, q2⟩ => ⟨_, q1, rfl, q2⟩
            · refine ⟨fun _ => ?_, fun hy => absurd (by simp [yieldR, slotR, *]) hy⟩
              go_simp
              try exact leB
          · intro us x1 hp1 hw
            simp only [owed, Fx] at hw
            obtain ⟨e0, e1, e2, e3, e4, e5, e6, e7, e8, e9, e10, e11, -⟩ := hw
            simp only [List.length_cons, List.length_nil, List.take_succ_cons, List.take_zero, List.drop_succ_cons, List.drop_zero, asg, List.cons_append, List.nil_append, e0, e1, e2, e3, e4, e5, e6, e7, e8, e9, e10, e11]
            clear e0 e1 e2 e3 e4 e5 e6 e7 e8 e9 e10 e11
            cases hb : behO ltD (prevL l k) v
            · have HE3 : Hid (RES = 11) := by show _ = _; rw [HE.out]; exact chk_form HV.out HOK.out hb
              rw [HB9.out, hb]
              have HB3 : Hid (Below w.heap.size w x1) := HB2.out.trans (hp1.mono HB2.out.size)
              clear hp1 hb
              go_wp2
              go_ret
              exact ⟨by rw [HE3.out]; rfl, HB3.out⟩
            · have HE3 : Hid (chkL okD ltD none l = chkL okD ltD (prevL l (k + 1)) (l.drop (k + 1))) := by
                show _ = _; rw [HRES.out, HE.out]; exact chk_next HV.out HOK.out hb
              rw [HB9.out, hb]
              have HB3 : Hid (Below w.heap.size w x1) := HB2.out.trans (hp1.mono HB2.out.size)
              have HLT : Hid (k < n) := hlt
              clear hp1 hb
              go_wp2_with fail
              go_roundw
              case rel => first | exact ⟨k + 1, by have := HLT.out; omega, by go_num, HE3.out, HB3.out⟩ | ((repeat apply Exists.intro); refine ⟨⟨k + 1, by have := HLT.out; omega, ?_, HE3.out, HB3.out⟩, rfl⟩; go_num)
              case measure => have := HLT.out; simp [intOf]; omega
    · obtain rfl : k = n := by omega
      have HE3 : Hid (RES = 0) := by show _ = _; rw [← HRES.out, hE, List.drop_of_length_le (by omega)]; rfl
      have i0 : ¬ (k : Int) < (k : Int) := by omega
      clear hE
      go_wp2
      go_ret
      exact ⟨by rw [HE3.out]; rfl, hB⟩
set_option linter.unusedSimpArgs false in
set_option maxRecDepth 100000 in
set_option maxHeartbeats 4000000 in
theorem check_in22 (w : World) (x : Option Addr) (n c : Nat) (l : List Int) (hl : IsG w (.slice x n c) (inV l)) (hn : l.length = n) (hs : n ≤ 65535) :
    Calls Tryz.prog 57 #[.slice x n c, .func (.func 58) #[] #[], .func (.func 50) #[] #[]] w fun e w' => e = .returned (.int .i64 (chkL okI ltI none l : Nat)) ∧ Below w.heap.size w w' := by
  have en1 : ∀ args w, (callFunc 58 args).run Tryz.prog w = .ok (.enter 58 args) w := enters_of Tryz.func58 (by kernel_rfl) rfl
  have en2 : ∀ args w, (callFunc 50 args).run Tryz.prog w = .ok (.enter 50 args) w := enters_of Tryz.func50 (by kernel_rfl) rfl
  obtain ⟨RES, hres⟩ : ∃ r, chkL okI ltI none l = r := ⟨_, rfl⟩
  have HRES : Hid (chkL okI ltI none l = RES) := hres
  rw [hres]
  clear hres
  go_enter Tryz.func57, Tryz.ntmps57
  go_wp2_with fail
  go_loopw [11] (fun kv wr => ∃ k : Nat, k ≤ n ∧ kv = .int .i64 k ∧ chkL okI ltI none l = chkL okI ltI (prevL l k) (l.drop k) ∧ Below w.heap.size w wr) (fun kv _ => n - (intOf kv).toNat)
  case atStart => exact ⟨0, by omega, rfl, rfl, Below.refl _ _⟩
  case round =>
    obtain ⟨k, hk, rfl, hE, hB⟩ := hrel
    by_cases hlt : k < n
    · have i0 : (k : Int) < (n : Int) := by omega
      have i1 : (0 : Int) ≤ (k : Int) := by omega
      have wk2 : IntKind.i64.wrap ((k : Int) + 1) = (k : Int) + 1 := by rw [IntKind.wrap_i64]; omega
      obtain ⟨v, hv⟩ : ∃ v, l[k]? = some v := ⟨_, List.getElem?_eq_getElem (by omega)⟩
      have hlW : IsG wr (.slice x (inV l).length c) (inV l) := by rw [inV_len, hn]; exact hl.kept hB
      obtain ⟨gl, o, rfl, hgl, k1⟩ := hlW.spot k (by rw [inV_len]; omega)
      have ldk : wr.cell? ⟨gl, o + k, none⟩ = some (.int .i64 v) := k1 k _ (inV_get l k v hv)
      clear hlW
      clear k1
      have HE : Hid (RES = chkL okI ltI (prevL l k) (l.drop k)) := HRES.out.symm.trans hE
      have HV : Hid (l[k]? = some v) := hv
      have HBL : Hid (Below w.heap.size w wr) := hB
      have HSZ : Hid (gl < wr.heap.size) := hgl
      have HL : Hid (IsG w (.slice (some ⟨gl, o, none⟩) n c) (inV l)) := hl
      have HNN : Hid (l.length = n) := hn
      have HS9 : Hid (n ≤ 65535) := hs
      clear hE hv hB hgl hl hn hs
      go_upto_region 4 with fail
      clear ldk
      generalize hWr : wr = W at *
      clear hWr
      have HBW : Hid (Below w.heap.size w W) := HBL
      have hw := isSlot22b v W
      cases hok : okI v
      · rw [hok] at hw
        have HE3 : Hid (RES = 13) := by show _ = _; rw [HE.out]; exact chk_range _ HV.out hok
        clear hok
        go_wp2_with fail
        refine hw.mono ?_
        rintro e w2 ⟨rfl, b2⟩
        have HB2 : Hid (Below w.heap.size w w2) := HBW.out.trans (b2.mono HBW.out.size)
        clear hw b2
        go_wp2
        go_ret
        exact ⟨by rw [HE3.out]; rfl, HB2.out⟩
      · rw [hok] at hw
        have HOK : Hid (okI v = true) := hok
        clear hok
        go_wp2_with fail
        refine hw.mono ?_
        rintro e w2 ⟨rfl, b2⟩
        have HB2 : Hid (Below w.heap.size w w2) := HBW.out.trans (b2.mono HBW.out.size)
        clear hw
        go_upto_region 6 with fail
        by_cases hk0 : k = 0
        · subst hk0
          have HB9 : Hid (false = !behO ltI (prevL l 0) v) := rfl
          refine wp_plainsT [Fx (.int .i64 (0 : Int)), Fx (.bool false), Fx (.bool false), Fx (undef), Fx (undef), Fx (undef), Fx (undef), Fx (undef), Fx (undef), Fx (undef), Fx (undef), Fx (undef)] (by kernel_rfl) (by kernel_rfl) ?_ ?_ ?_
          · repeat' (first | exact all_nil | apply all_cons)
            all_goals intro v y y' hv hb
            all_goals first | exact Fx_mono _ _ _ _ hv hb
          · refine ⟨?_, ?_, ?_, ?_, ?_, ?_, ?_, ?_, ?_, ?_, ?_, ?_, trivial⟩
            all_goals
              intro ρ y9 hp ρc ρg ρf ho hd
              have o7 : ρ (.tmp 7) = .int .i64 (0 : Int) := ho 7 rfl
              clear ho
              simp only [depsR, depR, slotR, Fx, List.getElem?_cons_succ, List.getElem?_cons_zero, Region.binds, forall_const] at hd
              simp only [guardR]
              go_split_ands
            · go_simp
            · go_simp
            · go_simp
            · refine ⟨fun hy => ?_, fun _ => rfl⟩
              exfalso; simp [yieldR, slotR, undef, *] at hy
            · refine ⟨fun hy => ?_, fun _ => rfl⟩
              exfalso; simp [yieldR, slotR, undef, *] at hy
            · refine ⟨fun hy => ?_, fun _ => rfl⟩
              exfalso; simp [yieldR, slotR, undef, *] at hy
            · refine ⟨fun hy => ?_, fun _ => rfl⟩
              exfalso; simp [yieldR, slotR, undef, *] at hy
            · refine ⟨fun hy => ?_, fun _ => rfl⟩
              exfalso; simp [yieldR, slotR, undef, *] at hy
            · refine ⟨fun hy => ?_, fun _ => rfl⟩
              exfalso; simp [yieldR, slotR, undef, *] at hy
            · refine ⟨fun hy => ?_, fun _ => rfl⟩
              exfalso; simp [yieldR, slotR, undef, *] at hy
            · refine ⟨fun hy => ?_, fun _ => rfl⟩
              exfalso; simp [yieldR, slotR, undef, *] at hy
            · refine ⟨fun hy => ?_, fun _ => rfl⟩
              exfalso; simp [yieldR, slotR, undef, *] at hy
          · intro us x1 hp1 hw
            simp only [owed, Fx] at hw
            obtain ⟨e0, e1, e2, e3, e4, e5, e6, e7, e8, e9, e10, e11, -⟩ := hw
            simp only [List.length_cons, List.length_nil, List.take_succ_cons, List.take_zero, List.drop_succ_cons, List.drop_zero, asg, List.cons_append, List.nil_append, e0, e1, e2, e3, e4, e5, e6, e7, e8, e9, e10, e11]
            clear e0 e1 e2 e3 e4 e5 e6 e7 e8 e9 e10 e11
            cases hb : behO ltI (prevL l 0) v
            · have h9 := HB9.out
              rw [hb] at h9
              cases h9
            · have HE3 : Hid (chkL okI ltI none l = chkL okI ltI (prevL l (0 + 1)) (l.drop (0 + 1))) := by
                show _ = _; rw [HRES.out, HE.out]; exact chk_next HV.out HOK.out hb
              have HB3 : Hid (Below w.heap.size w x1) := HB2.out.trans (hp1.mono HB2.out.size)
              have HLT : Hid (0 < n) := hlt
              clear hp1 hb
              go_wp2_with fail
              go_roundw
              case rel => first | exact ⟨0 + 1, by have := HLT.out; omega, by go_num, HE3.out, HB3.out⟩ | ((repeat apply Exists.intro); refine ⟨⟨0 + 1, by have := HLT.out; omega, ?_, HE3.out, HB3.out⟩, rfl⟩; go_num)
              case measure => have := HLT.out; simp [intOf]; omega
        · obtain ⟨u, hu⟩ : ∃ u, l[k - 1]? = some u := ⟨_, List.getElem?_eq_getElem (by have := HNN.out; omega)⟩
          have hpv : prevL l k = some u := by unfold prevL; rw [if_neg hk0]; exact hu
          have HB9 : Hid ((!ltI u v) = !behO ltI (prevL l k) v) := by show _ = _; rw [hpv]; rfl
          have CL : Hid (∀ y, Below w2.heap.size w2 y → y.cell? ⟨gl, o + (k - 1), none⟩ = some (.int .i64 u)) := fun y hy => by
            have hlW : IsG y (.slice (some ⟨gl, o, none⟩) (inV l).length c) (inV l) := by rw [inV_len, HNN.out]; exact (HL.out.kept HB2.out).kept hy
            obtain ⟨g9, o9, he, -, k1⟩ := hlW.spot (k - 1) (by rw [inV_len]; have := HNN.out; omega)
            cases he
            exact k1 _ _ (inV_get l (k - 1) u hu)
          have leB := cmpI_le u v
          have wk1 : IntKind.i64.wrap ((k : Int) - 1) = ((k - 1 : Nat) : Int) := by rw [IntKind.wrap_i64]; have := HS9.out; omega
          have q0 : (0 : Int) < (k : Int) := by omega
          have q1 : ((k - 1 : Nat) : Int) < (n : Int) := by omega
          have q2 : (0 : Int) ≤ ((k - 1 : Nat) : Int) := by omega
          clear hu hpv
          refine wp_plainsT [Fx (.int .i64 (k : Int)), Fx (.bool true), Fx (.bool true), Fx (.func (.func 50) #[] #[]), Fx (.slice (some ⟨gl, o, none⟩) n c), Fx (.int .i64 (k : Int)), Fx (.int .i64 (((k - 1 : Nat)) : Int)), Fx (.pointer (some ⟨gl, o + (k - 1), none⟩)), Fx (.int .i64 u), Fx (.int .i64 v), Fx (.int .i64 (cmpI u v)), Fx (.bool (!ltI u v))] (by kernel_rfl) (by kernel_rfl) ?_ ?_ ?_
          · repeat' (first | exact all_nil | apply all_cons)
            all_goals intro v y y' hv hb
            all_goals first | exact Fx_mono _ _ _ _ hv hb
          · refine ⟨?_, ?_, ?_, ?_, ?_, ?_, ?_, ?_, ?_, ?_, ?_, ?_, trivial⟩
            all_goals
              intro ρ y9 hp ρc ρg ρf ho hd
              have o0 : ρ (.tmp 0) = .slice (some ⟨gl, o, none⟩) n c := ho 0 rfl
              have o2 : ρ (.tmp 2) = .func (.func 50) #[] #[] := ho 2 rfl
              have o7 : ρ (.tmp 7) = .int .i64 (k : Int) := ho 7 rfl
              have o8 : ρ (.tmp 8) = .int .i64 v := ho 8 rfl
              clear ho
              simp only [depsR, depR, slotR, Fx, List.getElem?_cons_succ, List.getElem?_cons_zero, Region.binds, forall_const] at hd
              simp only [guardR]
              go_split_ands
            · go_simp
            · go_simp
              try (unfold Fx; simp; omega)
            · go_simp
            · refine ⟨fun _ => ?_, fun hy => absurd (by simp [yieldR, slotR, *]) hy⟩
              go_simp
            · refine ⟨fun _ => ?_, fun hy => absurd (by simp [yieldR, slotR, *]) hy⟩
              go_simp
            · refine ⟨fun _ => ?_, fun hy => absurd (by simp [yieldR, slotR, *]) hy⟩
              go_simp
            · refine ⟨fun _ => ?_, fun hy => absurd (by simp [yieldR, slotR, *]) hy⟩
              go_simp
              try exact wk1
            · refine ⟨fun _ => ?_, fun hy => absurd (by simp [yieldR, slotR, *]) hy⟩
              go_simp
            · refine ⟨fun _ => ?_, fun hy => absurd (by simp [yieldR, slotR, *]) hy⟩
              have z1 := CL.out y9 hp
              go_simp
            · refine ⟨fun _ => ?_, fun hy => absurd (by simp [yieldR, slotR, *]) hy⟩
              go_simp
            · refine ⟨fun _ => ?_, fun hy => absurd (by simp [yieldR, slotR, *]) hy⟩
              go_simp
              exact (bySlot22 _ _ _).mono fun e w' ⟨q1, q2⟩ => ⟨_, q1, rfl, q2⟩
            · refine ⟨fun _ => ?_, fun hy => absurd (by simp [yieldR, slotR, *]) hy⟩
              go_simp
              try exact leB
          · intro us x1 hp1 hw
            simp only [owed, Fx] at hw
            obtain ⟨e0, e1, e2, e3, e4, e5, e6, e7, e8, e9, e10, e11, -⟩ := hw
            simp only [List.length_cons, List.length_nil, List.take_succ_cons, List.take_zero, List.drop_succ_cons, List.drop_zero, asg, List.cons_append, List.nil_append, e0, e1, e2, e3, e4, e5, e6, e7, e8, e9, e10, e11]
            clear e0 e1 e2 e3 e4 e5 e6 e7 e8 e9 e10 e11
            cases hb : behO ltI (prevL l k) v
            · have HE3 : Hid (RES = 11) := by show _ = _; rw [HE.out]; exact chk_form HV.out HOK.out hb
              rw [HB9.out, hb]
              have HB3 : Hid (Below w.heap.size w x1) := HB2.out.trans (hp1.mono HB2.out.size)
              clear hp1 hb
              go_wp2
              go_ret
              exact ⟨by rw [HE3.out]; rfl, HB3.out⟩
            · have HE3 : Hid (chkL okI ltI none l = chkL okI ltI (prevL l (k + 1)) (l.drop (k + 1))) := by
                show _ = _; rw [HRES.out, HE.out]; exact chk_next HV.out HOK.out hb
              rw [HB9.out, hb]
              have HB3 : Hid (Below w.heap.size w x1) := HB2.out.trans (hp1.mono HB2.out.size)
              have HLT : Hid (k < n) := hlt
              clear hp1 hb
              go_wp2_with fail
              go_roundw
              case rel => first | exact ⟨k + 1, by have := HLT.out; omega, by go_num, HE3.out, HB3.out⟩ | ((repeat apply Exists.intro); refine ⟨⟨k + 1, by have := HLT.out; omega, ?_, HE3.out, HB3.out⟩, rfl⟩; go_num)
              case measure => have := HLT.out; simp [intOf]; omega
    · obtain rfl : k = n := by omega
      have HE3 : Hid (RES = 0) := by show _ = _; rw [← HRES.out, hE, List.drop_of_length_le (by omega)]; rfl
      have i0 : ¬ (k : Int) < (k : Int) := by omega
      clear hE
      go_wp2
      go_ret
      exact ⟨by rw [HE3.out]; rfl, hB⟩
end Go.Proofs.YtklbdhpnbjhgkaaGreatDoor
