
import Derived.Test.YtligjfofnafjeaaFoz
namespace Go.Proofs.Ytligjfofnafjeaa
open Go.RowKit Go.Maps

/-! forest.least: the least of a cycle -/
theorem ug_next {u : Nat → Int} {d x t : Nat} (h : ug u d x = some t) (hx : x ≠ t) : ¬ u x < 0 := by
  intro hlt
  cases d with
  | zero => exact hx (Option.some.inj h)
  | succ d =>
    have h' : (if u x < 0 then none else ug u d (u x).toNat) = some t := h
    rw [if_pos hlt] at h'; cases h'
set_option linter.unusedSimpArgs false in
set_option maxRecDepth 100000 in
set_option maxHeartbeats 4000000 in
theorem least21 (l : List Rw) (x y : Option Addr) (n c d t : Nat) (w : World) (hn : l.length = n) (hs : ∀ r ∈ l, r.sn.ok) (hl : IsK rwF w (.slice x n c) l) (hu : IsG w (.slice y n d) (zF (frO l).us n)) (ht : t < n) (ho : On (frO l).us t) :
    Calls Try.prog 21 #[.slice x n c, .slice y n d, .int .i64 (t : Int)] w fun e w' => ∃ s : Nat, e = .returned (.int .i64 (s : Int)) ∧ s < n ∧ Fr.LsOf (frO l) t s ∧ Below w.heap.size w w' := by
  have hfn : (frO l).n = n := hn
  have huk : uOk n (frO l).us := by have := Fr.us_ok (F := frO l); rw [hfn] at this; exact this
  obtain ⟨m, hm, hmt⟩ := ho
  obtain ⟨y1, hy1⟩ : ∃ y1 : Nat, (frO l).us t = (y1 : Int) := by
    obtain ⟨m, rfl⟩ : ∃ q, m = q + 1 := ⟨m - 1, by omega⟩
    rcases huk t ht with h1 | ⟨j, h1, -⟩
    · exfalso
      have h' : (if (frO l).us t < 0 then none else ug (frO l).us m ((frO l).us t).toNat) = some t := hmt
      rw [h1, if_pos (by omega)] at h'; cases h'
    · exact ⟨j, h1⟩
  have hL0 : Lst n (frO l).us (frO l).id t m t y1 := Lst.start ht huk hm hmt hy1
  obtain ⟨gu, ou, rfl, -, hcu⟩ := hu.spot t (by rw [zF_len]; exact ht)
  have cT := hcu t _ (zF_get _ n t ht)
  rw [hy1] at cT
  have t0 : (0 : Int) ≤ (t : Int) := by omega
  have t1 : (t : Int) < (n : Int) := by omega
  clear hcu hy1
  go_enter Try.func21, Try.ntmps21
  go_wp2_with fail
  go_loopw [7, 8] (fun sv av wr => ∃ s a : Nat, sv = .int .i64 (s : Int) ∧ av = .int .i64 (a : Int) ∧ Lst n (frO l).us (frO l).id t m s a ∧ Below w.heap.size w wr) (fun _ av _ => dst (frO l).us t m (intOf av).toNat)
  case atStart => exact ⟨t, y1, rfl, rfl, hL0, Below.refl _ _⟩
  case round =>
    clear cT hL0
    obtain ⟨s, a, rfl, rfl, hL, hB⟩ := hrel
    by_cases hat : a = t
    · subst hat
      have HR : Hid (s < n ∧ Fr.LsOf (frO l) a s) := ⟨hL.lt.2, hL.ends⟩
      have HB : Hid _ := hB
      have e0 : ((a : Int) == (a : Int)) = true := beq_self_eq_true _
      clear hL hB
      go_wp2
      go_ret
      exact ⟨s, rfl, HR.out.1, HR.out.2, HB.out⟩
    · have e0 : ((a : Int) == (t : Int)) = false := beq_eq_false_iff_ne.2 (by omega)
      have HA : Hid (a < n) := hL.lt.1
      obtain ⟨ra, hra⟩ : ∃ r, l[a]? = some r := ⟨_, List.getElem?_eq_getElem (by have := hL.lt; omega)⟩
      obtain ⟨rs, hrs⟩ : ∃ r, l[s]? = some r := ⟨_, List.getElem?_eq_getElem (by have := hL.lt; omega)⟩
      obtain ⟨gl, o, rfl, -, -, -, cA, -⟩ := rwF_cells (hl.kept hB) a ra hra
      obtain ⟨gl', o', e', -, -, -, cS, -⟩ := rwF_cells (hl.kept hB) s rs hrs
      cases e'
      have ida := frO_id hra
      have ids := frO_id hrs
      have oka := hs ra (List.mem_of_getElem? hra)
      have oks := hs rs (List.mem_of_getElem? hrs)
      unfold Sn.ok at oka oks
      obtain ⟨A, hA⟩ : ∃ q : Nat, ra.sn.id = (q : Int) := ⟨ra.sn.id.toNat, by omega⟩
      obtain ⟨S, hS⟩ : ∃ q : Nat, rs.sn.id = (q : Int) := ⟨rs.sn.id.toNat, by omega⟩
      rw [hA] at cA ida
      rw [hS] at cS ids
      rw [Int.toNat_natCast] at ida ids
      obtain ⟨d9, d91, d92⟩ := hL.far
      have hnl := ug_next d92 hat
      obtain ⟨y2, hy⟩ : ∃ y2 : Nat, (frO l).us a = (y2 : Int) := ⟨((frO l).us a).toNat, by omega⟩
      have hN := hL.step huk hat hy
      have HS : Hid (dst (frO l).us t m y2 < dst (frO l).us t m a) := dst_step hat hy ⟨d9, d91, d92⟩
      have FK : Hid ((0 : Int) ≤ (a : Int) ∧ (a : Int) < (n : Int) ∧ (0 : Int) ≤ (s : Int) ∧ (s : Int) < (n : Int)) := by have := hL.lt; exact ⟨by omega, by omega, by omega, by omega⟩
      have a0 : (0 : Int) ≤ (a : Int) := FK.out.1
      have a1 : (a : Int) < (n : Int) := FK.out.2.1
      rw [ida, ids] at hN
      have HB : Hid _ := hB
      clear hL hB hat hnl d91 d92 hA hS oka oks ida ids hra hrs
      by_cases hc : A < S
      · rw [if_pos hc] at hN
        have HC : Hid ((A : Int) < (S : Int)) := by show _ < _; omega
        have HN : Hid _ := hN
        clear hN hc
        go_upto_region 5 with fail
        refine wp_relies [Fx (.slice (some ⟨gl, o, none⟩) n c), Fx (.int .i64 (a : Int)), Fx (.pointer (some ⟨gl, o + a * 36, none⟩)), Fx (.pointer (some ⟨gl, o + a * 36 + 2, none⟩)), Fx (.pointer (some ⟨gl, o + a * 36 + 2, none⟩)), Fx (.int .u32 (A : Int)), Fx (.slice (some ⟨gl, o, none⟩) n c), Fx (.int .i64 (s : Int)), Fx (.pointer (some ⟨gl, o + s * 36, none⟩)), Fx (.pointer (some ⟨gl, o + s * 36 + 2, none⟩)), Fx (.pointer (some ⟨gl, o + s * 36 + 2, none⟩)), Fx (.int .u32 (S : Int)), Fx (.bool true)] (by kernel_rfl) (by kernel_rfl) ?_ ?_ ?_
        · repeat' (first | exact all_nil | apply all_cons)
          all_goals intro v y y' hv hb
          all_goals first | exact Fx_mono _ _ _ _ hv hb
        · refine ⟨?_, ?_, ?_, ?_, ?_, ?_, ?_, ?_, ?_, ?_, ?_, ?_, ?_, trivial⟩
          all_goals
            intro ρ y9 hp ρc ρg ρf ho hd
            have o0 : ρ (.tmp 0) = .slice (some ⟨gl, o, none⟩) n c := ho 0 rfl
            have o7 : ρ (.tmp 7) = .int .i64 (s : Int) := ho 7 rfl
            have o8 : ρ (.tmp 8) = .int .i64 (a : Int) := ho 8 rfl
            clear ho
            replace cA := cell_later hp cA
            replace cS := cell_later hp cS
            simp only [depsR, depR, slotR, Fx, List.getElem?_cons_succ, List.getElem?_cons_zero, Region.binds, forall_const] at hd
            simp only [guardR]
            go_split_ands
          · go_simp
          · go_simp
          · obtain ⟨z1, z2, z3, z4⟩ := FK.out
            go_simp
          · go_simp
          · go_simp
          · go_simp
          · go_simp
          · go_simp
          · obtain ⟨z1, z2, z3, z4⟩ := FK.out
            go_simp
          · go_simp
          · go_simp
          · go_simp
          · have z := HC.out
            go_simp
        · intro us x1 hp1 hw
          simp only [owed, Fx] at hw
          obtain ⟨e0, e1, e2, e3, e4, e5, e6, e7, e8, e9, e10, e11, e12, -⟩ := hw
          simp only [List.length_cons, List.length_nil, List.take_succ_cons, List.take_nil, List.drop_succ_cons, List.drop_nil, asg, List.cons_append, List.nil_append, e0, e1, e2, e3, e4, e5, e6, e7, e8, e9, e10, e11, e12]
          clear e0 e1 e2 e3 e4 e5 e6 e7 e8 e9 e10 e11 e12
          have hB1 := HB.out.trans (hp1.mono HB.out.size)
          have hU1 := hu.kept hB1
          obtain ⟨g9, o9, e9, -, hc9⟩ := hU1.spot a (by rw [zF_len]; exact HA.out)
          cases e9
          have cU := hc9 a _ (zF_get _ n a HA.out)
          rw [hy] at cU
          have HB1 : Hid _ := hB1
          clear hB1 hU1 hc9 cA cS hp1
          go_wp2
          go_roundw
          case rel => first | exact ⟨a, y2, rfl, rfl, HN.out, HB1.out⟩ | ((repeat apply Exists.intro); refine ⟨⟨a, y2, rfl, rfl, HN.out, HB1.out⟩, rfl⟩)
          case measure => have := HS.out; simp only [intOf, Int.toNat_natCast]; exact this
      · rw [if_neg hc] at hN
        have HC : Hid (¬ (A : Int) < (S : Int)) := by show ¬ _ < _; omega
        have HN : Hid _ := hN
        clear hN hc
        go_upto_region 5 with fail
        refine wp_relies [Fx (.slice (some ⟨gl, o, none⟩) n c), Fx (.int .i64 (a : Int)), Fx (.pointer (some ⟨gl, o + a * 36, none⟩)), Fx (.pointer (some ⟨gl, o + a * 36 + 2, none⟩)), Fx (.pointer (some ⟨gl, o + a * 36 + 2, none⟩)), Fx (.int .u32 (A : Int)), Fx (.slice (some ⟨gl, o, none⟩) n c), Fx (.int .i64 (s : Int)), Fx (.pointer (some ⟨gl, o + s * 36, none⟩)), Fx (.pointer (some ⟨gl, o + s * 36 + 2, none⟩)), Fx (.pointer (some ⟨gl, o + s * 36 + 2, none⟩)), Fx (.int .u32 (S : Int)), Fx (.bool false)] (by kernel_rfl) (by kernel_rfl) ?_ ?_ ?_
        · repeat' (first | exact all_nil | apply all_cons)
          all_goals intro v y y' hv hb
          all_goals first | exact Fx_mono _ _ _ _ hv hb
        · refine ⟨?_, ?_, ?_, ?_, ?_, ?_, ?_, ?_, ?_, ?_, ?_, ?_, ?_, trivial⟩
          all_goals
            intro ρ y9 hp ρc ρg ρf ho hd
            have o0 : ρ (.tmp 0) = .slice (some ⟨gl, o, none⟩) n c := ho 0 rfl
            have o7 : ρ (.tmp 7) = .int .i64 (s : Int) := ho 7 rfl
            have o8 : ρ (.tmp 8) = .int .i64 (a : Int) := ho 8 rfl
            clear ho
            replace cA := cell_later hp cA
            replace cS := cell_later hp cS
            simp only [depsR, depR, slotR, Fx, List.getElem?_cons_succ, List.getElem?_cons_zero, Region.binds, forall_const] at hd
            simp only [guardR]
            go_split_ands
          · go_simp
          · go_simp
          · obtain ⟨z1, z2, z3, z4⟩ := FK.out
            go_simp
          · go_simp
          · go_simp
          · go_simp
          · go_simp
          · go_simp
          · obtain ⟨z1, z2, z3, z4⟩ := FK.out
            go_simp
          · go_simp
          · go_simp
          · go_simp
          · have z := HC.out
            go_simp
        · intro us x1 hp1 hw
          simp only [owed, Fx] at hw
          obtain ⟨e0, e1, e2, e3, e4, e5, e6, e7, e8, e9, e10, e11, e12, -⟩ := hw
          simp only [List.length_cons, List.length_nil, List.take_succ_cons, List.take_nil, List.drop_succ_cons, List.drop_nil, asg, List.cons_append, List.nil_append, e0, e1, e2, e3, e4, e5, e6, e7, e8, e9, e10, e11, e12]
          clear e0 e1 e2 e3 e4 e5 e6 e7 e8 e9 e10 e11 e12
          have hB1 := HB.out.trans (hp1.mono HB.out.size)
          have hU1 := hu.kept hB1
          obtain ⟨g9, o9, e9, -, hc9⟩ := hU1.spot a (by rw [zF_len]; exact HA.out)
          cases e9
          have cU := hc9 a _ (zF_get _ n a HA.out)
          rw [hy] at cU
          have HB1 : Hid _ := hB1
          clear hB1 hU1 hc9 cA cS hp1
          go_wp2
          go_roundw
          case rel => first | exact ⟨s, y2, rfl, rfl, HN.out, HB1.out⟩ | ((repeat apply Exists.intro); refine ⟨⟨s, y2, rfl, rfl, HN.out, HB1.out⟩, rfl⟩)
          case measure => have := HS.out; simp only [intOf, Int.toNat_natCast]; exact this
end Go.Proofs.Ytligjfofnafjeaa
