import Derived.Test.YtddmmmfpdmejbaaGreatDoorQJzw
namespace Go.Proofs.YtddmmmfpdmejbaaGreatDoor
open Go.RowKit

/-! clone, field, Field -/
theorem lsG_kept {w w1 : World} {F : Nat → Prop} {a : Sl} {us : List Value} {vs : List Nd} (h : LsG w F a us vs) (hb : Below w.heap.size w w1) : LsG w1 F a us vs := ⟨isG_kept15 h.1 hb, h.2.1, h.2.2.1, fun i u d h1 h2 => (h.2.2.2 i u d h1 h2).kept hb⟩
set_option linter.unusedSimpArgs false in
set_option maxRecDepth 100000 in
set_option maxHeartbeats 8000000 in
theorem cloneV15_any : ∀ d, ClOk d := Nd.ind fun k n ss kk vs ih => by
  intro w F v hv
  cases hv using VlG.rc with
  | nil k hk =>
    go_enter Tryz.func34, Tryz.ntmps34
    go_wp2
    go_ret
    exact ⟨_, rfl, .nil k hk, Below.refl _ _⟩
  | null =>
    go_enter Tryz.func34, Tryz.ntmps34
    go_wp2
    go_ret
    exact ⟨_, rfl, .null, Below.refl _ _⟩
  | bool b =>
    go_enter Tryz.func34, Tryz.ntmps34
    go_wp2
    go_ret
    exact ⟨_, rfl, .bool b, Below.refl _ _⟩
  | num n hn =>
    go_enter Tryz.func34, Tryz.ntmps34
    go_wp2
    go_ret
    exact ⟨_, rfl, .num _ hn, Below.refl _ _⟩
  | str s =>
    go_enter Tryz.func34, Tryz.ntmps34
    go_wp2
    go_ret
    exact ⟨_, rfl, .str s, Below.refl _ _⟩
  | list a us ds hv hF hl hz he r9 =>
    clear r9
    have hC := cloneAll15_any vs ih w F a us ⟨hv, hl, hz, he⟩
    obtain ⟨ax, an, ac⟩ := a
    simp only [Sl.v] at hC ⊢
    clear hv hF hl hz he
    go_enter Tryz.func34, Tryz.ntmps34
    go_wp2_with fail
    refine hC.mono ?_
    rintro e w1 ⟨a9, us9, rfl, h1, h2, h3, h4, h5, h6⟩
    clear hC
    have HE : Hid (ClP (.mk 5 0 [] [] vs) w (.returned (.iface 68 a9.v)) w1) := ⟨_, rfl, .list a9 us9 vs h1 h2 h3 h4 h5, h6⟩
    obtain ⟨bx, bn, bc⟩ := a9
    simp only [Sl.v] at HE ⊢
    clear h1 h2 h3 h4 h5 h6
    go_wp2
    go_ret
    exact HE.out
  | obj ks a kb us ds hk hkF hv hF hl hz he r9 =>
    clear r9
    have bA := below_alloc w (.cells #[ks.v, a.v] 70)
    have HK : Hid (IsG (w.alloc (.cells #[ks.v, a.v] 70)) ks.v (strs kb)) := isG_kept15 hk bA
    have HL : Hid (LsG (w.alloc (.cells #[ks.v, a.v] 70)) F a us vs) := ⟨isG_kept15 hv bA, hl, hz.2, fun i u d h1 h2 => (he i u d h1 h2).kept bA⟩
    have hkz : ks.n ≤ 8796093022208 := hz.1
    obtain ⟨ax, an, ac⟩ := a
    obtain ⟨kx, kn, kc⟩ := ks
    simp only [Sl.v] at bA HK HL hkz ⊢
    have rA := RowC.new w #[.slice kx kn kc, .slice ax an ac] 70
    obtain ⟨g0, hg0⟩ : ∃ q, w.heap.size = q := ⟨_, rfl⟩
    rw [hg0] at rA
    have c0 : (w.alloc (.cells #[.slice kx kn kc, .slice ax an ac] 70)).cell? ⟨g0, 0, none⟩ = some (.slice kx kn kc) := rA.cell 0
    have c1 : (w.alloc (.cells #[.slice kx kn kc, .slice ax an ac] 70)).cell? ⟨g0, 1, none⟩ = some (.slice ax an ac) := rA.cell 1
    have HG0 : Hid (w.heap.size = g0) := hg0
    clear hv hF hl hz he hk hkF rA
    go_enter Tryz.func34, Tryz.ntmps34
    go_upto_region 7 with fail
    clear hg0
    generalize w.alloc (.cells #[.slice kx kn kc, .slice ax an ac] 70) = Y at *
    obtain ⟨nY, hnY⟩ : ∃ q, Y.heap.size = q := ⟨_, rfl⟩
    have HNY : Hid (Y.heap.size = nY) := hnY
    clear hnY
    refine wp_reliesT [Fx (.pointer (some ⟨g0, 0, none⟩)), Fx (.slice kx kn kc), fun v x => ∃ a : Sl, v = a.v ∧ OwnG 9 x nY a.v (strs kb), Fx (.pointer (some ⟨g0, 1, none⟩)), Fx (.slice ax an ac), fun v x => ∃ (a : Sl) (us : List Value), v = a.v ∧ IsG x a.v us ∧ a.In (nY ≤ ·) ∧ us.length = vs.length ∧ a.n ≤ 1759218604441 ∧ ∀ (i : Nat) u d, us[i]? = some u → vs[i]? = some d → VlG x (nY ≤ ·) u d] (by kernel_rfl) (by kernel_rfl) ?_ ?_ ?_
    · repeat' (first | exact all_nil | apply all_cons)
      all_goals intro v y y' hv hb
      all_goals first | exact Fx_mono _ _ _ _ hv hb | (obtain ⟨a9, q1, q2⟩ := hv; exact ⟨a9, q1, q2.keep hb⟩) | (obtain ⟨a9, us9, q1, q2, q3, q4, q5, q6⟩ := hv; exact ⟨a9, us9, q1, isG_kept15 q2 hb, q3, q4, q5, fun i u d z1 z2 => (q6 i u d z1 z2).kept hb⟩)
    · refine ⟨?_, ?_, ?_, ?_, ?_, ?_, trivial⟩
      all_goals
        intro ρ x hp ρc ρg ρf ho hd
        have o4 : ρ (.tmp 4) = .pointer (some ⟨g0, 0, none⟩) := ho 4 rfl
        clear ho
        have k0 := cell_later hp c0
        have k1 := cell_later hp c1
        simp only [depsR, depR, slotR, Fx, List.getElem?_cons_succ, List.getElem?_cons_zero, Region.binds, forall_const] at hd
        simp only [guardR]
        go_split_ands
      · go_simp
      · go_simp
      · go_simp
        refine (clone15_any kx kn kc kb x (isG_kept15 HK.out hp) hkz).mono ?_
        rintro e x' ⟨a9, rfl, h1, h2⟩
        exact ⟨_, rfl, ⟨a9, rfl, h1.le (by have := hp.size; have := HNY.out; omega)⟩, h2⟩
      · go_simp
      · go_simp
      · go_simp
        refine (cloneAll15_any vs ih x F ⟨ax, an, ac⟩ us (lsG_kept HL.out hp)).mono ?_
        rintro e x' ⟨a9, us9, rfl, h1, h2, h3, h4, h5, h6⟩
        have hz9 : nY ≤ x.heap.size := by have := hp.size; have := HNY.out; omega
        exact ⟨_, rfl, ⟨a9, rfl, us9, h1, h2.mono (fun q hq => Nat.le_trans hz9 hq), h3, h4, fun i u d q1 q2 => (h5 i u d q1 q2).mono (fun q hq => Nat.le_trans hz9 hq)⟩, h6⟩
    · intro vz x1 hp hw
      simp only [owed, Fx] at hw
      obtain ⟨e0, e1, ⟨a2, e2, hO2⟩, e3, e4, ⟨a5, us5, e5, hG5, hI5, hl5, hn5, hv5⟩, -⟩ := hw
      simp only [List.length_cons, List.length_nil, List.take_succ_cons, List.take_zero, List.drop_succ_cons, List.drop_zero, asg, List.cons_append, List.nil_append, e0, e1, e2, e3, e4, e5]
      clear e0 e1 e2 e3 e4 e5
      have hnw : w.heap.size ≤ nY := by rw [← HNY.out]; exact bA.size
      have hkn : a2.n ≤ 8796093022208 := by
        have h9 : a2.n = (strs kb).length := IsG.num hO2.isG
        have h8 : kn = (strs kb).length := IsG.num (a := ⟨kx, kn, kc⟩) HK.out
        omega
      have HE : Hid (ClP (.mk 6 0 [] (kb.map lS) vs) w (.returned (.iface 70 (.agg #[a2.v, a5.v]))) x1) := by
        refine ⟨_, rfl, .obj a2 a5 kb us5 vs hO2.isG ?_ hG5 (hI5.mono fun q hq => Nat.le_trans hnw hq) hl5 ⟨hkn, hn5⟩ (fun i u d q1 q2 => (hv5 i u d q1 q2).mono fun q hq => Nat.le_trans hnw hq), bA.trans (hp.mono bA.size)⟩
        exact (Sl.own_inG15 hO2).mono fun q hq => Nat.le_trans hnw hq
      obtain ⟨bx, bn, bc⟩ := a2
      obtain ⟨dx, dn, dc⟩ := a5
      simp only [Sl.v] at HE ⊢
      clear hO2 hG5 hI5 hl5 hn5 hv5 hkn c0 c1
      go_wp2
      go_ret
      exact HE.out
end Go.Proofs.YtddmmmfpdmejbaaGreatDoor
