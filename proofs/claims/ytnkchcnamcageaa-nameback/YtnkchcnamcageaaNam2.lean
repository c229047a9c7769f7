
import Derived.Test.YtnkchcnamcageaaNam1
namespace Go.Proofs.Ytnkchcnamcageaa
open Go.RowKit

/-! assayref13: Check, Compare -/
set_option linter.unusedSimpArgs false in
theorem refCheck_any (s : ByteArray) (w : World) (h63 : s.size ≤ 9223372036854775807) : Calls Try.prog 13 #[.string s] w fun e w' => e = .returned (.int .i64 (chkN (lS s))) ∧ Below w.heap.size w w' := by
  have hI := refIs_any s w h63
  unfold chkN
  obtain ⟨R, hR⟩ : ∃ q, isN (lS s) = q := ⟨_, rfl⟩
  rw [hR] at hI ⊢
  clear hR
  go_enter Try.func13, Try.ntmps13
  go_wp2_with fail
  refine hI.mono ?_
  rintro e w1 ⟨rfl, hB⟩
  clear hI
  cases R
  · go_wp2
    go_ret
    exact ⟨rfl, hB⟩
  · go_wp2
    go_ret
    exact ⟨rfl, hB⟩
set_option linter.unusedSimpArgs false in
set_option maxRecDepth 100000 in
set_option maxHeartbeats 4000000 in
theorem refCompare_any (s t : ByteArray) (w : World) (hs63 : s.size ≤ 9223372036854775807) (ht63 : t.size ≤ 9223372036854775807) : Calls Try.prog 14 #[.string s, .string t] w fun e w' => e = .returned (.int .i64 (cmpL (lS s) (lS t))) ∧ Below w.heap.size w w' := by
  have hls := lS_len s
  have hlt := lS_len t
  obtain ⟨l, hl⟩ : ∃ q, lS s = q := ⟨_, rfl⟩
  obtain ⟨m, hm⟩ : ∃ q, lS t = q := ⟨_, rfl⟩
  rw [hl] at hls
  rw [hm] at hlt
  rw [hl, hm]
  obtain ⟨p, hp⟩ : ∃ q, s.size = q := ⟨_, rfl⟩
  obtain ⟨q, hq⟩ : ∃ q, t.size = q := ⟨_, rfl⟩
  rw [hp] at hls hs63
  rw [hq] at hlt ht63
  obtain ⟨RE, hRE⟩ : ∃ q, cmpL l m = q := ⟨_, rfl⟩
  rw [hRE]
  have HR0 : Hid (cmpL (l.drop 0) (m.drop 0) = RE) := hRE
  clear hRE
  go_enter Try.func14, Try.ntmps14
  go_wp2_with fail
  go_loopw [5] (fun iv wr => ∃ k : Nat, (k ≤ p ∧ k ≤ q) ∧ iv = .int .i64 k ∧ Hid (cmpL (l.drop k) (m.drop k) = RE) ∧ Below w.heap.size w wr) (fun iv _ => p - (intOf iv).toNat)
  case atStart => exact ⟨0, by omega, rfl, HR0, Below.refl _ _⟩
  case round =>
    clear HR0
    obtain ⟨k, ⟨hk1, hk2⟩, rfl, HR, hB⟩ := hrel
    have fin : Hid (k = p ∨ k = q → (if p < q then (-1 : Int) else if q < p then 1 else 0) = RE) := fun h => by
      rw [← HR.out, cmp_end l m k (by omega) (by omega) (by omega), hls, hlt]
    by_cases h1 : k < p
    · have i1 : (k : Int) < (p : Int) := by omega
      have i0 : (0 : Int) ≤ (k : Int) := by omega
      by_cases h2 : k < q
      · have i2 : (k : Int) < (q : Int) := by omega
        obtain ⟨x1, hx1⟩ : ∃ z, lB l k = z := ⟨_, rfl⟩
        obtain ⟨y1, hy1⟩ : ∃ z, lB m k = z := ⟨_, rfl⟩
        have HC : Hid ((if x1 = y1 then cmpL (l.drop (k + 1)) (m.drop (k + 1)) else if x1.toNat < y1.toNat then -1 else 1) = RE) := by
          show _ = RE
          rw [← HR.out, cmp_drop l m k (by omega) (by omega), hx1, hy1]
        clear HR fin
        by_cases he : x1 = y1
        · have HN : Hid (cmpL (l.drop (k + 1)) (m.drop (k + 1)) = RE) := by
            have := HC.out
            rw [if_pos he] at this; exact this
          have f1 : ((x1.toNat : Int) != (y1.toNat : Int)) = false := by rw [he]; simp
          clear HC
          go_upto_region 4 with fail
          refine wp_relies [Fx (.string s), Fx (.int .i64 (k : Int)), Fx (.int .u8 (x1.toNat : Int)), Fx (.string t), Fx (.int .i64 (k : Int)), Fx (.int .u8 (y1.toNat : Int)), Fx (.bool (false))] (by kernel_rfl) (by kernel_rfl) ?_ ?_ ?_
          · repeat' (first | exact all_nil | apply all_cons)
            all_goals intro v y y' hv hb
            all_goals first | exact Fx_mono _ _ _ _ hv hb
          · refine ⟨?_, ?_, ?_, ?_, ?_, ?_, ?_, trivial⟩
            all_goals
              intro ρ x hp ρc ρg ρf ho hd
              have o0 : ρ (.tmp 0) = .string s := ho 0 rfl
              have o1 : ρ (.tmp 1) = .string t := ho 1 rfl
              have o5 : ρ (.tmp 5) = .int .i64 (k : Int) := ho 5 rfl
              clear ho
              simp only [depsR, depR, slotR, Fx, List.getElem?_cons_succ, List.getElem?_cons_zero, Region.binds, forall_const] at hd
              simp only [guardR]
              go_split_ands
            · go_simp
            · go_simp
            · go_simp
            · go_simp
            · go_simp
            · go_simp
            · go_simp
          · intro vs X1 hp hw
            simp only [owed, Fx] at hw
            obtain ⟨e0, e1, e2, e3, e4, e5, e6, -⟩ := hw
            simp only [List.length_cons, List.length_nil, List.take_succ_cons, List.take_nil, List.drop_succ_cons, List.drop_nil, asg, List.cons_append, List.nil_append, e0, e1, e2, e3, e4, e5, e6]
            clear e0 e1 e2 e3 e4 e5 e6
            go_wp2
            go_roundw
            case rel => first | exact ⟨k + 1, by omega, by go_num, HN, hB.trans (hp.mono hB.size)⟩ | ((repeat apply Exists.intro); refine ⟨⟨k + 1, by omega, ?_, HN, hB.trans (hp.mono hB.size)⟩, rfl⟩; go_num)
            case measure => simp [intOf]; omega
        · have hne : x1.toNat ≠ y1.toNat := fun e => he (UInt8.toNat_inj.1 e)
          have f1 : ((x1.toNat : Int) != (y1.toNat : Int)) = true := bne_iff_ne.2 (by omega)
          have HN := HC.out
          rw [if_neg he] at HN
          clear HC
          go_upto_region 4 with fail
          refine wp_relies [Fx (.string s), Fx (.int .i64 (k : Int)), Fx (.int .u8 (x1.toNat : Int)), Fx (.string t), Fx (.int .i64 (k : Int)), Fx (.int .u8 (y1.toNat : Int)), Fx (.bool (true))] (by kernel_rfl) (by kernel_rfl) ?_ ?_ ?_
          · repeat' (first | exact all_nil | apply all_cons)
            all_goals intro v y y' hv hb
            all_goals first | exact Fx_mono _ _ _ _ hv hb
          · refine ⟨?_, ?_, ?_, ?_, ?_, ?_, ?_, trivial⟩
            all_goals
              intro ρ x hp ρc ρg ρf ho hd
              have o0 : ρ (.tmp 0) = .string s := ho 0 rfl
              have o1 : ρ (.tmp 1) = .string t := ho 1 rfl
              have o5 : ρ (.tmp 5) = .int .i64 (k : Int) := ho 5 rfl
              clear ho
              simp only [depsR, depR, slotR, Fx, List.getElem?_cons_succ, List.getElem?_cons_zero, Region.binds, forall_const] at hd
              simp only [guardR]
              go_split_ands
            · go_simp
            · go_simp
            · go_simp
            · go_simp
            · go_simp
            · go_simp
            · go_simp
          · intro vs X1 hp hw
            simp only [owed, Fx] at hw
            obtain ⟨e0, e1, e2, e3, e4, e5, e6, -⟩ := hw
            simp only [List.length_cons, List.length_nil, List.take_succ_cons, List.take_nil, List.drop_succ_cons, List.drop_nil, asg, List.cons_append, List.nil_append, e0, e1, e2, e3, e4, e5, e6]
            clear e0 e1 e2 e3 e4 e5 e6
            go_upto_region 5 with fail
            clear f1
            by_cases hc : x1.toNat < y1.toNat
            · rw [if_pos hc] at HN
              have f2 : (x1.toNat : Int) < (y1.toNat : Int) := by omega
              refine wp_relies [Fx (.string s), Fx (.int .i64 (k : Int)), Fx (.int .u8 (x1.toNat : Int)), Fx (.string t), Fx (.int .i64 (k : Int)), Fx (.int .u8 (y1.toNat : Int)), Fx (.bool (true))] (by kernel_rfl) (by kernel_rfl) ?_ ?_ ?_
              · repeat' (first | exact all_nil | apply all_cons)
                all_goals intro v y y' hv hb
                all_goals first | exact Fx_mono _ _ _ _ hv hb
              · refine ⟨?_, ?_, ?_, ?_, ?_, ?_, ?_, trivial⟩
                all_goals
                  intro ρ x hp ρc ρg ρf ho hd
                  have o0 : ρ (.tmp 0) = .string s := ho 0 rfl
                  have o1 : ρ (.tmp 1) = .string t := ho 1 rfl
                  have o5 : ρ (.tmp 5) = .int .i64 (k : Int) := ho 5 rfl
                  clear ho
                  simp only [depsR, depR, slotR, Fx, List.getElem?_cons_succ, List.getElem?_cons_zero, Region.binds, forall_const] at hd
                  simp only [guardR]
                  go_split_ands
                · go_simp
                · go_simp
                · go_simp
                · go_simp
                · go_simp
                · go_simp
                · go_simp
              · intro vs X2 hp9 hw
                simp only [owed, Fx] at hw
                obtain ⟨e0, e1, e2, e3, e4, e5, e6, -⟩ := hw
                simp only [List.length_cons, List.length_nil, List.take_succ_cons, List.take_nil, List.drop_succ_cons, List.drop_nil, asg, List.cons_append, List.nil_append, e0, e1, e2, e3, e4, e5, e6]
                clear e0 e1 e2 e3 e4 e5 e6
                go_wp2
                go_ret
                exact ⟨by rw [← HN]; rfl, (hB.trans (hp.mono hB.size)).trans (hp9.mono (by have := hB.size; have := hp.size; omega))⟩
            · rw [if_neg hc] at HN
              have f2 : ¬ (x1.toNat : Int) < (y1.toNat : Int) := by omega
              refine wp_relies [Fx (.string s), Fx (.int .i64 (k : Int)), Fx (.int .u8 (x1.toNat : Int)), Fx (.string t), Fx (.int .i64 (k : Int)), Fx (.int .u8 (y1.toNat : Int)), Fx (.bool (false))] (by kernel_rfl) (by kernel_rfl) ?_ ?_ ?_
              · repeat' (first | exact all_nil | apply all_cons)
                all_goals intro v y y' hv hb
                all_goals first | exact Fx_mono _ _ _ _ hv hb
              · refine ⟨?_, ?_, ?_, ?_, ?_, ?_, ?_, trivial⟩
                all_goals
                  intro ρ x hp ρc ρg ρf ho hd
                  have o0 : ρ (.tmp 0) = .string s := ho 0 rfl
                  have o1 : ρ (.tmp 1) = .string t := ho 1 rfl
                  have o5 : ρ (.tmp 5) = .int .i64 (k : Int) := ho 5 rfl
                  clear ho
                  simp only [depsR, depR, slotR, Fx, List.getElem?_cons_succ, List.getElem?_cons_zero, Region.binds, forall_const] at hd
                  simp only [guardR]
                  go_split_ands
                · go_simp
                · go_simp
                · go_simp
                · go_simp
                · go_simp
                · go_simp
                · go_simp
              · intro vs X2 hp9 hw
                simp only [owed, Fx] at hw
                obtain ⟨e0, e1, e2, e3, e4, e5, e6, -⟩ := hw
                simp only [List.length_cons, List.length_nil, List.take_succ_cons, List.take_nil, List.drop_succ_cons, List.drop_nil, asg, List.cons_append, List.nil_append, e0, e1, e2, e3, e4, e5, e6]
                clear e0 e1 e2 e3 e4 e5 e6
                go_wp2
                go_ret
                exact ⟨by rw [← HN]; rfl, (hB.trans (hp.mono hB.size)).trans (hp9.mono (by have := hB.size; have := hp.size; omega))⟩
      · have i2 : ¬ (k : Int) < (q : Int) := by omega
        have h3 := fin.out (.inr (by omega))
        rw [if_neg (by omega), if_pos (by omega)] at h3
        have i3 : ¬ (p : Int) < (q : Int) := by omega
        have i4 : (q : Int) < (p : Int) := by omega
        clear fin HR
        go_wp2
        go_ret
        exact ⟨by rw [← h3]; rfl, hB⟩
    · have i1 : ¬ (k : Int) < (p : Int) := by omega
      have h3 := fin.out (.inl (by omega))
      clear fin HR
      by_cases h2 : p < q
      · rw [if_pos h2] at h3
        have i3 : (p : Int) < (q : Int) := by omega
        go_wp2
        go_ret
        exact ⟨by rw [← h3]; rfl, hB⟩
      · rw [if_neg h2, if_neg (by omega)] at h3
        have i3 : ¬ (p : Int) < (q : Int) := by omega
        have i4 : ¬ (q : Int) < (p : Int) := by omega
        go_wp2
        go_ret
        exact ⟨by rw [← h3]; rfl, hB⟩
end Go.Proofs.Ytnkchcnamcageaa
