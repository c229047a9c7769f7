
import Derived.Test.YtmdhgadmfcmecaaAppV
import Derived.Test.YtmdhgadmfcmecaaRelt
import Derived.WalkSpells
namespace Go.Proofs.Ytmdhgadmfcmecaa
open Go.RowKit

set_option linter.unusedSimpArgs false in
set_option maxRecDepth 100000 in
set_option maxHeartbeats 800000 in
theorem lawCuts_any (xb : Option Addr) (cb : Nat) (l : List UInt8) (xi : Option Addr) (ci : Nat) (zs : List Int) (w : World) (hb : IsB w (.slice xb l.length cb) l) (hi : IsI w (.slice xi zs.length ci) zs) (hz : ∀ z ∈ zs, -9223372036854775808 ≤ z ∧ z ≤ 9223372036854775807) (h1 : l.length ≤ 140737488351232) (hcb : l.length ≤ cb) :
    Calls Try.prog 3 #[.slice xb l.length cb, .slice xi zs.length ci] w fun e w' => e = .returned (.bool true) ∧ Below w.heap.size w w' := by
  go_enter Try.func3, Try.ntmps3
  go_wp2_with (go_at_call 7; refine (known_any _).mono ?_; rintro e w1 ⟨rfl, hw1⟩)
  have hb' := hb.kept hw1
  have hi' := hi.kept hw1
  clear hb hi
  go_loopw [5, 6, 7] (fun v fr i wr => ∃ (k f : Nat) (us : List Value) (ls : List (List UInt8)), k ≤ 64 ∧ k ≤ zs.length ∧ i = .int .i64 k ∧ fr = .int .i64 f ∧ f ≤ l.length ∧ OwnV wr w1.heap.size v us ∧ us.length = k ∧ AreB w1 us ls ∧ ls.flatten = l.take f ∧ (∀ m ∈ ls, m.length ≤ l.length) ∧ Below w1.heap.size w1 wr) (fun _ _ i _ => 64 - (intOf i).toNat)
  case atStart => exact ⟨0, 0, [], [], by omega, by omega, rfl, rfl, by omega, OwnV.nil _ _, rfl, AreB.nil _, by simp, by simp, Below.refl _ _⟩
  case round =>
    obtain ⟨k, f, us, ls, hk, hkz, rfl, rfl, hf, hO, hvk, hA, hfl, hll, hB⟩ := hrel
    have hsz : w1.heap.size ≤ wr.heap.size := hB.size
    have IB1 := hb'
    have II0 := hi'.kept hB
    clear hb' hi'
    by_cases hlt : k < zs.length ∧ k < 64
    · obtain ⟨_, _, he, hcz⟩ := II0
      simp only [Value.slice.injEq, true_and] at he
      obtain ⟨rfl, rfl⟩ := he
      obtain ⟨bz, oz, rfl, hbz, hcZ⟩ := hcz k hlt.1
      have hzb := hz (zs[k]?.getD 0) (by simp [hlt.1])
      generalize zs[k]?.getD 0 = z at hcZ hzb
      clear hcz hz
      have hk0 : (0 : Int) ≤ (k : Int) := by omega
      have hk1 : (k : Int) < (zs.length : Int) := by omega
      have hk2 : (k : Int) < 64 := by omega
      go_upto_region 9 with fail
      have hpos : 0 < (l.length : Int) - f + 1 := by omega
      have hq1 := Int.tmod_lt_of_pos z hpos
      have hq2 : -((l.length : Int) - f + 1) < z.tmod ((l.length : Int) - f + 1) := by
        have := Int.tmod_lt_of_pos (-z) hpos
        rw [Int.neg_tmod] at this
        omega
      generalize z.tmod ((l.length : Int) - f + 1) = q at hq1 hq2 ⊢
      obtain ⟨n, hn, hq⟩ : ∃ n : Nat, f + n ≤ l.length ∧ (q = n ∨ (q = -n ∧ 0 < n)) := ⟨q.natAbs, by omega, by omega⟩
      clear hq1 hq2 hcZ
      have HF : Hid ((ls ++ [(l.drop f).take n]).flatten = l.take (f + n)) := by
        show _ = _
        rw [List.flatten_append, hfl, List.take_add]; simp
      have HL : Hid (∀ m ∈ ls ++ [(l.drop f).take n], m.length ≤ l.length) := by
        intro m hm
        rcases List.mem_append.1 hm with h | h
        · exact hll m h
        · rw [List.mem_singleton] at h; rw [h]; simp; omega
      clear hfl hll
      have hfn0 : (0 : Int) ≤ (f : Int) := by omega
      have hfn1 : (f : Int) ≤ (f : Int) + (n : Int) := by omega
      have hfn2 : (f : Int) + (n : Int) ≤ (cb : Int) := by omega
      have hfn3 : (f : Int) + (n : Int) ≤ 140737488351232 := by omega
      rcases hq with rfl | ⟨rfl, hnp⟩
      · go_upto_region 11 with fail
        refine wp_plainsT [Fx (u5), Fx (.slice xb l.length cb), Fx (.int .i64 (f : Nat)), Fx (.int .i64 (f : Nat)), Fx (.int .i64 (n : Nat)), Fx (.int .i64 (f + n : Nat)), fun v x => ∃ y m d, v = .slice y m d ∧ IsB w1 (.slice y m d) ((l.drop f).take n), fun v x => ∃ g y m d, v = .slice (some ⟨g, 0, none⟩) 1 1 ∧ x.cell? ⟨g, 0, none⟩ = some (.slice y m d) ∧ IsB w1 (.slice y m d) ((l.drop f).take n)] (by kernel_rfl) (by kernel_rfl) ?_ ?_ ?_
        · repeat' (first | exact all_nil | apply all_cons)
          all_goals intro v y y' hv hb
          all_goals first | exact Fx_mono _ _ _ _ hv hb | (obtain ⟨y, n, d, h1, h2⟩ := hv; exact ⟨y, n, d, h1, h2⟩) | (obtain ⟨g, y, n, d, h1, h2, h3⟩ := hv; exact ⟨g, y, n, d, h1, cell_later hb h2, h3⟩)
        · refine ⟨?_, ?_, ?_, ?_, ?_, ?_, ?_, ?_, trivial⟩
          all_goals
            intro ρ x hp ρc ρg ρf ho hd
            have o0 : ρ (.tmp 0) = .slice xb l.length cb := ho 0 rfl
            have o5 : ρ (.tmp 5) = u5 := ho 5 rfl
            have o6 : ρ (.tmp 6) = .int .i64 (f : Nat) := ho 6 rfl
            have o8 : ρ (.tmp 8) = .int .i64 (n : Nat) := ho 8 rfl
            clear ho
            simp only [depsR, depR, slotR, Fx, List.getElem?_cons_succ, List.getElem?_cons_zero, Region.binds, forall_const] at hd
            simp only [guardR]
            go_split_ands
          · go_simp
          · go_simp
          · go_simp
          · go_simp
          · go_simp
          · go_simp
            exact congrArg (Value.int .i64) (show IntKind.i64.wrap ((f : Int) + (n : Int)) = (f : Int) + (n : Int) by rw [IntKind.wrap_i64]; omega)
          · go_simp
            refine ⟨_, _, _, ⟨rfl, rfl, rfl⟩, ?_⟩
            rw [show ((f : Int) + (n : Int)).toNat - f = n by omega]
            exact IB1.cut f n (by omega) hcb
          · obtain ⟨y, m, d, e1, e2⟩ := ‹∃ y m d, ρ (.tmp 41) = _ ∧ _›
            go_simp
            exact ⟨⟨_, _, _, ⟨rfl, rfl, rfl⟩, e2⟩, below_alloc _ _⟩
        · intro vs x1 hp hw
          simp only [owed, Fx] at hw
          obtain ⟨e0, e1, e2, e3, e4, e5, e6, ⟨g, y, m, d, e7, hg, hgB⟩, -⟩ := hw
          simp only [List.length_cons, List.length_nil, List.take_succ_cons, List.take_zero, List.drop_succ_cons, List.drop_zero, asg, List.cons_append, List.nil_append, e0, e1, e2, e3, e4, e5, e7]
          clear e0 e1 e2 e3 e4 e5 e7 e6
          obtain ⟨v', w', hr, hO', hB', hs'⟩ := run_app1V x1 w1.heap.size g 1 u5 us (.slice y m d) 25 (hO.keep hp) hg rfl (by omega) (by have := hp.size; omega)
          have HO : Hid (OwnV w' w1.heap.size v' (us ++ [.slice y m d])) := hO'
          have HB : Hid (Below w1.heap.size w1 w') := (hB.trans (hp.mono hsz)).trans hB'
          have HA : Hid (AreB w1 (us ++ [.slice y m d]) (ls ++ [(l.drop f).take n])) := (AreB.snoc hA hgB)
          clear hO hB hO' hB' hg hA hgB IB1
          go_wp2_with (at_builtin; refine wpL_appV rfl _ _ rfl v' w' (by exact hr) ?_)
          go_roundw
          case rel => exact ⟨k + 1, f + n, _, _, by omega, by omega, by go_num, by go_num, by omega, HO.out, by simp; omega, HA.out, HF.out, HL.out, HB.out⟩
          case measure => simp [intOf]; omega
      · go_upto_region 11 with fail
        refine wp_plainsT [Fx (u5), Fx (.slice xb l.length cb), Fx (.int .i64 (f : Nat)), Fx (.int .i64 (f : Nat)), Fx (.int .i64 (n : Nat)), Fx (.int .i64 (f + n : Nat)), fun v x => ∃ y m d, v = .slice y m d ∧ IsB w1 (.slice y m d) ((l.drop f).take n), fun v x => ∃ g y m d, v = .slice (some ⟨g, 0, none⟩) 1 1 ∧ x.cell? ⟨g, 0, none⟩ = some (.slice y m d) ∧ IsB w1 (.slice y m d) ((l.drop f).take n)] (by kernel_rfl) (by kernel_rfl) ?_ ?_ ?_
        · repeat' (first | exact all_nil | apply all_cons)
          all_goals intro v y y' hv hb
          all_goals first | exact Fx_mono _ _ _ _ hv hb | (obtain ⟨y, n, d, h1, h2⟩ := hv; exact ⟨y, n, d, h1, h2⟩) | (obtain ⟨g, y, n, d, h1, h2, h3⟩ := hv; exact ⟨g, y, n, d, h1, cell_later hb h2, h3⟩)
        · refine ⟨?_, ?_, ?_, ?_, ?_, ?_, ?_, ?_, trivial⟩
          all_goals
            intro ρ x hp ρc ρg ρf ho hd
            have o0 : ρ (.tmp 0) = .slice xb l.length cb := ho 0 rfl
            have o5 : ρ (.tmp 5) = u5 := ho 5 rfl
            have o6 : ρ (.tmp 6) = .int .i64 (f : Nat) := ho 6 rfl
            have o8 : ρ (.tmp 8) = .int .i64 (n : Nat) := ho 8 rfl
            clear ho
            simp only [depsR, depR, slotR, Fx, List.getElem?_cons_succ, List.getElem?_cons_zero, Region.binds, forall_const] at hd
            simp only [guardR]
            go_split_ands
          · go_simp
          · go_simp
          · go_simp
          · go_simp
          · go_simp
          · go_simp
            exact congrArg (Value.int .i64) (show IntKind.i64.wrap ((f : Int) + (n : Int)) = (f : Int) + (n : Int) by rw [IntKind.wrap_i64]; omega)
          · go_simp
            refine ⟨_, _, _, ⟨rfl, rfl, rfl⟩, ?_⟩
            rw [show ((f : Int) + (n : Int)).toNat - f = n by omega]
            exact IB1.cut f n (by omega) hcb
          · obtain ⟨y, m, d, e1, e2⟩ := ‹∃ y m d, ρ (.tmp 41) = _ ∧ _›
            go_simp
            exact ⟨⟨_, _, _, ⟨rfl, rfl, rfl⟩, e2⟩, below_alloc _ _⟩
        · intro vs x1 hp hw
          simp only [owed, Fx] at hw
          obtain ⟨e0, e1, e2, e3, e4, e5, e6, ⟨g, y, m, d, e7, hg, hgB⟩, -⟩ := hw
          simp only [List.length_cons, List.length_nil, List.take_succ_cons, List.take_zero, List.drop_succ_cons, List.drop_zero, asg, List.cons_append, List.nil_append, e0, e1, e2, e3, e4, e5, e7]
          clear e0 e1 e2 e3 e4 e5 e7 e6
          obtain ⟨v', w', hr, hO', hB', hs'⟩ := run_app1V x1 w1.heap.size g 1 u5 us (.slice y m d) 25 (hO.keep hp) hg rfl (by omega) (by have := hp.size; omega)
          have HO : Hid (OwnV w' w1.heap.size v' (us ++ [.slice y m d])) := hO'
          have HB : Hid (Below w1.heap.size w1 w') := (hB.trans (hp.mono hsz)).trans hB'
          have HA : Hid (AreB w1 (us ++ [.slice y m d]) (ls ++ [(l.drop f).take n])) := (AreB.snoc hA hgB)
          clear hO hB hO' hB' hg hA hgB IB1
          go_wp2_with (at_builtin; refine wpL_appV rfl _ _ rfl v' w' (by exact hr) ?_)
          go_roundw
          case rel => exact ⟨k + 1, f + n, _, _, by omega, by omega, by go_num, by go_num, by omega, HO.out, by simp; omega, HA.out, HF.out, HL.out, HB.out⟩
          case measure => simp [intOf]; omega
    · have IB0 := IB1.kept hB
      have hf0 : (0 : Int) ≤ (f : Int) := by omega
      have hf1 : (f : Int) ≤ (l.length : Int) := by omega
      have HF : (ls ++ [l.drop f]).flatten = l := by rw [List.flatten_append, hfl]; simp
      have HL : ∀ m ∈ ls ++ [l.drop f], m.length ≤ l.length := by
        intro m hm
        rcases List.mem_append.1 hm with h | h
        · exact hll m h
        · rw [List.mem_singleton] at h; rw [h]; simp
      clear hfl hll II0
      by_cases hkz2 : (k : Int) < (zs.length : Int)
      · have hk64 : (64 : Int) ≤ (k : Int) := by omega
        go_upto_region 13 with fail
        refine wp_plainsT [Fx (u5), Fx (.slice xb l.length cb), Fx (.int .i64 (f : Nat)), fun v x => ∃ y m d, v = .slice y m d ∧ IsB w1 (.slice y m d) (l.drop f), fun v x => ∃ g y m d, v = .slice (some ⟨g, 0, none⟩) 1 1 ∧ x.cell? ⟨g, 0, none⟩ = some (.slice y m d) ∧ IsB w1 (.slice y m d) (l.drop f)] (by kernel_rfl) (by kernel_rfl) ?_ ?_ ?_
        · repeat' (first | exact all_nil | apply all_cons)
          all_goals intro v y y' hv hb
          all_goals first | exact Fx_mono _ _ _ _ hv hb | (obtain ⟨y, n, d, h1, h2⟩ := hv; exact ⟨y, n, d, h1, h2⟩) | (obtain ⟨g, y, n, d, h1, h2, h3⟩ := hv; exact ⟨g, y, n, d, h1, cell_later hb h2, h3⟩)
        · refine ⟨?_, ?_, ?_, ?_, ?_, trivial⟩
          all_goals
            intro ρ x hp ρc ρg ρf ho hd
            have o0 : ρ (.tmp 0) = .slice xb l.length cb := ho 0 rfl
            have o5 : ρ (.tmp 5) = u5 := ho 5 rfl
            have o6 : ρ (.tmp 6) = .int .i64 (f : Nat) := ho 6 rfl
            clear ho
            simp only [depsR, depR, slotR, Fx, List.getElem?_cons_succ, List.getElem?_cons_zero, Region.binds, forall_const] at hd
            simp only [guardR]
            go_split_ands
          · go_simp
          · go_simp
          · go_simp
          · go_simp
            refine ⟨_, _, _, ⟨rfl, rfl, rfl⟩, ?_⟩
            have hz := IB1.cut f (l.length - f) (by omega) hcb
            rw [List.take_of_length_le (by simp)] at hz
            exact hz
          · obtain ⟨y, m, d, e1, e2⟩ := ‹∃ y m d, ρ (.tmp 50) = _ ∧ _›
            go_simp
            exact ⟨⟨_, _, _, ⟨rfl, rfl, rfl⟩, e2⟩, below_alloc _ _⟩
        · intro vs x1 hp hw
          simp only [owed, Fx] at hw
          obtain ⟨e0, e1, e2, e3, ⟨g, y, m, d, e4, hg, hgB⟩, -⟩ := hw
          simp only [List.length_cons, List.length_nil, List.take_succ_cons, List.take_zero, List.drop_succ_cons, List.drop_zero, asg, List.cons_append, List.nil_append, e0, e1, e2, e4]
          clear e0 e1 e2 e4 e3
          obtain ⟨v', w', hr, hO', hB', hs'⟩ := run_app1V x1 w1.heap.size g 1 u5 us (.slice y m d) 25 (hO.keep hp) hg rfl (by omega) (by have := hp.size; omega)
          have hB2 : Below w1.heap.size w1 w' := (hB.trans (hp.mono hsz)).trans hB'
          have hA2 : AreB w' (us ++ [.slice y m d]) (ls ++ [l.drop f]) := (AreB.snoc hA hgB).kept hB2
          have HC := sum_all v' _ w' (by rw [← hA2.1]; unfold maxLen; simp; omega) (by unfold maxLen; intro a ha; have := HL a ha; omega) (hO'.isBB hA2)
          rw [HF] at HC
          have IB2 := IB1.kept hB2
          have HB : Hid (Below w.heap.size w w') := hw1.trans (hB2.mono hw1.size)
          clear hO hB hO' hB' hg hA hgB IB1 IB0 hA2 hB2 HL
          go_wp2_with (at_builtin; refine wpL_appV rfl _ _ rfl v' w' (by exact hr) ?_)
          refine HC.mono ?_
          rintro e w2 ⟨rfl, rfl⟩
          clear HC
          go_wp2_with fail
          refine (sum_one (.slice xb l.length cb) l _ ⟨w2.heap.size, 0, none⟩ 1 (by unfold maxLen; omega) (by go_simp) (IB2.kept (below_alloc _ _))).mono ?_
          rintro e w3 ⟨rfl, rfl⟩
          go_wp2
          go_ret
          exact ⟨rfl, HB.out.alloc HB.out.size _⟩
      · go_upto_region 13 with fail
        refine wp_plainsT [Fx (u5), Fx (.slice xb l.length cb), Fx (.int .i64 (f : Nat)), fun v x => ∃ y m d, v = .slice y m d ∧ IsB w1 (.slice y m d) (l.drop f), fun v x => ∃ g y m d, v = .slice (some ⟨g, 0, none⟩) 1 1 ∧ x.cell? ⟨g, 0, none⟩ = some (.slice y m d) ∧ IsB w1 (.slice y m d) (l.drop f)] (by kernel_rfl) (by kernel_rfl) ?_ ?_ ?_
        · repeat' (first | exact all_nil | apply all_cons)
          all_goals intro v y y' hv hb
          all_goals first | exact Fx_mono _ _ _ _ hv hb | (obtain ⟨y, n, d, h1, h2⟩ := hv; exact ⟨y, n, d, h1, h2⟩) | (obtain ⟨g, y, n, d, h1, h2, h3⟩ := hv; exact ⟨g, y, n, d, h1, cell_later hb h2, h3⟩)
        · refine ⟨?_, ?_, ?_, ?_, ?_, trivial⟩
          all_goals
            intro ρ x hp ρc ρg ρf ho hd
            have o0 : ρ (.tmp 0) = .slice xb l.length cb := ho 0 rfl
            have o5 : ρ (.tmp 5) = u5 := ho 5 rfl
            have o6 : ρ (.tmp 6) = .int .i64 (f : Nat) := ho 6 rfl
            clear ho
            simp only [depsR, depR, slotR, Fx, List.getElem?_cons_succ, List.getElem?_cons_zero, Region.binds, forall_const] at hd
            simp only [guardR]
            go_split_ands
          · go_simp
          · go_simp
          · go_simp
          · go_simp
            refine ⟨_, _, _, ⟨rfl, rfl, rfl⟩, ?_⟩
            have hz := IB1.cut f (l.length - f) (by omega) hcb
            rw [List.take_of_length_le (by simp)] at hz
            exact hz
          · obtain ⟨y, m, d, e1, e2⟩ := ‹∃ y m d, ρ (.tmp 50) = _ ∧ _›
            go_simp
            exact ⟨⟨_, _, _, ⟨rfl, rfl, rfl⟩, e2⟩, below_alloc _ _⟩
        · intro vs x1 hp hw
          simp only [owed, Fx] at hw
          obtain ⟨e0, e1, e2, e3, ⟨g, y, m, d, e4, hg, hgB⟩, -⟩ := hw
          simp only [List.length_cons, List.length_nil, List.take_succ_cons, List.take_zero, List.drop_succ_cons, List.drop_zero, asg, List.cons_append, List.nil_append, e0, e1, e2, e4]
          clear e0 e1 e2 e4 e3
          obtain ⟨v', w', hr, hO', hB', hs'⟩ := run_app1V x1 w1.heap.size g 1 u5 us (.slice y m d) 25 (hO.keep hp) hg rfl (by omega) (by have := hp.size; omega)
          have hB2 : Below w1.heap.size w1 w' := (hB.trans (hp.mono hsz)).trans hB'
          have hA2 : AreB w' (us ++ [.slice y m d]) (ls ++ [l.drop f]) := (AreB.snoc hA hgB).kept hB2
          have HC := sum_all v' _ w' (by rw [← hA2.1]; unfold maxLen; simp; omega) (by unfold maxLen; intro a ha; have := HL a ha; omega) (hO'.isBB hA2)
          rw [HF] at HC
          have IB2 := IB1.kept hB2
          have HB : Hid (Below w.heap.size w w') := hw1.trans (hB2.mono hw1.size)
          clear hO hB hO' hB' hg hA hgB IB1 IB0 hA2 hB2 HL
          go_wp2_with (at_builtin; refine wpL_appV rfl _ _ rfl v' w' (by exact hr) ?_)
          refine HC.mono ?_
          rintro e w2 ⟨rfl, rfl⟩
          clear HC
          go_wp2_with fail
          refine (sum_one (.slice xb l.length cb) l _ ⟨w2.heap.size, 0, none⟩ 1 (by unfold maxLen; omega) (by go_simp) (IB2.kept (below_alloc _ _))).mono ?_
          rintro e w3 ⟨rfl, rfl⟩
          go_wp2
          go_ret
          exact ⟨rfl, HB.out.alloc HB.out.size _⟩
end Go.Proofs.Ytmdhgadmfcmecaa
