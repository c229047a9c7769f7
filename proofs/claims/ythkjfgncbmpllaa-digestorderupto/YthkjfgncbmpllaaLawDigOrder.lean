
import Derived.Test.YthkjfgncbmpllaaDsA
namespace Go.Proofs.Ythkjfgncbmpllaa
open Go.RowKit

theorem rev_at (ds : List Dg) (k : Nat) (h : k < ds.length) : ∃ d, ds[ds.length - 1 - k]? = some d ∧ ds.reverse.take (k + 1) = ds.reverse.take k ++ [d] := by
  have hr : k < ds.reverse.length := by simpa using h
  refine ⟨ds[ds.length - 1 - k]'(by omega), List.getElem?_eq_getElem (by omega), ?_⟩
  rw [List.take_succ_eq_append_getElem hr, List.getElem_reverse]
theorem nums_app (a b : List Dg) : nums (a ++ b) = nums a ++ nums b := by simp [nums]
theorem nums_rev_mem (ds : List Dg) (n : Nat) : n ∈ nums (ds.reverse ++ ds) ↔ n ∈ nums ds := by
  rw [nums_app, List.mem_append]
  unfold nums
  simp
theorem asc_at {l : List Nat} (h : l.Pairwise (· < ·)) (i : Nat) (x y : Nat) (hx : l[i]? = some x) (hy : l[i + 1]? = some y) : x < y := by
  obtain ⟨h1, rfl⟩ := List.getElem?_eq_some_iff.1 hx
  obtain ⟨h2, rfl⟩ := List.getElem?_eq_some_iff.1 hy
  exact List.pairwise_iff_getElem.1 h i (i + 1) h1 h2 (by omega)
set_option linter.unusedSimpArgs false in
set_option maxRecDepth 100000 in
set_option maxHeartbeats 1600000 in
theorem lawDigOrder_any (hS : SortedOk) (hC : CompareOk) (hK : KnownOk) (x : Option Addr) (c : Nat) (ds : List Dg) (w : World) (hd : IsDs w (.slice x ds.length c) ds) (hlen : ds.length ≤ 1048576) :
    Calls Try.prog 4 #[.slice x ds.length c] w fun e w' => e = .returned (.bool true) ∧ Below w.heap.size w w' := by
  go_enter Try.func4, Try.ntmps4
  go_wp2_with fail
  refine (hS x c ds w hd (by omega)).mono ?_
  rintro e w1 ⟨va, ra, rfl, hOa, hSa, hw1⟩
  obtain ⟨xa, ca, rfl⟩ := hOa.isDs.len
  have hIa := hOa.isDs
  have hd1 := hd.kept hw1
  have hral : ra.length ≤ ds.length := by
    have h9 := asc_len _ _ hSa.1 (fun n hn => (hSa.2 n).1 hn)
    rwa [nums_len, nums_len] at h9
  clear hOa hd
  go_wp2_with fail
  go_loopw [4, 12] (fun v i wr => ∃ k : Nat, k ≤ ds.length ∧ i = .int .i64 k ∧ OwnDs wr w1.heap.size v (ds.reverse.take k) ∧ (k = 0 → v = .slice none 0 0) ∧ Below w1.heap.size w1 wr) (fun _ i _ => ds.length - (intOf i).toNat)
  case atStart => exact ⟨0, Nat.zero_le _, rfl, OwnDs.nil _ _, fun _ => rfl, Below.refl _ _⟩
  case round =>
    obtain ⟨k, hk, rfl, hO, hnone, hB⟩ := hrel
    by_cases hlt : k < ds.length
    · obtain ⟨d, hkd, htk⟩ := rev_at ds k hlt
      obtain ⟨bl, ol, rfl, hbl, ok1, rg1⟩ := (hd1.kept hB).at _ d hkd
      obtain ⟨q, hq⟩ : ∃ q, ds.length - 1 - k = q := ⟨_, rfl⟩
      rw [hq] at ok1 rg1
      have n1 : IntKind.i64.wrap ((ds.length : Int) - 1) = (ds.length : Int) - 1 := by rw [IntKind.wrap_i64]; omega
      have n2 : IntKind.i64.wrap ((ds.length : Int) - 1 - (k : Int)) = (q : Int) := by rw [IntKind.wrap_i64]; omega
      have n2' : (ds.length : Int) - 1 - (k : Int) = (q : Int) := by omega
      have q0 : (0 : Int) ≤ (q : Int) := by omega
      have q1 : (q : Int) < (ds.length : Int) := by omega
      have hk0 : (0 : Int) ≤ (k : Int) := by omega
      have hk1 : (k : Int) < (ds.length : Int) := by omega
      have hsz := hB.size
      obtain ⟨v', w', hr, hO', -, hB', -⟩ := run_app1D (wr.alloc (.cells (dg_secA d) 23)) w1.heap.size wr.heap.size u4 (ds.reverse.take k) d 31 (hO.keep (below_alloc _ _)) (fun j u hu => by rw [Nat.zero_add, World.cell?_alloc_at _ _ _ _ rfl]; rw [Array.getElem?_toList] at hu; exact hu) (by simp; omega) (by simp; omega)
      rw [← htk] at hO'
      have HO : Hid _ := hO'
      have HB : Hid (Below w1.heap.size w1 w') := (hB.alloc hsz _).trans hB'
      clear hO hB hO' hB' htk hkd hq hnone
      go_wp2_with (at_builtin; refine wpL_appD rfl _ _ rfl v' w' (by exact hr) ?_)
      go_roundw
      case rel => first | exact ⟨k + 1, by omega, by go_num, HO.out, fun h => absurd h (by omega), HB.out⟩ | ((repeat apply Exists.intro); refine ⟨⟨k + 1, by omega, ?_, HO.out, fun h => absurd h (by omega), HB.out⟩, rfl⟩; go_num)
      case measure => simp [intOf]; omega
    · obtain rfl : k = ds.length := by omega
      have hrev : ds.reverse.take ds.length = ds.reverse := List.take_of_length_le (by simp)
      rw [hrev] at hO
      have hd2 := hd1.kept hB
      obtain ⟨v2, w2, hr2, hO2, hB2⟩ : ∃ v2 w2, (Builtin.append_ #[31, 31] 31 #[u4, .slice x ds.length c]).run Try.prog wr = .ok v2 w2 ∧ OwnDs w2 w1.heap.size v2 (ds.reverse ++ ds) ∧ Below w1.heap.size wr w2 := by
        by_cases h0 : ds = []
        · subst h0
          rw [hnone rfl]
          exact ⟨_, _, run_app_nilD wr x c _, OwnDs.nil _ _, Below.refl _ _⟩
        · obtain ⟨v2, w2, h1, h2, -, h3⟩ := run_app_moreD wr w1.heap.size u4 ds.reverse x c ds 31 hO hd2 h0 (by simp; omega) hB.size
          exact ⟨v2, w2, h1, h2, h3⟩
      obtain ⟨x2, c2, rfl⟩ := hO2.isDs.len
      have hB2w : Below w1.heap.size w1 w2 := hB.trans hB2
      have hSb := hS x2 c2 (ds.reverse ++ ds) w2 hO2.isDs (by simp; omega)
      obtain ⟨n9, hn9⟩ : ∃ n, (ds.reverse ++ ds).length = n := ⟨_, rfl⟩
      rw [hn9] at hSb hr2
      have hIa2 := hIa.kept hB2w
      have hd3 := hd1.kept hB2w
      clear hO hB hB2 hO2 hd2 hrev hnone hn9
      go_wp2_with (at_builtin; refine wpL_appD rfl _ _ rfl _ w2 (by exact hr2) ?_)
      refine hSb.mono ?_
      rintro e w3 ⟨vb, rb, rfl, hOb, hSrb, hw3⟩
      obtain ⟨xb, cb, rfl⟩ := hOb.isDs.len
      have hIb := hOb.isDs
      have hsame1 : decide (nums ra = nums rb) = true := by
        rw [decide_eq_true_iff]
        exact hSa.unique hSrb fun n => (nums_rev_mem ds n).symm
      replace hIa2 := hIa2.kept hw3
      replace hd3 := hd3.kept hw3
      replace hB2w := hB2w.trans (hw3.mono hB2w.size)
      clear hSb hOb hSrb hw3 hr2
      go_wp2_with fail
      refine (hK _).mono ?_
      rintro e w4 ⟨rfl, hw4⟩
      replace hIa2 := hIa2.kept hw4
      replace hIb := hIb.kept hw4
      replace hd3 := hd3.kept hw4
      replace hB2w := hB2w.trans (hw4.mono hB2w.size)
      clear hw4
      have hss := same_any xa xb ca cb ra rb w4 hIa2 hIb (by omega)
      rw [hsame1] at hss
      go_wp2_with fail
      refine hss.mono ?_
      rintro e w5 ⟨rfl, hw5⟩
      replace hIa2 := hIa2.kept hw5
      replace hd3 := hd3.kept hw5
      replace hB2w := hB2w.trans (hw5.mono hB2w.size)
      clear hw5 hss hIb hsame1
      have hSc := hS xa ca ra w5 hIa2 (by omega)
      go_wp2_with fail
      refine hSc.mono ?_
      rintro e w6 ⟨vc, rc, rfl, hOc, hSrc, hw6⟩
      obtain ⟨xc, cc, rfl⟩ := hOc.isDs.len
      have hIc := hOc.isDs
      have hsame2 : decide (nums rc = nums ra) = true := by
        rw [decide_eq_true_iff]
        exact asc_unique _ _ hSrc.1 hSa.1 hSrc.2
      have hrcl : rc.length ≤ 1048576 := by
        have h9 := congrArg List.length (of_decide_eq_true hsame2)
        rw [nums_len, nums_len] at h9
        omega
      replace hIa2 := hIa2.kept hw6
      replace hd3 := hd3.kept hw6
      replace hB2w := hB2w.trans (hw6.mono hB2w.size)
      clear hw6 hSc hOc hSrc
      have hss := same_any xc xa cc ca rc ra w6 hIc hIa2 (by omega)
      rw [hsame2] at hss
      go_wp2_with fail
      refine hss.mono ?_
      rintro e w7 ⟨rfl, hw7⟩
      replace hIa2 := hIa2.kept hw7
      replace hd3 := hd3.kept hw7
      replace hB2w := hB2w.trans (hw7.mono hB2w.size)
      clear hw7 hss hIc hsame2
      go_wp2_with fail
      go_loopw [7] (fun i w8 => ∃ k : Nat, 1 ≤ k ∧ i = .int .i64 k ∧ k ≤ ra.length + 1 ∧ Below w7.heap.size w7 w8) (fun i _ => ra.length + 1 - (intOf i).toNat)
      case atStart => exact ⟨1, by omega, rfl, by omega, Below.refl _ _⟩
      case round =>
        obtain ⟨k, hk1, rfl, hkl, hB8⟩ := hrel
        by_cases hlt2 : k < ra.length
        · obtain ⟨m, hm⟩ : ∃ m, k = m + 1 := ⟨k - 1, by omega⟩
          obtain ⟨da, hda⟩ : ∃ d, ra[m]? = some d := ⟨ra[m]'(by omega), List.getElem?_eq_getElem (by omega)⟩
          obtain ⟨db, hdb⟩ : ∃ d, ra[k]? = some d := ⟨ra[k], List.getElem?_eq_getElem hlt2⟩
          have hcmp : dcmp da db = -1 := by
            have h9 := asc_at hSa.1 m (dN da) (dN db) (nums_get ra m da hda) (by rw [← hm]; exact nums_get ra k db hdb)
            rw [dcmp_num, if_pos h9]
          obtain ⟨b1, o1, rfl, hb1, ok1, rg1⟩ := (hIa2.kept hB8).at m da hda
          obtain ⟨_, _, hx2, hb2, ok2, rg2⟩ := (hIa2.kept hB8).at k db hdb
          simp only [Option.some.injEq, Addr.mk.injEq, and_true] at hx2
          obtain ⟨rfl, rfl⟩ := hx2
          have hCab := hC da db
          rw [hcmp] at hCab
          have n1 : IntKind.i64.wrap ((k : Int) - 1) = (m : Int) := by rw [IntKind.wrap_i64]; omega
          have k0 : (0 : Int) ≤ (k : Int) := by omega
          have k1 : (k : Int) < (ra.length : Int) := by omega
          have m0 : (0 : Int) ≤ (m : Int) := by omega
          have m1 : (m : Int) < (ra.length : Int) := by omega
          clear hcmp hda hdb hm
          go_upto_region 14 with fail
          refine wp_relies [Fx (.slice (some ⟨b1, o1, none⟩) ra.length ca), Fx (.int .i64 (k : Nat)), Fx (.int .i64 (m : Nat)), Fx (.pointer (some ⟨b1, o1 + m * 32, none⟩)), Fx (.agg (dg_secA da)), Fx (.slice (some ⟨b1, o1, none⟩) ra.length ca), Fx (.int .i64 (k : Nat)), Fx (.pointer (some ⟨b1, o1 + k * 32, none⟩)), Fx (.agg (dg_secA db)), Fx (.int .i64 (-1)), Fx (.bool false)] (by kernel_rfl) (by kernel_rfl) ?_ ?_ ?_
          · repeat' (first | exact all_nil | apply all_cons)
            all_goals intro v y y' hv hb
            all_goals first | exact Fx_mono _ _ _ _ hv hb
          · refine ⟨?_, ?_, ?_, ?_, ?_, ?_, ?_, ?_, ?_, ?_, ?_, trivial⟩
            all_goals
              intro ρ x hp ρc ρg ρf ho hd
              have o3 : ρ (.tmp 3) = .slice (some ⟨b1, o1, none⟩) ra.length ca := ho 3 rfl
              have o7 : ρ (.tmp 7) = .int .i64 (k : Nat) := ho 7 rfl
              clear ho
              have g1 := rng_later hp hb1 (o1 + m * 32)
              have g2 := rng_later hp hb1 (o1 + k * 32)
              have k1' := g1.1.trans ok1
              have k2' := g1.2.trans rg1
              have k3' := g2.1.trans ok2
              have k4' := g2.2.trans rg2
              clear g1 g2
              simp only [depsR, depR, slotR, Fx, List.getElem?_cons_succ, List.getElem?_cons_zero, Region.binds, forall_const] at hd
              simp only [guardR]
              go_split_ands
            · go_simp
            · go_simp
            · go_simp
            · go_simp
            · go_simp
            · go_simp
            · go_simp
            · go_simp
            · go_simp
            · go_simp
              refine (hCab x).mono ?_
              rintro e x' ⟨rfl, hb⟩
              exact ⟨_, rfl, rfl, hb⟩
            · go_simp
          · intro vs x1 hp hw
            simp only [owed, Fx] at hw
            obtain ⟨e0, e1, e2, e3, e4, e5, e6, e7, e8, e9, e10, -⟩ := hw
            simp only [List.length_cons, List.length_nil, List.take_succ_cons, List.take_nil, List.drop_succ_cons, List.drop_nil, asg, List.cons_append, List.nil_append, e0, e1, e2, e3, e4, e5, e6, e7, e8, e9, e10]
            clear e0 e1 e2 e3 e4 e5 e6 e7 e8 e9 e10
            have HB : Hid _ := hB8.trans (hp.mono hB8.size)
            clear hB8 hp ok1 rg1 ok2 rg2
            go_wp2
            go_roundw
            case rel => first | exact ⟨k + 1, by omega, by go_num, by omega, HB.out⟩ | ((repeat apply Exists.intro); refine ⟨⟨k + 1, by omega, ?_, by omega, HB.out⟩, rfl⟩; go_num)
            case measure => simp [intOf]; omega
        · have kge : ¬ (k : Int) < (ra.length : Int) := by omega
          replace hIa2 := hIa2.kept hB8
          replace hd3 := hd3.kept hB8
          replace hB2w := hB2w.trans (hB8.mono hB2w.size)
          have hw1' := lwithin_any x xa c ca ds ra wr hd3 hIa2 (by omega) (by omega)
          rw [show decide (∀ n ∈ nums ds, n ∈ nums ra) = true by rw [decide_eq_true_iff]; exact fun n hn => (hSa.2 n).2 hn] at hw1'
          clear hB8
          go_wp2_with fail
          refine hw1'.mono ?_
          rintro e w9 ⟨rfl, hw9⟩
          replace hIa2 := hIa2.kept hw9
          replace hd3 := hd3.kept hw9
          replace hB2w := hB2w.trans (hw9.mono hB2w.size)
          have hw2' := lwithin_any xa x ca c ra ds w9 hIa2 hd3 (by omega) (by omega)
          rw [show decide (∀ n ∈ nums ra, n ∈ nums ds) = true by rw [decide_eq_true_iff]; exact fun n hn => (hSa.2 n).1 hn] at hw2'
          clear hw9 hw1'
          go_wp2_with fail
          refine hw2'.mono ?_
          rintro e w10 ⟨rfl, hw10⟩
          have HB : Hid _ := hB2w.trans (hw10.mono hB2w.size)
          clear hw10 hw2' hB2w
          go_wp2
          go_ret
          exact ⟨rfl, hw1.trans (HB.out.mono hw1.size)⟩
end Go.Proofs.Ythkjfgncbmpllaa
