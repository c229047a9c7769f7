
import Derived.Test.YtmdhgadmfcmecaaApp
import Derived.Test.YtmdhgadmfcmecaaRelt
import Derived.WalkSpells
namespace Go.Proofs.Ytmdhgadmfcmecaa
open Go.RowKit

theorem xor8 (a b : UInt8) : bits .xor .u8 (a.toNat : Int) (b.toNat : Int) = ((a ^^^ b).toNat : Int) := by
  rw [u8_xor_nat _ _ a.toNat_lt b.toNat_lt, UInt8.toNat_xor]
/-- What three lists are xored, as far as the shortest goes. -/
def x3 (la lb lc : List UInt8) (n : Nat) : List UInt8 := List.zipWith (· ^^^ ·) (List.zipWith (· ^^^ ·) (la.take n) (lb.take n)) (lc.take n)
theorem x3_length (la lb lc : List UInt8) (n : Nat) (h1 : n ≤ la.length) (h2 : n ≤ lb.length) (h3 : n ≤ lc.length) : (x3 la lb lc n).length = n := by simp [x3]; omega
theorem x3_succ (la lb lc : List UInt8) (k : Nat) (h1 : k < la.length) (h2 : k < lb.length) (h3 : k < lc.length) : x3 la lb lc (k + 1) = x3 la lb lc k ++ [la[k]?.getD 0 ^^^ lb[k]?.getD 0 ^^^ lc[k]?.getD 0] := by
  unfold x3
  rw [List.take_succ_eq_append_getElem h1, List.take_succ_eq_append_getElem h2, List.take_succ_eq_append_getElem h3]
  rw [List.zipWith_append (by simp; omega), List.zipWith_append (by simp; omega)]
  simp [h1, h2, h3]
theorem IsB.take {w : World} {x : Option Addr} {c : Nat} {l : List UInt8} (h : IsB w (.slice x l.length c) l) (n : Nat) (hn : n ≤ l.length) : IsB w (.slice x n c) (l.take n) := by
  rcases h with ⟨h, rfl⟩ | ⟨y, d, he, hc⟩
  · simp only [Value.slice.injEq] at h
    obtain ⟨rfl, _, rfl⟩ := h
    simp at hn; subst hn
    exact .inl ⟨rfl, rfl⟩
  · simp only [Value.slice.injEq, true_and] at he
    obtain ⟨rfl, rfl⟩ := he
    refine .inr ⟨y, c, by simp; omega, fun i hi => ?_⟩
    have : i < l.length := by simp at hi; omega
    rw [hc i this]; simp
set_option linter.unusedSimpArgs false in
set_option maxRecDepth 100000 in
set_option maxHeartbeats 800000 in
theorem lawAdds_any (xa xb xc : Option Addr) (ca cb cc : Nat) (la lb lc : List UInt8) (w : World) (ha : IsB w (.slice xa la.length ca) la) (hb : IsB w (.slice xb lb.length cb) lb) (hc : IsB w (.slice xc lc.length cc) lc) (h1 : la.length ≤ 140737488351232) (_h2 : lb.length ≤ 140737488351232) (_h3 : lc.length ≤ 140737488351232) (hca : la.length ≤ ca) (hcb : lb.length ≤ cb) (hcc : lc.length ≤ cc) :
    Calls Try.prog 4 #[.slice xa la.length ca, .slice xb lb.length cb, .slice xc lc.length cc] w fun e w' => e = .returned (.bool true) ∧ Below w.heap.size w w' := by
  obtain ⟨n, hn1, hn2, hn3, hn⟩ : ∃ n : Nat, n ≤ la.length ∧ n ≤ lb.length ∧ n ≤ lc.length ∧ (n = la.length ∨ n = lb.length ∨ n = lc.length) := ⟨min la.length (min lb.length lc.length), by omega, by omega, by omega, by omega⟩
  go_enter Try.func4, Try.ntmps4
  go_upto_region 3 with (go_at_call 7; refine (known_any _).mono ?_; rintro e w1 ⟨rfl, hw1⟩)
  refine wp_plains [Fx (.slice xa la.length ca), Fx (.int .i64 (la.length : Nat)), Fx (.slice xb lb.length cb), Fx (.int .i64 (lb.length : Nat)), Fx (.slice xc lc.length cc), Fx (.int .i64 (lc.length : Nat)), Fx (.int .i64 (n : Nat)), Fx (.int .i64 (n : Nat))] (by kernel_rfl) (by kernel_rfl) ?_ ?_ ?_
  · repeat' (first | exact all_nil | apply all_cons)
    all_goals intro v y y' hv hb
    all_goals first | exact Fx_mono _ _ _ _ hv hb
  · refine ⟨?_, ?_, ?_, ?_, ?_, ?_, ?_, ?_, trivial⟩
    all_goals
      intro ρ x hp ρc ρg ρf ho hd
      have o0 : ρ (.tmp 0) = .slice xa la.length ca := ho 0 rfl
      have o1 : ρ (.tmp 1) = .slice xb lb.length cb := ho 1 rfl
      have o2 : ρ (.tmp 2) = .slice xc lc.length cc := ho 2 rfl
      clear ho
      simp only [depsR, depR, slotR, Fx, List.getElem?_cons_succ, List.getElem?_cons_zero, Region.binds, forall_const] at hd
      simp only [guardR]
      go_split_ands
    · go_simp
    · go_simp
    · go_simp
    · go_simp
    · go_simp
    · go_simp
    · go_simp
      show Value.int _ _ = Value.int _ _
      congr 1
      (repeat' split) <;> omega
    · go_simp
  · intro vs x hp hw
    simp only [owed, Fx] at hw
    obtain ⟨e0, e1, e2, e3, e4, e5, e6, e7, -⟩ := hw
    simp only [List.length_cons, List.length_nil, List.take_succ_cons, List.take_nil, List.drop_succ_cons, List.drop_nil, asg, List.cons_append, List.nil_append, e0, e1, e2, e3, e4, e5, e6, e7]
    clear e0 e1 e2 e3 e4 e5 e6 e7
    clear hn
    have hW : Below w.heap.size w x := hw1.trans (hp.mono hw1.size)
    have ha' := ha.kept hW
    have hb' := hb.kept hW
    have hc' := hc.kept hW
    clear ha hb hc hp hw1
    go_wp2_with fail
    go_loopw [8, 9] (fun v i wr => ∃ k : Nat, k ≤ n ∧ i = .int .i64 k ∧ OwnB wr x.heap.size v (x3 la lb lc k) ∧ Below x.heap.size x wr) (fun _ i _ => n - (intOf i).toNat)
    case atStart => exact ⟨0, Nat.zero_le _, rfl, by simp only [x3, List.take_zero, List.zipWith_nil_left]; exact OwnB.nil _ _, Below.refl _ _⟩
    case round =>
      obtain ⟨k, hk, rfl, hO, hB⟩ := hrel
      have hsz : x.heap.size ≤ wr.heap.size := hB.size
      have IA0 := ha'.kept hB
      have IB0 := hb'.kept hB
      have IC0 := hc'.kept hB
      by_cases hlt : k < n
      · obtain ⟨ba, oa, rfl, hba, hcA⟩ := IA0.spot k (by omega)
        obtain ⟨bb, ob, rfl, hbb, hcB⟩ := IB0.spot k (by omega)
        obtain ⟨bc, oc, rfl, hbc, hcC⟩ := IC0.spot k (by omega)
        have HS : Hid (x3 la lb lc (k + 1) = x3 la lb lc k ++ [la[k]?.getD 0 ^^^ lb[k]?.getD 0 ^^^ lc[k]?.getD 0]) := x3_succ la lb lc k (by omega) (by omega) (by omega)
        have hl3 : (x3 la lb lc k).length + 1 ≤ 140737488355328 := by rw [x3_length _ _ _ _ (by omega) (by omega) (by omega)]; omega
        generalize la[k]?.getD 0 = pa at hcA HS
        generalize lb[k]?.getD 0 = pb at hcB HS
        generalize lc[k]?.getD 0 = pc at hcC HS
        obtain ⟨p2, hp2⟩ : ∃ p2, p2 = pa ^^^ pb := ⟨_, rfl⟩
        obtain ⟨p3, hp3⟩ : ∃ p3, p3 = p2 ^^^ pc := ⟨_, rfl⟩
        have hx2 : bits .xor .u8 (pa.toNat : Int) (pb.toNat : Int) = (p2.toNat : Int) := by rw [hp2]; exact xor8 pa pb
        have hx3 : bits .xor .u8 (p2.toNat : Int) (pc.toNat : Int) = (p3.toNat : Int) := by rw [hp3]; exact xor8 p2 pc
        rw [← hp2, ← hp3] at HS
        clear ha' hb' hc' IA0 IB0 IC0 hp2 hp3
        have hk0 : (0 : Int) ≤ (k : Int) := by omega
        have hka : (k : Int) < (la.length : Int) := by omega
        have hkb : (k : Int) < (lb.length : Int) := by omega
        have hkc : (k : Int) < (lc.length : Int) := by omega
        have hkn : (k : Int) < (n : Int) := by omega
        go_upto_region 8 with fail
        refine wp_reliesT [Fx (u8), Fx (.slice (some ⟨ba, oa, none⟩) la.length ca), Fx (.int .i64 (k : Nat)), Fx (.pointer (some ⟨ba, oa + k, none⟩)), Fx (.int .u8 ((pa).toNat : Int)), Fx (.slice (some ⟨bb, ob, none⟩) lb.length cb), Fx (.int .i64 (k : Nat)), Fx (.pointer (some ⟨bb, ob + k, none⟩)), Fx (.int .u8 ((pb).toNat : Int)), Fx (.int .u8 ((p2).toNat : Int)), Fx (.slice (some ⟨bc, oc, none⟩) lc.length cc), Fx (.int .i64 (k : Nat)), Fx (.pointer (some ⟨bc, oc + k, none⟩)), Fx (.int .u8 ((pc).toNat : Int)), Fx (.int .u8 ((p3).toNat : Int)), fun v x => ∃ g, v = .slice (some ⟨g, 0, none⟩) 1 1 ∧ x.cell? ⟨g, 0, none⟩ = some (.int .u8 ((p3).toNat : Int))] (by kernel_rfl) (by kernel_rfl) ?_ ?_ ?_
        · repeat' (first | exact all_nil | apply all_cons)
          all_goals intro v y y' hv hb
          all_goals first | exact Fx_mono _ _ _ _ hv hb | (obtain ⟨g, h1, h2⟩ := hv; exact ⟨g, h1, cell_later hb h2⟩)
        · refine ⟨?_, ?_, ?_, ?_, ?_, ?_, ?_, ?_, ?_, ?_, ?_, ?_, ?_, ?_, ?_, ?_, trivial⟩
          all_goals
            intro ρ x hp ρc ρg ρf ho hd
            have o0 : ρ (.tmp 0) = .slice (some ⟨ba, oa, none⟩) la.length ca := ho 0 rfl
            have o1 : ρ (.tmp 1) = .slice (some ⟨bb, ob, none⟩) lb.length cb := ho 1 rfl
            have o2 : ρ (.tmp 2) = .slice (some ⟨bc, oc, none⟩) lc.length cc := ho 2 rfl
            have o8 : ρ (.tmp 8) = u8 := ho 8 rfl
            have o9 : ρ (.tmp 9) = .int .i64 (k : Nat) := ho 9 rfl
            clear ho
            have qa := cell_later hp hcA
            have qb := cell_later hp hcB
            have qc := cell_later hp hcC
            simp only [depsR, depR, slotR, Fx, List.getElem?_cons_succ, List.getElem?_cons_zero, Region.binds, forall_const] at hd
            simp only [guardR]
            go_split_ands
          · go_simp
          · go_simp
          · go_simp
          · go_simp
          · go_simp
          · go_simp
          · go_simp
          · go_simp
          · go_simp
          · go_simp
          · go_simp
          · go_simp
          · go_simp
          · go_simp
          · go_simp
          · go_simp
            exact below_alloc _ _
        · intro vs x_1 hp hw
          simp only [owed, Fx] at hw
          obtain ⟨e0, e1, e2, e3, e4, e5, e6, e7, e8, e9, e10, e11, e12, e13, e14, ⟨g, e15, hg⟩, -⟩ := hw
          simp only [List.length_cons, List.length_nil, List.take_succ_cons, List.take_zero, List.drop_succ_cons, List.drop_zero, asg, List.cons_append, List.nil_append, e0, e1, e2, e3, e4, e5, e6, e7, e8, e9, e10, e11, e12, e13, e14, e15]
          clear e0 e1 e2 e3 e4 e5 e6 e7 e8 e9 e10 e11 e12 e13 e14 e15
          obtain ⟨v', w', hr, hO', hB', hs'⟩ := run_app1 x_1 x.heap.size g 1 u8 (x3 la lb lc k) p3 22 (hO.keep hp) hg hl3 (by have := hp.size; omega)
          have HO : Hid (OwnB w' x.heap.size v' (x3 la lb lc (k + 1))) := by show OwnB _ _ _ _; rw [HS.out]; exact hO'
          have HB : Hid (Below x.heap.size x w') := (hB.trans (hp.mono hsz)).trans hB'
          clear hO hB hO' hB' hg hcA hcB hcC
          go_wp2_with (at_builtin; refine wpL_app rfl _ _ rfl v' w' (by exact hr) ?_)
          go_roundw
          case rel => exact ⟨k + 1, by omega, by go_num, HO.out, HB.out⟩
          case measure => simp [intOf]; omega
      · obtain rfl : n = k := by omega
        have HX0 : sumL (x3 la lb lc n) = sumL (la.take n) ^^^ sumL (lb.take n) ^^^ sumL (lc.take n) := sumL_three _ _ _ (by simp; omega) (by simp; omega)
        have IX := hO.isB
        have hlX := x3_length la lb lc n hn1 hn2 hn3
        generalize x3 la lb lc n = X at HX0 IX hlX hO
        obtain ⟨xy, cy, rfl⟩ := IX.len
        obtain ⟨S1, hS1⟩ : ∃ S, sumL (la.take n) = S := ⟨_, rfl⟩
        obtain ⟨S2, hS2⟩ : ∃ S, sumL (lb.take n) = S := ⟨_, rfl⟩
        obtain ⟨S3, hS3⟩ : ∃ S, sumL (lc.take n) = S := ⟨_, rfl⟩
        obtain ⟨S12, hS12⟩ : ∃ S, S1 ^^^ S2 = S := ⟨_, rfl⟩
        obtain ⟨SX, hSX⟩ : ∃ S, sumL X = S := ⟨_, rfl⟩
        have HS1 : Hid _ := hS1
        have HS2 : Hid _ := hS2
        have HS3 : Hid _ := hS3
        have HSX : Hid _ := hSX
        rw [hSX, hS1, hS2, hS3, hS12] at HX0
        have hx1 := xor_vec S1 S2
        have hx2 := xor_vec S12 S3
        rw [hS12] at hx1
        rw [← HX0] at hx2
        have IA := IA0.take n hn1
        have IB := IB0.take n hn2
        have IC := IC0.take n hn3
        have hWx : Below w.heap.size w wr := hW.trans (hB.mono hW.size)
        have hna : (n : Int) ≤ (ca : Int) := by omega
        have hnb : (n : Int) ≤ (cb : Int) := by omega
        have hnc : (n : Int) ≤ (cc : Int) := by omega
        clear ha' hb' hc' IA0 IB0 IC0 hO hB hS1 hS2 hS3 hS12 hSX HX0
        go_upto_region 9 with fail
        refine wp_relies [Fx (.slice xy X.length cy), fun v x => ∃ g, v = .slice (some ⟨g, 0, none⟩) 1 1 ∧ x.cell? ⟨g, 0, none⟩ = some (.slice xy X.length cy), Fx (.int .u32 (SX.toNat : Nat)), Fx (.slice xa la.length ca), Fx (.int .i64 (n : Nat)), Fx (.slice xa n ca), fun v x => ∃ g, v = .slice (some ⟨g, 0, none⟩) 1 1 ∧ x.cell? ⟨g, 0, none⟩ = some (.slice xa n ca), Fx (.int .u32 (S1.toNat : Nat)), Fx (.slice xb lb.length cb), Fx (.int .i64 (n : Nat)), Fx (.slice xb n cb), fun v x => ∃ g, v = .slice (some ⟨g, 0, none⟩) 1 1 ∧ x.cell? ⟨g, 0, none⟩ = some (.slice xb n cb), Fx (.int .u32 (S2.toNat : Nat)), Fx (.int .u32 (S12.toNat : Nat)), Fx (.slice xc lc.length cc), Fx (.int .i64 (n : Nat)), Fx (.slice xc n cc), fun v x => ∃ g, v = .slice (some ⟨g, 0, none⟩) 1 1 ∧ x.cell? ⟨g, 0, none⟩ = some (.slice xc n cc), Fx (.int .u32 (S3.toNat : Nat)), Fx (.int .u32 (SX.toNat : Nat)), Fx (.bool true), Fx (.bool true)] (by kernel_rfl) (by kernel_rfl) ?_ ?_ ?_
        · repeat' (first | exact all_nil | apply all_cons)
          all_goals intro v y y' hv hb
          all_goals first | exact Fx_mono _ _ _ _ hv hb | (obtain ⟨g, h1, h2⟩ := hv; exact ⟨g, h1, cell_later hb h2⟩)
        · refine ⟨?_, ?_, ?_, ?_, ?_, ?_, ?_, ?_, ?_, ?_, ?_, ?_, ?_, ?_, ?_, ?_, ?_, ?_, ?_, ?_, ?_, ?_, trivial⟩
          all_goals
            intro ρ x hp ρc ρg ρf ho hd
            have o0 : ρ (.tmp 0) = .slice xa la.length ca := ho 0 rfl
            have o1 : ρ (.tmp 1) = .slice xb lb.length cb := ho 1 rfl
            have o2 : ρ (.tmp 2) = .slice xc lc.length cc := ho 2 rfl
            have o7 : ρ (.tmp 7) = .int .i64 (n : Nat) := ho 7 rfl
            have o8 : ρ (.tmp 8) = .slice xy X.length cy := ho 8 rfl
            clear ho
            have iX := IX.kept hp
            have iA := IA.kept hp
            have iB := IB.kept hp
            have iC := IC.kept hp
            simp only [depsR, depR, slotR, Fx, List.getElem?_cons_succ, List.getElem?_cons_zero, Region.binds, forall_const] at hd
            simp only [guardR]
            go_split_ands
          · go_simp
          · go_simp
            exact below_alloc _ _
          · obtain ⟨g, hg, hc⟩ := ‹∃ g, ρ (.tmp 42) = _ ∧ _›
            go_simp
            have hz := sum_one (.slice xy X.length cy) (X) x ⟨g, 0, none⟩ 1 (by unfold maxLen; simp; omega) hc iX
            rw [HSX.out] at hz
            refine hz.mono ?_
            rintro e x' ⟨rfl, rfl⟩
            exact ⟨_, rfl, rfl, Below.refl _ _⟩
          · go_simp
          · go_simp
          · go_simp
          · go_simp
            exact below_alloc _ _
          · obtain ⟨g, hg, hc⟩ := ‹∃ g, ρ (.tmp 47) = _ ∧ _›
            go_simp
            have hz := sum_one (.slice xa n ca) (la.take n) x ⟨g, 0, none⟩ 1 (by unfold maxLen; simp; omega) hc iA
            rw [HS1.out] at hz
            refine hz.mono ?_
            rintro e x' ⟨rfl, rfl⟩
            exact ⟨_, rfl, rfl, Below.refl _ _⟩
          · go_simp
          · go_simp
          · go_simp
          · go_simp
            exact below_alloc _ _
          · obtain ⟨g, hg, hc⟩ := ‹∃ g, ρ (.tmp 52) = _ ∧ _›
            go_simp
            have hz := sum_one (.slice xb n cb) (lb.take n) x ⟨g, 0, none⟩ 1 (by unfold maxLen; simp; omega) hc iB
            rw [HS2.out] at hz
            refine hz.mono ?_
            rintro e x' ⟨rfl, rfl⟩
            exact ⟨_, rfl, rfl, Below.refl _ _⟩
          · go_simp
          · go_simp
          · go_simp
          · go_simp
          · go_simp
            exact below_alloc _ _
          · obtain ⟨g, hg, hc⟩ := ‹∃ g, ρ (.tmp 58) = _ ∧ _›
            go_simp
            have hz := sum_one (.slice xc n cc) (lc.take n) x ⟨g, 0, none⟩ 1 (by unfold maxLen; simp; omega) hc iC
            rw [HS3.out] at hz
            refine hz.mono ?_
            rintro e x' ⟨rfl, rfl⟩
            exact ⟨_, rfl, rfl, Below.refl _ _⟩
          · go_simp
          · go_simp
          · go_simp
        · intro vs x hp hw
          simp only [owed, Fx] at hw
          obtain ⟨e0, e1, e2, e3, e4, e5, e6, e7, e8, e9, e10, e11, e12, e13, e14, e15, e16, e17, e18, e19, e20, e21, -⟩ := hw
          simp only [List.length_cons, List.length_nil, List.take_succ_cons, List.take_nil, List.drop_succ_cons, List.drop_nil, asg, List.cons_append, List.nil_append, e0, e2, e3, e4, e5, e7, e8, e9, e10, e12, e13, e14, e15, e16, e18, e19, e20, e21]
          clear e0 e2 e3 e4 e5 e7 e8 e9 e10 e12 e13 e14 e15 e16 e18 e19 e20 e21 e1 e6 e11 e17
          go_wp2
          go_ret
          exact ⟨rfl, hWx.trans (hp.mono hWx.size)⟩
end Go.Proofs.Ytmdhgadmfcmecaa
