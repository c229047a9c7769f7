
import Derived.Test.YtmbkkdojjfdliaaStb2
namespace Go.Proofs.Ytmbkkdojjfdliaa
open Go.RowKit

/-! slices.Reverse; rotate -/
set_option linter.unusedSimpArgs false in
theorem reverse0 (w : World) (x : Option Addr) (c : Nat) : Calls Try.prog 21 #[.slice x 0 c] w fun e w' => (∃ u, e = .returned u) ∧ Below w.heap.size w w' := by
  go_enter Try.func21, Try.ntmps21
  go_wp2_with fail
  go_loopw [2, 3] (fun iv jv wr => iv = .int .i64 0 ∧ jv = .int .i64 (-1) ∧ Below w.heap.size w wr) (fun _ _ _ => 0)
  case atStart => exact ⟨rfl, by simp, Below.refl _ _⟩
  case round =>
    obtain ⟨rfl, rfl, hB⟩ := hrel
    go_wp2
    go_end0
    exact ⟨⟨_, rfl⟩, hB⟩
theorem rev_step (A M' C : List Wr) (x y : Wr) (i j : Nat) (_ : A.length = i) (hC : C.length = i) (hM : i + 1 + M'.length = j) : swW (C.reverse ++ (x :: (M' ++ [y]) ++ A.reverse)) i j = (y :: C).reverse ++ (M' ++ (A ++ [x]).reverse) := by
  have h := swW_mid C.reverse M' A.reverse x y i j (by simp [hC]) hM
  have a1 : C.reverse ++ (x :: (M' ++ [y]) ++ A.reverse) = C.reverse ++ x :: (M' ++ y :: A.reverse) := by simp
  rw [a1, h]
  simp
set_option linter.unusedSimpArgs false in
set_option maxHeartbeats 4000000 in
set_option maxRecDepth 100000 in
theorem reverse26 (w : World) (B g n c : Nat) (l : List Wr) (h : OwnK wrE w B (.slice (some ⟨g, 0, none⟩) n c) l) (hn : n ≤ 140737488355328) :
    Calls Try.prog 21 #[.slice (some ⟨g, 0, none⟩) n c] w fun e w' => (∃ u, e = .returned u) ∧ OwnK wrE w' B (.slice (some ⟨g, 0, none⟩) n c) l.reverse ∧ Keep [g] w w' := by
  have hlen := own_len h
  have HL : Hid (l.length = n) := hlen
  clear hlen
  have wn : IntKind.i64.wrap ((n : Int) - 1) = (n : Int) - 1 := by rw [IntKind.wrap_i64]; omega
  go_enter Try.func21, Try.ntmps21
  go_wp2_with fail
  clear wn
  go_loopw [2, 3] (fun iv jv wr => ∃ (i : Nat) (jz : Int) (A M C : List Wr), iv = .int .i64 (i : Int) ∧ jv = .int .i64 jz ∧ jz = (n : Int) - 1 - (i : Int) ∧ l = A ++ (M ++ C) ∧ A.length = i ∧ C.length = i ∧ OwnK wrE wr B (.slice (some ⟨g, 0, none⟩) n c) (C.reverse ++ (M ++ A.reverse)) ∧ Keep [g] w wr) (fun iv _ _ => n - (intOf iv).toNat)
  case atStart => exact ⟨0, (n : Int) - 1, [], l, [], rfl, rfl, by omega, by simp, rfl, rfl, by simpa using h, Keep.refl _ _⟩
  case round =>
    clear h
    obtain ⟨i, jz, A, M, C, rfl, rfl, hjz, hl, hA, hC, hO, hK⟩ := hrel
    have hlen : A.length + (M.length + C.length) = n := by have := HL.out; rw [hl] at this; simpa using this
    by_cases hM : 2 ≤ M.length
    · obtain ⟨x, M1, rfl⟩ : ∃ x M1, M = x :: M1 := by cases M with | nil => simp at hM | cons x r => exact ⟨x, r, rfl⟩
      obtain ⟨M', y, rfl⟩ : ∃ M' y, M1 = M' ++ [y] := ⟨M1.dropLast, M1.getLast (by intro q; subst q; simp at hM), (List.dropLast_concat_getLast _).symm⟩
      simp only [List.length_cons, List.length_append, List.length_nil] at hlen
      obtain ⟨j, hj9⟩ : ∃ j, i + 1 + M'.length = j := ⟨_, rfl⟩
      obtain rfl : jz = (j : Int) := by omega
      have hi : i < n := by omega
      have hj : j < n := by omega
      have hi1 : (i : Int) < (n : Int) := by omega
      have hj1 : (j : Int) < (n : Int) := by omega
      have hi0 : (0 : Int) ≤ (i : Int) := by omega
      have hj0 : (0 : Int) ≤ (j : Int) := by omega
      have hij : (i : Int) < (j : Int) := by omega
      have HS : Hid _ := rev_step A M' C x y i j hA hC hj9
      have HE : Hid (l = (A ++ [x]) ++ (M' ++ (y :: C)) ∧ (A ++ [x]).length = i + 1 ∧ (y :: C).length = i + 1) := ⟨by rw [hl]; simp, by simp [hA], by simp [hC]⟩
      have HJ : Hid ((j : Int) - 1 = (n : Int) - 1 - ((i + 1 : Nat) : Int)) := by show _ = _; omega
      have HI : Hid (i + 1 ≤ n) := hi
      have wj : IntKind.i64.wrap ((j : Int) - 1) = (j : Int) - 1 := by rw [IntKind.wrap_i64]; omega
      have wi := wAdd1 i (i + 1) rfl (by omega)
      obtain ⟨L, hL⟩ : ∃ L, C.reverse ++ (x :: (M' ++ [y]) ++ A.reverse) = L := ⟨_, rfl⟩
      rw [hL] at hO HS
      clear hL hjz hl hA hC hlen hM hj9
      go_upto_region 3 with fail
      refine wp_reliesI (kokW (G := [g])) (SwJ B g n c L i j) [13] [none, none, none, none, none, none, none, some (0, [], []), none, none, none, some (0, [], []), none, some (0, [], []), none] [Fx (.slice (some ⟨g, 0, none⟩) n c), Fx (.int .i64 ((i : Nat) : Int)), Fx (.slice (some ⟨g, 0, none⟩) n c), Fx (.int .i64 ((j : Nat) : Int)), Fx (.slice (some ⟨g, 0, none⟩) n c), Fx (.int .i64 ((j : Nat) : Int)), Fx (.pointer (some ⟨g, j * 65, none⟩)), Fx (.agg (wrA (gw L j))), Fx (.slice (some ⟨g, 0, none⟩) n c), Fx (.int .i64 ((i : Nat) : Int)), Fx (.pointer (some ⟨g, i * 65, none⟩)), Fx (.agg (wrA (gw L i))), Fx (.pointer (some ⟨g, i * 65, none⟩)), fun _ _ => True, Fx (.pointer (some ⟨g, j * 65, none⟩))] rfl (by decide) rfl (by kernel_rfl) (by kernel_rfl) (by kernel_rfl) hO (SwJ_later B g n c L i j) ?_ ?_ ?_ ?_
      · repeat' (first | exact all_nil | apply all_cons)
        all_goals intro v y y' hv hb
        all_goals first | exact Fx_mono _ _ _ _ hv hb | exact trivial
      · intro i9 f9 hf9 hl9 v y y' hv hb
        rcases i9 with _ | i9
        · first | (cases hl9; done) | (cases hf9; first | exact hv | exact trivial)
        rcases i9 with _ | i9
        · first | (cases hl9; done) | (cases hf9; first | exact hv | exact trivial)
        rcases i9 with _ | i9
        · first | (cases hl9; done) | (cases hf9; first | exact hv | exact trivial)
        rcases i9 with _ | i9
        · first | (cases hl9; done) | (cases hf9; first | exact hv | exact trivial)
        rcases i9 with _ | i9
        · first | (cases hl9; done) | (cases hf9; first | exact hv | exact trivial)
        rcases i9 with _ | i9
        · first | (cases hl9; done) | (cases hf9; first | exact hv | exact trivial)
        rcases i9 with _ | i9
        · first | (cases hl9; done) | (cases hf9; first | exact hv | exact trivial)
        rcases i9 with _ | i9
        · first | (cases hl9; done) | (cases hf9; first | exact hv | exact trivial)
        rcases i9 with _ | i9
        · first | (cases hl9; done) | (cases hf9; first | exact hv | exact trivial)
        rcases i9 with _ | i9
        · first | (cases hl9; done) | (cases hf9; first | exact hv | exact trivial)
        rcases i9 with _ | i9
        · first | (cases hl9; done) | (cases hf9; first | exact hv | exact trivial)
        rcases i9 with _ | i9
        · first | (cases hl9; done) | (cases hf9; first | exact hv | exact trivial)
        rcases i9 with _ | i9
        · first | (cases hl9; done) | (cases hf9; first | exact hv | exact trivial)
        rcases i9 with _ | i9
        · first | (cases hl9; done) | (cases hf9; first | exact hv | exact trivial)
        rcases i9 with _ | i9
        · first | (cases hl9; done) | (cases hf9; first | exact hv | exact trivial)
        · simp at hf9
      · refine ⟨?_, ?_, ?_, ?_, ?_, ?_, ?_, ?_, ?_, ?_, ?_, ?_, ?_, ?_, ?_, trivial⟩
        all_goals
          intro ρ x hk hat ρc ρg ρf ho hd
          have o0 : ρ (.tmp 0) = .slice (some ⟨g, 0, none⟩) n c := ho 0 rfl
          have o2 : ρ (.tmp 2) = .int .i64 ((i : Nat) : Int) := ho 2 rfl
          have o3 : ρ (.tmp 3) = .int .i64 ((j : Nat) : Int) := ho 3 rfl
          clear ho
          simp only [depsR, depR, slotR, Fx, List.getElem?_cons_succ, List.getElem?_cons_zero, Region.binds, forall_const] at hd
          simp only [guardR, List.contains_cons, List.contains_nil, List.elem_cons, List.elem_nil, Nat.reduceBEq, Bool.or_false, Bool.false_or, Bool.or_true, Bool.true_or, cond_true, cond_false]
          go_split_ands
        · go_simp
        · go_simp
        · go_simp
        · go_simp
        · go_simp
        · go_simp
        · go_simp
        · have hh := own_rg hat j hj
          go_simp
        · go_simp
        · go_simp
        · go_simp
        · have hh := own_rg hat i hi
          go_simp
        · go_simp
        · have hr := own_st hat i hi (gw L j)
          go_simp
          exact ⟨⟨trivial, own_put hat i hi _⟩, keep_st x g (i * 65) _⟩
        · go_simp
      · intro vs x1 hk hw hI
        simp only [owed, Fx] at hw
        obtain ⟨e0, e1, e2, e3, e4, e5, e6, e7, e8, e9, e10, e11, e12, e13, e14, -⟩ := hw
        simp only [List.length_cons, List.length_nil, List.take_succ_cons, List.take_zero, List.drop_succ_cons, List.drop_zero, asg, List.cons_append, List.nil_append, e0, e1, e2, e3, e4, e5, e6, e7, e8, e9, e10, e11, e12, e14]
        clear e0 e1 e2 e3 e4 e5 e6 e7 e8 e9 e10 e11 e12 e14 e13
        have hI' : OwnK wrE x1 B (.slice (some ⟨g, 0, none⟩) n c) (L.set i (gw L j)) := hI
        have hr := own_st hI' j hj (gw L i)
        have hfin : OwnK wrE _ B (.slice (some ⟨g, 0, none⟩) n c) (swW L i j) := own_put hI' j hj (gw L i)
        have hK2 : Keep [g] wr _ := hk.trans (keep_st x1 g (j * 65) (wrE.enc (gw L i)))
        rw [HS.out] at hfin
        have HO : Hid _ := hfin
        have HK : Hid (Keep [g] w _) := hK.trans hK2
        clear hfin hK2 hI' hI hk hO hK
        go_wp2
        go_roundw
        case rel => exact ⟨i + 1, _, A ++ [x], M', y :: C, by go_num, rfl, HJ.out, HE.out.1, HE.out.2.1, HE.out.2.2, HO.out, HK.out⟩
        case measure => have := HI.out; simp [intOf]; omega
    · have hij : ¬ (i : Int) < jz := by omega
      have e : C.reverse ++ (M ++ A.reverse) = l.reverse := by
        rw [hl]
        rcases M with _ | ⟨x, _ | ⟨y, r⟩⟩
        · simp
        · simp
        · exact absurd (by simp) hM
      rw [e] at hO
      have HO : Hid _ := hO
      clear hO e hjz hl hA hC hlen hM
      go_wp2
      go_end0
      exact ⟨⟨_, rfl⟩, HO.out, hK⟩
set_option linter.unusedSimpArgs false in
set_option maxHeartbeats 4000000 in
theorem rotate26 (w : World) (B g n c a m b : Nat) (P X Y S : List Wr) (cv : Value) (h : OwnK wrE w B (.slice (some ⟨g, 0, none⟩) n c) (P ++ (X ++ (Y ++ S)))) (ha : P.length = a) (hX : a + X.length = m) (hY : m + Y.length = b) (hX0 : 0 < X.length) (hY0 : 0 < Y.length) (hn : n ≤ 140737488355328) :
    Calls Try.prog 32 #[.slice (some ⟨g, 0, none⟩) n c, .int .i64 (a : Int), .int .i64 (m : Int), .int .i64 (b : Int), cv] w fun e w' => (∃ u, e = .returned u) ∧ OwnK wrE w' B (.slice (some ⟨g, 0, none⟩) n c) (P ++ (Y ++ (X ++ S))) ∧ Keep [g] w w' := by
  have hlen := own_len h
  simp only [List.length_append] at hlen
  have hmn : b ≤ n ∧ m ≤ n := by omega
  obtain ⟨T, hT⟩ : ∃ T, P ++ (Y ++ (X ++ S)) = T := ⟨_, rfl⟩
  have HS : Hid (P ++ (Y ++ (X ++ S)) = T ∧ P.length + X.length = m ∧ 0 < X.length ∧ 0 < Y.length) := ⟨hT, by omega, hX0, hY0⟩
  have w1 := wSub m a X.length (by omega) (by omega)
  have w2 := wSub b m Y.length (by omega) (by omega)
  rw [hT]
  clear hlen hT hX0 hY0
  clear hX hY ha
  go_enter Try.func32, Try.ntmps32
  go_wp2_with fail
  clear w1 w2
  go_loopw [10, 11] (fun iv jv wr => ∃ (P X Y S : List Wr), iv = .int .i64 (X.length : Int) ∧ jv = .int .i64 (Y.length : Int) ∧ P ++ (Y ++ (X ++ S)) = T ∧ P.length + X.length = m ∧ 0 < X.length ∧ 0 < Y.length ∧ OwnK wrE wr B (.slice (some ⟨g, 0, none⟩) n c) (P ++ (X ++ (Y ++ S))) ∧ Keep [g] w wr) (fun iv jv _ => (intOf iv).toNat + (intOf jv).toNat)
  case atStart => exact ⟨P, X, Y, S, rfl, rfl, HS.out.1, HS.out.2.1, HS.out.2.2.1, HS.out.2.2.2, h, Keep.refl _ _⟩
  case round =>
    clear h HS
    obtain ⟨P, X, Y, S, rfl, rfl, hT, hPX, hX0, hY0, hO, hK⟩ := hrel
    have hlen := own_len hO
    simp only [List.length_append] at hlen
    obtain ⟨i, hi⟩ : ∃ i, X.length = i := ⟨_, rfl⟩
    obtain ⟨j, hj⟩ : ∃ j, Y.length = j := ⟨_, rfl⟩
    obtain ⟨p, hp⟩ : ∃ p, P.length = p := ⟨_, rfl⟩
    have wmi := wSub m i p (by omega) (by omega)
    by_cases hij : i = j
    · have hne : ¬ (i : Int) ≠ (j : Int) := by omega
      have hS := swapRange26 wr B g n c p m i P X [] Y S cv (by simpa using hO) hp hi (by omega) (by simp; omega) hn
      have HT : Hid (P ++ (Y ++ ([] ++ (X ++ S))) = T) := by show _ = _; rw [← hT]; simp
      have HK : Hid _ := hK
      rw [hi, hj]
      subst hij
      clear hne hT hPX hX0 hY0 hO hK hlen hi hj hp
      go_wp2_with fail
      refine hS.mono ?_
      rintro e w2 ⟨⟨u, rfl⟩, hO2, hK2⟩
      clear hS
      rw [HT.out] at hO2
      have HO : Hid _ := hO2
      have HK2 : Hid (Keep [g] w w2) := HK.out.trans hK2
      clear hO2 hK2
      go_wp2
      go_end0
      exact ⟨⟨_, rfl⟩, HO.out, HK2.out⟩
    · have hne : (i : Int) ≠ (j : Int) := by omega
      by_cases hgt : j < i
      · have hg : (i : Int) > (j : Int) := by omega
        obtain ⟨X1, X2, rfl, hX1⟩ := split_at X j (by omega)
        simp only [List.length_append] at hi hPX hX0 hlen
        have hS := swapRange26 wr B g n c p m j P X1 X2 Y S cv (by simpa using hO) hp hX1 hj (by omega) hn
        obtain ⟨d, hd⟩ : ∃ d, X2.length = d := ⟨_, rfl⟩
        have wij := wSub i j d (by omega) (by omega)
        have HT : Hid ((P ++ Y) ++ (X1 ++ (X2 ++ S)) = T ∧ (P ++ Y).length + X2.length = m ∧ 0 < X2.length ∧ 0 < X1.length ∧ X1.length = j ∧ X2.length = d ∧ d < i) := ⟨by rw [← hT]; simp, by simp; omega, by omega, by omega, hX1, hd, by omega⟩
        have HK : Hid _ := hK
        rw [List.length_append, hi, hj]
        clear hT hPX hX0 hY0 hO hK hlen hi hj hp hX1 hd hij hgt
        go_wp2_with fail
        refine hS.mono ?_
        rintro e w2 ⟨⟨u, rfl⟩, hO2, hK2⟩
        clear hS
        have HO : Hid (OwnK wrE w2 B (.slice (some ⟨g, 0, none⟩) n c) ((P ++ Y) ++ (X2 ++ (X1 ++ S)))) := by show OwnK _ _ _ _ _; simpa using hO2
        have HK2 : Hid (Keep [g] w w2) := HK.out.trans hK2
        clear hO2 hK2
        go_wp2
        go_roundw
        case rel =>
          obtain ⟨q1, q2, q3, q4, q5, q6, q7⟩ := HT.out
          exact ⟨P ++ Y, X2, X1, S, by rw [q6], by rw [q5], q1, q2, q3, q4, HO.out, HK2.out⟩
        case measure => have := HT.out.2.2.2.2.2.2; simp [intOf]; omega
      · have hg : ¬ (i : Int) > (j : Int) := by omega
        obtain ⟨d, hd⟩ : ∃ d, j - i = d := ⟨_, rfl⟩
        obtain ⟨Y1, Y2, rfl, hY1⟩ := split_at Y d (by omega)
        simp only [List.length_append] at hj hY0 hlen
        obtain ⟨r, hr⟩ : ∃ r, m + j = r := ⟨_, rfl⟩
        obtain ⟨t, ht⟩ : ∃ t, m + d = t := ⟨_, rfl⟩
        have wmj := wAdd m j r hr (by omega)
        have wrt := wSub r i t (by omega) (by omega)
        have wji := wSub j i d (by omega) (by omega)
        have hS := swapRange26 wr B g n c p t i P X Y1 Y2 S cv (by simpa using hO) hp hi (by omega) (by omega) hn
        have HT : Hid (P ++ (Y1 ++ (Y2 ++ (X ++ S))) = T ∧ P.length + Y2.length = m ∧ 0 < Y2.length ∧ 0 < Y1.length ∧ Y2.length = i ∧ Y1.length = d ∧ d < j) := ⟨by rw [← hT]; simp, by omega, by omega, by omega, by omega, hY1, by omega⟩
        have HK : Hid _ := hK
        rw [List.length_append, hi, hj]
        clear hT hPX hX0 hY0 hO hK hlen hi hj hp hY1 hd hij hgt hr ht
        go_wp2_with fail
        refine hS.mono ?_
        rintro e w2 ⟨⟨u, rfl⟩, hO2, hK2⟩
        clear hS
        have HO : Hid (OwnK wrE w2 B (.slice (some ⟨g, 0, none⟩) n c) (P ++ (Y2 ++ (Y1 ++ (X ++ S))))) := by show OwnK _ _ _ _ _; simpa using hO2
        have HK2 : Hid (Keep [g] w w2) := HK.out.trans hK2
        clear hO2 hK2
        go_wp2
        go_roundw
        case rel =>
          obtain ⟨q1, q2, q3, q4, q5, q6, q7⟩ := HT.out
          exact ⟨P, Y2, Y1, X ++ S, by rw [q5], by rw [q6], q1, q2, q3, q4, HO.out, HK2.out⟩
        case measure => have := HT.out.2.2.2.2.2.2; simp [intOf]; omega
end Go.Proofs.Ytmbkkdojjfdliaa
