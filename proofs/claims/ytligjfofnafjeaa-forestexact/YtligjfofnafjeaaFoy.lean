
import Derived.Test.YtligjfofnafjeaaFox
import Derived.Test.YtligjfofnafjeaaFor6
namespace Go.Proofs.Ytligjfofnafjeaa
open Go.RowKit Go.Maps

/-! forest.keep: which rows are kept -/
def FM (F : Fr) (a b : Nat) (S : List Nat) : Nat → List Nat := fun q => if q = 2 then Fr.sel F.twice a else if q = 3 then Fr.sel F.noLa a else if q = 4 then Fr.sel F.noPa b else if q = 5 then S else []
theorem FM_len (F : Fr) (a b : Nat) (S : List Nat) (q m : Nat) (ha : a ≤ m) (hb : b ≤ m) (hS : S.length ≤ m) : (FM F a b S q).length ≤ m := by
  unfold FM
  have h1 := sel_le F.twice a
  have h2 := sel_le F.noLa a
  have h3 := sel_le F.noPa b
  split; · omega
  split; · omega
  split; · omega
  split; · omega
  simp
theorem FM_a (F : Fr) (a b : Nat) (S : List Nat) (h1 : F.twice a = false) (h2 : F.noLa a = false) : FM F (a + 1) b S = FM F a b S := by
  funext q; unfold FM; rw [sel_no h1, sel_no h2]
theorem FM_a2 (F : Fr) (a b : Nat) (S : List Nat) (h1 : F.twice a = true) (h2 : F.noLa a = false) : FM F (a + 1) b S = updL (FM F a b S) 2 (FM F a b S 2 ++ [a]) := by
  funext q; unfold FM updL
  by_cases e : q = 2
  · subst e; simp only [if_true]; exact sel_yes h1
  · simp only [if_neg e]; rw [sel_no h2]
theorem FM_a3 (F : Fr) (a b : Nat) (S : List Nat) (h1 : F.twice a = false) (h2 : F.noLa a = true) : FM F (a + 1) b S = updL (FM F a b S) 3 (FM F a b S 3 ++ [a]) := by
  funext q; unfold FM updL
  by_cases e : q = 3
  · subst e; simp only [if_true, if_neg (show ¬ 3 = 2 by omega)]; exact sel_yes h2
  · simp only [if_neg e]; rw [sel_no h1]
theorem FM_b (F : Fr) (a b : Nat) (S : List Nat) (h1 : F.noPa b = false) : FM F a (b + 1) S = FM F a b S := by
  funext q; unfold FM; rw [sel_no h1]
theorem FM_b4 (F : Fr) (a b : Nat) (S : List Nat) (h1 : F.noPa b = true) : FM F a (b + 1) S = updL (FM F a b S) 4 (FM F a b S 4 ++ [b]) := by
  funext q; unfold FM updL
  by_cases e : q = 4
  · subst e; simp only [if_true, if_neg (show ¬ 4 = 2 by omega), if_neg (show ¬ 4 = 3 by omega)]; exact sel_yes h1
  · simp only [if_neg e]
theorem FM_5 (F : Fr) (a b : Nat) (S : List Nat) (s : Nat) : updL (FM F a b S) 5 (FM F a b S 5 ++ [s]) = FM F a b (S ++ [s]) := by
  funext q; unfold FM updL
  by_cases e : q = 5
  · subst e; simp
  · simp only [if_neg e]
theorem FM_0 (F : Fr) : FM F 0 0 [] = fun _ => [] := by
  funext q; unfold FM
  split; · rfl
  split; · rfl
  split; · rfl
  split; · rfl
  rfl
theorem FM_FL (F : Fr) (n : Nat) : FM F n n (Fr.sel F.cyc n) = FL F n n := rfl
section
variable {n : Nat} {w W : World} {ro : Option (Nat × Array Value)} {V : Nat → Value} {K K' : Nat → Bool} {P P' : Nat → Nat} {L : Nat → List Nat} {X : Nat → Option Th}
theorem Fy.congr (h : Fy n w W ro V K P L X) (hK : ∀ i, i < n → K i = K' i) (hP : ∀ i, i < n → P i = P' i) : Fy n w W ro V K' P' L X := by
  have e : T21 w.heap.size n ro V K P L = T21 w.heap.size n ro V K' P' L := by
    unfold T21; rw [bF_congr hK, uF_congr hP]
  exact ⟨e ▸ h.ga, h.be⟩
end
theorem keyU : Keyed Try.prog 33 := int_keyed Try.underlying33
theorem zeroI (w : World) : (zeroValue 3).run Try.prog w = .ok (.int .i64 0) w := by kernel_rfl
theorem wfU {x : Nat} (h : x < 4294967296) : (Lit.int .u32 (x : Int)).wf = true := by
  exact WalkArith.wf_u32 (by omega)
/-- What keep leaves. -/
def KeP (F : Fr) (n g : Nat) (w : World) (e : Ending) (w' : World) : Prop := ∃ b m D V, e = .returned (.map (some b)) ∧ m ≤ n ∧ MapIs F n D ∧ Fy n w w' (some (g, foA V)) V (Kt F n) (fun _ => 0) (FM F n 0 []) (updT (fun _ => none) 7 (thM b m D))
set_option linter.unusedSimpArgs false in
set_option maxRecDepth 100000 in
set_option maxHeartbeats 4000000 in
theorem keep21 (l : List Rw) (x : Option Addr) (n c g : Nat) (w W : World) (V : Nat → Value) (hn : l.length = n) (h41 : n ≤ 4398046511104) (hs : ∀ r ∈ l, r.sn.ok) (hl : IsK rwF w (.slice x n c) l) (hF : Fy n w W (some (g, foA V)) V (fun _ => false) (fun _ => 0) (fun _ => []) (fun _ => none)) :
    Calls Try.prog 19 #[.pointer (some ⟨g, 0, none⟩), .slice x n c] W fun e w' => KeP (frO l) n g w e w' := by
  have hfn : (frO l).n = n := hn
  have hmm := @run_makeMap Try.prog
  have hF1 := hF.newM 7 (by omega)
  obtain ⟨b, hb⟩ : ∃ q, W.heap.size = q := ⟨_, rfl⟩
  go_enter Try.func19, Try.ntmps19
  go_upto_region 2 with fail
  rw [hb] at hF1
  try simp only [hb]
  generalize W.alloc (.map #[] 0) = W1 at hF1 ⊢
  clear hF hb hmm
  go_wp2_with fail
  go_loopw [13] (fun iv wr => ∃ (i m : Nat) (D : DataW Unit) (V : Nat → Value), i ≤ n ∧ iv = .int .i64 i ∧ m ≤ i ∧ MapIs (frO l) i D ∧ Fy n w wr (some (g, foA V)) V (Kt (frO l) i) (fun _ => 0) (FM (frO l) i 0 []) (updT (fun _ => none) 7 (thM b m D))) (fun iv _ => n - (intOf iv).toNat)
  case atStart =>
    have e1 : Kt (frO l) 0 = fun _ => false := by funext k; unfold Kt; rw [decide_eq_false (by omega)]; rfl
    exact ⟨0, 0, _, V, by omega, rfl, Nat.le_refl _, MapIs.start _, by rw [e1, FM_0]; exact hF1⟩
  case round =>
    clear hF1
    obtain ⟨i, m, D, V, hi, rfl, hm, hD, hF⟩ := hrel
    by_cases hlt : i < n
    · obtain ⟨r, hr⟩ : ∃ r, l[i]? = some r := ⟨_, List.getElem?_eq_getElem (by omega)⟩
      obtain ⟨gl, o, rfl, k1, k2, -, -⟩ := rwF_rg (hl.kept hF.be) i r hr
      have hok := frO_ok hr
      have hla := frO_la hr
      have hid := frO_id hr
      have hrs := hs r (List.mem_of_getElem? hr)
      unfold Sn.ok at hrs
      obtain ⟨I, hI⟩ : ∃ q : Nat, r.sn.id = (q : Int) := ⟨r.sn.id.toNat, by omega⟩
      have hI9 : I < 4294967296 := by omega
      have i0 : (i : Int) < (n : Int) := by omega
      have i1 : (0 : Int) ≤ (i : Int) := by omega
      have bC := below_alloc wr (.cells (rwA r) 45)
      have hR := RowC.new wr (rwA r) 45
      have hFa := hF.later bC
      have c0 := hR.cell 0
      have c1 := hR.cell 1
      have c2 := hR.cell 2
      rw [rwA_0] at c0
      rw [rwA_1] at c1
      rw [rwA_2, hI] at c2
      rw [hI] at hok hid
      rw [Int.toNat_natCast] at hid
      have HI : Hid (i < n) := hlt
      have HM : Hid (m ≤ i + 1) := by show _ ≤ _; omega
      have HM0 : Hid (m ≤ i) := hm
      have hYq : (wr.alloc (.cells (rwA r) 45)).heap[wr.heap.size]? = some (.cells (rwA r) 45 (0, 0)) := heap_alloc_last _ _
      go_upto_region 5 with fail
      obtain ⟨q, hq⟩ : ∃ z, wr.heap.size = z := ⟨_, rfl⟩
      rw [hq] at c0 c1 c2 hYq
      try simp only [hq]
      generalize wr.alloc (.cells (rwA r) 45) = Y at hFa c0 c1 c2 hYq ⊢
      clear hF k1 k2 hrs bC hR hq hI hr hi hm hlt
      cases hth : r.th
      · rw [hth] at c0 hok
        have hok1 : (frO l).ok i = false := hok
        have hkp : (frO l).kp i = false := by unfold Fr.kp Fr.cd; rw [hok1]; rfl
        have HF : Hid (Fy n w Y (some (g, foA V)) V (Kt (frO l) (i + 1)) (fun _ => 0) (FM (frO l) (i + 1) 0 []) (updT (fun _ => none) 7 (thM b m D))) := by
          show Fy _ _ _ _ _ _ _ _ _
          rw [FM_a _ _ _ _ (by unfold Fr.twice Fr.cd; rw [hok1]; rfl) (by unfold Fr.noLa; rw [hok1]; rfl), Kt_no _ _ hkp]; exact hFa
        have HD : Hid (MapIs (frO l) (i + 1) D) := hD.no hkp
        clear hFa hD hok hla hid hok1 hkp
        go_wp2
        go_roundw
        case rel => first | exact ⟨i + 1, m, D, V, by have := HI.out; omega, by go_num, HM.out, HD.out, HF.out⟩ | ((repeat apply Exists.intro); refine ⟨⟨i + 1, m, D, V, by have := HI.out; omega, ?_, HM.out, HD.out, HF.out⟩, rfl⟩; go_num)
        case measure => have := HI.out; simp [intOf]; omega
      · rw [hth] at c0 hok
        by_cases h0 : I = 0
        · subst h0
          have hok1 : (frO l).ok i = false := hok
          have hkp : (frO l).kp i = false := by unfold Fr.kp Fr.cd; rw [hok1]; rfl
          have HF : Hid (Fy n w Y (some (g, foA V)) V (Kt (frO l) (i + 1)) (fun _ => 0) (FM (frO l) (i + 1) 0 []) (updT (fun _ => none) 7 (thM b m D))) := by
            show Fy _ _ _ _ _ _ _ _ _
            rw [FM_a _ _ _ _ (by unfold Fr.twice Fr.cd; rw [hok1]; rfl) (by unfold Fr.noLa; rw [hok1]; rfl), Kt_no _ _ hkp]; exact hFa
          have HD : Hid (MapIs (frO l) (i + 1) D) := hD.no hkp
          clear hFa hD hok hla hid hok1 hkp
          go_wp2
          go_roundw
          case rel => first | exact ⟨i + 1, m, D, V, by have := HI.out; omega, by go_num, HM.out, HD.out, HF.out⟩ | ((repeat apply Exists.intro); refine ⟨⟨i + 1, m, D, V, by have := HI.out; omega, ?_, HM.out, HD.out, HF.out⟩, rfl⟩; go_num)
          case measure => have := HI.out; simp [intOf]; omega
        · have hz9 : ((I : Int) == 0) = false := beq_eq_false_iff_ne.2 (by omega)
          have hok1 : (frO l).ok i = true := by rw [hok, hz9]; rfl
          clear hok h0
          cases hrl : r.la
          · rw [hrl] at c1 hla
            have hkp : (frO l).kp i = false := by unfold Fr.kp Fr.cd; rw [hla, Bool.and_false]; rfl
            obtain ⟨cV, g', m', c', w', v', hv', hra, cV', fV', hF2⟩ := hFa.app 3 (by omega) (by omega) i 26 (FM_len _ _ _ _ _ _ (by omega) (by omega) (by simp))
            subst hv'
            rw [← FM_a3 _ _ _ _ (by unfold Fr.twice Fr.cd; rw [hla, Bool.and_false]; rfl) (by unfold Fr.noLa; rw [hok1, hla]; rfl), ← Kt_no _ _ hkp] at hF2
            have HF : Hid _ := hF2
            have HD : Hid (MapIs (frO l) (i + 1) D) := hD.no hkp
            clear hFa hD hF2 hla hid hok1 hkp hth hrl
            go_wp2_with (at_builtin; refine wpL_appG 26 rfl _ _ rfl _ w' (by exact hra) ?_)
            go_roundw
            case rel => first | exact ⟨i + 1, m, D, _, by have := HI.out; omega, by go_num, HM.out, HD.out, HF.out⟩ | ((repeat apply Exists.intro); refine ⟨⟨i + 1, m, D, _, by have := HI.out; omega, ?_, HM.out, HD.out, HF.out⟩, rfl⟩; go_num)
            case measure => have := HI.out; simp [intOf]; omega
          · rw [hrl] at c1 hla
            have hcd : (frO l).cd i = true := by unfold Fr.cd; rw [hok1, hla]; rfl
            have hown := hFa.isM (q := 7) (by omega) rfl
            have hhas := hD.low
            rw [hid] at hhas
            have hkey : keyOf Try.prog 33 (.int .u32 (I : Int)) = some (.int .u32 (I : Int)) := keyOf_int_mk Try.underlying33 (wfU hI9)
            cases hlw : (frO l).lower i
            · rw [hlw] at hhas
              have hkp : (frO l).kp i = true := by unfold Fr.kp; rw [hcd, hlw]; rfl
              obtain ⟨gk, ck, hVk, cK9, fK9, hF10⟩ := hFa.setK i HI.out true
              rw [← Kt_yes _ _ hkp, ← FM_a _ _ _ _ (by unfold Fr.twice; rw [hlw, Bool.and_false]) (by unfold Fr.noLa; rw [hla, Bool.not_true, Bool.and_false])] at hF10
              have cR := hFa.row.cell 0
              rw [foA_get V 0 (by omega), hVk] at cR
              have cQ : (Y.setCell ⟨gk, i, none⟩ (.bool true)).cell? ⟨q, 2, none⟩ = some (.int .u32 (I : Int)) := by
                have hne : q ≠ gk := fun e => by
                  subst e
                  exact own_cells hFa.kept hYq (by decide) (by rw [hVk]; simp [Value.ownBlock])
                have h9 := heap_setCell_ne Y gk q i (.bool true) hne.symm
                rw [World.cell?] at c2 ⊢
                rw [h9]; exact c2
              have hown2 := hF10.isM (q := 7) (by omega) rfl
              have HD : Hid (MapIs (frO l) (i + 1) (D.put (.int .u32 (I : Int)) (.lit (.int .i64 (i : Int))))) := by
                have := hD.yes hkp
                rw [hid] at this; exact this
              have HM9 : Hid (m < maxLen ∧ (Lit.int .i64 (i : Int)).wf = true) := ⟨by have := HM.out; have := HI.out; unfold maxLen; omega, WalkArith.wf_i64 (by have := HI.out; omega)⟩
              clear hFa hD hid hok1 hkp hla hcd hlw hYq
              go_upto_region 11 with (at_lookup; refine wpList_lookup_own_ok_int _ rfl _ _ 51 rfl 33 3 .i64 keyU Try.underlying51 Try.underlying3 (zeroI _) b m D rfl hown _ _ rfl hkey ?_; intro cz hat hwc; rw [hhas])
              clear hat hwc hown
              go_upto_region 12 with fail
              generalize Y.setCell ⟨gk, i, none⟩ (.bool true) = Z at hF10 cQ hown2 ⊢
              clear cR cK9 fK9 c0 c1 c2
              go_wp2_with (at_mapUpdate; refine wpList_mapUpdate_own _ rfl _ _ _ 51 rfl 33 3 keyU Try.underlying51 _ b m D rfl hown2 HM9.out.1 _ _ _ rfl rfl hkey _ [] (plainElem_int Try.underlying3 HM9.out.2) ?_; intro w6 hown6 hgrow6)
              have hF11 := hF10.putM (q := 7) (by omega) rfl hown6 hgrow6
              have hF12 := hF11.lessX (X' := updT (fun _ => none) 7 (thM b (m + 1) (D.put (.int .u32 (I : Int)) (.lit (.int .i64 (i : Int)))))) (fun k t hk => by
                unfold updT at hk ⊢
                by_cases e : k = 7
                · rw [if_pos e] at hk ⊢; exact hk
                · rw [if_neg e] at hk; cases hk)
              have HF : Hid _ := hF12
              have HM' : Hid (m + 1 ≤ i + 1) := by show _ ≤ _; have := HM0.out; omega
              clear hown2 hown6 hgrow6 hF10 hF11 hF12 HM
              have HM : Hid (m + 1 ≤ i + 1) := HM'
              clear HM'
              go_roundw
              case rel => first | exact ⟨i + 1, m + 1, _, V, by have := HI.out; omega, by go_num, HM.out, HD.out, HF.out⟩ | ((repeat apply Exists.intro); refine ⟨⟨i + 1, m + 1, _, V, by have := HI.out; omega, ?_, HM.out, HD.out, HF.out⟩, rfl⟩; go_num)
              case measure => have := HI.out; simp [intOf]; omega
            · rw [hlw] at hhas
              obtain ⟨cV, g', m', c', w', v', hv', hra, cV', fV', hF2⟩ := hFa.app 2 (by omega) (by omega) i 26 (FM_len _ _ _ _ _ _ (by omega) (by omega) (by simp))
              subst hv'
              have hkp : (frO l).kp i = false := by unfold Fr.kp; rw [hlw, Bool.not_true, Bool.and_false]
              rw [← FM_a2 _ _ _ _ (by unfold Fr.twice; rw [hlw, hcd]; rfl) (by unfold Fr.noLa; rw [hla]; simp), ← Kt_no _ _ hkp] at hF2
              have HF : Hid _ := hF2
              have HD : Hid (MapIs (frO l) (i + 1) D) := hD.no hkp
              clear hFa hD hF2 hla hid hok1 hkp hth hrl hlw hcd hYq
              go_upto_region 10 with (at_lookup; refine wpList_lookup_own_ok_int _ rfl _ _ 51 rfl 33 3 .i64 keyU Try.underlying51 Try.underlying3 (zeroI _) b m D rfl hown _ _ rfl hkey ?_; intro cz hat hwc; rw [hhas])
              clear hat hwc hown
              go_wp2_with (at_builtin; refine wpL_appG 26 rfl _ _ rfl _ w' (by exact hra) ?_)
              go_roundw
              case rel => first | exact ⟨i + 1, m, D, _, by have := HI.out; omega, by go_num, HM.out, HD.out, HF.out⟩ | ((repeat apply Exists.intro); refine ⟨⟨i + 1, m, D, _, by have := HI.out; omega, ?_, HM.out, HD.out, HF.out⟩, rfl⟩; go_num)
              case measure => have := HI.out; simp [intOf]; omega
    · obtain rfl : n = i := by omega
      have i0 : ¬ (n : Int) < (n : Int) := by omega
      have HR : Hid (∃ (b' m : Nat) (D : DataW Unit) (V : Nat → Value), b = b' ∧ m ≤ n ∧ MapIs (frO l) n D ∧ Fy n w wr (some (g, foA V)) V (Kt (frO l) n) (fun _ => 0) (FM (frO l) n 0 []) (updT (fun _ => none) 7 (thM b' m D))) := ⟨b, m, D, V, rfl, hm, hD, hF⟩
      clear hF hD hm hi hlt hl hs
      go_wp2
      go_ret
      obtain ⟨b', m, D, V, rfl, h2, h3, h4⟩ := HR.out
      exact ⟨b, m, D, V, rfl, h2, h3, h4⟩
end Go.Proofs.Ytligjfofnafjeaa
