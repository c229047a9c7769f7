
import Derived.Test.YtfnffkommcepoaaBit8
namespace Go.Proofs.Ytfnffkommcepoaa
open Go.RowKit

/-! Lists apart: append one, store one -/
theorem app_apartG {t e : TypeId} {bytes : Nat} (E : Elt t e bytes) (W : World) (B : Nat) (xu : Option Addr) (nu cu : Nat) (xs : List Value) (d : Value) (ty : TypeId) (h : OwnG e W B (.slice xu nu cu) xs) (hd : d.oneCell' = true) (hB : B ≤ W.heap.size) (hs : (nu + 1) * bytes ≤ 140737488355328) (h63 : nu + 1 ≤ maxLen) :
    ∃ g c' w', (Builtin.append_ #[t, t] ty #[.slice xu nu cu, .slice (some ⟨W.heap.size, 0, none⟩) 1 1]).run Try.prog (W.alloc (.cells #[d] e)) = .ok (.slice (some ⟨g, 0, none⟩) (nu + 1) c') w' ∧
      OwnG e w' B (.slice (some ⟨g, 0, none⟩) (nu + 1) c') (xs ++ [d]) ∧ Below B W w' ∧
      ∀ (v : Value) (e' : TypeId) (k m : Nat) (ys : List Value), W.ownsRow B e' k v m ys → ApartV v (.slice xu nu cu) → w'.ownsRow B e' k v m ys ∧ ApartV v (.slice (some ⟨g, 0, none⟩) (nu + 1) c') := by
  have hlen := h.num
  subst hlen
  have hA : Below W.heap.size W (W.alloc (.cells #[d] e)) := below_alloc _ _
  obtain ⟨i, z, hi, hz, hsz, hby, hzs⟩ := E.info
  have hcell : (W.alloc (.cells #[d] e)).cell? ⟨W.heap.size, 0, none⟩ = some d := cell_of_row _ _ 0 _ _ _ (heap_new W _)
  obtain ⟨g, c', w', hr, hO, hg, hway, hlt⟩ := run_append_lies (P := Try.prog) (W.alloc (.cells #[d] e)) t ty B e i z 1 bytes E.ht hi hz hsz hby hzs (by omega) (.slice xu xs.length cu) xs.length xs (h.keep hA) ⟨W.heap.size, 0, none⟩ 1 1 [d] (by simp) (fun j u hu => by
    rcases j with _ | j
    · simp at hu; subst hu; rw [addr_add]; exact hcell
    · simp at hu) (by simpa using hd) (by omega) h63 hs (by simp; omega) _ rfl
  refine ⟨g, c', w', hr, by unfold OwnG; rw [List.length_append]; exact hO, (hA.mono hB).trans (OwnG.below (h.keep hA) hg (by simp; omega)), ?_⟩
  intro v e' k m ys hv hap
  have hv2 : (W.alloc (.cells #[d] e)).ownsRow B e' k v m ys := World.ownsRow.kept hv (row := none) (World.grownBy_alloc W _ none) (by
    cases hq : v.ownBlock with
    | none => exact .inl rfl
    | some k => exact .inr (by simp))
  refine ⟨World.ownsRow.kept hv2 hg hap, ?_⟩
  unfold ApartV
  cases hq : v.ownBlock with
  | none => exact .inl rfl
  | some q =>
    right
    intro he
    have hql := (World.ownsRow.lt hv q hq).2
    have hqg : q = g := by simpa [Value.ownBlock] using he
    rcases hway with h1 | h1
    · rcases hap with h2 | h2
      · rw [hq] at h2; cases h2
      · exact h2 (by rw [hq, h1, hqg])
    · rw [World.size_alloc] at h1; omega
theorem put_apartG {e : TypeId} {W : World} {B g n c : Nat} {xs : List Value} (h : OwnG e W B (.slice (some ⟨g, 0, none⟩) n c) xs) (hB : B ≤ W.heap.size) (j : Nat) (u : Value) :
    OwnG e (W.setCell ⟨g, j, none⟩ u) B (.slice (some ⟨g, 0, none⟩) n c) (xs.set j u) ∧ Below B W (W.setCell ⟨g, j, none⟩ u) ∧
      ∀ (v : Value) (e' : TypeId) (k m : Nat) (ys : List Value), W.ownsRow B e' k v m ys → ApartV v (.slice (some ⟨g, 0, none⟩) n c) → (W.setCell ⟨g, j, none⟩ u).ownsRow B e' k v m ys := by
  obtain ⟨h1, h2⟩ := h.put j u
  exact ⟨h1, OwnG.below h h2 hB, fun v e' k m ys hv hap => World.ownsRow.kept hv h2 hap⟩
theorem range_bits (l : List Sc) (n m : Nat) : (List.range (m + 1)).map (bitOf l n) = (List.range m).map (bitOf l n) ++ [bitOf l n m] := by rw [List.range_succ, List.map_append]; rfl
theorem badU_yes (l : List Sc) (n k : Nat) (s : Sc) (h : l[k]? = some s) (ht : tornB s k n = true) : badU l n (k + 1) = badU l n k ++ [k] := by rw [badU, h]; simp [ht]
theorem badU_no (l : List Sc) (n k : Nat) (s : Sc) (h : l[k]? = some s) (ht : tornB s k n = false) : badU l n (k + 1) = badU l n k := by rw [badU, h]; simp [ht]
theorem nI_app (a b : List Nat) : nI (a ++ b) = nI a ++ nI b := by simp [nI]
theorem bitOf_at (l : List Sc) (n k i : Nat) (s : Sc) (hs : l[k]? = some s) (hi : i < 480) : bitOf l n (k * 480 + i) = (!tornB s k n && fbit s i) := by
  unfold bitOf
  rw [show (k * 480 + i) / 480 = k by omega, show (k * 480 + i) % 480 = i by omega, hs]
theorem ApartV.none_left (v : Value) : ApartV (.slice none 0 0) v := .inl rfl
theorem tmp2_bodyPost {fn : Func} {R : Ending → World → Prop} {a : Act} {w : World} (p q : Nat) (hres : fn.results = #[.tmp p, .tmp q]) (hd : a.defers = []) (h : R (.returned (.tuple #[a.tmps.getD p undef, a.tmps.getD q undef])) w) : bodyPost Try.prog fn R .ret a w := by
  refine bodyPost_ret (v := .tuple #[a.tmps.getD p undef, a.tmps.getD q undef]) ?_ hd h
  simp [results, hres]
set_option maxRecDepth 100000 in
set_option maxHeartbeats 400000 in
theorem refGet_no (l : List Sc) (x : Option Addr) (m c : Nat) (n : Int) (w : World) (hl : l.length = m) (_hm : m ≤ 3) (_h0 : -9223372036854775808 ≤ n) (_h1 : n ≤ 9223372036854775807) (hno : ¬ (manyN n.toNat ≠ 0 ∧ l.length = manyN n.toNat)) :
    Calls Try.prog 15 #[.slice x m c, .int .i64 n] w fun e w' => ∃ u v, e = .returned (.tuple #[u, v]) ∧ OwnG 4 w' w.heap.size u (bV (getBits l n.toNat)) ∧ OwnG 3 w' w.heap.size v (iV (nI (getBad l n.toNat))) ∧ ApartV u v ∧ Below w.heap.size w w' := by
  have e1 : getBits l n.toNat = [] := by unfold getBits; rw [if_neg hno]
  have e2 : getBad l n.toNat = [] := by unfold getBad; rw [if_neg hno]
  rw [e1, e2]
  have hmi := manyI_toNat n
  by_cases hz : manyN n.toNat = 0
  · rw [hz] at hmi
    have hmi0 : manyI n = 0 := hmi
    clear hmi hno
    go_enter Try.func15, Try.ntmps15
    go_wp2_with (go_at_call 21; refine (refMany_any _ _ (by omega) (by omega)).mono ?_; rintro e w9 ⟨rfl, rfl⟩)
    exact tmp2_bodyPost 4 5 rfl rfl ⟨_, _, rfl, OwnG.nil _ _ _, OwnG.nil _ _ _, .inl rfl, Below.refl _ _⟩
  · have hlm : ¬ m = manyN n.toNat := fun h => hno ⟨hz, by rw [hl]; exact h⟩
    generalize manyN n.toNat = M at hz hmi hlm
    have hm0 : ((M : Int) == 0) = false := by simp; omega
    have hm1 : ((m : Int) != (M : Int)) = true := by simp; omega
    have hm2 : ¬ (m : Int) = (M : Int) := by omega
    clear hno
    go_enter Try.func15, Try.ntmps15
    go_wp2_with (go_at_call 21; refine (refMany_any _ _ (by omega) (by omega)).mono ?_; rintro e w9 ⟨rfl, rfl⟩; rw [hmi])
    exact tmp2_bodyPost 4 5 rfl rfl ⟨_, _, rfl, OwnG.nil _ _ _, OwnG.nil _ _ _, .inl rfl, Below.refl _ _⟩
set_option linter.unusedSimpArgs false in
set_option maxRecDepth 100000 in
set_option maxHeartbeats 800000 in
theorem refGet_yes (l : List Sc) (x : Option Addr) (m c : Nat) (n : Nat) (w : World) (hl : l.length = m) (hm : m ≤ 3) (h64 : 64 ≤ n) (h1024 : n ≤ 1024) (hmm : m = manyN n) (hK : IsK secE w (.slice x m c) l) :
    Calls Try.prog 15 #[.slice x m c, .int .i64 (n : Int)] w fun e w' => ∃ u v, e = .returned (.tuple #[u, v]) ∧ OwnG 4 w' w.heap.size u (bV (getBits l n)) ∧ OwnG 3 w' w.heap.size v (iV (nI (getBad l n))) ∧ ApartV u v ∧ Below w.heap.size w w' := by
  have hz : manyN n ≠ 0 := manyN_pos.2 ⟨h64, h1024⟩
  have e1 : getBits l n = (List.range n).map (bitOf l n) := by unfold getBits; rw [if_pos ⟨hz, by omega⟩]
  have e2 : getBad l n = badU l n m := by unfold getBad; rw [if_pos ⟨hz, by omega⟩, hl]
  rw [e1, e2]
  have hmi := manyI_nat n
  rw [← hmm] at hmi hz
  have hcov : n ≤ m * 480 ∧ (m - 1) * 480 < n := by rw [hmm]; unfold manyN; rw [if_pos ⟨h64, h1024⟩]; omega
  have hm0 : ((m : Int) == 0) = false := by simp; omega
  clear e1 e2 hmm
  go_enter Try.func15, Try.ntmps15
  go_wp2_with (go_at_call 21; refine (refMany_any _ _ (by omega) (by omega)).mono ?_; rintro e w ⟨rfl, rfl⟩; rw [hmi])
  go_loopw [6, 7, 8] (fun ub vb kv wr => ∃ (k : Nat) (xu : Option Addr) (cu : Nat) (xv : Option Addr) (cv : Nat), k ≤ m ∧ kv = .int .i64 k ∧ ub = .slice xu (min n (k * 480)) cu ∧ vb = .slice xv (badU l n k).length cv ∧ OwnG 4 wr w.heap.size (.slice xu (min n (k * 480)) cu) (bV ((List.range (min n (k * 480))).map (bitOf l n))) ∧ OwnG 3 wr w.heap.size (.slice xv (badU l n k).length cv) (iV (nI (badU l n k))) ∧ ApartV (.slice xu (min n (k * 480)) cu) (.slice xv (badU l n k).length cv) ∧ Below w.heap.size w wr) (fun _ _ kv _ => m - (intOf kv).toNat)
  case atStart => exact ⟨0, none, 0, none, 0, by omega, rfl, by simp, by simp [badU], by simpa [bV] using OwnG.nil 4 w w.heap.size, by simpa [badU, nI, iV] using OwnG.nil 3 w w.heap.size, .inl (by simp [Value.ownBlock]), Below.refl _ _⟩
  case round =>
    obtain ⟨k, xu, cu, xv, cv, hk, rfl, rfl, rfl, hU, hV, hA, hB⟩ := hrel
    by_cases hlt : k < m
    · have hlt' : (k : Int) < (m : Int) := by omega
      obtain ⟨s, hs⟩ : ∃ s, l[k]? = some s := ⟨l[k]'(by omega), List.getElem?_eq_getElem (by omega)⟩
      obtain ⟨b1, o1, rfl, hb1, hr1⟩ := (hK.kept hB).at k s hs
      obtain ⟨ok1, rg1⟩ := rg_of hr1 (secE_ok.len s)
      rw [secE_arr] at rg1
      rw [secE_k] at ok1 rg1
      have hpk : min n (k * 480) = k * 480 := by
        have : k * 480 ≤ (m - 1) * 480 := Nat.mul_le_mul_right _ (by omega)
        omega
      rw [hpk] at hU hA ⊢
      have hbl := badU_len l n k
      have hk3 : k ≤ 3 := by omega
      clear hr1
      go_wp2_with fail
      go_at_call 24
      refine (refTorn_any s k n _ (by omega) (by omega)).mono ?_
      rintro e wo ⟨rfl, hBt⟩
      replace hU := hU.keep hBt
      replace hV := hV.keep hBt
      replace hB := hB.trans (hBt.mono hB.size)
      clear hBt ok1 rg1
      cases ht : tornB s k n
      · have hbu := badU_no l n k s hs ht
        rw [← hbu] at hV hA ⊢
        clear hbu
        have hV0 : Hid (OwnG 3 wo w.heap.size (.slice xv (badU l n (k + 1)).length cv) (iV (nI (badU l n (k + 1))))) := hV
        have hU0 : Hid (OwnG 4 wo w.heap.size (.slice xu (k * 480) cu) (bV ((List.range (k * 480)).map (bitOf l n)))) := hU
        have hB0 : Hid (Below w.heap.size w wo) := hB
        clear hU hV hB
        go_wp2_with fail
        go_loopw [6, 10] (fun ub iv wr => ∃ (i : Nat) (xq : Option Addr) (cq : Nat), i ≤ 480 ∧ k * 480 + i ≤ n ∧ iv = .int .i64 i ∧ ub = .slice xq (k * 480 + i) cq ∧ OwnG 4 wr w.heap.size (.slice xq (k * 480 + i) cq) (bV ((List.range (k * 480 + i)).map (bitOf l n))) ∧ OwnG 3 wr w.heap.size (.slice xv (badU l n (k + 1)).length cv) (iV (nI (badU l n (k + 1)))) ∧ ApartV (.slice xq (k * 480 + i) cq) (.slice xv (badU l n (k + 1)).length cv) ∧ Below w.heap.size w wr) (fun _ iv _ => 480 - (intOf iv).toNat)
        case atStart => exact ⟨0, xu, cu, by omega, by omega, rfl, rfl, hU0.out, hV0.out, hA, hB0.out⟩
        case round =>
          clear hU0 hV0 hB0 hA
          obtain ⟨i, xq, cq, hi, hin, rfl, rfl, hU, hV, hA, hB⟩ := hrel
          have hi9 : (i : Int) ≤ 480 := by omega
          by_cases h480 : i < 480
          · have h480' : (i : Int) < 480 := by omega
            by_cases hlast : k * 480 + i < n
            · have hlast' : (k : Int) * 480 + (i : Int) < (n : Int) := by omega
              have hbt := bitOf_at l n k i s hs h480
              rw [ht] at hbt
              obtain ⟨b2, o2, he2, hb2, hr2⟩ := (hK.kept hB).at k s hs
              obtain ⟨ok1, rg1⟩ := rg_of hr2 (secE_ok.len s)
              rw [secE_arr] at rg1
              rw [secE_k] at ok1 rg1
              clear hr2
              cases he2
              have hX : Below wr.heap.size wr (wr.alloc (.cells (secA s) 29)) := below_alloc _ _
              have hU1 := hU.keep hX
              have hV1 := hV.keep hX
              have hB1 := hB.trans (hX.mono hB.size)
              obtain ⟨g2, c2, wC, hrC, hU2, hBC, hstay⟩ := app_apartG boolsElt7 (wr.alloc (.cells (secA s) 29)) w.heap.size xq (k * 480 + i) cq (bV ((List.range (k * 480 + i)).map (bitOf l n))) (.bool (fbit s i)) 22 hU1 rfl hB1.size (by omega) (by unfold maxLen; omega)
              obtain ⟨hV2, hA2⟩ := hstay _ _ _ _ _ hV1 (ApartV.symm hA)
              have hbv : bV ((List.range (k * 480 + i)).map (bitOf l n)) ++ [Value.bool (fbit s i)] = bV ((List.range (k * 480 + (i + 1))).map (bitOf l n)) := by rw [show k * 480 + (i + 1) = (k * 480 + i) + 1 by omega, range_bits, hbt, ← bV_app]; rfl
              rw [hbv] at hU2
              have HU : Hid _ := hU2
              have HV : Hid _ := hV2
              have HA : Hid _ := hA2.symm
              have HB : Hid _ := hB1.trans hBC
              clear hU hV hA hB hU2 hV2 hA2 hBC hstay hbv hbt
              clear hX hU1 hV1 hB1
              rw [World.size_alloc] at hrC
              go_wp2_with (first | (go_at_call 25; refine (refBit_any s i _ h480).mono ?_; rintro e w3 ⟨rfl, rfl⟩) | (at_builtin; refine wpL_appT 22 rfl _ _ rfl _ wC (by exact hrC) ?_))
              go_roundw
              case rel => exact ⟨i + 1, _, _, by omega, by omega, by go_num, rfl, HU.out, HV.out, HA.out, HB.out⟩
              case measure => simp [intOf]; omega
            · have hlast' : ¬ (k : Int) * 480 + (i : Int) < (n : Int) := by omega
              have hmin : min n ((k + 1) * 480) = k * 480 + i := by omega
              have HU : Hid _ := hU
              have HV : Hid _ := hV
              have HA : Hid _ := hA
              have HB : Hid _ := hB
              clear hU hV hA hB
              go_wp2
              go_roundw
              case rel => exact ⟨k + 1, _, _, _, _, by omega, by go_num, by rw [hmin], rfl, by rw [hmin]; exact HU.out, HV.out, by rw [hmin]; exact HA.out, HB.out⟩
              case measure => simp [intOf]; omega
          · obtain rfl : i = 480 := by omega
            have hmin : min n ((k + 1) * 480) = k * 480 + 480 := by omega
            have HU : Hid _ := hU
            have HV : Hid _ := hV
            have HA : Hid _ := hA
            have HB : Hid _ := hB
            clear hU hV hA hB
            go_wp2
            go_roundw
            case rel => exact ⟨k + 1, _, _, _, _, by omega, by go_num, by rw [hmin], rfl, by rw [hmin]; exact HU.out, HV.out, by rw [hmin]; exact HA.out, HB.out⟩
            case measure => simp [intOf]; omega
      · have hbu := badU_yes l n k s hs ht
        obtain ⟨g1, c1, wA, hrA, hV1, hBA, hstay⟩ := app_apartG intsElt wo w.heap.size xv (badU l n k).length cv (iV (nI (badU l n k))) (.int .i64 (k : Int)) 30 hV rfl hB.size (by omega) (by unfold maxLen; omega)
        obtain ⟨hU1, hA1⟩ := hstay _ _ _ _ _ hU hA
        have hbl1 : (badU l n (k + 1)).length = (badU l n k).length + 1 := by rw [hbu]; simp
        have hbv : iV (nI (badU l n k)) ++ [Value.int .i64 (k : Int)] = iV (nI (badU l n (k + 1))) := by rw [hbu, nI_app, ← iV_app]; rfl
        rw [hbv, ← hbl1] at hV1
        rw [← hbl1] at hA1 hrA
        replace hB := hB.trans hBA
        clear hstay hU hV hA hBA hbu hbv hbl1
        go_upto_region 11 with (at_builtin; refine wpL_appT 30 rfl _ _ rfl _ wA (by exact hrA) ?_)
        clear hrA
        have hU := hU1
        have hV := hV1
        have hA := hA1
        clear hU1 hV1 hA1
        obtain ⟨wo, rfl⟩ : ∃ wo, wo = wA := ⟨_, rfl⟩
        have hV0 : Hid (OwnG 3 wo w.heap.size (.slice (some ⟨g1, 0, none⟩) (badU l n (k + 1)).length c1) (iV (nI (badU l n (k + 1))))) := hV
        have hU0 : Hid (OwnG 4 wo w.heap.size (.slice xu (k * 480) cu) (bV ((List.range (k * 480)).map (bitOf l n)))) := hU
        have hB0 : Hid (Below w.heap.size w wo) := hB
        clear hU hV hB
        go_wp2_with fail
        go_loopw [6, 10] (fun ub iv wr => ∃ (i : Nat) (xq : Option Addr) (cq : Nat), i ≤ 480 ∧ k * 480 + i ≤ n ∧ iv = .int .i64 i ∧ ub = .slice xq (k * 480 + i) cq ∧ OwnG 4 wr w.heap.size (.slice xq (k * 480 + i) cq) (bV ((List.range (k * 480 + i)).map (bitOf l n))) ∧ OwnG 3 wr w.heap.size (.slice (some ⟨g1, 0, none⟩) (badU l n (k + 1)).length c1) (iV (nI (badU l n (k + 1)))) ∧ ApartV (.slice xq (k * 480 + i) cq) (.slice (some ⟨g1, 0, none⟩) (badU l n (k + 1)).length c1) ∧ Below w.heap.size w wr) (fun _ iv _ => 480 - (intOf iv).toNat)
        case atStart => exact ⟨0, xu, cu, by omega, by omega, rfl, rfl, hU0.out, hV0.out, hA, hB0.out⟩
        case round =>
          clear hU0 hV0 hB0 hA
          obtain ⟨i, xq, cq, hi, hin, rfl, rfl, hU, hV, hA, hB⟩ := hrel
          have hi9 : (i : Int) ≤ 480 := by omega
          by_cases h480 : i < 480
          · have h480' : (i : Int) < 480 := by omega
            by_cases hlast : k * 480 + i < n
            · have hlast' : (k : Int) * 480 + (i : Int) < (n : Int) := by omega
              have hbt := bitOf_at l n k i s hs h480
              rw [ht] at hbt
              obtain ⟨g2, c2, wC, hrC, hU2, hBC, hstay⟩ := app_apartG boolsElt7 wr w.heap.size xq (k * 480 + i) cq (bV ((List.range (k * 480 + i)).map (bitOf l n))) (.bool false) 22 hU rfl hB.size (by omega) (by unfold maxLen; omega)
              obtain ⟨hV2, hA2⟩ := hstay _ _ _ _ _ hV (ApartV.symm hA)
              have hbv : bV ((List.range (k * 480 + i)).map (bitOf l n)) ++ [Value.bool false] = bV ((List.range (k * 480 + (i + 1))).map (bitOf l n)) := by rw [show k * 480 + (i + 1) = (k * 480 + i) + 1 by omega, range_bits, hbt, ← bV_app]; rfl
              rw [hbv] at hU2
              have HU : Hid _ := hU2
              have HV : Hid _ := hV2
              have HA : Hid _ := hA2.symm
              have HB : Hid _ := hB.trans hBC
              clear hU hV hA hB hU2 hV2 hA2 hBC hstay hbv hbt
              go_wp2_with (at_builtin; refine wpL_appT 22 rfl _ _ rfl _ wC (by exact hrC) ?_)
              go_roundw
              case rel => exact ⟨i + 1, _, _, by omega, by omega, by go_num, rfl, HU.out, HV.out, HA.out, HB.out⟩
              case measure => simp [intOf]; omega
            · have hlast' : ¬ (k : Int) * 480 + (i : Int) < (n : Int) := by omega
              have hmin : min n ((k + 1) * 480) = k * 480 + i := by omega
              have HU : Hid _ := hU
              have HV : Hid _ := hV
              have HA : Hid _ := hA
              have HB : Hid _ := hB
              clear hU hV hA hB
              go_wp2
              go_roundw
              case rel => exact ⟨k + 1, _, _, _, _, by omega, by go_num, by rw [hmin], rfl, by rw [hmin]; exact HU.out, HV.out, by rw [hmin]; exact HA.out, HB.out⟩
              case measure => simp [intOf]; omega
          · obtain rfl : i = 480 := by omega
            have hmin : min n ((k + 1) * 480) = k * 480 + 480 := by omega
            have HU : Hid _ := hU
            have HV : Hid _ := hV
            have HA : Hid _ := hA
            have HB : Hid _ := hB
            clear hU hV hA hB
            go_wp2
            go_roundw
            case rel => exact ⟨k + 1, _, _, _, _, by omega, by go_num, by rw [hmin], rfl, by rw [hmin]; exact HU.out, HV.out, by rw [hmin]; exact HA.out, HB.out⟩
            case measure => simp [intOf]; omega
    · obtain rfl : k = m := by omega
      have hpm : min n (k * 480) = n := by omega
      rw [hpm] at hU hA ⊢
      go_wp2
      exact tmp2_bodyPost 4 5 rfl rfl ⟨_, _, rfl, hU, hV, hA, hB⟩
theorem refGet_any (l : List Sc) (x : Option Addr) (m c : Nat) (n : Int) (w : World) (hl : l.length = m) (hm : m ≤ 3) (h0 : -9223372036854775808 ≤ n) (h1 : n ≤ 9223372036854775807) (hK : IsK secE w (.slice x m c) l) :
    Calls Try.prog 15 #[.slice x m c, .int .i64 n] w fun e w' => ∃ u v, e = .returned (.tuple #[u, v]) ∧ OwnG 4 w' w.heap.size u (bV (getBits l n.toNat)) ∧ OwnG 3 w' w.heap.size v (iV (nI (getBad l n.toNat))) ∧ ApartV u v ∧ Below w.heap.size w w' := by
  by_cases h : manyN n.toNat ≠ 0 ∧ l.length = manyN n.toNat
  · have hp := manyN_pos.1 h.1
    obtain ⟨N, rfl⟩ := Int.eq_ofNat_of_zero_le (show 0 ≤ n by omega)
    rw [Int.toNat_natCast] at h hp ⊢
    exact refGet_yes l x m c N w hl hm hp.1 hp.2 (by rw [← hl]; exact h.2) hK
  · exact refGet_no l x m c n w hl hm h0 h1 h
end Go.Proofs.Ytfnffkommcepoaa
