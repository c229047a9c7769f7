
import Derived.Test.YtmbkkdojjfdliaaStb1
import Derived.Test.YtmbkkdojjfdliaaReli
import Derived.Test.YtmbkkdojjfdliaaKfr
namespace Go.Proofs.Ytmbkkdojjfdliaa
open Go.RowKit

/-! Two writes of a list change places -/
theorem kokW {G : List Nat} : KOk (Keep G) := ⟨fun h => Keep.of_below h, fun h k => h.trans k⟩
theorem own_rg {w : World} {B g n c : Nat} {l : List Wr} (h : OwnK wrE w B (.slice (some ⟨g, 0, none⟩) n c) l) (i : Nat) (hi : i < n) : rgOk w g (i * 65) 65 = true ∧ rg w g (i * 65) 65 = wrA (gw l i) := by
  obtain ⟨cur, hn, -⟩ := h.heap
  exact wr_rg26 (OwnK.range wrE_ok h i (gw l i) (gw_get _ _ (by omega)))
theorem own_put {w : World} {B g n c : Nat} {l : List Wr} (h : OwnK wrE w B (.slice (some ⟨g, 0, none⟩) n c) l) (i : Nat) (hi : i < n) (d : Wr) : OwnK wrE (w.setCells g (i * 65) (wrE.enc d)) B (.slice (some ⟨g, 0, none⟩) n c) (l.set i d) := OwnK.put wrE_ok h i d hi
theorem own_st {w : World} {B g n c : Nat} {l : List Wr} (h : OwnK wrE w B (.slice (some ⟨g, 0, none⟩) n c) l) (i : Nat) (hi : i < n) (d : Wr) : (wrStore (.pointer (some ⟨g, i * 65, none⟩)) (.agg (wrA d))).run Try.prog w = .ok .skip (w.setCells g (i * 65) (wrE.enc d)) := by
  have h1 := OwnK.store wrE_ok h i d hi
  rw [wrE_arr] at h1
  have h2 : (Instr.storeAt 29 (.pointer (some ⟨g, i * 65, none⟩)) (.agg (wrA d))).run Try.prog w = .ok () (w.setCells g (i * 65) (wrE.enc d)) := h1
  simp only [wrStore, Sem.run_bind, h2, Result.andThen_ok]
  rfl
theorem keep_st (w : World) (g o : Nat) (vs : List Value) : Keep [g] w (w.setCells g o vs) := Keep.of_grown (grown_setC w g o vs) (fun q hq => by cases hq; simp)
theorem own_len {w : World} {B n c : Nat} {x : Option Addr} {l : List Wr} (h : OwnK wrE w B (.slice x n c) l) : l.length = n := ((h.isK wrE_ok).cap).1.symm
def SwJ (B g n c : Nat) (l : List Wr) (i j : Nat) : List Value → World → Prop
  | [], w => OwnK wrE w B (.slice (some ⟨g, 0, none⟩) n c) l
  | [_], w => OwnK wrE w B (.slice (some ⟨g, 0, none⟩) n c) (l.set i (gw l j))
  | _, _ => True
theorem SwJ_later (B g n c : Nat) (l : List Wr) (i j : Nat) : ∀ vs w w', SwJ B g n c l i j vs w → Below w.heap.size w w' → SwJ B g n c l i j vs w'
  | [], _, _, h, hb => OwnK.keep h hb
  | [_], _, _, h, hb => OwnK.keep h hb
  | _ :: _ :: _, _, _, _, _ => trivial
theorem wAdd (a b p : Nat) (h : a + b = p) (hp : p ≤ 1125899906842624) : IntKind.i64.wrap ((a : Int) + (b : Int)) = (p : Int) := by rw [IntKind.wrap_i64]; omega
theorem wAdd1 (a p : Nat) (h : a + 1 = p) (hp : p ≤ 1125899906842624) : IntKind.i64.wrap ((a : Int) + 1) = (p : Int) := by rw [IntKind.wrap_i64]; omega
theorem wSub (a b p : Nat) (h : p + b = a) (hp : a ≤ 1125899906842624) : IntKind.i64.wrap ((a : Int) - (b : Int)) = (p : Int) := by rw [IntKind.wrap_i64]; omega
theorem wSub1 (a p : Nat) (h : p + 1 = a) (hp : a ≤ 1125899906842624) : IntKind.i64.wrap ((a : Int) - 1) = (p : Int) := by rw [IntKind.wrap_i64]; omega
/-! swapRange -/
def swK (P X Q Y S : List Wr) (k : Nat) : List Wr := P ++ (Y.take k ++ (X.drop k ++ (Q ++ (X.take k ++ (Y.drop k ++ S)))))
theorem swK_step (P X Q Y S : List Wr) (k m i j : Nat) (hX : X.length = m) (hY : Y.length = m) (hk : k < m) (hi : P.length + k = i) (hj : P.length + m + Q.length + k = j) : swW (swK P X Q Y S k) i j = swK P X Q Y S (k + 1) := by
  obtain ⟨x, hx⟩ : ∃ x, X[k]? = some x := ⟨_, List.getElem?_eq_getElem (by omega)⟩
  obtain ⟨y, hy⟩ : ∃ y, Y[k]? = some y := ⟨_, List.getElem?_eq_getElem (by omega)⟩
  have e1 : X.drop k = x :: X.drop (k + 1) := by
    rw [List.getElem?_eq_getElem (by omega)] at hx
    rw [List.drop_eq_getElem_cons (by omega), Option.some.inj hx]
  have e2 : Y.drop k = y :: Y.drop (k + 1) := by
    rw [List.getElem?_eq_getElem (by omega)] at hy
    rw [List.drop_eq_getElem_cons (by omega), Option.some.inj hy]
  have e3 : X.take (k + 1) = X.take k ++ [x] := by rw [List.take_add_one, hx]; rfl
  have e4 : Y.take (k + 1) = Y.take k ++ [y] := by rw [List.take_add_one, hy]; rfl
  have h := swW_mid (P ++ Y.take k) (X.drop (k + 1) ++ (Q ++ X.take k)) (Y.drop (k + 1) ++ S) x y i j (by simp; omega) (by simp; omega)
  have a1 : swK P X Q Y S k = P ++ Y.take k ++ x :: (X.drop (k + 1) ++ (Q ++ X.take k) ++ y :: (Y.drop (k + 1) ++ S)) := by
    unfold swK; rw [e1, e2]; simp
  have a2 : swK P X Q Y S (k + 1) = P ++ Y.take k ++ y :: (X.drop (k + 1) ++ (Q ++ X.take k) ++ x :: (Y.drop (k + 1) ++ S)) := by
    unfold swK; rw [e3, e4]; simp
  rw [a1, a2, h]
set_option linter.unusedSimpArgs false in
set_option maxHeartbeats 4000000 in
set_option maxRecDepth 100000 in
theorem swapRange26 (w : World) (B g n c a b m : Nat) (P X Q Y S : List Wr) (cv : Value) (h : OwnK wrE w B (.slice (some ⟨g, 0, none⟩) n c) (P ++ (X ++ (Q ++ (Y ++ S))))) (ha : P.length = a) (hX : X.length = m) (hY : Y.length = m) (hb : a + m + Q.length = b) (hn : n ≤ 140737488355328) :
    Calls Try.prog 33 #[.slice (some ⟨g, 0, none⟩) n c, .int .i64 (a : Int), .int .i64 (b : Int), .int .i64 (m : Int), cv] w fun e w' => (∃ u, e = .returned u) ∧ OwnK wrE w' B (.slice (some ⟨g, 0, none⟩) n c) (P ++ (Y ++ (Q ++ (X ++ S)))) ∧ Keep [g] w w' := by
  have hlen := own_len h
  simp only [List.length_append] at hlen
  have hbn : b + m ≤ n := by omega
  have ham : a + m ≤ n := by omega
  have HA : Hid (P.length = a ∧ X.length = m ∧ Y.length = m ∧ a + m + Q.length = b) := ⟨ha, hX, hY, hb⟩
  have h0 : OwnK wrE w B (.slice (some ⟨g, 0, none⟩) n c) (swK P X Q Y S 0) := by simpa [swK] using h
  have HF : Hid (swK P X Q Y S m = P ++ (Y ++ (Q ++ (X ++ S)))) := by
    show swK P X Q Y S m = _
    unfold swK
    rw [List.take_of_length_le (l := Y) (by omega), List.take_of_length_le (l := X) (by omega), List.drop_eq_nil_of_le (i := m) (show X.length ≤ m by omega), List.drop_eq_nil_of_le (i := m) (show Y.length ≤ m by omega)]
    simp
  clear h hlen ha hX hY hb
  go_enter Try.func33, Try.ntmps33
  go_wp2_with fail
  go_loopw [10] (fun iv wr => ∃ k : Nat, k ≤ m ∧ iv = .int .i64 (k : Int) ∧ OwnK wrE wr B (.slice (some ⟨g, 0, none⟩) n c) (swK P X Q Y S k) ∧ Keep [g] w wr) (fun iv _ => m - (intOf iv).toNat)
  case atStart => exact ⟨0, by omega, rfl, h0, Keep.refl _ _⟩
  case round =>
    obtain ⟨k, hk, rfl, hO, hK⟩ := hrel
    by_cases hlt : k < m
    · have hkm : (k : Int) < (m : Int) := by omega
      obtain ⟨i, hi9⟩ : ∃ i, a + k = i := ⟨_, rfl⟩
      obtain ⟨j, hj9⟩ : ∃ j, b + k = j := ⟨_, rfl⟩
      have hi : i < n := by omega
      have hj : j < n := by omega
      have wi := wAdd a k i hi9 (by omega)
      have wj := wAdd b k j hj9 (by omega)
      have hi1 : (i : Int) < (n : Int) := by omega
      have hj1 : (j : Int) < (n : Int) := by omega
      have hi0 : (0 : Int) ≤ (i : Int) := by omega
      have hj0 : (0 : Int) ≤ (j : Int) := by omega
      have HS : Hid (swW (swK P X Q Y S k) i j = swK P X Q Y S (k + 1)) := by
        obtain ⟨q1, q2, q3, q4⟩ := HA.out
        exact swK_step P X Q Y S k m i j q2 q3 hlt (by omega) (by omega)
      have HI : Hid (k + 1 ≤ m) := hlt
      obtain ⟨L, hL⟩ : ∃ L, swK P X Q Y S k = L := ⟨_, rfl⟩
      rw [hL] at hO HS
      clear hL hi9 hj9 hlt hk
      go_upto_region 3 with fail
      refine wp_reliesI (kokW (G := [g])) (SwJ B g n c L i j) [21] [none, none, none, none, none, none, none, none, none, none, none, none, none, some (0, [], []), none, none, none, none, none, some (0, [], []), none, some (0, [], []), none] [Fx (.slice (some ⟨g, 0, none⟩) n c), Fx (.int .i64 ((a : Nat) : Int)), Fx (.int .i64 ((k : Nat) : Int)), Fx (.int .i64 ((i : Nat) : Int)), Fx (.slice (some ⟨g, 0, none⟩) n c), Fx (.int .i64 ((b : Nat) : Int)), Fx (.int .i64 ((k : Nat) : Int)), Fx (.int .i64 ((j : Nat) : Int)), Fx (.slice (some ⟨g, 0, none⟩) n c), Fx (.int .i64 ((b : Nat) : Int)), Fx (.int .i64 ((k : Nat) : Int)), Fx (.int .i64 ((j : Nat) : Int)), Fx (.pointer (some ⟨g, j * 65, none⟩)), Fx (.agg (wrA (gw L j))), Fx (.slice (some ⟨g, 0, none⟩) n c), Fx (.int .i64 ((a : Nat) : Int)), Fx (.int .i64 ((k : Nat) : Int)), Fx (.int .i64 ((i : Nat) : Int)), Fx (.pointer (some ⟨g, i * 65, none⟩)), Fx (.agg (wrA (gw L i))), Fx (.pointer (some ⟨g, i * 65, none⟩)), fun _ _ => True, Fx (.pointer (some ⟨g, j * 65, none⟩))] rfl (by decide) rfl (by kernel_rfl) (by kernel_rfl) (by kernel_rfl) hO (SwJ_later B g n c L i j) ?_ ?_ ?_ ?_
      · repeat' (first | exact all_nil | apply all_cons)
        all_goals intro v y y' hv hb
        all_goals first | exact Fx_mono _ _ _ _ hv hb | exact trivial
      · intro i9 f9 hf9 hl9 v y y' hv hb
        rcases i9 with _ | i9
        · first | (cases hl9; done) | (cases hf9; first | exact hv | exact trivial)
        rcases i9 with _ | i9
        · first | (cases hl9; done) | (cases hf9; first | exact hv | exact trivial)
        rcases i9 with _ | i9
        · first | (cases hl9; done) | (cases hf9; first | exact hv | exact trivial)
        rcases i9 with _ | i9
        · first | (cases hl9; done) | (cases hf9; first | exact hv | exact trivial)
        rcases i9 with _ | i9
        · first | (cases hl9; done) | (cases hf9; first | exact hv | exact trivial)
        rcases i9 with _ | i9
        · first | (cases hl9; done) | (cases hf9; first | exact hv | exact trivial)
        rcases i9 with _ | i9
        · first | (cases hl9; done) | (cases hf9; first | exact hv | exact trivial)
        rcases i9 with _ | i9
        · first | (cases hl9; done) | (cases hf9; first | exact hv | exact trivial)
        rcases i9 with _ | i9
        · first | (cases hl9; done) | (cases hf9; first | exact hv | exact trivial)
        rcases i9 with _ | i9
        · first | (cases hl9; done) | (cases hf9; first | exact hv | exact trivial)
        rcases i9 with _ | i9
        · first | (cases hl9; done) | (cases hf9; first | exact hv | exact trivial)
        rcases i9 with _ | i9
        · first | (cases hl9; done) | (cases hf9; first | exact hv | exact trivial)
        rcases i9 with _ | i9
        · first | (cases hl9; done) | (cases hf9; first | exact hv | exact trivial)
        rcases i9 with _ | i9
        · first | (cases hl9; done) | (cases hf9; first | exact hv | exact trivial)
        rcases i9 with _ | i9
        · first | (cases hl9; done) | (cases hf9; first | exact hv | exact trivial)
        rcases i9 with _ | i9
        · first | (cases hl9; done) | (cases hf9; first | exact hv | exact trivial)
        rcases i9 with _ | i9
        · first | (cases hl9; done) | (cases hf9; first | exact hv | exact trivial)
        rcases i9 with _ | i9
        · first | (cases hl9; done) | (cases hf9; first | exact hv | exact trivial)
        rcases i9 with _ | i9
        · first | (cases hl9; done) | (cases hf9; first | exact hv | exact trivial)
        rcases i9 with _ | i9
        · first | (cases hl9; done) | (cases hf9; first | exact hv | exact trivial)
        rcases i9 with _ | i9
        · first | (cases hl9; done) | (cases hf9; first | exact hv | exact trivial)
        rcases i9 with _ | i9
        · first | (cases hl9; done) | (cases hf9; first | exact hv | exact trivial)
        rcases i9 with _ | i9
        · first | (cases hl9; done) | (cases hf9; first | exact hv | exact trivial)
        · simp at hf9
      · refine ⟨?_, ?_, ?_, ?_, ?_, ?_, ?_, ?_, ?_, ?_, ?_, ?_, ?_, ?_, ?_, ?_, ?_, ?_, ?_, ?_, ?_, ?_, ?_, trivial⟩
        all_goals
          intro ρ x hk hat ρc ρg ρf ho hd
          have o0 : ρ (.tmp 0) = .slice (some ⟨g, 0, none⟩) n c := ho 0 rfl
          have o1 : ρ (.tmp 1) = .int .i64 ((a : Nat) : Int) := ho 1 rfl
          have o2 : ρ (.tmp 2) = .int .i64 ((b : Nat) : Int) := ho 2 rfl
          have o10 : ρ (.tmp 10) = .int .i64 ((k : Nat) : Int) := ho 10 rfl
          clear ho
          simp only [depsR, depR, slotR, Fx, List.getElem?_cons_succ, List.getElem?_cons_zero, Region.binds, forall_const] at hd
          simp only [guardR, List.contains_cons, List.contains_nil, List.elem_cons, List.elem_nil, Nat.reduceBEq, Bool.or_false, Bool.false_or, Bool.or_true, Bool.true_or, cond_true, cond_false]
          go_split_ands
        · go_simp
        · go_simp
        · go_simp
        · have hw9 := wi
          go_simp
        · go_simp
        · go_simp
        · go_simp
        · have hw9 := wj
          go_simp
        · go_simp
        · go_simp
        · go_simp
        · have hw9 := wj
          go_simp
        · go_simp
        · have hh := own_rg hat j hj
          go_simp
        · go_simp
        · go_simp
        · go_simp
        · have hw9 := wi
          go_simp
        · go_simp
        · have hh := own_rg hat i hi
          go_simp
        · go_simp
        · have hr := own_st hat i hi (gw L j)
          go_simp
          exact ⟨⟨trivial, own_put hat i hi _⟩, keep_st x g (i * 65) _⟩
        · go_simp
      · intro vs x1 hk hw hI
        simp only [owed, Fx] at hw
        obtain ⟨e0, e1, e2, e3, e4, e5, e6, e7, e8, e9, e10, e11, e12, e13, e14, e15, e16, e17, e18, e19, e20, e21, e22, -⟩ := hw
        simp only [List.length_cons, List.length_nil, List.take_succ_cons, List.take_zero, List.drop_succ_cons, List.drop_zero, asg, List.cons_append, List.nil_append, e0, e1, e2, e3, e4, e5, e6, e7, e8, e9, e10, e11, e12, e13, e14, e15, e16, e17, e18, e19, e20, e22]
        clear e0 e1 e2 e3 e4 e5 e6 e7 e8 e9 e10 e11 e12 e13 e14 e15 e16 e17 e18 e19 e20 e22 e21
        have hI' : OwnK wrE x1 B (.slice (some ⟨g, 0, none⟩) n c) (L.set i (gw L j)) := hI
        have hr := own_st hI' j hj (gw L i)
        have hfin : OwnK wrE _ B (.slice (some ⟨g, 0, none⟩) n c) (swW L i j) := own_put hI' j hj (gw L i)
        have hK2 : Keep [g] wr _ := hk.trans (keep_st x1 g (j * 65) (wrE.enc (gw L i)))
        rw [HS.out] at hfin
        have HO : Hid _ := hfin
        have HK : Hid (Keep [g] w _) := hK.trans hK2
        have wk := wAdd1 k (k + 1) rfl (by omega)
        clear hfin hK2 hI' hI hk hO hK
        go_wp2
        go_roundw
        case rel => exact ⟨k + 1, HI.out, by go_num, HO.out, HK.out⟩
        case measure => have := HI.out; simp [intOf]; omega
    · have hkm : ¬ (k : Int) < (m : Int) := by omega
      obtain rfl : k = m := by omega
      rw [HF.out] at hO
      have HO : Hid _ := hO
      clear hO
      go_wp2
      go_end0
      exact ⟨⟨_, rfl⟩, HO.out, hK⟩
end Go.Proofs.Ytmbkkdojjfdliaa
