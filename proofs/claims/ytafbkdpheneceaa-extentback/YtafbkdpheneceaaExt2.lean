
import Derived.Test.YtafbkdpheneceaaExt1
import Derived.Test.YtafbkdpheneceaaRely
import Derived.Test.YtafbkdpheneceaaRelt
namespace Go.Proofs.Ytafbkdpheneceaa
open Go.RowKit

/-! assaylaw08's same, known -/
set_option linter.unusedSimpArgs false in
set_option maxHeartbeats 400000 in
theorem sameP_any (xa xb : Option Addr) (ca cb na nb : Nat) (ds es : List Pr) (w : World) (hna : ds.length = na) (hnb : es.length = nb) (ha : IsK prE w (.slice xa na ca) ds) (hb : IsK prE w (.slice xb nb cb) es) (hlen : na ≤ 140737488355328) :
    Calls Try.prog 14 #[.slice xa na ca, .slice xb nb cb] w fun e w' => e = .returned (.bool (decide (ds = es))) ∧ Below w.heap.size w w' := by
  obtain ⟨r, hr⟩ : ∃ r, decide (ds = es) = r := ⟨_, rfl⟩
  have HR : Hid _ := hr
  rw [hr]
  clear hr
  go_enter Try.func14, Try.ntmps14
  by_cases hl : na = nb
  · have hl1 : (na : Int) = (nb : Int) := by omega
    have hl2 : ((na : Int) != (nb : Int)) = false := by simp; omega
    go_wp2_with fail
    clear hl1 hl2
    go_loopw [5] (fun i wr => ∃ k : Nat, k ≤ na ∧ i = .int .i64 k ∧ (∀ (j : Nat) a b, j < k → ds[j]? = some a → es[j]? = some b → a = b) ∧ Below w.heap.size w wr) (fun i _ => na - (intOf i).toNat)
    case atStart => exact ⟨0, by omega, rfl, fun j a b hj => by omega, Below.refl _ _⟩
    case round =>
      obtain ⟨k, hk, rfl, hU, hB⟩ := hrel
      by_cases hlt : k < na
      · obtain ⟨a, hka⟩ : ∃ a, ds[k]? = some a := ⟨ds[k], List.getElem?_eq_getElem (by omega)⟩
        obtain ⟨b, hkb⟩ : ∃ b, es[k]? = some b := ⟨es[k]'(by omega), List.getElem?_eq_getElem (by omega)⟩
        obtain ⟨b1, o1, rfl, hb1, hr1⟩ := (ha.kept hB).at k a hka
        obtain ⟨b2, o2, rfl, hb2, hr2⟩ := (hb.kept hB).at k b hkb
        obtain ⟨ok1, rg1⟩ := rg_of hr1 (prE_ok.len a)
        obtain ⟨ok2, rg2⟩ := rg_of hr2 (prE_ok.len b)
        rw [prE_arr] at rg1 rg2
        rw [prE_k] at ok1 rg1 ok2 rg2
        have heq := prEq_dec a b
        have hk0 : (0 : Int) ≤ (k : Int) := by omega
        have hk1 : (k : Int) < (na : Int) := by omega
        have hk2 : (k : Int) < (nb : Int) := by omega
        clear hr1 hr2
        by_cases he : a = b
        · have heq' : prEq a b = true := by rw [heq]; simp [he]
          have HU : Hid (∀ (j : Nat) a b, j < k + 1 → ds[j]? = some a → es[j]? = some b → a = b) := fun j x y hj hx hy => by
            rcases Nat.lt_or_ge j k with h1 | h1
            · exact hU j x y h1 hx hy
            · obtain rfl : j = k := by omega
              rw [hka] at hx; rw [hkb] at hy
              cases hx; cases hy
              exact he
          have HB : Hid (∀ n, Below w.heap.size w (wr.drewN n)) := fun n => ⟨hB.os, hB.tape, hB.output, hB.size, hB.block⟩
          clear hU heq he hka hkb hB
          go_upto_region 6 with fail
          go_quiet (fail)
          go_wp2
          go_roundw
          case rel => exact ⟨k + 1, by omega, by go_num, HU.out, HB.out _⟩
          case measure => simp [intOf]; omega
        · have heq' : prEq a b = false := by rw [heq]; simp [he]
          have HV : Hid (r = false) := by
            show _ = _
            rw [← HR.out, decide_eq_false_iff_not]
            intro hn
            have h1 := congrArg (fun l => l[k]?) hn
            simp only [hka, hkb, Option.some.injEq] at h1
            exact he h1
          have HB : Hid (∀ n, Below w.heap.size w (wr.drewN n)) := fun n => ⟨hB.os, hB.tape, hB.output, hB.size, hB.block⟩
          clear hU heq he hka hkb hB
          go_upto_region 6 with fail
          go_quiet (fail)
          go_wp2
          go_ret
          exact ⟨by rw [HV.out]; rfl, HB.out _⟩
      · obtain rfl : k = na := by omega
        have HV : Hid (r = true) := by
          show _ = _
          rw [← HR.out, decide_eq_true_iff]
          apply List.ext_getElem?
          intro j
          try simp only [List.getElem?_map]
          by_cases hj : j < ds.length
          · have hj2 : j < es.length := by omega
            rw [List.getElem?_eq_getElem hj, List.getElem?_eq_getElem hj2]
            try simp only [Option.map_some]
            rw [hU j _ _ (by omega) (List.getElem?_eq_getElem hj) (List.getElem?_eq_getElem hj2)]
          · rw [List.getElem?_eq_none (by omega), List.getElem?_eq_none (by omega)]
        clear hU
        go_wp2
        go_ret
        exact ⟨by rw [HV.out]; rfl, hB⟩
  · have hl1 : ¬ (na : Int) = (nb : Int) := by omega
    have hl2 : ((na : Int) != (nb : Int)) = true := by simp; omega
    have HV : Hid (r = false) := by
      show _ = _
      rw [← HR.out, decide_eq_false_iff_not]
      intro hn
      have := congrArg List.length hn
      try simp only [List.length_map] at this
      omega
    go_wp2
    go_ret
    exact ⟨by rw [HV.out]; rfl, Below.refl _ _⟩

def x8a : XSt := ⟨10, 20, fun _ => false⟩
def x8b : XSt := xTurn x8a 12 3 true
theorem x8_1 : xOk x8a 12 3 true = true := by decide +kernel
theorem x8_2 : xOk x8b 14 1 true = false := by decide +kernel
theorem x8_3 : xLeft x8b = 7 := by decide +kernel
theorem x8_4 : rI (xRuns x8b) = [(10, 2), (15, 5)] := by decide +kernel
theorem x8_5 : xLow x8b 3 = some 15 := by decide +kernel
theorem x8_6 : xTurn x8b 14 1 true = x8b := by unfold xTurn; rw [x8_2]; rfl
set_option linter.unusedSimpArgs false in
set_option maxRecDepth 100000 in
set_option maxHeartbeats 1000000 in
theorem known8_any {X : World → Value → XSt → List Nat → Prop} (O : ExtOk X) (N : ExtNil) (w : World) :
    Calls Try.prog 7 #[] w fun e w' => e = .returned (.bool true) ∧ Below w.heap.size w w' := by
  go_enter Try.func7, Try.ntmps7
  go_wp2_with fail
  go_at_call 6
  refine (O.new w 10 20 (by unfold i64; omega) (by unfold i64; omega)).mono ?_
  rintro e w1 ⟨hB1, h⟩
  obtain ⟨-, -, -, v, F, rfl, hX0, hF⟩ := h.resolve_right (fun h => h.1 (by omega))
  have hX : XAt X w.heap.size [] w1 v x8a := ⟨F, hX0, hF, by simp⟩
  obtain ⟨ad, rfl⟩ := hX.ptr O
  clear hX0 hF h F
  have hz : ∀ a : Int, a ∈ [0, 1, 3, 12, 14] → i64 a := by intro a ha; simp at ha; unfold i64; omega
  go_wp2_with fail
  go_at_call 8
  refine (hX.take O hB1.size 12 3 (hz _ (by simp)) (hz _ (by simp))).mono ?_
  rintro e w2 ⟨rfl, hX2, hb2, -⟩
  rw [x8_1]
  have hX2' : XAt X w.heap.size [] w2 (.pointer (some ad)) x8b := hX2
  have hB2 := hB1.trans hb2
  clear hX hX2 hb2 hB1
  go_wp2_with fail
  go_at_call 8
  refine (hX2'.take O hB2.size 14 1 (hz _ (by simp)) (hz _ (by simp))).mono ?_
  rintro e w3 ⟨rfl, hX3, hb3, -⟩
  rw [x8_2]
  rw [x8_6] at hX3
  have hB3 := hB2.trans hb3
  clear hX2' hb3 hB2
  go_wp2_with fail
  go_at_call 13
  refine (hX3.left O hB3.size).mono ?_
  rintro e w4 ⟨rfl, hX4, hb4, -⟩
  rw [x8_3]
  have hB4 := hB3.trans hb4
  clear hX3 hb4 hB3
  go_wp2_with fail
  go_at_call 10
  refine (hX4.ranges O hB4.size).mono ?_
  rintro e w5 ⟨y, c, A, rfl, hO5, hX5, -, -, hb5, -⟩
  have hlen : (xRuns x8b).length = 2 := by rw [← rI_len, x8_4]; rfl
  rw [x8_4] at hO5
  rw [hlen] at hO5 ⊢
  have hB5 := hB4.trans hb5
  clear hX4 hb5 hB4 hlen
  have hA5 := below_alloc w5 (.cells (pr2 (10, 2) (15, 5)) 33)
  have hP := own_pr2 w5 (10, 2) (15, 5)
  have hO6 := hO5.keep hA5
  have hX6 := hX5.later O hA5
  have hB6 := hB5.trans (hA5.mono hB5.size)
  go_wp2_with fail
  go_at_call 14
  refine (sameP_any _ _ _ _ 2 2 [(10, 2), (15, 5)] [(10, 2), (15, 5)] _ rfl rfl (hO6.isK prE_ok) (hP.isK prE_ok) (by omega)).mono ?_
  rintro e w7 ⟨rfl, hb7⟩
  rw [decide_eq_true rfl]
  have hX7 := hX6.later O hb7
  have hB7 := hB6.trans (hb7.mono hB6.size)
  clear hA5 hP hO6 hX6 hB6 hb7 hO5 hX5 hB5
  go_wp2_with fail
  go_at_call 12
  refine (hX7.lowest O hB7.size 3 (hz _ (by simp))).mono ?_
  rintro e w8 ⟨rfl, hX8, hb8, -⟩
  rw [x8_5]
  have hB8 := hB7.trans hb8
  clear hX7 hb8 hB7 hX8
  go_wp2_with fail
  go_at_call 12
  refine (N.lowest _ 1).mono ?_
  rintro e w9 ⟨⟨la, rfl⟩, hb9⟩
  have hB9 := hB8.trans (hb9.mono hB8.size)
  clear hb9 hB8
  go_wp2_with fail
  go_at_call 8
  refine (N.take _ 0 0).mono ?_
  rintro e w10 ⟨rfl, hb10⟩
  have hB10 := hB9.trans (hb10.mono hB9.size)
  clear hb10 hB9
  go_wp2_with fail
  go_at_call 9
  refine (N.free _ 0 0).mono ?_
  rintro e w11 ⟨rfl, hb11⟩
  have hB11 := hB10.trans (hb11.mono hB10.size)
  clear hb11 hB10
  go_wp2_with fail
  go_at_call 11
  refine (N.taken _ 0).mono ?_
  rintro e w12 ⟨rfl, hb12⟩
  have hB12 := hB11.trans (hb12.mono hB11.size)
  clear hb12 hB11
  go_wp2_with fail
  go_at_call 13
  refine (N.left _).mono ?_
  rintro e w13 ⟨rfl, hb13⟩
  have hB13 := hB12.trans (hb13.mono hB12.size)
  clear hb13 hB12
  go_wp2_with fail
  go_at_call 10
  refine (N.ranges _).mono ?_
  rintro e w14 ⟨⟨y2, c2, rfl⟩, hb14⟩
  have hB14 := hB13.trans (hb14.mono hB13.size)
  clear hb14 hB13
  go_wp2_with fail
  go_at_call 18
  refine (N.copy _).mono ?_
  rintro e w15 ⟨rfl, hb15⟩
  have hB15 := hB14.trans (hb15.mono hB14.size)
  clear hb15 hB14
  go_wp2
  go_ret
  exact ⟨rfl, hB15⟩
end Go.Proofs.Ytafbkdpheneceaa
