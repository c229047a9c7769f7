import Derived.Test.YtadnfiikfhdphaaQDev1
namespace Go.Proofs.Ytadnfiikfhdphaa
open Go.RowKit

/-! assaylaw05's helpers -/
def kS (s : Sc) : List UInt8 := (List.range 64).map s
def kW (x : Wr) : Int × List UInt8 := (x.1, kS x.2)
theorem secEq_dec (a b : Sc) : secEq a b = decide (kS a = kS b) := by
  rw [← beq_secL]
  show (kS a == kS b) = _
  rw [Bool.eq_iff_iff, beq_iff_eq, decide_eq_true_iff]
theorem kS_iff (a b : Sc) : kS a = kS b ↔ secA a = secA b := by
  rw [secA_inj, ← secEq_iff, secEq_dec, decide_eq_true_iff]
theorem wrEq_dec (a b : Wr) : wrEq a b = decide (kW a = kW b) := by
  unfold wrEq kW
  rw [Bool.eq_iff_iff, decide_eq_true_iff, Bool.and_eq_true, beq_iff_eq, secEq_dec, decide_eq_true_iff, Prod.mk.injEq]
theorem kW_iff (a b : Wr) : kW a = kW b ↔ wrA a = wrA b := by
  unfold kW
  rw [Prod.mk.injEq, kS_iff]
  constructor
  · rintro ⟨h1, h2⟩
    unfold wrA
    rw [h1, h2]
  · intro h
    have h1 := congrArg (fun x => x[0]?) h
    simp only [wrA_at, Option.some.injEq, Value.int.injEq, true_and] at h1
    have h2 := congrArg (fun x => x.extract 1 (1 + 64)) h
    simp only [wrA_data] at h2
    exact ⟨h1, h2⟩
theorem secE_enc (a : Sc) : secE.enc a = (secA a).toList := by simp only [secE]
theorem wrE_enc (a : Wr) : wrE.enc a = (wrA a).toList := by simp only [wrE]
theorem secE_arr (a : Sc) : (secE.enc a).toArray = secA a := by rw [secE_enc, Array.toArray_toList]
theorem wrE_arr (a : Wr) : (wrE.enc a).toArray = wrA a := by rw [wrE_enc, Array.toArray_toList]
theorem secE_k : EK.k secE = 64 := rfl
theorem wrE_k : EK.k wrE = 65 := rfl

set_option linter.unusedSimpArgs false in
set_option maxHeartbeats 400000 in
theorem sameS_any (xa xb : Option Addr) (ca cb na nb : Nat) (ds es : List Sc) (w : World) (hna : ds.length = na) (hnb : es.length = nb) (ha : IsK secE w (.slice xa na ca) ds) (hb : IsK secE w (.slice xb nb cb) es) (hlen : na ≤ 140737488355328) :
    Calls Try.prog 8 #[.slice xa na ca, .slice xb nb cb] w fun e w' => e = .returned (.bool (decide (ds.map kS = es.map kS))) ∧ Below w.heap.size w w' := by
  obtain ⟨r, hr⟩ : ∃ r, decide (ds.map kS = es.map kS) = r := ⟨_, rfl⟩
  have HR : Hid _ := hr
  rw [hr]
  clear hr
  go_enter Try.func8, Try.ntmps8
  by_cases hl : na = nb
  · have hl1 : (na : Int) = (nb : Int) := by omega
    have hl2 : ((na : Int) != (nb : Int)) = false := by simp; omega
    go_wp2_with fail
    clear hl1 hl2
    go_loopw [5] (fun i wr => ∃ k : Nat, k ≤ na ∧ i = .int .i64 k ∧ (∀ (j : Nat) a b, j < k → ds[j]? = some a → es[j]? = some b → kS a = kS b) ∧ Below w.heap.size w wr) (fun i _ => na - (intOf i).toNat)
    case atStart => exact ⟨0, by omega, rfl, fun j a b hj => by omega, Below.refl _ _⟩
    case round =>
      obtain ⟨k, hk, rfl, hU, hB⟩ := hrel
      by_cases hlt : k < na
      · obtain ⟨a, hka⟩ : ∃ a, ds[k]? = some a := ⟨ds[k], List.getElem?_eq_getElem (by omega)⟩
        obtain ⟨b, hkb⟩ : ∃ b, es[k]? = some b := ⟨es[k]'(by omega), List.getElem?_eq_getElem (by omega)⟩
        obtain ⟨b1, o1, rfl, hb1, hr1⟩ := (ha.kept hB).at k a hka
        obtain ⟨b2, o2, rfl, hb2, hr2⟩ := (hb.kept hB).at k b hkb
        obtain ⟨ok1, rg1⟩ := rg_of hr1 (secE_ok.len a)
        obtain ⟨ok2, rg2⟩ := rg_of hr2 (secE_ok.len b)
        rw [secE_arr] at rg1 rg2
        rw [secE_k] at ok1 rg1 ok2 rg2
        have heq := secEq_dec a b
        have hk0 : (0 : Int) ≤ (k : Int) := by omega
        have hk1 : (k : Int) < (na : Int) := by omega
        have hk2 : (k : Int) < (nb : Int) := by omega
        clear hr1 hr2
        by_cases he : kS a = kS b
        · have heq' : secEq a b = true := by rw [heq]; simp [he]
          have HU : Hid (∀ (j : Nat) a b, j < k + 1 → ds[j]? = some a → es[j]? = some b → kS a = kS b) := fun j x y hj hx hy => by
            rcases Nat.lt_or_ge j k with h1 | h1
            · exact hU j x y h1 hx hy
            · obtain rfl : j = k := by omega
              rw [hka] at hx; rw [hkb] at hy
              cases hx; cases hy
              exact he
          have HB : Hid (∀ n, Below w.heap.size w (wr.drewN n)) := fun n => ⟨hB.os, hB.tape, hB.output, hB.size, hB.block⟩
          clear hU heq he hka hkb hB
          go_upto_region 6 with fail
          go_quiet (fail)
          go_wp2
          go_roundw
          case rel => exact ⟨k + 1, by omega, by go_num, HU.out, HB.out _⟩
          case measure => simp [intOf]; omega
        · have heq' : secEq a b = false := by rw [heq]; simp [he]
          have HV : Hid (r = false) := by
            show _ = _
            rw [← HR.out, decide_eq_false_iff_not]
            intro hn
            have h1 := congrArg (fun l => l[k]?) hn
            simp only [List.getElem?_map, hka, hkb, Option.map_some, Option.some.injEq] at h1
            exact he h1
          have HB : Hid (∀ n, Below w.heap.size w (wr.drewN n)) := fun n => ⟨hB.os, hB.tape, hB.output, hB.size, hB.block⟩
          clear hU heq he hka hkb hB
          go_upto_region 6 with fail
          go_quiet (fail)
          go_wp2
          go_ret
          exact ⟨by rw [HV.out]; rfl, HB.out _⟩
      · obtain rfl : k = na := by omega
        have HV : Hid (r = true) := by
          show _ = _
          rw [← HR.out, decide_eq_true_iff]
          apply List.ext_getElem?
          intro j
          simp only [List.getElem?_map]
          by_cases hj : j < ds.length
          · have hj2 : j < es.length := by omega
            rw [List.getElem?_eq_getElem hj, List.getElem?_eq_getElem hj2]
            simp only [Option.map_some]
            rw [hU j _ _ (by omega) (List.getElem?_eq_getElem hj) (List.getElem?_eq_getElem hj2)]
          · rw [List.getElem?_eq_none (by omega), List.getElem?_eq_none (by omega)]
        clear hU
        go_wp2
        go_ret
        exact ⟨by rw [HV.out]; rfl, hB⟩
  · have hl1 : ¬ (na : Int) = (nb : Int) := by omega
    have hl2 : ((na : Int) != (nb : Int)) = true := by simp; omega
    have HV : Hid (r = false) := by
      show _ = _
      rw [← HR.out, decide_eq_false_iff_not]
      intro hn
      have := congrArg List.length hn
      simp only [List.length_map] at this
      omega
    go_wp2
    go_ret
    exact ⟨by rw [HV.out]; rfl, Below.refl _ _⟩

set_option linter.unusedSimpArgs false in
set_option maxHeartbeats 400000 in
theorem writesS_any (xa xb : Option Addr) (ca cb na nb : Nat) (ds es : List Wr) (w : World) (hna : ds.length = na) (hnb : es.length = nb) (ha : IsK wrE w (.slice xa na ca) ds) (hb : IsK wrE w (.slice xb nb cb) es) (hlen : na ≤ 140737488355328) :
    Calls Try.prog 34 #[.slice xa na ca, .slice xb nb cb] w fun e w' => e = .returned (.bool (decide (ds.map kW = es.map kW))) ∧ Below w.heap.size w w' := by
  obtain ⟨r, hr⟩ : ∃ r, decide (ds.map kW = es.map kW) = r := ⟨_, rfl⟩
  have HR : Hid _ := hr
  rw [hr]
  clear hr
  go_enter Try.func34, Try.ntmps34
  by_cases hl : na = nb
  · have hl1 : (na : Int) = (nb : Int) := by omega
    have hl2 : ((na : Int) != (nb : Int)) = false := by simp; omega
    go_wp2_with fail
    clear hl1 hl2
    go_loopw [5] (fun i wr => ∃ k : Nat, k ≤ na ∧ i = .int .i64 k ∧ (∀ (j : Nat) a b, j < k → ds[j]? = some a → es[j]? = some b → kW a = kW b) ∧ Below w.heap.size w wr) (fun i _ => na - (intOf i).toNat)
    case atStart => exact ⟨0, by omega, rfl, fun j a b hj => by omega, Below.refl _ _⟩
    case round =>
      obtain ⟨k, hk, rfl, hU, hB⟩ := hrel
      by_cases hlt : k < na
      · obtain ⟨a, hka⟩ : ∃ a, ds[k]? = some a := ⟨ds[k], List.getElem?_eq_getElem (by omega)⟩
        obtain ⟨b, hkb⟩ : ∃ b, es[k]? = some b := ⟨es[k]'(by omega), List.getElem?_eq_getElem (by omega)⟩
        obtain ⟨b1, o1, rfl, hb1, hr1⟩ := (ha.kept hB).at k a hka
        obtain ⟨b2, o2, rfl, hb2, hr2⟩ := (hb.kept hB).at k b hkb
        obtain ⟨ok1, rg1⟩ := rg_of hr1 (wrE_ok.len a)
        obtain ⟨ok2, rg2⟩ := rg_of hr2 (wrE_ok.len b)
        rw [wrE_arr] at rg1 rg2
        rw [wrE_k] at ok1 rg1 ok2 rg2
        have heq := wrEq_dec a b
        have hk0 : (0 : Int) ≤ (k : Int) := by omega
        have hk1 : (k : Int) < (na : Int) := by omega
        have hk2 : (k : Int) < (nb : Int) := by omega
        clear hr1 hr2
        by_cases he : kW a = kW b
        · have heq' : wrEq a b = true := by rw [heq]; simp [he]
          have HU : Hid (∀ (j : Nat) a b, j < k + 1 → ds[j]? = some a → es[j]? = some b → kW a = kW b) := fun j x y hj hx hy => by
            rcases Nat.lt_or_ge j k with h1 | h1
            · exact hU j x y h1 hx hy
            · obtain rfl : j = k := by omega
              rw [hka] at hx; rw [hkb] at hy
              cases hx; cases hy
              exact he
          have HB : Hid (∀ n, Below w.heap.size w (wr.drewN n)) := fun n => ⟨hB.os, hB.tape, hB.output, hB.size, hB.block⟩
          clear hU heq he hka hkb hB
          go_upto_region 6 with fail
          go_quiet (fail)
          go_wp2
          go_roundw
          case rel => exact ⟨k + 1, by omega, by go_num, HU.out, HB.out _⟩
          case measure => simp [intOf]; omega
        · have heq' : wrEq a b = false := by rw [heq]; simp [he]
          have HV : Hid (r = false) := by
            show _ = _
            rw [← HR.out, decide_eq_false_iff_not]
            intro hn
            have h1 := congrArg (fun l => l[k]?) hn
            simp only [List.getElem?_map, hka, hkb, Option.map_some, Option.some.injEq] at h1
            exact he h1
          have HB : Hid (∀ n, Below w.heap.size w (wr.drewN n)) := fun n => ⟨hB.os, hB.tape, hB.output, hB.size, hB.block⟩
          clear hU heq he hka hkb hB
          go_upto_region 6 with fail
          go_quiet (fail)
          go_wp2
          go_ret
          exact ⟨by rw [HV.out]; rfl, HB.out _⟩
      · obtain rfl : k = na := by omega
        have HV : Hid (r = true) := by
          show _ = _
          rw [← HR.out, decide_eq_true_iff]
          apply List.ext_getElem?
          intro j
          simp only [List.getElem?_map]
          by_cases hj : j < ds.length
          · have hj2 : j < es.length := by omega
            rw [List.getElem?_eq_getElem hj, List.getElem?_eq_getElem hj2]
            simp only [Option.map_some]
            rw [hU j _ _ (by omega) (List.getElem?_eq_getElem hj) (List.getElem?_eq_getElem hj2)]
          · rw [List.getElem?_eq_none (by omega), List.getElem?_eq_none (by omega)]
        clear hU
        go_wp2
        go_ret
        exact ⟨by rw [HV.out]; rfl, hB⟩
  · have hl1 : ¬ (na : Int) = (nb : Int) := by omega
    have hl2 : ((na : Int) != (nb : Int)) = true := by simp; omega
    have HV : Hid (r = false) := by
      show _ = _
      rw [← HR.out, decide_eq_false_iff_not]
      intro hn
      have := congrArg List.length hn
      simp only [List.length_map] at this
      omega
    go_wp2
    go_ret
    exact ⟨by rw [HV.out]; rfl, Below.refl _ _⟩
end Go.Proofs.Ytadnfiikfhdphaa
