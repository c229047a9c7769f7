
import Derived.Test.YthkjfgncbmpllaaDsO
namespace Go.Proofs.Ythkjfgncbmpllaa
open Go.RowKit

abbrev hasN (es : List Dg) (k n : Nat) : Prop := n ∈ nums (es.take k)
theorem hasN_all (es : List Dg) (n : Nat) : hasN es es.length n ↔ n ∈ nums es := by unfold hasN; rw [List.take_length]
theorem hasN_succ {es : List Dg} {k n : Nat} {e : Dg} (he : es[k]? = some e) : hasN es (k + 1) n ↔ hasN es k n ∨ n = dN e := by
  obtain ⟨hk, rfl⟩ := List.getElem?_eq_some_iff.1 he
  unfold hasN
  rw [List.take_succ_eq_append_getElem hk, nums_snoc]
  simp
set_option linter.unusedSimpArgs false in
set_option maxHeartbeats 800000 in
theorem lwithin_any (xa xb : Option Addr) (ca cb : Nat) (ds es : List Dg) (w : World) (ha : IsDs w (.slice xa ds.length ca) ds) (hb : IsDs w (.slice xb es.length cb) es) (h1 : ds.length ≤ 140737488355328) (h2 : es.length ≤ 140737488355328) :
    Calls Try.prog 13 #[.slice xa ds.length ca, .slice xb es.length cb] w fun e w' => e = .returned (.bool (decide (∀ n ∈ nums ds, n ∈ nums es))) ∧ Below w.heap.size w w' := by
  obtain ⟨r, hr⟩ : ∃ r, decide (∀ n ∈ nums ds, n ∈ nums es) = r := ⟨_, rfl⟩
  have HR : Hid _ := hr
  rw [hr]
  clear hr
  go_enter Try.func13, Try.ntmps13
  go_wp2_with fail
  go_loopw [12] (fun i wr => ∃ k : Nat, k ≤ ds.length ∧ i = .int .i64 k ∧ (∀ (j : Nat) d, j < k → ds[j]? = some d → dN d ∈ nums es) ∧ Below w.heap.size w wr) (fun i _ => ds.length - (intOf i).toNat)
  case atStart => exact ⟨0, by omega, rfl, fun j d hj => by omega, Below.refl _ _⟩
  case round =>
    obtain ⟨k, hk, rfl, hU, hB⟩ := hrel
    by_cases hlt : k < ds.length
    · obtain ⟨d, hkd⟩ : ∃ d, ds[k]? = some d := ⟨ds[k], List.getElem?_eq_getElem hlt⟩
      obtain ⟨b1, o1, rfl, hb1, ok1, rg1⟩ := (ha.kept hB).at k d hkd
      have hk0 : (0 : Int) ≤ (k : Int) := by omega
      have hk1 : (k : Int) < (ds.length : Int) := by omega
      have hRd : DgR (wr.alloc (.cells (dg_secA d) 23)) wr.heap.size d := DgR.new _ _ _
      have hB1 := hB.alloc hB.size (.cells (dg_secA d) 23)
      go_wp2_with fail
      generalize wr.heap.size = gd at hRd ⊢
      generalize wr.alloc (.cells (dg_secA d) 23) = X at hRd hB1 ⊢
      clear hB ok1 rg1 hb1
      go_loopw [7, 18] (fun t i w2 => ∃ m : Nat, m ≤ es.length ∧ i = .int .i64 m ∧ t = .bool (decide (hasN es m (dN d))) ∧ Below X.heap.size X w2) (fun _ i _ => es.length - (intOf i).toNat)
      case atStart => exact ⟨0, by omega, rfl, by simp [hasN, nums], Below.refl _ _⟩
      case round =>
        obtain ⟨m, hm, rfl, rfl, hBm⟩ := hrel
        by_cases hlt2 : m < es.length
        · obtain ⟨e, hme⟩ : ∃ e, es[m]? = some e := ⟨es[m], List.getElem?_eq_getElem hlt2⟩
          obtain ⟨b2, o2, rfl, hb2, ok2, rg2⟩ := ((hb.kept hB1).kept hBm).at m e hme
          have hm0 : (0 : Int) ≤ (m : Int) := by omega
          have hm1 : (m : Int) < (es.length : Int) := by omega
          have hRe : DgR (wr.alloc (.cells (dg_secA e) 23)) wr.heap.size e := DgR.new _ _ _
          have hRd2 := (hRd.kept hBm).kept (below_alloc wr (.cells (dg_secA e) 23))
          have hlt9 := (hRd.kept hBm).lt
          have hB9 := hBm.alloc hBm.size (.cells (dg_secA e) 23)
          have heq := secEq_num d e
          have hsucc := hasN_succ (n := dN d) hme
          obtain ⟨t0, ht0⟩ : ∃ t, decide (hasN es m (dN d)) = t := ⟨_, rfl⟩
          obtain ⟨t1, ht1⟩ : ∃ t, dg_secEq d e = t := ⟨_, rfl⟩
          have HT : Hid (decide (hasN es (m + 1) (dN d)) = (t0 || t1)) := by
            show _ = _
            rw [← ht0, ← ht1, heq, Bool.eq_iff_iff]
            simp [hsucc]
          rw [ht0]
          clear heq hsucc ht0
          go_upto_region 8 with fail
          generalize wr.heap.size = ge at hRe ⊢
          generalize wr.alloc (.cells (dg_secA e) 23) = Y at hRe hRd2 hB9 ⊢
          obtain ⟨r1, q1⟩ := hRe
          obtain ⟨r2, q2⟩ := hRd2
          clear ok2 rg2 hb2 hBm
          cases t0 with
          | true =>
            go_wp2
            go_roundw
            case rel => first | exact ⟨m + 1, by omega, by go_num, by rw [HT.out]; rfl, hB9⟩ | ((repeat apply Exists.intro); refine ⟨⟨m + 1, by omega, ?_, ?_, hB9⟩, rfl⟩; go_num; rw [HT.out]; rfl)
            case measure => simp [intOf]; omega
          | false =>
            go_wp2
            go_roundw
            case rel => first | exact ⟨m + 1, by omega, by go_num, by rw [HT.out]; rfl, hB9⟩ | ((repeat apply Exists.intro); refine ⟨⟨m + 1, by omega, ?_, ?_, hB9⟩, rfl⟩; go_num; rw [HT.out]; rfl)
            case measure => simp [intOf]; omega
        · obtain rfl : m = es.length := by omega
          have HB : Hid _ := hB1.trans (hBm.mono hB1.size)
          by_cases hin : dN d ∈ nums es
          · have ht : decide (hasN es es.length (dN d)) = true := by rw [decide_eq_true_iff, hasN_all]; exact hin
            have HU : Hid (∀ (j : Nat) x, j < k + 1 → ds[j]? = some x → dN x ∈ nums es) := fun j x hj hx => by
              rcases lt_succ_cases hj with h | rfl
              · exact hU j x h hx
              · rw [hkd] at hx; cases hx; exact hin
            rw [ht]
            clear hU hBm hB1 hRd hin ht
            go_wp2
            go_roundw
            case rel => first | exact ⟨k + 1, by omega, by go_num, HU.out, HB.out⟩ | ((repeat apply Exists.intro); refine ⟨⟨k + 1, by omega, ?_, HU.out, HB.out⟩, rfl⟩; go_num)
            case measure => simp [intOf]; omega
          · have ht : decide (hasN es es.length (dN d)) = false := by rw [decide_eq_false_iff_not, hasN_all]; exact hin
            have HV : Hid (r = false) := by
              show _ = _
              rw [← HR.out, decide_eq_false_iff_not]
              exact fun h => hin (h _ (List.mem_of_getElem? (nums_get ds k d hkd)))
            rw [ht]
            clear hU hBm hB1 hRd hin ht
            go_wp2
            go_ret
            exact ⟨by rw [HV.out]; rfl, HB.out⟩
    · obtain rfl : k = ds.length := by omega
      have HV : Hid (r = true) := by
        show _ = _
        rw [← HR.out, decide_eq_true_iff]
        intro n hn
        obtain ⟨j, d, hj, hd, rfl⟩ := mem_nums hn
        exact hU j d hj hd
      clear hU
      go_wp2
      go_ret
      exact ⟨by rw [HV.out]; rfl, hB⟩
end Go.Proofs.Ythkjfgncbmpllaa
