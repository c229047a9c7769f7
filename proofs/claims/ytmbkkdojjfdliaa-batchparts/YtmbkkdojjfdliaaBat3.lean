
import Derived.Test.YtmbkkdojjfdliaaBat1
import Derived.Test.YtmbkkdojjfdliaaBatN
namespace Go.Proofs.Ytmbkkdojjfdliaa
open Go.RowKit

/-! assaylaw26's same and lent -/
theorem lentK26 {α : Type} {E : EK α} (O : E.Ok) (w : World) (x : Option Addr) (n c : Nat) (ds : List α) (d : α) (ty ty' : TypeId) (hn : ds.length = n) (h : IsK E w (.slice x n c) ds) (hl : (n + 1) * E.bytes ≤ 140737488355328) (h63 : n + 1 ≤ maxLen) :
    ∃ y c1 w1 g c2 w2, (Builtin.append_ #[E.S, E.S] ty #[.slice (some ⟨w.heap.size, 0, none⟩) 0 0, .slice x n c]).run Try.prog (w.alloc (.cells #[] E.T)) = .ok (.slice y n c1) w1 ∧ (Builtin.append_ #[E.S, E.S] ty' #[.slice y n c1, .slice (some ⟨w1.heap.size, 0, none⟩) 1 1]).run Try.prog (w1.alloc (.cells (E.enc d).toArray E.T)) = .ok (.slice (some ⟨g, 0, none⟩) (n + 1) c2) w2 ∧ OwnK E w2 w.heap.size (.slice (some ⟨g, 0, none⟩) (n + 1) c2) (ds ++ [d]) ∧ Below w.heap.size w w2 := by
  have hb := below_alloc w (.cells #[] E.T)
  have hO := OwnK.lit0 E w
  have hI := h.kept hb
  subst hn
  obtain ⟨y, c1, w1, hr, hO1, hB1⟩ := run_copyK O (w.alloc (.cells #[] E.T)) _ x c ds w.heap.size ty hO (by simp) hI (by rw [Nat.add_mul] at hl; omega) (by omega)
  have hA := below_alloc w1 (.cells (E.enc d).toArray E.T)
  have hnew : (w1.alloc (.cells (E.enc d).toArray E.T)).rangeAt w1.heap.size 0 (E.enc d) := fun j u hu => by
    rw [Nat.zero_add, cell_of_row _ _ j _ _ _ (heap_alloc_last w1 _)]
    simpa using hu
  have hs1 : w.heap.size ≤ w1.heap.size := (hb.trans hB1).size
  obtain ⟨g, c2, w2, hr2, o1, -, o3, -⟩ := run_app1K O (w1.alloc (.cells (E.enc d).toArray E.T)) w.heap.size w1.heap.size (.slice y ds.length c1) ds d ty' (hO1.keep hA) hnew (by simp) hl h63 (by simp; omega)
  have hB2 : Below w.heap.size w1 w2 := (hA.mono hs1).trans ((hO1.keep hA).below o3 (by simp; omega))
  exact ⟨y, c1, w1, g, c2, w2, hr, hr2, o1, (hb.trans hB1).trans hB2⟩
set_option linter.unusedSimpArgs false in
set_option maxHeartbeats 400000 in
theorem same26_any (xa xb : Option Addr) (ca cb na nb : Nat) (ds es : List Wr) (w : World) (hna : ds.length = na) (hnb : es.length = nb) (ha : IsK wrE w (.slice xa na ca) ds) (hb : IsK wrE w (.slice xb nb cb) es) (hlen : na ≤ 140737488355328) :
    Calls Try.prog 10 #[.slice xa na ca, .slice xb nb cb] w fun e w' => e = .returned (.bool (decide (ds.map kW = es.map kW))) ∧ Below w.heap.size w w' := by
  obtain ⟨r, hr⟩ : ∃ r, decide (ds.map kW = es.map kW) = r := ⟨_, rfl⟩
  have HR : Hid _ := hr
  rw [hr]
  clear hr
  go_enter Try.func10, Try.ntmps10
  by_cases hl : na = nb
  · have hl1 : (na : Int) = (nb : Int) := by omega
    have hl2 : ((na : Int) != (nb : Int)) = false := by simp; omega
    go_wp2_with fail
    clear hl1 hl2
    go_loopw [5] (fun i wr => ∃ k : Nat, k ≤ na ∧ i = .int .i64 k ∧ (∀ (j : Nat) a b, j < k → ds[j]? = some a → es[j]? = some b → kW a = kW b) ∧ Below w.heap.size w wr) (fun i _ => na - (intOf i).toNat)
    case atStart => exact ⟨0, by omega, rfl, fun j a b hj => by omega, Below.refl _ _⟩
    case round =>
      obtain ⟨k, hk, rfl, hU, hB⟩ := hrel
      by_cases hlt : k < na
      · obtain ⟨a, hka⟩ : ∃ a, ds[k]? = some a := ⟨ds[k], List.getElem?_eq_getElem (by omega)⟩
        obtain ⟨b, hkb⟩ : ∃ b, es[k]? = some b := ⟨es[k]'(by omega), List.getElem?_eq_getElem (by omega)⟩
        obtain ⟨b1, o1, rfl, hb1, hr1⟩ := (ha.kept hB).at k a hka
        obtain ⟨b2, o2, rfl, hb2, hr2⟩ := (hb.kept hB).at k b hkb
        obtain ⟨ok1, rg1⟩ := rg_of hr1 (wrE_ok.len a)
        obtain ⟨ok2, rg2⟩ := rg_of hr2 (wrE_ok.len b)
        rw [wrE_arr] at rg1 rg2
        rw [wrE_k] at ok1 rg1 ok2 rg2
        have heq := wrEq_dec a b
        have hk0 : (0 : Int) ≤ (k : Int) := by omega
        have hk1 : (k : Int) < (na : Int) := by omega
        have hk2 : (k : Int) < (nb : Int) := by omega
        clear hr1 hr2
        by_cases he : kW a = kW b
        · have heq' : wrEq a b = true := by rw [heq]; simp [he]
          have HU : Hid (∀ (j : Nat) a b, j < k + 1 → ds[j]? = some a → es[j]? = some b → kW a = kW b) := fun j x y hj hx hy => by
            rcases Nat.lt_or_ge j k with h1 | h1
            · exact hU j x y h1 hx hy
            · obtain rfl : j = k := by omega
              rw [hka] at hx; rw [hkb] at hy
              cases hx; cases hy
              exact he
          have HB : Hid (∀ n, Below w.heap.size w (wr.drewN n)) := fun n => ⟨hB.os, hB.tape, hB.output, hB.size, hB.block⟩
          clear hU heq he hka hkb hB
          go_upto_region 6 with fail
          go_quiet (fail)
          go_wp2
          go_roundw
          case rel => exact ⟨k + 1, by omega, by go_num, HU.out, HB.out _⟩
          case measure => simp [intOf]; omega
        · have heq' : wrEq a b = false := by rw [heq]; simp [he]
          have HV : Hid (r = false) := by
            show _ = _
            rw [← HR.out, decide_eq_false_iff_not]
            intro hn
            have h1 := congrArg (fun l => l[k]?) hn
            simp only [List.getElem?_map, hka, hkb, Option.map_some, Option.some.injEq] at h1
            exact he h1
          have HB : Hid (∀ n, Below w.heap.size w (wr.drewN n)) := fun n => ⟨hB.os, hB.tape, hB.output, hB.size, hB.block⟩
          clear hU heq he hka hkb hB
          go_upto_region 6 with fail
          go_quiet (fail)
          go_wp2
          go_ret
          exact ⟨by rw [HV.out]; rfl, HB.out _⟩
      · obtain rfl : k = na := by omega
        have HV : Hid (r = true) := by
          show _ = _
          rw [← HR.out, decide_eq_true_iff]
          apply List.ext_getElem?
          intro j
          simp only [List.getElem?_map]
          by_cases hj : j < ds.length
          · have hj2 : j < es.length := by omega
            rw [List.getElem?_eq_getElem hj, List.getElem?_eq_getElem hj2]
            simp only [Option.map_some]
            rw [hU j _ _ (by omega) (List.getElem?_eq_getElem hj) (List.getElem?_eq_getElem hj2)]
          · rw [List.getElem?_eq_none (by omega), List.getElem?_eq_none (by omega)]
        clear hU
        go_wp2
        go_ret
        exact ⟨by rw [HV.out]; rfl, hB⟩
  · have hl1 : ¬ (na : Int) = (nb : Int) := by omega
    have hl2 : ((na : Int) != (nb : Int)) = true := by simp; omega
    have HV : Hid (r = false) := by
      show _ = _
      rw [← HR.out, decide_eq_false_iff_not]
      intro hn
      have := congrArg List.length hn
      simp only [List.length_map] at this
      omega
    go_wp2
    go_ret
    exact ⟨by rw [HV.out]; rfl, Below.refl _ _⟩
set_option linter.unusedSimpArgs false in
set_option maxHeartbeats 2000000 in
theorem lent26_any (x : Option Addr) (n c : Nat) (l : List Wr) (w : World) (hn : l.length = n) (h : IsK wrE w (.slice x n c) l) (hl : n ≤ 1954687338211) :
    Calls Try.prog 14 #[.slice x n c] w fun e w' => ∃ g c', e = .returned (.slice (some ⟨g, 0, none⟩) n c') ∧ OwnK wrE w' w.heap.size (.slice (some ⟨g, 0, none⟩) (n + 1) c') (l ++ [(-77, secZ)]) ∧ Below w.heap.size w w' := by
  obtain ⟨y, c1, w1, g, c2, w2, hr1, hr2, hO, hB⟩ := lentK26 wrE_ok w x n c l (-77, secZ) 22 22 hn h (by show (n + 1) * 72 ≤ _; omega) (by unfold maxLen; omega)
  have hTS : wrE.S = 22 := rfl
  have hTT : wrE.T = 29 := rfl
  rw [wrE_arr] at hr2
  rw [hTS, hTT] at hr1 hr2
  have hc : n ≤ c2 := by obtain ⟨-, -, -, -, hle, -⟩ := hO.heap; omega
  have hc1 : (n : Int) ≤ (c2 : Int) := by omega
  have HO : Hid (OwnK wrE w2 w.heap.size (.slice (some ⟨g, 0, none⟩) (n + 1) c2) (l ++ [(-77, secZ)])) := hO
  have HB : Hid (Below w.heap.size w w2) := hB
  clear hO hB h hTS hTT
  go_enter Try.func14, Try.ntmps14
  go_upto_region 2 with (at_builtin; refine wpL_appT 22 rfl _ _ rfl (.slice y n c1) w1 (by exact hr1) ?_)
  clear hr1
  go_wp2_with (at_builtin; refine wpL_appT 22 rfl _ _ rfl (.slice (some ⟨g, 0, none⟩) (n + 1) c2) w2 (by exact hr2) ?_)
  go_ret
  exact ⟨g, c2, rfl, HO.out, HB.out⟩
end Go.Proofs.Ytmbkkdojjfdliaa
