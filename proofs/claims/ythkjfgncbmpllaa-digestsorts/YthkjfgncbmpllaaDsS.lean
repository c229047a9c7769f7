
import Derived.Test.YthkjfgncbmpllaaDsT
namespace Go.Proofs.Ythkjfgncbmpllaa
open Go.RowKit

def dN (d : Dg) : Nat := dnum d 32
def nums (ds : List Dg) : List Nat := ds.map dN
theorem nums_len (ds : List Dg) : (nums ds).length = ds.length := by simp [nums]
theorem nums_get (ds : List Dg) (i : Nat) (d : Dg) (h : ds[i]? = some d) : (nums ds)[i]? = some (dN d) := by simp [nums, h]
theorem secEq_num (a b : Dg) : dg_secEq a b = decide (dN a = dN b) := by
  rw [Bool.eq_iff_iff, dg_secEq_iff, decide_eq_true_iff]
  exact ⟨fun h => dnum_congr a b 32 h, fun h => dnum_inj a b 32 h⟩
theorem secA_num (a b : Dg) : dg_secA a = dg_secA b ↔ dN a = dN b := by
  rw [dg_secA_inj]
  exact ⟨fun h => dnum_congr a b 32 h, fun h => dnum_inj a b 32 h⟩
theorem dcmp_num (a b : Dg) : dcmp a b = if dN a < dN b then -1 else if dN b < dN a then 1 else 0 := rfl
/-- Two rising lists with the same members are the same. -/
theorem asc_unique : ∀ (l m : List Nat), l.Pairwise (· < ·) → m.Pairwise (· < ·) → (∀ x, x ∈ l ↔ x ∈ m) → l = m
  | [], [], _, _, _ => rfl
  | [], y :: m, _, _, h => by have := (h y).2 (by simp); cases this
  | x :: l, [], _, _, h => by have := (h x).1 (by simp); cases this
  | x :: l, y :: m, hl, hm, h => by
    rw [List.pairwise_cons] at hl hm
    have hxy : x = y := by
      rcases List.mem_cons.1 ((h x).1 (by simp)) with e | e
      · exact e
      · rcases List.mem_cons.1 ((h y).2 (by simp)) with e' | e'
        · exact e'.symm
        · have h1 := hm.1 x e
          have h2 := hl.1 y e'
          omega
    subst hxy
    rw [asc_unique l m hl.2 hm.2 fun z => ?_]
    constructor
    · intro hz
      rcases List.mem_cons.1 ((h z).1 (by simp [hz])) with e | e
      · have := hl.1 z hz; omega
      · exact e
    · intro hz
      rcases List.mem_cons.1 ((h z).2 (by simp [hz])) with e | e
      · have := hm.1 z hz; omega
      · exact e
theorem asc_len : ∀ (l m : List Nat), l.Pairwise (· < ·) → (∀ x ∈ l, x ∈ m) → l.length ≤ m.length
  | [], m, _, _ => by simp
  | x :: l, m, hl, h => by
    rw [List.pairwise_cons] at hl
    have hx := h x (by simp)
    have := asc_len l (m.erase x) hl.2 (fun z hz => (List.mem_erase_of_ne (by have := hl.1 z hz; omega)).2 (h z (by simp [hz])))
    rw [List.length_erase_of_mem hx] at this
    have hp := List.length_pos_of_mem hx
    simp only [List.length_cons]
    omega
/-- What Sorted owes. -/
def SortedTo (ds rs : List Dg) : Prop := (nums rs).Pairwise (· < ·) ∧ ∀ n, n ∈ nums rs ↔ n ∈ nums ds
theorem SortedTo.unique {ds es rs ts : List Dg} (h : SortedTo ds rs) (k : SortedTo es ts) (he : ∀ n, n ∈ nums ds ↔ n ∈ nums es) : nums rs = nums ts :=
  asc_unique _ _ h.1 k.1 fun x => by rw [h.2, k.2, he]
set_option linter.unusedSimpArgs false in
set_option maxHeartbeats 400000 in
theorem same_any (xa xb : Option Addr) (ca cb : Nat) (ds es : List Dg) (w : World) (ha : IsDs w (.slice xa ds.length ca) ds) (hb : IsDs w (.slice xb es.length cb) es) (hlen : ds.length ≤ 140737488355328) :
    Calls Try.prog 12 #[.slice xa ds.length ca, .slice xb es.length cb] w fun e w' => e = .returned (.bool (decide (nums ds = nums es))) ∧ Below w.heap.size w w' := by
  obtain ⟨r, hr⟩ : ∃ r, decide (nums ds = nums es) = r := ⟨_, rfl⟩
  have HR : Hid _ := hr
  rw [hr]
  clear hr
  go_enter Try.func12, Try.ntmps12
  by_cases hl : ds.length = es.length
  · have hl1 : (ds.length : Int) = (es.length : Int) := by omega
    have hl2 : ((ds.length : Int) != (es.length : Int)) = false := by simp; omega
    go_wp2_with fail
    clear hl1 hl2
    go_loopw [13] (fun i wr => ∃ k : Nat, k ≤ ds.length ∧ i = .int .i64 k ∧ (∀ (j : Nat) a b, j < k → ds[j]? = some a → es[j]? = some b → dN a = dN b) ∧ Below w.heap.size w wr) (fun i _ => ds.length - (intOf i).toNat)
    case atStart => exact ⟨0, by omega, rfl, fun j a b hj => by omega, Below.refl _ _⟩
    case round =>
      obtain ⟨k, hk, rfl, hU, hB⟩ := hrel
      by_cases hlt : k < ds.length
      · obtain ⟨a, hka⟩ : ∃ a, ds[k]? = some a := ⟨ds[k], List.getElem?_eq_getElem hlt⟩
        obtain ⟨b, hkb⟩ : ∃ b, es[k]? = some b := ⟨es[k]'(by omega), List.getElem?_eq_getElem (by omega)⟩
        obtain ⟨b1, o1, rfl, hb1, ok1, rg1⟩ := (ha.kept hB).at k a hka
        obtain ⟨b2, o2, rfl, hb2, ok2, rg2⟩ := (hb.kept hB).at k b hkb
        have heq := secEq_num a b
        have hk0 : (0 : Int) ≤ (k : Int) := by omega
        have hk1 : (k : Int) < (ds.length : Int) := by omega
        have hk2 : (k : Int) < (es.length : Int) := by omega
        by_cases he : dN a = dN b
        · have heq' : dg_secEq a b = true := by rw [heq]; simp [he]
          have HU : Hid (∀ (j : Nat) a b, j < k + 1 → ds[j]? = some a → es[j]? = some b → dN a = dN b) := fun j x y hj hx hy => by
            rcases Nat.lt_or_ge j k with h1 | h1
            · exact hU j x y h1 hx hy
            · obtain rfl : j = k := by omega
              rw [hka] at hx; rw [hkb] at hy
              cases hx; cases hy
              exact he
          have HB : Hid (∀ n, Below w.heap.size w (wr.drewN n)) := fun n => below_drew4 hB n
          clear hU heq he hka hkb hB
          go_upto_region 6 with fail
          go_quiet (fail)
          go_wp2
          go_roundw
          case rel => first | exact ⟨k + 1, by omega, by go_num, HU.out, HB.out _⟩ | ((repeat apply Exists.intro); refine ⟨⟨k + 1, by omega, ?_, HU.out, HB.out _⟩, rfl⟩; go_num)
          case measure => simp [intOf]; omega
        · have heq' : dg_secEq a b = false := by rw [heq]; simp [he]
          have HV : Hid (r = false) := by
            show _ = _
            rw [← HR.out, decide_eq_false_iff_not]
            intro hn
            have h1 := nums_get ds k a hka
            rw [hn, nums_get es k b hkb] at h1
            simp at h1
            exact he h1.symm
          have HB : Hid (∀ n, Below w.heap.size w (wr.drewN n)) := fun n => below_drew4 hB n
          clear hU heq he hka hkb hB
          go_upto_region 6 with fail
          go_quiet (fail)
          go_wp2
          go_ret
          exact ⟨by rw [HV.out]; rfl, HB.out _⟩
      · obtain rfl : k = ds.length := by omega
        have HV : Hid (r = true) := by
          show _ = _
          rw [← HR.out, decide_eq_true_iff]
          apply List.ext_getElem?
          intro j
          by_cases hj : j < ds.length
          · have hj2 : j < es.length := by omega
            rw [nums_get ds j _ (List.getElem?_eq_getElem hj), nums_get es j _ (List.getElem?_eq_getElem hj2), hU j _ _ hj (List.getElem?_eq_getElem hj) (List.getElem?_eq_getElem hj2)]
          · rw [List.getElem?_eq_none (by rw [nums_len]; omega), List.getElem?_eq_none (by rw [nums_len]; omega)]
        clear hU
        go_wp2
        go_ret
        exact ⟨by rw [HV.out]; rfl, hB⟩
  · have hl1 : ¬ (ds.length : Int) = (es.length : Int) := by omega
    have hl2 : ((ds.length : Int) != (es.length : Int)) = true := by simp; omega
    have HV : Hid (r = false) := by
      show _ = _
      rw [← HR.out, decide_eq_false_iff_not]
      intro hn
      have := congrArg List.length hn
      rw [nums_len, nums_len] at this
      exact hl this
    go_wp2
    go_ret
    exact ⟨by rw [HV.out]; rfl, Below.refl _ _⟩
end Go.Proofs.Ythkjfgncbmpllaa
