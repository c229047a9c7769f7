
import Derived.Test.YtnkchcnamcageaaNam3
namespace Go.Proofs.Ytnkchcnamcageaa
open Go.RowKit

/-! assayref13: Get -/
theorem IsB.front13 {w : World} {b o m c n : Nat} {l : List UInt8} (h : IsB w (.slice (some ⟨b, o, none⟩) n c) l) (hm : m ≤ l.length) : IsB w (.slice (some ⟨b, o, none⟩) m c) (l.take m) := by
  rcases h with ⟨h, _⟩ | ⟨y, d, he, hc⟩
  · cases h
  · simp only [Value.slice.injEq, Option.some.injEq] at he
    obtain ⟨rfl, rfl, rfl⟩ := he
    have hl : (l.take m).length = m := by rw [List.length_take]; omega
    refine .inr ⟨_, c, by rw [hl], fun i hi => ?_⟩
    rw [hc i (by omega), List.getElem_take]
theorem IsB.byte13 {w : World} {b o n c : Nat} {l : List UInt8} (h : IsB w (.slice (some ⟨b, o, none⟩) n c) l) (i : Nat) (hi : i < l.length) : w.cell? ⟨b, o + i, none⟩ = some (.int .u8 ((lB l i).toNat : Int)) := by
  rcases h with ⟨h, _⟩ | ⟨y, d, he, hc⟩
  · cases h
  · simp only [Value.slice.injEq, Option.some.injEq] at he
    obtain ⟨rfl, rfl, rfl⟩ := he
    have := hc i hi
    rw [addr_add] at this
    rw [this]; unfold lB; rw [List.getElem?_eq_getElem hi]; rfl
def GetPost (l : List UInt8) (n : Int) (w : World) (e : Ending) (w' : World) : Prop := e = .returned (.tuple #[.string ⟨(getS l n).toArray⟩, .bool (getB l n)]) ∧ Below w.heap.size w w'
theorem get_no {l : List UInt8} {n : Int} (h : getB l n = false) : getS l n = [] := by unfold getS; rw [h]; rfl
theorem get_yes {l : List UInt8} {n : Int} (h : getB l n = true) : getS l n = l.take n.toNat := by unfold getS; rw [h]; rfl
set_option linter.unusedSimpArgs false in
set_option maxRecDepth 100000 in
set_option maxHeartbeats 2000000 in
theorem refGet_any (l : List UInt8) (x : Option Addr) (L c : Nat) (n : Int) (w : World) (hL : l.length = L) (hLc : L ≤ c) (hl : IsB w (.slice x L c) l) : Calls Try.prog 16 #[.slice x L c, .int .i64 n] w fun e w' => GetPost l n w e w' := by
  have no : getB l n = false → ∀ w', Below w.heap.size w w' → GetPost l n w (.returned (.tuple #[.string ⟨#[]⟩, .bool false])) w' := fun h w' hb => ⟨by rw [get_no h, h], hb⟩
  by_cases h24 : L = 24
  · subst h24
    by_cases hn1 : n < 1
    · have HN : Hid _ := no (by unfold getB; rw [decide_eq_false (by omega : ¬ (1 ≤ n ∧ n ≤ 24))]; simp) w (Below.refl _ _)
      clear no
      go_enter Try.func16, Try.ntmps16
      go_wp2
      go_ret2
      exact HN.out
    by_cases hn2 : 24 < n
    · have HN : Hid _ := no (by unfold getB; rw [decide_eq_false (by omega : ¬ (1 ≤ n ∧ n ≤ 24))]; simp) w (Below.refl _ _)
      clear no
      go_enter Try.func16, Try.ntmps16
      go_wp2
      go_ret2
      exact HN.out
    obtain ⟨m, rfl⟩ : ∃ m : Nat, n = (m : Int) := ⟨n.toNat, by omega⟩
    have hGB : getB l (m : Int) = (isN (l.take m) && zeroN l m (24 - m)) := by
      unfold getB
      rw [decide_eq_true hL, decide_eq_true (by omega : 1 ≤ (m : Int) ∧ (m : Int) ≤ 24), Int.toNat_natCast]; rfl
    obtain ⟨b, o, rfl, hbw⟩ : ∃ b o, x = some ⟨b, o, none⟩ ∧ b < w.heap.size := by
      have := hL ▸ hl
      obtain ⟨b, o, e, hb, -⟩ := IsB.spot this 0 (by omega)
      exact ⟨b, o, e, hb⟩
    have hfr := hl.front13 (m := m) (by omega)
    have hcv := fun W (hb : Below w.heap.size w W) => (hfr.kept hb).str
    have hcv0 := hcv w (Below.refl _ _)
    have hsz : (ByteArray.mk (l.take m).toArray).size = m := by show (l.take m).toArray.size = m; simp; omega
    have hI := refIs_any ⟨(l.take m).toArray⟩ w (by rw [hsz]; omega)
    rw [lS_mk] at hI
    have HT : Hid (getB l (m : Int) = true → ∀ w', Below w.heap.size w w' → GetPost l (m : Int) w (.returned (.tuple #[.string ⟨(l.take m).toArray⟩, .bool true])) w') := fun h w' hb => ⟨by rw [get_yes h, h, Int.toNat_natCast], hb⟩
    have HNO : Hid _ := no
    obtain ⟨S, hS⟩ : ∃ q, ByteArray.mk (l.take m).toArray = q := ⟨_, rfl⟩
    rw [hS] at hI hcv0 HT
    simp only [hS] at hcv
    obtain ⟨R, hR⟩ : ∃ q, isN (l.take m) = q := ⟨_, rfl⟩
    rw [hR] at hI hGB
    have HGB : Hid _ := hGB
    have HBY : Hid (∀ i, i < 24 → w.cell? ⟨b, o + i, none⟩ = some (.int .u8 ((lB l i).toNat : Int))) := fun i hi => hl.byte13 i (by omega)
    have i1 : ¬ (m : Int) < 1 := by omega
    have i2 : ¬ (24 : Int) < (m : Int) := by omega
    have i3 : (0 : Int) ≤ (m : Int) := by omega
    have i4 : (m : Int) ≤ (c : Int) := by omega
    clear no hR hS hsz hfr hGB hl hn1 hn2
    go_enter Try.func16, Try.ntmps16
    go_wp2_with fail
    refine hI.mono ?_
    rintro e w1 ⟨rfl, hB⟩
    clear hI hcv0
    cases R
    · have HN : Hid _ := HNO.out (by rw [HGB.out]; rfl) w1 hB
      clear hcv HT HNO
      go_wp2
      go_ret2
      exact HN.out
    · have HG2 : Hid (getB l (m : Int) = zeroN l m (24 - m)) := by show _ = _; rw [HGB.out]; rfl
      clear HGB
      go_wp2_with fail
      go_loopw [6] (fun iv wr => ∃ k : Nat, (m ≤ k ∧ k ≤ 24) ∧ iv = .int .i64 k ∧ Hid (zeroN l m (k - m) = true) ∧ Below w.heap.size w wr) (fun iv _ => 24 - (intOf iv).toNat)
      case atStart => exact ⟨m, by omega, rfl, by show zeroN l m (m - m) = true; rw [Nat.sub_self]; rfl, hB⟩
      case round =>
        clear hB
        obtain ⟨k, ⟨hk1, hk2⟩, rfl, HZ, hB⟩ := hrel
        by_cases hlt : k < 24
        · have j0 : (0 : Int) ≤ (k : Int) := by omega
          have j1 : (k : Int) < 24 := by omega
          have cc : wr.cell? ⟨b, o + k, none⟩ = some (.int .u8 ((lB l k).toNat : Int)) := by rw [hB.cell hbw]; exact HBY.out k hlt
          obtain ⟨y, hy⟩ : ∃ q, lB l k = q := ⟨_, rfl⟩
          rw [hy] at cc
          by_cases h0 : y = 0
          · have f0 : ((y.toNat : Int) != 0) = false := by rw [h0]; rfl
            have HZ2 : Hid (zeroN l m (k + 1 - m) = true) := by
              show _ = true
              rw [show k + 1 - m = (k - m) + 1 by omega, zeroN, HZ.out, show m + (k - m) = k by omega, hy, h0]; rfl
            clear HZ hcv hy
            go_wp2
            go_roundw
            case rel => first | exact ⟨k + 1, by omega, by go_num, HZ2, hB⟩ | ((repeat apply Exists.intro); refine ⟨⟨k + 1, by omega, ?_, HZ2, hB⟩, rfl⟩; go_num)
            case measure => simp [intOf]; omega
          · have f0 : ((y.toNat : Int) != 0) = true := bne_iff_ne.2 (by
              intro e
              exact h0 (UInt8.toNat_inj.1 (by show y.toNat = 0; omega)))
            have HN : Hid _ := HNO.out (by
              rw [HG2.out]
              exact zeroN_not l m (k - m) _ (by omega) (by rw [show m + (k - m) = k by omega, hy]; exact h0)) wr hB
            clear HZ hcv hy
            go_wp2
            go_ret2
            exact HN.out
        · obtain rfl : k = 24 := by omega
          have hc9 := hcv wr hB
          have HN : Hid _ := HT.out (by rw [HG2.out]; exact HZ.out) wr hB
          clear hcv
          go_wp2
          go_ret2
          exact HN.out
  · have HN : Hid _ := no (by unfold getB; rw [decide_eq_false (by omega : ¬ l.length = 24)]; simp) w (Below.refl _ _)
    have hne : ((L : Int) != 24) = true := bne_iff_ne.2 (by omega)
    clear no
    go_enter Try.func16, Try.ntmps16
    go_wp2
    go_ret2
    exact HN.out
end Go.Proofs.Ytnkchcnamcageaa
