
import Derived.Test.YthkjfgncbmpllaaDigT
import Derived.Test.YthkjfgncbmpllaaDigK2
import Derived.Lib.OthersKept
import Derived.Laws.RangeAny
namespace Go.Proofs.Ythkjfgncbmpllaa
open Go.RowKit

/-! digest.Parse -/
theorem take_short (l : List UInt8) (h : l.length < 7) : ¬ l.take 7 = frontS := fun e => by
  have := congrArg List.length e
  rw [List.length_take] at this
  have h7 : frontS.length = 7 := rfl
  omega
set_option linter.unusedSimpArgs false in
theorem hasFront (l : List UInt8) (w : World) : Calls Try.prog 29 #[.string ⟨l.toArray⟩, .string ⟨#[115, 104, 97, 50, 53, 54, 58]⟩] w fun e w' => e = .returned (.bool (decide (l.take 7 = frontS))) ∧ w' = w := by
  have hsz : (ByteArray.mk l.toArray).size = l.length := by show l.toArray.size = _; simp
  have hz7 : (ByteArray.mk #[115, 104, 97, 50, 53, 54, 58]).size = 7 := rfl
  obtain ⟨r, hr⟩ : ∃ r, decide (l.take 7 = frontS) = r := ⟨_, rfl⟩
  rw [hr]
  by_cases h7 : 7 ≤ l.length
  · have hi7 : (7 : Int) ≤ (l.length : Int) := by omega
    have hq : ∀ W, (strCut0 (.string ⟨l.toArray⟩) (.int .i64 7)).run Try.prog W = .ok (.value (.string ((ByteArray.mk l.toArray).extract 0 7))) W := fun W => run_strCut0 W _ 7 (by omega)
    by_cases hf : l.take 7 = frontS
    · have hx := front_eq l hf
      obtain rfl : r = true := by rw [← hr]; simp [hf]
      clear hr hf
      generalize (ByteArray.mk l.toArray).extract 0 7 = S7 at hx hq
      go_enter Try.func29, Try.ntmps29
      go_wp2
      go_ret
      exact ⟨rfl, rfl⟩
    · have hx := front_ne l hf
      obtain rfl : r = false := by rw [← hr]; simp [hf]
      clear hr hf
      generalize (ByteArray.mk l.toArray).extract 0 7 = S7 at hx hq
      go_enter Try.func29, Try.ntmps29
      go_wp2
      go_ret
      exact ⟨rfl, rfl⟩
  · have hi7 : ¬ (7 : Int) ≤ (l.length : Int) := by omega
    obtain rfl : r = false := by rw [← hr]; simp [take_short l (by omega)]
    clear hr
    go_enter Try.func29, Try.ntmps29
    go_wp2
    go_ret
    exact ⟨rfl, rfl⟩
theorem cutEnd (l : List UInt8) : (ByteArray.mk l.toArray).extract 7 l.length = ⟨(l.drop 7).toArray⟩ := by
  apply ByteArray.ext
  simp
  exact List.take_of_length_le (by simp)
set_option linter.unusedSimpArgs false in
theorem cutFront (l : List UInt8) (w : World) : Calls Try.prog 26 #[.string ⟨l.toArray⟩, .string ⟨#[115, 104, 97, 50, 53, 54, 58]⟩] w fun e w' => e = .returned (.tuple #[.string ⟨(if l.take 7 = frontS then l.drop 7 else l).toArray⟩, .bool (decide (l.take 7 = frontS))]) ∧ w' = w := by
  have hsz : (ByteArray.mk l.toArray).size = l.length := by show l.toArray.size = _; simp
  have hz7 : (ByteArray.mk #[115, 104, 97, 50, 53, 54, 58]).size = 7 := rfl
  have hH := hasFront l w
  by_cases hf : l.take 7 = frontS
  · have hl : 7 ≤ l.length := by
      rcases Nat.lt_or_ge l.length 7 with h | h
      · exact absurd hf (take_short l h)
      · exact h
    have hq : ∀ W, (strCut1 (.string ⟨l.toArray⟩) (.int .i64 7)).run Try.prog W = .ok (.value (.string ⟨(l.drop 7).toArray⟩)) W := fun W => by
      have := run_strCut1 W (ByteArray.mk l.toArray) 7 (by omega)
      rw [hsz, cutEnd] at this
      exact this
    rw [if_pos hf]
    rw [decide_eq_true hf] at hH ⊢
    generalize l.drop 7 = m at hq ⊢
    clear hf
    go_enter Try.func26, Try.ntmps26
    go_wp2_with fail
    refine hH.mono ?_
    rintro e w' ⟨rfl, rfl⟩
    go_wp2
    go_ret2
    exact ⟨rfl, rfl⟩
  · rw [if_neg hf]
    rw [decide_eq_false hf] at hH ⊢
    clear hf
    go_enter Try.func26, Try.ntmps26
    go_wp2_with fail
    refine hH.mono ?_
    rintro e w' ⟨rfl, rfl⟩
    go_wp2
    go_ret2
    exact ⟨rfl, rfl⟩
set_option linter.unusedSimpArgs false in
theorem cutFront2 (l : List UInt8) (w : World) : Calls Try.prog 21 #[.string ⟨l.toArray⟩, .string ⟨#[115, 104, 97, 50, 53, 54, 58]⟩] w fun e w' => e = .returned (.tuple #[.string ⟨(if l.take 7 = frontS then l.drop 7 else l).toArray⟩, .bool (decide (l.take 7 = frontS))]) ∧ w' = w := by
  have hH := cutFront l w
  generalize (if l.take 7 = frontS then l.drop 7 else l) = m at hH ⊢
  generalize decide (l.take 7 = frontS) = r at hH ⊢
  go_enter Try.func21, Try.ntmps21
  go_wp2_with fail
  refine hH.mono ?_
  rintro e w' ⟨rfl, rfl⟩
  go_wp2
  go_ret2
  exact ⟨rfl, rfl⟩
/-- What a rune stands for. -/
def rv (r : Int) : Int := if 48 ≤ r ∧ r ≤ 57 then r - 48 else if 97 ≤ r ∧ r ≤ 102 then r - 87 else -1
theorem rv_digV (c : UInt8) : rv (c.toNat : Int) = digV c := by
  have h : ∀ x : Fin 256, rv ((x.val : Nat) : Int) = digV (UInt8.ofNat x.val) := by decide +kernel
  have := h ⟨c.toNat, c.toNat_lt⟩
  simpa using this
theorem rv_high (r : Int) (h : 128 ≤ r) : rv r = -1 := by
  unfold rv
  rw [if_neg (by omega), if_neg (by omega)]
set_option linter.unusedSimpArgs false in
theorem value_any (r : Int) (h0 : 0 ≤ r) (h1 : r ≤ 2147483647) (w : World) : Calls Try.prog 22 #[.int .i32 r] w fun e w' => e = .returned (.tuple #[.int .u8 (if 0 ≤ rv r then rv r else 0), .bool (decide (0 ≤ rv r))]) ∧ w' = w := by
  by_cases ha : 48 ≤ r ∧ r ≤ 57
  · obtain ⟨a1, a2⟩ := ha
    have e : rv r = r - 48 := by unfold rv; rw [if_pos ⟨a1, a2⟩]
    rw [e, if_pos (by omega), decide_eq_true (by omega)]
    have w1 : IntKind.i32.wrap (r - 48) = r - 48 := by simp [IntKind.wrap, IntKind.bits, IntKind.signed]; omega
    have w2 : IntKind.u8.wrap (r - 48) = r - 48 := by simp [IntKind.wrap, IntKind.bits, IntKind.signed]; omega
    go_enter Try.func22, Try.ntmps22
    go_wp2
    go_ret2
    exact ⟨rfl, rfl⟩
  · by_cases hb : 97 ≤ r ∧ r ≤ 102
    · obtain ⟨a1, a2⟩ := hb
      have e : rv r = r - 87 := by unfold rv; rw [if_neg ha, if_pos ⟨a1, a2⟩]
      rw [e, if_pos (by omega), decide_eq_true (by omega)]
      have a3 : 48 ≤ r := by omega
      have a4 : ¬ r ≤ 57 := by omega
      have w1 : IntKind.i32.wrap (r - 97) = r - 97 := by simp [IntKind.wrap, IntKind.bits, IntKind.signed]; omega
      have w2 : IntKind.u8.wrap (r - 97) = r - 97 := by simp [IntKind.wrap, IntKind.bits, IntKind.signed]; omega
      have w3 : IntKind.u8.wrap (r - 97 + 10) = r - 87 := by simp [IntKind.wrap, IntKind.bits, IntKind.signed]; omega
      clear ha
      go_enter Try.func22, Try.ntmps22
      go_wp2
      go_ret2
      exact ⟨by first | rfl | rw [w3], rfl⟩
    · have e : rv r = -1 := by unfold rv; rw [if_neg ha, if_neg hb]
      rw [e, if_neg (by omega), decide_eq_false (by omega)]
      clear e
      rcases (by omega : r < 48 ∨ (57 < r ∧ r < 97) ∨ 102 < r) with c | ⟨c, c'⟩ | c
      · have a3 : ¬ 48 ≤ r := by omega
        have a4 : ¬ 97 ≤ r := by omega
        clear ha hb
        go_enter Try.func22, Try.ntmps22
        go_wp2
        go_ret2
        exact ⟨rfl, rfl⟩
      · have a3 : 48 ≤ r := by omega
        have a5 : ¬ r ≤ 57 := by omega
        have a4 : ¬ 97 ≤ r := by omega
        clear ha hb
        go_enter Try.func22, Try.ntmps22
        go_wp2
        go_ret2
        exact ⟨rfl, rfl⟩
      · have a3 : 48 ≤ r := by omega
        have a5 : ¬ r ≤ 57 := by omega
        have a4 : 97 ≤ r := by omega
        have a6 : ¬ r ≤ 102 := by omega
        clear ha hb
        go_enter Try.func22, Try.ntmps22
        go_wp2
        go_ret2
        exact ⟨rfl, rfl⟩
end Go.Proofs.Ythkjfgncbmpllaa
