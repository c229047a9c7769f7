import Derived.Test.YtfdigmlhjjdggaaQNam5
import Derived.Lib.Bytealg
import Derived.Lib.BufferWrite
namespace Go.Proofs.Ytfdigmlhjjdggaa
open Go.RowKit

/-! name.Compare, name.Check -/
theorem cmp_bytes : ∀ l m : List UInt8, Lib.compareBytes l m = cmpL l m
  | [], [] => rfl
  | [], _ :: _ => rfl
  | _ :: _, [] => rfl
  | a :: l, b :: m => by
    rw [Lib.compareBytes, cmpL, cmp_bytes l m]
    by_cases h : a = b
    · subst h
      rw [if_neg (by simp), if_neg (by simp), if_pos rfl]
    · rw [if_neg h]
      by_cases h1 : a.toNat < b.toNat
      · rw [if_pos (by exact UInt8.lt_iff_toNat_lt.2 h1), if_pos h1]
      · have h2 : b < a := UInt8.lt_iff_toNat_lt.2 (by have : a.toNat ≠ b.toNat := fun e => h (UInt8.toNat_inj.1 e); omega)
        rw [if_neg (fun e => h1 (UInt8.lt_iff_toNat_lt.1 e)), if_pos h2, if_neg h1]
/-- What of a rune the switch asks: which are letters of a name -/
def rnC (v : Nat) (k : Nat) : Bool := (decide (65 ≤ v ∧ v ≤ 90) || decide (97 ≤ v ∧ v ≤ 122) || decide (48 ≤ v ∧ v ≤ 57) || decide (v = 95)) || (decide (0 < k) && (decide (v = 46) || decide (v = 45)))
theorem rnC_byte (l : List UInt8) (k : Nat) : rnC (lB l k).toNat k = okC l k := by
  unfold rnC okC chN ch2
  cases decide (65 ≤ (lB l k).toNat ∧ (lB l k).toNat ≤ 90) <;> cases decide (97 ≤ (lB l k).toNat ∧ (lB l k).toNat ≤ 122) <;> rfl
theorem rnC_high {v k : Nat} (h : 128 ≤ v) : rnC v k = false := by
  unfold rnC
  rw [decide_eq_false (by omega), decide_eq_false (by omega), decide_eq_false (by omega), decide_eq_false (by omega), decide_eq_false (by omega : ¬ v = 46), decide_eq_false (by omega : ¬ v = 45)]
  simp
theorem sz_byte (s : ByteArray) (k : Nat) (h : k < s.size) : s[k]'h = lB (lS s) k := by
  unfold lB lS
  have h2 : k < s.data.size := h
  rw [Array.getElem?_toList, Array.getElem?_eq_getElem h2]; rfl
theorem dec_any (s : ByteArray) (k : Nat) (h : k < s.size) : ∃ v d, Utf8.decode s k = (v, d) ∧ v ≤ 2147483647 ∧ rnC v k = okC (lS s) k ∧ (okC (lS s) k = true → d = 1) := by
  have hle := decode_le s k
  by_cases ha : (s[k]'h).toNat < 128
  · have e := decode_ascii s k h ha
    rw [e] at hle
    exact ⟨_, _, e, hle, by rw [sz_byte]; exact rnC_byte _ _, fun _ => rfl⟩
  · have hh := decode_high s k h (by omega)
    have hn : okC (lS s) k = false := by
      rw [← rnC_byte]
      exact rnC_high (by rw [← sz_byte s k h]; omega)
    obtain ⟨v, d, hd⟩ : ∃ v d, Utf8.decode s k = (v, d) := ⟨_, _, rfl⟩
    rw [hd] at hle hh
    exact ⟨v, d, hd, hle, by rw [rnC_high hh.1, hn], fun e => by rw [hn] at e; cases e⟩
end Go.Proofs.Ytfdigmlhjjdggaa
