
import Derived.Test.YtakbapdonngpiaaBitM
import Derived.Test.YtakbapdonngpiaaDev3
import Derived.Test.YtakbapdonngpiaaRowg
import Derived.Deep.DeepCutAuto
namespace Go.Proofs.Ytakbapdonngpiaa
open Go.RowKit

/-! assayref07: the small ones -/
def manyI (n : Int) : Int := if 64 ≤ n ∧ n ≤ 1024 then (n + 480 - 1) / 480 else 0
theorem manyI_nat (n : Nat) : manyI (n : Int) = ((manyN n : Nat) : Int) := by
  unfold manyI manyN
  by_cases h : 64 ≤ n ∧ n ≤ 1024
  · rw [if_pos (by omega), if_pos h]; omega
  · rw [if_neg (by omega), if_neg h]; rfl
theorem manyI_toNat (n : Int) : manyI n = ((manyN n.toNat : Nat) : Int) := by
  unfold manyI manyN
  by_cases h : 64 ≤ n ∧ n ≤ 1024
  · rw [if_pos h, if_pos (by omega)]; omega
  · rw [if_neg h, if_neg (by omega)]; rfl
def sumB (s : Sc) (i : Nat) : UInt8 := UInt8.ofNat ((secSum s).toNat / 256 ^ i)
def bA4 (f : Nat → UInt8) : Array Value := #[.int .u8 ((f 0).toNat : Int), .int .u8 ((f 1).toNat : Int), .int .u8 ((f 2).toNat : Int), .int .u8 ((f 3).toNat : Int)]
theorem sealS_sum (s : Sc) : sealS s = upd (upd (upd (upd s 60 (sumB s 0)) 61 (sumB s 1)) 62 (sumB s 2)) 63 (sumB s 3) := by
  unfold sealS sumB; rw [← put_four]
theorem bA4_get (f : Nat → UInt8) (k : Nat) (h : k < 4) : (bA4 f)[k]? = some (.int .u8 ((f k).toNat : Int)) := by
  rcases (by omega : k = 0 ∨ k = 1 ∨ k = 2 ∨ k = 3) with rfl | rfl | rfl | rfl <;> rfl
@[go_sem] theorem bA4_size (f : Nat → UInt8) : (bA4 f).size = 4 := by unfold bA4; simp
@[go_sem] theorem bA4_one (f : Nat → UInt8) : OneC (bA4 f) = true := by simp [OneC, bA4, Value.oneCell']
@[go_sem] theorem bA4_get0 (f : Nat → UInt8) : (bA4 f)[0]? = some (.int .u8 ((f 0).toNat : Int)) := by unfold bA4; simp
@[go_sem] theorem bA4_at0 (f : Nat → UInt8) (h : 0 < (bA4 f).size) : (bA4 f)[0] = .int .u8 ((f 0).toNat : Int) := by unfold bA4; simp
@[go_sem] theorem bA4_get1 (f : Nat → UInt8) : (bA4 f)[1]? = some (.int .u8 ((f 1).toNat : Int)) := by unfold bA4; simp
@[go_sem] theorem bA4_at1 (f : Nat → UInt8) (h : 1 < (bA4 f).size) : (bA4 f)[1] = .int .u8 ((f 1).toNat : Int) := by unfold bA4; simp
@[go_sem] theorem bA4_get2 (f : Nat → UInt8) : (bA4 f)[2]? = some (.int .u8 ((f 2).toNat : Int)) := by unfold bA4; simp
@[go_sem] theorem bA4_at2 (f : Nat → UInt8) (h : 2 < (bA4 f).size) : (bA4 f)[2] = .int .u8 ((f 2).toNat : Int) := by unfold bA4; simp
@[go_sem] theorem bA4_get3 (f : Nat → UInt8) : (bA4 f)[3]? = some (.int .u8 ((f 3).toNat : Int)) := by unfold bA4; simp
@[go_sem] theorem bA4_at3 (f : Nat → UInt8) (h : 3 < (bA4 f).size) : (bA4 f)[3] = .int .u8 ((f 3).toNat : Int) := by unfold bA4; simp
section
variable (ρ : Operand → Value) (dst : Option Tmp) (ty : TypeId) (pos : String) (after : Array Edge) (guard : Option (Nat × Bool))
end
def sealU (s : Sc) : Nat → Sc
  | 0 => s
  | k + 1 => upd (sealU s k) (60 + k) (sumB s k)
theorem sealU_all (s : Sc) : sealU s 4 = sealS s := by rw [sealS_sum]; rfl
theorem refBit_form (a : UInt8) (i : Nat) : ((((a.toNat : Int) / 2 ^ (i % 8)) % 2) == 1) = a.toNat.testBit (i % 8) := by
  rw [Nat.testBit_eq_decide_div_mod_eq]
  rw [Bool.eq_iff_iff, beq_iff_eq, decide_eq_true_iff]
  have e : ((a.toNat : Int) / 2 ^ (i % 8)) % 2 = ((a.toNat / 2 ^ (i % 8) % 2 : Nat) : Int) := by simp
  rw [e]; omega
theorem sealed_form (s : Sc) : (((s 60).toNat : Int) == ((sumB s 0).toNat : Int) && ((s 61).toNat : Int) == ((sumB s 1).toNat : Int) && ((s 62).toNat : Int) == ((sumB s 2).toNat : Int) && ((s 63).toNat : Int) == ((sumB s 3).toNat : Int)) = isSl s := by
  have e : ∀ a b : UInt8, ((a.toNat : Int) == (b.toNat : Int)) = decide (a = b) := fun a b => by
    rw [Bool.eq_iff_iff, beq_iff_eq, decide_eq_true_iff]
    constructor
    · intro h; exact UInt8.toNat.inj (by omega)
    · intro h; rw [h]
  rw [e, e, e, e, Bool.eq_iff_iff, isSl_iff]
  simp only [Bool.and_eq_true, decide_eq_true_iff]
  rw [sealS_sum]
  constructor
  · rintro ⟨⟨⟨h0, h1⟩, h2⟩, h3⟩
    apply kS_of
    intro i _
    unfold upd
    by_cases k3 : i = 63
    · rw [if_pos k3, k3, h3]
    · rw [if_neg k3]
      by_cases k2 : i = 62
      · rw [if_pos k2, k2, h2]
      · rw [if_neg k2]
        by_cases k1 : i = 61
        · rw [if_pos k1, k1, h1]
        · rw [if_neg k1]
          by_cases k0 : i = 60
          · rw [if_pos k0, k0, h0]
          · rw [if_neg k0]
  · intro h
    have h0 := kS_at h 60 (by omega)
    have h1 := kS_at h 61 (by omega)
    have h2 := kS_at h 62 (by omega)
    have h3 := kS_at h 63 (by omega)
    simp [upd] at h0 h1 h2 h3
    exact ⟨⟨⟨h0.symm, h1.symm⟩, h2.symm⟩, h3.symm⟩
end Go.Proofs.Ytakbapdonngpiaa
