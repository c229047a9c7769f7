
import Derived.Test.YtmbkkdojjfdliaaDev1
namespace Go.Proofs.Ytmbkkdojjfdliaa
open Go.RowKit

/-! assaylaw05's helpers -/
def kS (s : Sc) : List UInt8 := (List.range 64).map s
def kW (x : Wr) : Int × List UInt8 := (x.1, kS x.2)
theorem secEq_dec (a b : Sc) : secEq a b = decide (kS a = kS b) := by
  rw [← beq_secL]
  show (kS a == kS b) = _
  rw [Bool.eq_iff_iff, beq_iff_eq, decide_eq_true_iff]
theorem kS_iff (a b : Sc) : kS a = kS b ↔ secA a = secA b := by
  rw [secA_inj, ← secEq_iff, secEq_dec, decide_eq_true_iff]
theorem wrEq_dec (a b : Wr) : wrEq a b = decide (kW a = kW b) := by
  unfold wrEq kW
  rw [Bool.eq_iff_iff, decide_eq_true_iff, Bool.and_eq_true, beq_iff_eq, secEq_dec, decide_eq_true_iff, Prod.mk.injEq]
theorem kW_iff (a b : Wr) : kW a = kW b ↔ wrA a = wrA b := by
  unfold kW
  rw [Prod.mk.injEq, kS_iff]
  constructor
  · rintro ⟨h1, h2⟩
    unfold wrA
    rw [h1, h2]
  · intro h
    have h1 := congrArg (fun x => x[0]?) h
    simp only [wrA_at, Option.some.injEq, Value.int.injEq, true_and] at h1
    have h2 := congrArg (fun x => x.extract 1 (1 + 64)) h
    simp only [wrA_data] at h2
    exact ⟨h1, h2⟩
theorem wrE_enc (a : Wr) : wrE.enc a = (wrA a).toList := by simp only [wrE]
theorem wrE_arr (a : Wr) : (wrE.enc a).toArray = wrA a := by rw [wrE_enc, Array.toArray_toList]
theorem wrE_k : EK.k wrE = 65 := rfl

end Go.Proofs.Ytmbkkdojjfdliaa
