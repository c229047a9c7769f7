import Derived.WalkKit
namespace Go.Proofs.YtklbdhpnbjhgkaaGreatDoor

/-! Digests as numbers and as texts: plain mathematics. -/
/-- The number that the first k bytes make. -/
def dnum (s : Nat → UInt8) : Nat → Nat
  | 0 => 0
  | k + 1 => dnum s k * 256 + (s k).toNat
theorem dnum_congr (a b : Nat → UInt8) : ∀ k, (∀ i, i < k → a i = b i) → dnum a k = dnum b k
  | 0, _ => rfl
  | k + 1, h => by rw [dnum, dnum, dnum_congr a b k (fun i hi => h i (by omega)), h k (by omega)]
theorem dnum_lt (a b : Nat → UInt8) (i : Nat) (h : ∀ j, j < i → a j = b j) (hl : (a i).toNat < (b i).toNat) : ∀ k, i < k → dnum a k < dnum b k
  | 0, hk => by omega
  | k + 1, hk => by
    rw [dnum, dnum]
    have h1 := (a k).toNat_lt
    have h2 := (b k).toNat_lt
    rcases Nat.lt_or_ge i k with hik | hik
    · have := dnum_lt a b i h hl k hik
      omega
    · have e : k = i := by omega
      subst e
      rw [dnum_congr a b k h]
      omega
/-- The order of two digests. -/
def dcmp (a b : Nat → UInt8) : Int := if dnum a 32 < dnum b 32 then -1 else if dnum b 32 < dnum a 32 then 1 else 0
theorem dcmp_lt {a b : Nat → UInt8} {i : Nat} (h : ∀ j, j < i → a j = b j) (hl : (a i).toNat < (b i).toNat) (hi : i < 32) : dcmp a b = -1 := by
  unfold dcmp
  rw [if_pos (dnum_lt a b i h hl 32 hi)]
theorem dcmp_gt {a b : Nat → UInt8} {i : Nat} (h : ∀ j, j < i → a j = b j) (hl : (b i).toNat < (a i).toNat) (hi : i < 32) : dcmp a b = 1 := by
  have := dnum_lt b a i (fun j hj => (h j hj).symm) hl 32 hi
  unfold dcmp
  rw [if_neg (by omega), if_pos this]
theorem dcmp_eq {a b : Nat → UInt8} (h : ∀ j, j < 32 → a j = b j) : dcmp a b = 0 := by
  have := dnum_congr a b 32 h
  unfold dcmp
  rw [if_neg (by omega), if_neg (by omega)]
/-! Texts that are read -/
end Go.Proofs.YtklbdhpnbjhgkaaGreatDoor
