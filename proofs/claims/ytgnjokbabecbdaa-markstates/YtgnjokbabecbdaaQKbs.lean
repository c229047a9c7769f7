import Derived.Test.YtgnjokbabecbdaaQKbt
namespace Go.Proofs.Ytgnjokbabecbdaa
open Go.RowKit

/-! A slice that lies in the same memory as another one, to which is appended -/
variable {α : Type} {E : EK α}
theorem OwnK.beside (O : E.Ok) {w w' : World} {B n c : Nat} {x : Option Addr} {p : Value} {xs ps : List α} (hx : OwnK E w B (.slice x n c) xs) (hp : OwnK E w B p (xs ++ ps)) (hp' : OwnK E w' B p (xs ++ ps)) (hg : w.grownBy w' p.ownBlock) : OwnK E w' B (.slice x n c) xs := by
  by_cases hne : (Value.slice x n c).ownBlock = none ∨ (Value.slice x n c).ownBlock ≠ p.ownBlock
  · exact World.ownsRow.kept hx hg hne
  · have h1 : (Value.slice x n c).ownBlock ≠ none := fun e => hne (.inl e)
    have h2 : (Value.slice x n c).ownBlock = p.ownBlock := by
      by_cases e : (Value.slice x n c).ownBlock = p.ownBlock
      · exact e
      · exact absurd (.inr e) hne
    rcases hx.2 with ⟨e, -⟩ | ⟨g, cap, cur, e, -⟩
    · rw [e] at h1; exact absurd rfl h1
    · have hx0 := hx
      rw [e] at h2 hx0 ⊢
      obtain ⟨c1, n1, -, k1, -, -, s1, -⟩ := OwnK.heap hx0
      rcases hp.2 with ⟨e2, -⟩ | ⟨g2, cap2, cur2, e2, -⟩
      · rw [e2] at h2; cases h2
      · rw [e2] at h2 hp hp'
        have h3 : g = g2 := by simpa [Value.ownBlock] using h2
        subst h3
        obtain ⟨c3, n3, -, k3, -, -, s3, -⟩ := OwnK.heap hp
        rw [k1] at k3
        have hc : c1 = c3 := by cases k3; rfl
        subst hc
        have hk := O.kp
        have hcc : cap = cap2 := Nat.eq_of_mul_eq_mul_right hk (by rw [← s1, ← s3])
        subst hcc
        have := OwnK.cut O hp' xs.length (by rw [n3, List.length_append]; omega)
        rw [List.take_left] at this
        exact this
end Go.Proofs.Ytgnjokbabecbdaa
