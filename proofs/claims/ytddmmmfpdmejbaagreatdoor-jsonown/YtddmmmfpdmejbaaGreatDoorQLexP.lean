import Derived.Test.YtddmmmfpdmejbaaGreatDoorQLexN
import Derived.Test.YtddmmmfpdmejbaaGreatDoorQLex9
namespace Go.Proofs.YtddmmmfpdmejbaaGreatDoor
open Go.RowKit

/-! Tokens by themselves, and blanks between them: the mathematics of LexBlanks -/
theorem lB_app9 (b r : List UInt8) (j : Nat) (h : j < b.length) : lB (b ++ r) j = lB b j := by unfold lB; rw [List.getElem?_append_left h]
theorem lB_app0 (b r : List UInt8) (h : 0 < b.length) : lB (b ++ r) 0 = lB b 0 := lB_app9 b r 0 h
def allW (b : List UInt8) : Prop := ∀ c ∈ b, inW c = true
theorem allW_nil : allW [] := fun _ h => absurd h List.not_mem_nil
/-- b is the token t where r stands behind it. -/
def Tok (b : List UInt8) (t : Tk) (r : List UInt8) : Prop := oneTk (b ++ r) = (t, b.length) ∧ 0 < b.length
def allB (z : List UInt8) : Prop := ∀ c ∈ z, blk c = true
theorem allB_nil : allB [] := fun _ h => absurd h List.not_mem_nil
/-- Tokens, each with its bytes and the blanks behind it. -/
abbrev TD := List (List UInt8 × List UInt8 × Tk)
def lay0 : TD → List UInt8
  | [] => []
  | (b, z, _) :: D => b ++ (z ++ lay0 D)
def VD : TD → Prop
  | [] => True
  | (b, z, t) :: D => Tok b t (z ++ lay0 D) ∧ blk (lB b 0) = false ∧ allB z ∧ VD D
def atT (t : Tk) (k : Nat) : Tk := { t with at_ := (k : Int) }
def tks : Nat → TD → List Tk
  | _, [] => []
  | k, (b, z, t) :: D => atT t k :: tks (k + b.length + z.length) D
theorem drop_lB (l : List UInt8) (k : Nat) (h : k < l.length) : l.drop k = lB l k :: l.drop (k + 1) := by
  rw [List.drop_eq_getElem_cons h]; unfold lB; rw [List.getElem?_eq_getElem h]; rfl
theorem lB_drop9 (l : List UInt8) (k : Nat) : lB (l.drop k) 0 = lB l k := by unfold lB; rw [List.getElem?_drop, Nat.add_zero]
theorem cut_lay (l : List UInt8) : ∀ f k out TS p, cutF l f k out = (some TS, p) → k ≤ l.length → ∃ z D, allB z ∧ l.drop k = z ++ lay0 D ∧ VD D ∧ TS = out ++ tks (k + z.length) D
  | 0, k, out, TS, p, h, _ => by rw [cutF] at h; cases h
  | f + 1, k, out, TS, p, h, hk => by
    rw [cutF] at h
    split at h
    · rename_i hlt
      split at h
      · rename_i hb
        obtain ⟨z, D, z1, z2, z3, z4⟩ := cut_lay l f _ _ TS p h (by omega)
        refine ⟨lB l k :: z, D, fun c hc => ?_, by rw [drop_lB l k hlt, z2]; rfl, z3, by rw [z4, List.length_cons, show k + 1 + z.length = k + (z.length + 1) by omega]⟩
        rcases List.mem_cons.1 hc with rfl | hc
        · exact hb
        · exact z1 c hc
      · rename_i hb
        split at h
        · cases h
        · rename_i hn
          have hone := one_le (l.drop k) (by rw [List.length_drop]; omega)
          rw [List.length_drop] at hone
          obtain ⟨n, hnv⟩ : ∃ n, (oneTk (l.drop k)).2 = n := ⟨_, rfl⟩
          rw [hnv] at hone hn h
          obtain ⟨z, D, z1, z2, z3, z4⟩ := cut_lay l f _ _ TS p h (by omega)
          have hbl : ((l.drop k).take n).length = n := by rw [List.length_take, List.length_drop]; omega
          have hsplit : (l.drop k).take n ++ (z ++ lay0 D) = l.drop k := by rw [← z2, ← List.drop_drop, List.take_append_drop]
          refine ⟨[], ((l.drop k).take n, z, (oneTk (l.drop k)).1) :: D, allB_nil, hsplit.symm, ⟨⟨?_, by omega⟩, ?_, z1, z3⟩, ?_⟩
          · rw [hsplit, hbl, ← hnv]
          · rw [← lB_app0 _ (z ++ lay0 D) (by omega), hsplit, lB_drop9]
            simpa using hb
          · rw [z4, List.append_assoc]
            simp only [tks, atT, hbl, List.length_nil, Nat.add_zero]
            rfl
    · cases h
      refine ⟨[], [], allB_nil, by rw [List.drop_of_length_le (by omega)]; rfl, trivial, by simp [tks]⟩
/-- The same tokens, with blanks g ahead of each. -/
def layG (g : Nat → List UInt8) : Nat → TD → List UInt8
  | _, [] => []
  | i, (b, z, _) :: D => g i ++ (b ++ (z ++ layG g (i + 1) D))
def tkG (g : Nat → List UInt8) : Nat → Nat → TD → List Tk
  | _, _, [] => []
  | k, i, (b, z, t) :: D => atT t (k + (g i).length) :: tkG g (k + (g i).length + b.length + z.length) (i + 1) D
theorem cut_parts (l : List UInt8) (TS : List Tk) (p : Nat) (h : cutA l = (some TS, p)) : ∃ z D, allB z ∧ l = z ++ lay0 D ∧ VD D ∧ TS = tks z.length D := by
  obtain ⟨z, D, h1, h2, h3, h4⟩ := cut_lay l _ _ _ TS p h (Nat.zero_le _)
  exact ⟨z, D, h1, by simpa using h2, h3, by simpa using h4⟩
end Go.Proofs.YtddmmmfpdmejbaaGreatDoor
namespace Go.Proofs.YtddmmmfpdmejbaaGreatDoor
open Go.RowKit

/-! Tokens one by one -/
/-- Token i of l: where it begins, its bytes. -/
structure AtI (l : List UInt8) (TS : List Tk) (D : TD) (g : Nat → List UInt8) (i at_ : Nat) (b z : List UInt8) (t : Tk) : Prop where
  tok : TS[i]? = some (atT t at_)
  here : (l.drop at_).take (b.length + z.length) = b ++ z
  fits : at_ + (b.length + z.length) ≤ l.length
  pos : 0 < b.length
  one : cutA (b ++ z) = (some [atT t 0], 0)
  next : ∀ t', TS[i + 1]? = some t' → t'.at_ = ((at_ + (b.length + z.length) : Nat) : Int)
  last : i + 1 = TS.length → at_ + (b.length + z.length) = l.length
  grow : layG g 0 (D.take (i + 1)) = layG g 0 (D.take i) ++ (g i ++ (b ++ z))
  new : (tkG g 0 0 D)[i]? = some (atT t ((layG g 0 (D.take i)).length + (g i).length))
end Go.Proofs.YtddmmmfpdmejbaaGreatDoor
