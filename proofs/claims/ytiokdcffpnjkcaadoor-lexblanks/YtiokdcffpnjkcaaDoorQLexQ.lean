import Derived.Test.YtiokdcffpnjkcaaDoorQLexP
namespace Go.Proofs.YtiokdcffpnjkcaaDoor
open Go.RowKit

/-! Tokens one by one -/
theorem lay0_app : ∀ (D D' : TD), lay0 (D ++ D') = lay0 D ++ lay0 D'
  | [], _ => rfl
  | (b, z, t) :: D, D' => by rw [List.cons_append, lay0, lay0, lay0_app D D']; simp
theorem layG_app (g : Nat → List UInt8) : ∀ (D D' : TD) (i : Nat), layG g i (D ++ D') = layG g i D ++ layG g (i + D.length) D'
  | [], _, i => by simp [layG]
  | (b, z, t) :: D, D', i => by
    rw [List.cons_append, layG, layG, layG_app g D D' (i + 1), List.length_cons, show i + 1 + D.length = i + (D.length + 1) by omega]; simp
theorem tks_len : ∀ (D : TD) (k : Nat), (tks k D).length = D.length
  | [], _ => rfl
  | (b, z, t) :: D, k => by rw [tks, List.length_cons, tks_len D, List.length_cons]
theorem tkG_len (g : Nat → List UInt8) : ∀ (D : TD) (k i : Nat), (tkG g k i D).length = D.length
  | [], _, _ => rfl
  | (b, z, t) :: D, k, i => by rw [tkG, List.length_cons, tkG_len g D, List.length_cons]
theorem tks_app : ∀ (D D' : TD) (k : Nat), tks k (D ++ D') = tks k D ++ tks (k + (lay0 D).length) D'
  | [], _, k => by simp [tks, lay0]
  | (b, z, t) :: D, D', k => by
    rw [List.cons_append, tks, tks, tks_app D D', lay0, List.length_append, List.length_append, List.cons_append, show k + b.length + z.length + (lay0 D).length = k + (b.length + (z.length + (lay0 D).length)) by omega]
theorem tkG_app (g : Nat → List UInt8) : ∀ (D D' : TD) (k i : Nat), tkG g k i (D ++ D') = tkG g k i D ++ tkG g (k + (layG g i D).length) (i + D.length) D'
  | [], _, k, i => by simp [tkG, layG]
  | (b, z, t) :: D, D', k, i => by
    rw [List.cons_append, tkG, tkG, tkG_app g D D', layG, List.length_append, List.length_append, List.length_append, List.cons_append, List.length_cons, show k + (g i).length + b.length + z.length + (layG g (i + 1) D).length = k + ((g i).length + (b.length + (z.length + (layG g (i + 1) D).length))) by omega, show i + 1 + D.length = i + (D.length + 1) by omega]
theorem VD_drop : ∀ (D : TD) (i : Nat), VD D → VD (D.drop i)
  | _, 0, h => h
  | [], _ + 1, _ => trivial
  | (_, _, _) :: D, i + 1, h => VD_drop D i h.2.2.2
theorem VD_len : ∀ (D : TD), VD D → D.length ≤ (lay0 D).length
  | [], _ => Nat.le_refl _
  | (b, z, t) :: D, h => by
    have := VD_len D h.2.2.2
    have h0 := h.1.2
    rw [lay0, List.length_append, List.length_append, List.length_cons]; omega
theorem layG_len (g : Nat → List UInt8) (hg : ∀ i, (g i).length ≤ 4) : ∀ (D : TD) (i : Nat), (layG g i D).length ≤ (lay0 D).length + 4 * D.length
  | [], _ => by simp [layG]
  | (b, z, t) :: D, i => by
    have := layG_len g hg D (i + 1)
    have := hg i
    rw [layG, lay0]
    simp only [List.length_append, List.length_cons]; omega
/-- Token i of l: where it begins, its bytes. -/
structure AtI (l : List UInt8) (TS : List Tk) (D : TD) (g : Nat → List UInt8) (i at_ : Nat) (b z : List UInt8) (t : Tk) : Prop where
  tok : TS[i]? = some (atT t at_)
  here : (l.drop at_).take (b.length + z.length) = b ++ z
  fits : at_ + (b.length + z.length) ≤ l.length
  pos : 0 < b.length
  one : cutA (b ++ z) = (some [atT t 0], 0)
  next : ∀ t', TS[i + 1]? = some t' → t'.at_ = ((at_ + (b.length + z.length) : Nat) : Int)
  last : i + 1 = TS.length → at_ + (b.length + z.length) = l.length
  grow : layG g 0 (D.take (i + 1)) = layG g 0 (D.take i) ++ (g i ++ (b ++ z))
  new : (tkG g 0 0 D)[i]? = some (atT t ((layG g 0 (D.take i)).length + (g i).length))
theorem atI_of {l z0 : List UInt8} {TS : List Tk} {D : TD} (g : Nat → List UInt8) (hl : l = z0 ++ lay0 D) (hV : VD D) (hT : TS = tks z0.length D) (i : Nat) (hi : i < D.length) : ∃ at_ b z t, AtI l TS D g i at_ b z t := by
  obtain ⟨⟨b, z, t⟩, hx⟩ : ∃ x, D[i]? = some x := ⟨_, List.getElem?_eq_getElem hi⟩
  have hx' : D[i] = (b, z, t) := by rw [List.getElem?_eq_getElem hi] at hx; exact Option.some.inj hx
  have hDd : D.drop i = (b, z, t) :: D.drop (i + 1) := by rw [List.drop_eq_getElem_cons hi, hx']
  have hD : D = D.take i ++ ((b, z, t) :: D.drop (i + 1)) := by rw [← hDd, List.take_append_drop]
  have hVi : VD ((b, z, t) :: D.drop (i + 1)) := by rw [← hDd]; exact VD_drop D i hV
  have htl : (D.take i).length = i := by rw [List.length_take]; omega
  have hlay : lay0 D = lay0 (D.take i) ++ (b ++ (z ++ lay0 (D.drop (i + 1)))) := by
    have h9 := congrArg lay0 hD
    rw [lay0_app] at h9
    exact h9
  have hl2 : l = (z0 ++ lay0 (D.take i)) ++ ((b ++ z) ++ lay0 (D.drop (i + 1))) := by rw [hl, hlay]; simp
  have hlen : l.length = z0.length + (lay0 (D.take i)).length + (b.length + z.length) + (lay0 (D.drop (i + 1))).length := by
    rw [hl2]; simp only [List.length_append]; omega
  have hTS : TS = tks z0.length (D.take i) ++ (atT t (z0.length + (lay0 (D.take i)).length) :: tks (z0.length + (lay0 (D.take i)).length + b.length + z.length) (D.drop (i + 1))) := by
    rw [hT]
    have h9 := congrArg (tks z0.length) hD
    rw [tks_app] at h9
    exact h9
  have htk : (tks z0.length (D.take i)).length = i := by rw [tks_len, htl]
  refine ⟨z0.length + (lay0 (D.take i)).length, b, z, t, ?_, ?_, by omega, hVi.1.2, cut_one hVi, ?_, ?_, ?_, ?_⟩
  · rw [hTS, List.getElem?_append_right (by omega), htk, Nat.sub_self]; rfl
  · rw [hl2, List.drop_left' (by rw [List.length_append]), List.take_left' (by rw [List.length_append])]
  · intro t' ht'
    rw [hTS, List.getElem?_append_right (by omega), htk, show i + 1 - i = 1 by omega, List.getElem?_cons_succ] at ht'
    cases hc : D.drop (i + 1) with
    | nil => rw [hc] at ht'; simp [tks] at ht'
    | cons x C =>
      obtain ⟨b', z', t9⟩ := x
      rw [hc] at ht'
      simp only [tks, List.getElem?_cons_zero, Option.some.injEq] at ht'
      rw [← ht']
      unfold atT
      simp only
      omega
  · intro hlast
    have hn : TS.length = D.length := by rw [hT, tks_len]
    have : D.drop (i + 1) = [] := List.drop_of_length_le (by omega)
    rw [this] at hlen
    simp [lay0] at hlen
    omega
  · rw [List.take_add_one, hx, layG_app, htl, Nat.zero_add]
    simp [layG]
  · have h9 := congrArg (tkG g 0 0) hD
    rw [tkG_app, Nat.zero_add, Nat.zero_add, htl] at h9
    rw [h9, List.getElem?_append_right (by rw [tkG_len, htl]; omega), tkG_len, htl, Nat.sub_self]
    rfl
/-- The blanks of a number. -/
def blS : List UInt8 := [32, 9, 10, 13]
def blkL (u : Nat) (k : Nat) : List UInt8 := (List.range k).map fun i => lB blS ((i + u % 4) % 4)
theorem blkL_len (u k : Nat) : (blkL u k).length = k := by simp [blkL]
theorem blkL_succ (u k : Nat) : blkL u (k + 1) = blkL u k ++ [lB blS ((k + u % 4) % 4)] := by simp [blkL, List.range_succ]
theorem blkL_all (u k : Nat) : allB (blkL u k) := fun c hc => by
  simp only [blkL, List.mem_map, List.mem_range] at hc
  obtain ⟨i, -, rfl⟩ := hc
  have : (i + u % 4) % 4 < 4 := Nat.mod_lt _ (by omega)
  rcases (by omega : (i + u % 4) % 4 = 0 ∨ (i + u % 4) % 4 = 1 ∨ (i + u % 4) % 4 = 2 ∨ (i + u % 4) % 4 = 3) with h | h | h | h <;> rw [h] <;> rfl
def uN (n : Int) : Nat := (n % 18446744073709551616).toNat
def gapL (zs : List Int) (i : Nat) : List UInt8 := match zs[i]? with
  | none => []
  | some n => blkL (uN n) (uN n % 5)
theorem gapL_all (zs : List Int) (i : Nat) : allB (gapL zs i) := by
  unfold gapL
  split
  · exact allB_nil
  · exact blkL_all _ _
theorem gapL_len (zs : List Int) (i : Nat) : (gapL zs i).length ≤ 4 := by
  unfold gapL
  split
  · simp
  · rw [blkL_len]; omega
end Go.Proofs.YtiokdcffpnjkcaaDoor
