import Derived.Test.YtddmmmfpdmejbaaGreatDoorQJok
namespace Go.Proofs.YtddmmmfpdmejbaaGreatDoor
open Go.RowKit

/-! assayref15.digits -/
def DgF (b : Nat) (v : Value) (x : World) : Prop := ∃ y, v = .slice (some ⟨y, 0, none⟩) 1 1 ∧ x.cell? ⟨y, 0, none⟩ = some (.int .u8 (48 + (b : Int)))
theorem DgF.keep {b : Nat} {v : Value} {w w' : World} (h : DgF b v w) (hb : Below w.heap.size w w') : DgF b v w' := by
  obtain ⟨y, e, c⟩ := h
  exact ⟨y, e, cell_later hb c⟩
/-- A text. -/
def DgS (l : List UInt8) (v : Value) (_ : World) : Prop := ∃ S, v = .string S ∧ lS S = l
theorem DgS.keep {l : List UInt8} {v : Value} {w w' : World} (h : DgS l v w) (_ : Below w.heap.size w w') : DgS l v w' := h
theorem dg_len : ∀ (f m : Nat), (digF f m).length ≤ f
  | 0, m => by simp [digF]
  | f + 1, m => by
    rw [digF]
    split
    · simp
    · have := dg_len f (m / 10)
      rw [List.length_append]; simp; omega
end Go.Proofs.YtddmmmfpdmejbaaGreatDoor
namespace Go.Proofs.YtddmmmfpdmejbaaGreatDoor
open Go.RowKit

/-! assayref15.Node: text -/
theorem quF_len (l : List UInt8) : ∀ f k out R, quF l f k out = some R → k ≤ l.length → R.length ≤ out.length + 6 * (l.length - k) + 1
  | 0, k, out, R, h, _ => by simp [quF] at h
  | f + 1, k, out, R, h, hk => by
    rw [quF] at h
    split at h
    · rename_i hlt
      split at h
      · cases h
      · rename_i hn
        obtain ⟨r1, r2, r3⟩ := rn_range (l.drop k)
        rw [List.length_drop] at r2
        have h9 := quF_len l f _ _ R h (by omega)
        have h8 := quo_len (rn (l.drop k)).1
        rw [List.length_append] at h9
        omega
    · simp at h
      rw [← h]; simp
theorem quS_len15 (l : List UInt8) : (quS l).length ≤ 6 * l.length + 2 := by
  unfold quS
  cases h : quA l with
  | none => simp
  | some R =>
    have := quF_len l _ _ _ R h (Nat.zero_le _)
    simp at this ⊢; omega
theorem txtL_len : ∀ (vs : List Nd) (b : Bool), (∀ d ∈ vs, (txtN d).length + 100 ≤ 6 * szN d) → (txtL vs b).length ≤ 6 * szL vs
  | [], b, _ => by simp [txtL]
  | d :: r, b, h => by
    have h1 := h d (by simp)
    have h2 := txtL_len r false (fun d hd => h d (by simp [hd]))
    rw [txtL, szL]
    cases b <;> simp <;> omega
theorem txtO_len : ∀ (vs : List Nd) (ks : List (List UInt8)) (b : Bool), (∀ d ∈ vs, (txtN d).length + 100 ≤ 6 * szN d) → (txtO ks vs b).length ≤ 6 * ((ks.map (fun t => t.length + 16)).sum + szL vs)
  | [], ks, b, _ => by cases ks <;> simp [txtO]
  | d :: r, ks, b, h => by
    have h1 := h d (by simp)
    have h2 := txtO_len r ks.tail false (fun d hd => h d (by simp [hd]))
    have h3 := quS_len15 (ks.headD [])
    have h4 : (ks.headD []).length + (ks.tail.map (fun t => t.length + 16)).sum ≤ (ks.map (fun t => t.length + 16)).sum := by
      cases ks with
      | nil => simp
      | cons a t => simp
    rw [txtO, szL]
    cases b <;> simp only [List.length_append, cond_true, cond_false, List.length_cons, List.length_nil] <;> omega
theorem txtN_len : ∀ d, (txtN d).length + 100 ≤ 6 * szN d := Nd.ind fun k n s ks vs ih => by
  have h1 := txtL_len vs true ih
  have h2 := txtO_len vs ks true ih
  have h3 := quS_len15 s
  have h4 := dg_len 20 n.toNat
  rw [txtN_mk, szN_mk]
  unfold digN
  split
  · simp; omega
  · split
    · split <;> simp <;> omega
    · split
      · omega
      · split
        · omega
        · split
          · simp; omega
          · simp; omega
theorem txtL_snoc : ∀ (a : List Nd) (d : Nd) (b : Bool), txtL (a ++ [d]) b = txtL a b ++ (bif (a.isEmpty && b) then [] else [44]) ++ txtN d
  | [], d, b => by cases b <;> simp [txtL]
  | x :: a, d, b => by
    rw [List.cons_append, txtL, txtL, txtL_snoc a d false]
    simp
theorem txtO_snoc : ∀ (a : List Nd) (ks : List (List UInt8)) (d : Nd) (b : Bool), txtO ks (a ++ [d]) b = txtO ks a b ++ (bif (a.isEmpty && b) then [] else [44]) ++ quS (ks[a.length]?.getD []) ++ [58] ++ txtN d
  | [], ks, d, b => by cases ks <;> cases b <;> simp [txtO]
  | x :: a, ks, d, b => by
    rw [List.cons_append, txtO, txtO, txtO_snoc a ks.tail d false]
    cases ks <;> simp
theorem frmL_at : ∀ (vs : List Nd) (j : Nat) (d : Nd), vs[j]? = some d → frmL vs = true → frmN d = true
  | [], j, d, h, _ => by simp at h
  | x :: r, 0, d, h, hf => by simp at h; subst h; rw [frmL, Bool.and_eq_true] at hf; exact hf.1
  | x :: r, j + 1, d, h, hf => by
    rw [frmL, Bool.and_eq_true] at hf
    exact frmL_at r j d (by simpa using h) hf.2
theorem szL_at : ∀ (vs : List Nd) (j : Nat) (d : Nd), vs[j]? = some d → szN d ≤ szL vs
  | [], j, d, h => by simp at h
  | x :: r, 0, d, h => by simp at h; subst h; rw [szL]; omega
  | x :: r, j + 1, d, h => by
    have := szL_at r j d (by simpa using h)
    rw [szL]; omega
theorem szL_take : ∀ (vs : List Nd) (j : Nat), szL (vs.take j) ≤ szL vs
  | [], j => by simp
  | x :: r, 0 => by rw [List.take_zero]; simp [szL]
  | x :: r, j + 1 => by
    have := szL_take r j
    rw [List.take_succ_cons, szL, szL]
    omega
end Go.Proofs.YtddmmmfpdmejbaaGreatDoor
namespace Go.Proofs.YtddmmmfpdmejbaaGreatDoor
open Go.RowKit

/-! assayref15.Node: text -/
end Go.Proofs.YtddmmmfpdmejbaaGreatDoor
