
import Derived.Test.YtligjfofnafjeaaFor2
import Derived.Test.YtligjfofnafjeaaApl
namespace Go.Proofs.Ytligjfofnafjeaa
open Go.RowKit

/-! A Forest: six lists of its own, each apart from the others, and the row that holds them -/
def foA (V : Nat → Value) : Array Value := #[V 0, V 1, V 2, V 3, V 4, V 5]
def nilV : Value := .slice none 0 0
def foZ : Nat → Value := fun _ => nilV
def updV (V : Nat → Value) (q : Nat) (v : Value) : Nat → Value := fun k => if k = q then v else V k
def updL (L : Nat → List Nat) (q : Nat) (l : List Nat) : Nat → List Nat := fun k => if k = q then l else L k
@[go_sem] theorem foA_size (V : Nat → Value) : (foA V).size = 6 := by simp [foA]
theorem foA_get (V : Nat → Value) (q : Nat) (h : q < 6) : (foA V)[q]? = some (V q) := by
  unfold foA
  rcases q with _ | _ | _ | _ | _ | _ | q <;> first | rfl | omega
theorem foA_set (V : Nat → Value) (q : Nat) (v : Value) (h : q < 6) : (foA V).setIfInBounds q v = foA (updV V q v) := by
  unfold foA updV
  rcases q with _ | _ | _ | _ | _ | _ | q <;> first | rfl | omega
/-- Every value is one cell. -/
def OneV (V : Nat → Value) : Prop := ∀ q, (V q).oneCell' = true
theorem foA_one (V : Nat → Value) (h : OneV V) : OneC (foA V) = true := by
  unfold OneC
  rw [Array.all_eq_true_iff_forall_mem]
  intro v hv
  simp only [foA] at hv
  simp at hv
  rcases hv with rfl | rfl | rfl | rfl | rfl | rfl <;> exact h _
def T21 (B n : Nat) (row : Option (Nat × Array Value)) (V : Nat → Value) (K : Nat → Bool) (P : Nat → Nat) (L : Nat → List Nat) : Nat → Option Th := fun k =>
  if k = 0 then some (thG 4 B (V 0) (bF K n)) else if k = 1 then some (thG 33 B (V 1) (uF P n)) else if k < 6 then some (thG 3 B (V k) (iF (L k))) else if k = 6 then row.map (fun r => thRow r.1 r.2) else none
theorem T21_int {B n : Nat} {ro : Option (Nat × Array Value)} {V : Nat → Value} {K : Nat → Bool} {P : Nat → Nat} {L : Nat → List Nat} {q : Nat} (h2 : 2 ≤ q) (h6 : q < 6) : T21 B n ro V K P L q = some (thG 3 B (V q) (iF (L q))) := by
  unfold T21; rw [if_neg (by omega), if_neg (by omega), if_pos h6]
/-- The lists, of which the row g holds 'row'. -/
structure Fo (n : Nat) (w W : World) (row : Option (Nat × Array Value)) (V : Nat → Value) (K : Nat → Bool) (P : Nat → Nat) (L : Nat → List Nat) : Prop where
  ga : Ga W w.heap.size (T21 w.heap.size n row V K P L)
  be : Below w.heap.size w W
variable {n : Nat} {w W W' : World} {ro : Option (Nat × Array Value)} {V : Nat → Value} {K : Nat → Bool} {P : Nat → Nat} {L : Nat → List Nat}
theorem Fo.later (h : Fo n w W ro V K P L) (hb : Below W.heap.size W W') : Fo n w W' ro V K P L := ⟨h.ga.later hb, h.be.trans (hb.mono h.ga.size)⟩
theorem Fo.kept (h : Fo n w W ro V K P L) : OwnG 4 W w.heap.size (V 0) (bF K n) := h.ga.isG (k := 0) rfl
theorem Fo.par (h : Fo n w W ro V K P L) : OwnG 33 W w.heap.size (V 1) (uF P n) := h.ga.isG (k := 1) rfl
theorem Fo.list (h : Fo n w W ro V K P L) (q : Nat) (h2 : 2 ≤ q) (h6 : q < 6) : OwnG 3 W w.heap.size (V q) (iF (L q)) := h.ga.isG (T21_int h2 h6)
theorem Fo.row {g : Nat} {c : Array Value} (h : Fo n w W (some (g, c)) V K P L) : RowC W g c := h.ga.isRow (k := 6) rfl
theorem Fo.less (h : Fo n w W ro V K P L) : Fo n w W none V K P L := ⟨h.ga.less (fun k t hk => by
  unfold T21 at hk ⊢
  by_cases h0 : k = 0
  · rw [if_pos h0] at hk ⊢; exact hk
  · rw [if_neg h0] at hk ⊢
    by_cases h1 : k = 1
    · rw [if_pos h1] at hk ⊢; exact hk
    · rw [if_neg h1] at hk ⊢
      by_cases h6 : k < 6
      · rw [if_pos h6] at hk ⊢; exact hk
      · rw [if_neg h6] at hk
        by_cases h7 : k = 6
        · rw [if_pos h7] at hk; exact absurd hk (by simp)
        · rw [if_neg h7] at hk; exact absurd hk (by simp)), h.be⟩
theorem own_slice {e : TypeId} {B : Nat} {v : Value} {xs : List Value} (h : OwnG e W B v xs) : ∃ x c, v = .slice x xs.length c := h.isG.len
theorem own_one {e : TypeId} {B : Nat} {v : Value} {xs : List Value} (h : OwnG e W B v xs) : v.oneCell' = true := by
  obtain ⟨x, c, rfl⟩ := own_slice h
  rfl
/-- The table with a list changed. -/
theorem T21_q {B q : Nat} {v : Value} {l : List Nat} (h2 : 2 ≤ q) (h6 : q < 6) : ∀ k t, T21 B n ro (updV V q v) K P (updL L q l) k = some t → updT (T21 B n ro V K P L) q (thG 3 B v (iF l)) k = some t := by
  intro k t hk
  by_cases e : k = q
  · subst e
    rw [T21_int h2 h6] at hk
    rw [updT_same]
    unfold updV updL at hk
    rw [if_pos rfl, if_pos rfl] at hk; exact hk
  · rw [updT_ne _ _ _ _ e]
    unfold T21 at hk ⊢
    have e0 : ∀ j, j = k → updV V q v j = V j ∧ updL L q l j = L j := fun j hj => by unfold updV updL; rw [if_neg (by omega), if_neg (by omega)]; exact ⟨rfl, rfl⟩
    by_cases h0 : k = 0
    · rw [if_pos h0] at hk ⊢; rw [(e0 0 h0.symm).1] at hk; exact hk
    · rw [if_neg h0] at hk ⊢
      by_cases h1 : k = 1
      · rw [if_pos h1] at hk ⊢; rw [(e0 1 h1.symm).1] at hk; exact hk
      · rw [if_neg h1] at hk ⊢
        by_cases h6 : k < 6
        · rw [if_pos h6] at hk ⊢; rw [(e0 k rfl).1, (e0 k rfl).2] at hk; exact hk
        · rw [if_neg h6] at hk ⊢; exact hk
theorem T21_row {B g : Nat} {c c' : Array Value} : ∀ k t, T21 B n (some (g, c')) V K P L k = some t → updT (T21 B n (some (g, c)) V K P L) 6 (thRow g c') k = some t := by
  intro k t hk
  by_cases e : k = 6
  · subst e; rw [updT_same]; exact hk
  · rw [updT_ne _ _ _ _ e]
    unfold T21 at hk ⊢
    rw [if_neg e] at hk ⊢; exact hk
theorem T21_k {B : Nat} {K' : Nat → Bool} : ∀ k t, T21 B n ro V K' P L k = some t → updT (T21 B n ro V K P L) 0 (thG 4 B (V 0) (bF K' n)) k = some t := by
  intro k t hk
  by_cases e : k = 0
  · subst e; rw [updT_same]; exact hk
  · rw [updT_ne _ _ _ _ e]
    unfold T21 at hk ⊢
    rw [if_neg e] at hk ⊢; exact hk
theorem T21_p {B : Nat} {P' : Nat → Nat} : ∀ k t, T21 B n ro V K P' L k = some t → updT (T21 B n ro V K P L) 1 (thG 33 B (V 1) (uF P' n)) k = some t := by
  intro k t hk
  by_cases e : k = 1
  · subst e; rw [updT_same]; exact hk
  · rw [updT_ne _ _ _ _ e]
    unfold T21 at hk ⊢
    by_cases h0 : k = 0
    · rw [if_pos h0] at hk ⊢; exact hk
    · rw [if_neg h0, if_neg e] at hk ⊢; exact hk
/-- kept[i] = b -/
theorem Fo.setK (h : Fo n w W ro V K P L) (i : Nat) (hi : i < n) (b : Bool) : ∃ g c, V 0 = .slice (some ⟨g, 0, none⟩) n c ∧ W.cell? ⟨g, i, none⟩ = some (.bool (K i)) ∧ W.frozen? ⟨g, i, none⟩ = false ∧ Fo n w (W.setCell ⟨g, i, none⟩ (.bool b)) ro V (fun j => if j = i then b else K j) P L := by
  have hO := h.kept
  obtain ⟨g, c, he, hg, -⟩ := hO.form (fun e => by have := bF_len K n; rw [e] at this; simp at this; omega)
  rw [bF_len] at he
  have hO' := hO
  rw [he] at hO'
  refine ⟨g, c, he, hO'.cell i _ (bF_get K n i hi), hO'.frozen i, ?_⟩
  obtain ⟨hO2, hg2⟩ := hO'.put i (.bool b)
  rw [bF_set] at hO2
  have hk0 : T21 w.heap.size n ro V K P L 0 = some (thG 4 w.heap.size (.slice (some ⟨g, 0, none⟩) n c) (bF K n)) := by rw [← he]; rfl
  have h9 := (h.ga.putG hk0 (Keep.of_grown hg2 (fun q hq => by cases hq; simp [Value.ownBlock])) hO2 (fun q hq => .inl hq)).1
  rw [← he] at h9
  exact ⟨h9.less T21_k, h.be.trans (hO'.below (by exact hg2) h.ga.size)⟩
theorem Fo.setP (h : Fo n w W ro V K P L) (i : Nat) (hi : i < n) (v : Nat) : ∃ g c, V 1 = .slice (some ⟨g, 0, none⟩) n c ∧ W.cell? ⟨g, i, none⟩ = some (.int .u32 (P i : Int)) ∧ W.frozen? ⟨g, i, none⟩ = false ∧ Fo n w (W.setCell ⟨g, i, none⟩ (.int .u32 (v : Int))) ro V K (fun j => if j = i then v else P j) L := by
  have hO := h.par
  obtain ⟨g, c, he, hg, -⟩ := hO.form (fun e => by have := uF_len P n; rw [e] at this; simp at this; omega)
  rw [uF_len] at he
  have hO' := hO
  rw [he] at hO'
  refine ⟨g, c, he, hO'.cell i _ (uF_get P n i hi), hO'.frozen i, ?_⟩
  obtain ⟨hO2, hg2⟩ := hO'.put i (.int .u32 (v : Int))
  rw [uF_set] at hO2
  have hk0 : T21 w.heap.size n ro V K P L 1 = some (thG 33 w.heap.size (.slice (some ⟨g, 0, none⟩) n c) (uF P n)) := by rw [← he]; rfl
  have h9 := (h.ga.putG hk0 (Keep.of_grown hg2 (fun q hq => by cases hq; simp [Value.ownBlock])) hO2 (fun q hq => .inl hq)).1
  rw [← he] at h9
  exact ⟨h9.less T21_p, h.be.trans (hO'.below (by exact hg2) h.ga.size)⟩
/-- f.q = append(f.q, i) -/
theorem Fo.app {g : Nat} (h : Fo n w W (some (g, foA V)) V K P L) (q : Nat) (h2 : 2 ≤ q) (h6 : q < 6) (i : Nat) (ty : TypeId) (hl : (L q).length ≤ 3298534883328) :
    W.cell? ⟨g, q, none⟩ = some (V q) ∧ ∃ g' m' c' w', ∃ v', v' = Value.slice (some ⟨g', 0, none⟩) m' c' ∧ (Builtin.append_ #[26, 26] ty #[V q, .slice (some ⟨W.heap.size, 0, none⟩) 1 1]).run Try.prog (W.alloc (.cells #[Value.int .i64 (i : Int)] 3)) = .ok v' w' ∧
      w'.cell? ⟨g, q, none⟩ = some (V q) ∧ w'.frozen? ⟨g, q, none⟩ = false ∧ Fo n w (w'.setCell ⟨g, q, none⟩ v') (some (g, foA (updV V q v'))) (updV V q v') K P (updL L q (L q ++ [i])) := by
  refine ⟨by rw [h.row.cell, foA_get V q h6], ?_⟩
  have bC := below_alloc W (.cells #[Value.int .i64 (i : Int)] 3)
  have h1 := h.later bC
  have hcl : (W.alloc (.cells #[Value.int .i64 (i : Int)] 3)).cell? ⟨W.heap.size, 0, none⟩ = some (.int .i64 (i : Int)) := cell_of_row _ _ 0 _ _ _ (heap_alloc_last _ _)
  have hO := h1.list q h2 h6
  obtain ⟨xq, cq, hq⟩ := own_slice hO
  rw [iF_len] at hq
  obtain ⟨g', c', w', hr, hO2, hKp, hw⟩ := apLies eltI21 (W.alloc (.cells #[Value.int .i64 (i : Int)] 3)) w.heap.size xq (L q).length cq (iF (L q)) [.int .i64 (i : Int)] W.heap.size 1 ty (by rw [← hq]; exact hO) (iF_len _) rfl (fun j u hu => by
    rcases j with _ | j
    · simp at hu; subst hu; exact hcl
    · simp at hu) (fun u hu => by simp at hu; subst hu; rfl) (by omega) h1.ga.size (by omega) (by unfold maxLen; omega)
  have e9 : iF (L q) ++ [.int .i64 (i : Int)] = iF (L q ++ [i]) := by rw [iF_app]; rfl
  rw [e9] at hO2
  rw [← hq] at hr hKp hw
  obtain ⟨v', hv'⟩ : ∃ z9, Value.slice (some ⟨g', 0, none⟩) ((L q).length + 1) c' = z9 := ⟨_, rfl⟩
  have hv : ∀ p, v'.ownBlock = some p → (V q).ownBlock = some p ∨ (W.alloc (.cells #[Value.int .i64 (i : Int)] 3)).heap.size ≤ p := fun p hp => by
    rw [← hv'] at hp
    cases hp
    exact hw
  rw [hv'] at hr hO2
  have hGA := h1.ga.putG (T21_int h2 h6) hKp hO2 hv
  have hG := hGA.1
  have hB2 := (hGA.2 [] (fun a ha => by cases ha)).below h1.ga.size
  have h3 : Fo n w w' (some (g, foA V)) (updV V q v') K P (updL L q (L q ++ [i])) := ⟨hG.less (T21_q h2 h6), h1.be.trans hB2⟩
  refine ⟨g', _, c', w', v', hv'.symm, hr, by rw [h3.row.cell, foA_get V q h6], h3.row.frozen q, ?_⟩
  have hR := h3.row.set q v'
  rw [foA_set V q v' h6] at hR
  have kc : Keep [g] w' (w'.setCell ⟨g, q, none⟩ v') := ⟨rfl, rfl, rfl, by simp [World.setCell], fun k _ hn => heap_setCell_ne w' g k q v' (fun e => hn (by simp [e]))⟩
  have hG2 := h3.ga.putRow (k := 6) (c := foA V) rfl kc hR
  exact ⟨hG2.1.less T21_row, h3.be.trans ((hG2.2 [] (fun a ha => by cases ha)).below h3.ga.size)⟩
end Go.Proofs.Ytligjfofnafjeaa
