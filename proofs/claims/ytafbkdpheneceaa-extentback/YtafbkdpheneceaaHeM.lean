
import Derived.Test.YtafbkdpheneceaaExtU
import Derived.Test.YtafbkdpheneceaaExt0
namespace Go.Proofs.Ytafbkdpheneceaa

/-! A heap of ranges: what stays, step by step -/
def gp (l : List Pr) (i : Nat) : Pr := l.getD i prZ
def kx (l : List Pr) (i : Nat) : Int := (gp l i).1
theorem getD_at (l : List Pr) (i : Nat) (h : i < l.length) : gp l i = l[i] := by simp [gp, List.getD_eq_getElem?_getD, h]
theorem gp_get (l : List Pr) (i : Nat) (h : i < l.length) : l[i]? = some (gp l i) := by rw [getD_at l i h]; exact List.getElem?_eq_getElem h
def swapL (l : List Pr) (i j : Nat) : List Pr := (l.set i (gp l j)).set j (gp l i)
@[simp] theorem swapL_len (l : List Pr) (i j : Nat) : (swapL l i j).length = l.length := by simp [swapL]
theorem kx_set (l : List Pr) (i : Nat) (p : Pr) (k : Nat) (hi : i < l.length) : kx (l.set i p) k = if k = i then p.1 else kx l k := by
  unfold kx gp
  rw [List.getD_eq_getElem?_getD, List.getD_eq_getElem?_getD, List.getElem?_set]
  by_cases h : k = i
  · subst h; simp [hi]
  · simp [h, Ne.symm h]
theorem kx_swap (l : List Pr) (i j k : Nat) (hi : i < l.length) (hj : j < l.length) : kx (swapL l i j) k = if k = j then kx l i else if k = i then kx l j else kx l k := by
  unfold swapL
  rw [kx_set _ _ _ _ (by simpa using hj), kx_set _ _ _ _ hi]; rfl
theorem swapL_perm (l : List Pr) (i j : Nat) (hi : i < l.length) (hj : j < l.length) : (swapL l i j).Perm l := by
  rw [List.perm_iff_count]
  intro a
  unfold swapL
  rw [getD_at _ _ hi, getD_at _ _ hj, List.count_set (by simpa using hj), List.count_set hi, List.getElem_set]
  have h1 : (if l[i] == a then 1 else 0) ≤ l.count a := by
    by_cases h : l[i] = a
    · simp only [h, beq_self_eq_true, if_true]
      exact List.count_pos_iff.2 (h ▸ List.getElem_mem hi)
    · simp [h]
  have h2 : (if l[j] == a then 1 else 0) ≤ l.count a := by
    by_cases h : l[j] = a
    · simp only [h, beq_self_eq_true, if_true]
      exact List.count_pos_iff.2 (h ▸ List.getElem_mem hj)
    · simp [h]
  by_cases e : i = j
  · subst e
    simp only [if_true]
    omega
  · simp only [e, if_false]
    omega
def HpE (l : List Pr) (k : Nat) : Prop := kx l ((k - 1) / 2) ≤ kx l k
def Hp (l : List Pr) : Prop := ∀ k, 0 < k → k < l.length → HpE l k
def UpOk (l : List Pr) (i : Nat) : Prop := (∀ k, 0 < k → k < l.length → k ≠ i → HpE l k) ∧ (0 < i → ∀ k, 0 < k → k < l.length → (k - 1) / 2 = i → kx l ((i - 1) / 2) ≤ kx l k)
theorem Hp.up {l : List Pr} (h : Hp l) (i : Nat) (hi : i < l.length) : UpOk l i :=
  ⟨fun k h0 hk _ => h k h0 hk, fun h0 k hk hl he => by
    have h1 := h k hk hl
    have h2 := h i h0 hi
    unfold HpE at h1 h2
    rw [he] at h1; omega⟩
theorem UpOk.done0 {l : List Pr} (h : UpOk l 0) : Hp l := fun k h0 hk => h.1 k h0 hk (by omega)
theorem UpOk.done {l : List Pr} {i : Nat} (h : UpOk l i) (hi : kx l ((i - 1) / 2) ≤ kx l i) : Hp l := fun k h0 hk => by
  by_cases e : k = i
  · subst e; exact hi
  · exact h.1 k h0 hk e
theorem UpOk.step {l : List Pr} {i : Nat} (h : UpOk l i) (h0 : 0 < i) (hi : i < l.length) (hlt : kx l i < kx l ((i - 1) / 2)) : UpOk (swapL l i ((i - 1) / 2)) ((i - 1) / 2) := by
  obtain ⟨p, hp⟩ : ∃ p, (i - 1) / 2 = p := ⟨_, rfl⟩
  rw [hp] at hlt ⊢
  have hpl : p < l.length := by omega
  have K := fun k => kx_swap l i p k hi hpl
  obtain ⟨h1, h2⟩ := h
  rw [hp] at h2
  constructor
  · intro k hk0 hk hkp
    rw [swapL_len] at hk
    unfold HpE
    rw [K, K]
    by_cases e : k = i
    · subst e
      rw [if_pos hp, if_neg hkp, if_pos rfl]; omega
    · have g := h1 k hk0 hk e
      unfold HpE at g
      rw [if_neg hkp, if_neg e]
      by_cases e1 : (k - 1) / 2 = p
      · rw [if_pos e1]
        rw [e1] at g
        omega
      · rw [if_neg e1]
        by_cases e2 : (k - 1) / 2 = i
        · rw [if_pos e2]
          exact h2 h0 k hk0 hk e2
        · rw [if_neg e2]; exact g
  · intro hp0 k hk0 hk he
    rw [swapL_len] at hk
    rw [K, K, if_neg (by omega), if_neg (by omega)]
    have g := h1 p hp0 hpl (by omega)
    unfold HpE at g
    by_cases e : k = i
    · rw [if_neg (by omega), if_pos e]; exact g
    · rw [if_neg (by omega), if_neg e]
      have g2 := h1 k hk0 hk e
      unfold HpE at g2
      rw [he] at g2; omega
theorem Hp.push {l : List Pr} (h : Hp l) (x : Pr) : UpOk (l ++ [x]) l.length := by
  have K : ∀ k, k < l.length → kx (l ++ [x]) k = kx l k := fun k hk => by
    unfold kx gp
    rw [List.getD_eq_getElem?_getD, List.getD_eq_getElem?_getD, List.getElem?_append_left hk]
  constructor
  · intro k h0 hk hne
    rw [List.length_append, List.length_singleton] at hk
    have := h k h0 (by omega)
    unfold HpE at this ⊢
    rw [K _ (by omega), K _ (by omega)]; exact this
  · intro _ k h0 hk he
    rw [List.length_append, List.length_singleton] at hk
    omega
def DnOk (l : List Pr) (m i : Nat) : Prop := (∀ k, 0 < k → k < l.length → (k - 1) / 2 ≠ m → k ≠ m → HpE l k) ∧ (0 < m → ∀ k, 0 < k → k < l.length → (k - 1) / 2 = m → kx l ((m - 1) / 2) ≤ kx l k) ∧ (m = i ∨ (0 < m → HpE l m))
theorem DnOk.done {l : List Pr} {m i : Nat} (h : DnOk l m i) (hi : i < l.length) (hc : ∀ c, 0 < c → c < l.length → (c - 1) / 2 = m → kx l m ≤ kx l c) : UpOk l i := by
  obtain ⟨h1, h2, h3⟩ := h
  have hE : ∀ k, 0 < k → k < l.length → k ≠ m → HpE l k := fun k k0 kl km => by
    by_cases e : (k - 1) / 2 = m
    · unfold HpE; rw [e]; exact hc k k0 kl e
    · exact h1 k k0 kl e km
  rcases h3 with rfl | h3
  · exact ⟨hE, h2⟩
  · have : Hp l := fun k k0 kl => by
      by_cases e : k = m
      · subst e; exact h3 k0
      · exact hE k k0 kl e
    exact this.up i hi
theorem DnOk.step {l : List Pr} {m i c : Nat} (h : DnOk l m i) (hm : m < l.length) (c0 : 0 < c) (hcl : c < l.length) (hcm : (c - 1) / 2 = m) (hlt : kx l c < kx l m) (hle : ∀ d, 0 < d → d < l.length → (d - 1) / 2 = m → kx l c ≤ kx l d) : DnOk (swapL l m c) c i := by
  have K := fun k => kx_swap l m c k hm hcl
  obtain ⟨h1, h2, h3⟩ := h
  refine ⟨fun k k0 hk kc kn => ?_, fun _ k k0 hk kc => ?_, ?_⟩
  · rw [swapL_len] at hk
    unfold HpE
    rw [K, K, if_neg kc, if_neg kn]
    by_cases e : k = m
    · rw [if_pos e, if_neg (by omega)]
      subst e
      exact h2 k0 c c0 hcl hcm
    · rw [if_neg e]
      by_cases e2 : (k - 1) / 2 = m
      · rw [if_pos e2]; exact hle k k0 hk e2
      · rw [if_neg e2]; exact h1 k k0 hk e2 e
  · rw [swapL_len] at hk
    rw [K, K, hcm, if_neg (by omega), if_pos rfl, if_neg (by omega), if_neg (by omega)]
    have := h1 k k0 hk (by omega) (by omega)
    unfold HpE at this
    rw [kc] at this; exact this
  · refine .inr fun _ => ?_
    unfold HpE
    rw [K, K, hcm, if_neg (by omega), if_pos rfl, if_pos rfl]; omega
/-- The element at i goes, the last one comes in its place. -/
def outL (l : List Pr) (i : Nat) : List Pr := (l.set i (gp l (l.length - 1))).take (l.length - 1)
@[simp] theorem outL_len (l : List Pr) (i : Nat) : (outL l i).length = l.length - 1 := by simp [outL]
theorem kx_out (l : List Pr) (i k : Nat) (hi : i < l.length) (hk : k < l.length - 1) : kx (outL l i) k = if k = i then kx l (l.length - 1) else kx l k := by
  have h := kx_set l i (gp l (l.length - 1)) k hi
  rw [show kx l (l.length - 1) = (gp l (l.length - 1)).1 from rfl, ← h]
  have hk2 : k < l.length := by omega
  unfold kx outL
  generalize gp l (l.length - 1) = q
  rw [getD_at _ _ (by simpa using hk), getD_at _ _ (by simpa using hk2), List.getElem_take]
theorem out_perm (l : List Pr) (i : Nat) (hi : i < l.length) : (gp l i :: outL l i).Perm l := by
  have hl : 0 < l.length := by omega
  have h1 : (l.set i (gp l (l.length - 1))).set (l.length - 1) (gp l i) = outL l i ++ [gp l i] := by
    apply List.ext_getElem?
    intro k
    rw [List.getElem?_set]
    by_cases e : l.length - 1 = k
    · subst e
      rw [if_pos rfl, if_pos (by simp; omega), List.getElem?_append_right (by simp)]
      simp
    · rw [if_neg e]
      by_cases h : k < l.length - 1
      · rw [List.getElem?_append_left (by simpa using h)]
        unfold outL
        rw [List.getElem?_take_of_lt h]
      · rw [List.getElem?_eq_none (by simp; omega), List.getElem?_eq_none (by simp; omega)]
  have h2 := swapL_perm l i (l.length - 1) hi (by omega)
  unfold swapL at h2
  rw [h1] at h2
  exact (List.perm_append_comm (l₁ := [gp l i]) (l₂ := outL l i)).trans h2
theorem Hp.out {l : List Pr} (h : Hp l) (i : Nat) (hi : i < l.length - 1) : DnOk (outL l i) i i := by
  have K := fun k hk => kx_out l i k (by omega) hk
  refine ⟨fun k k0 hk h1 h2 => ?_, fun i0 k k0 hk he => ?_, .inl rfl⟩
  · rw [outL_len] at hk
    unfold HpE
    rw [K _ (by omega), K _ hk, if_neg h1, if_neg h2]
    exact h k k0 (by omega)
  · rw [outL_len] at hk
    rw [K _ (by omega), K _ hk, if_neg (by omega), if_neg (by omega)]
    have g1 := h k k0 (by omega)
    have g2 := h i i0 (by omega)
    unfold HpE at g1 g2
    rw [he] at g1; omega
theorem Hp.out_last {l : List Pr} (h : Hp l) (i : Nat) (hi : i + 1 = l.length) : Hp (outL l i) := fun k k0 hk => by
  rw [outL_len] at hk
  unfold HpE
  rw [kx_out l i _ (by omega) (by omega), kx_out l i _ (by omega) hk, if_neg (by omega), if_neg (by omega)]
  exact h k k0 (by omega)
theorem Hp.low {l : List Pr} (h : Hp l) : ∀ k, k < l.length → kx l 0 ≤ kx l k := fun k => by
  induction k using Nat.strongRecOn with
  | ind k ih =>
    intro hk
    by_cases e : k = 0
    · subst e; omega
    · have h1 := ih ((k - 1) / 2) (by omega) (by omega)
      have h2 := h k (by omega) hk
      unfold HpE at h2
      omega
theorem Hp.nil : Hp [] := fun k _ hk => by simp at hk
theorem Hp.min {l : List Pr} (h : Hp l) (q : Pr) (hq : q ∈ l) : (gp l 0).1 ≤ q.1 := by
  obtain ⟨k, hk, rfl⟩ := List.getElem_of_mem hq
  have := h.low k hk
  unfold kx at this
  rwa [getD_at _ _ hk] at this
end Go.Proofs.Ytafbkdpheneceaa
