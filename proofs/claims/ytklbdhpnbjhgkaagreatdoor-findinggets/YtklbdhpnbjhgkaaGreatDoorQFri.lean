import Derived.Test.YtklbdhpnbjhgkaaGreatDoorQFrh
namespace Go.Proofs.YtklbdhpnbjhgkaaGreatDoor
open Go.RowKit Go.Sort

/-! The loops over the lists -/
theorem GotO.lts {w : World} {B : Nat} {b : List UInt8} {R : Array Value} {v : Value} (h : GotO w B (getM b) R v) : ∀ st v1 v2 v3, R = rpA st v1 v2 v3 → ∀ q, (v1.ownBlock = some q ∨ v2.ownBlock = some q ∨ v3.ownBlock = some q) → B ≤ q ∧ q < w.heap.size := by
  intro st v1 v2 v3 hR q hq
  obtain ⟨st', xf, nf, cf, xd, nd, cd, xi, ni, ci, l1, l2, l3, he, h1, h2, h3, -⟩ := h.xs
  rw [he] at hR
  simp only [rpA, Array.mk.injEq, List.cons.injEq, and_true] at hR
  obtain ⟨-, e1, e2, e3⟩ := hR
  subst e1 e2 e3
  rcases hq with hq | hq | hq
  · exact World.ownsRow.lt h1 q hq
  · exact World.ownsRow.lt h2 q hq
  · exact OwnG.lt h3 q hq
def XI (W0 W : World) (F : List Nat) (B gx : Nat) (st : Int) (v1 v2 v3 : Value) (n1 n2 n3 K : Nat) : Prop := ∃ m1 m2 m3, m1.length = n1 ∧ m2.length = n2 ∧ m3.length = n3 ∧ (∀ j, j < K → m3[j]? = some (-1)) ∧ Xs W0 W F B gx st v1 v2 v3 m1 m2 m3
variable {W0 W : World} {F : List Nat} {B gx : Nat} {st : Int} {v1 v2 v3 : Value} {n1 n2 n3 K : Nat}
theorem XI.c1 (h : XI W0 W F B gx st v1 v2 v3 n1 n2 n3 K) : W.cell? ⟨gx, 1, none⟩ = some v1 := by obtain ⟨m1, m2, m3, -, -, -, -, hX⟩ := h; exact hX.c1
theorem XI.c2 (h : XI W0 W F B gx st v1 v2 v3 n1 n2 n3 K) : W.cell? ⟨gx, 2, none⟩ = some v2 := by obtain ⟨m1, m2, m3, -, -, -, -, hX⟩ := h; exact hX.c2
theorem XI.c3 (h : XI W0 W F B gx st v1 v2 v3 n1 n2 n3 K) : W.cell? ⟨gx, 3, none⟩ = some v3 := by obtain ⟨m1, m2, m3, -, -, -, -, hX⟩ := h; exact hX.c3
theorem XI.kept (h : XI W0 W F B gx st v1 v2 v3 n1 n2 n3 K) : Keep F W0 W := by obtain ⟨m1, m2, m3, -, -, -, -, hX⟩ := h; exact hX.keep
theorem XI.mark1 {x : Option Addr} {c : Nat} (h : XI W0 W F B gx st (.slice x n1 c) v2 v3 n1 n2 n3 K) (i : Nat) (hi : i < n1) : ∃ g u, x = some ⟨g, 0, none⟩ ∧ W.cell? ⟨g, i * 2, none⟩ = some u ∧ W.frozen? ⟨g, i * 2, none⟩ = false ∧ XI W0 (W.setCell ⟨g, i * 2, none⟩ (.int .i64 (-1))) F B gx st (.slice x n1 c) v2 v3 n1 n2 n3 K := by
  obtain ⟨m1, m2, m3, h1, h2, h3, h4, hX⟩ := h
  obtain ⟨g, rfl, -⟩ := OwnK.form hX.o1 (by omega)
  obtain ⟨k1, k2, k3⟩ := hX.mark1 i m1[i] (List.getElem?_eq_getElem (by omega))
  exact ⟨g, _, rfl, k1, k2, _, _, _, by rw [List.length_set]; exact h1, h2, h3, h4, k3⟩
theorem XI.mark2 {x : Option Addr} {c : Nat} (h : XI W0 W F B gx st v1 (.slice x n2 c) v3 n1 n2 n3 K) (i : Nat) (d : Dg) (hi : i < n2) : ∃ g W', x = some ⟨g, 0, none⟩ ∧ (bigStore 50 (.pointer (some ⟨g, i * 32, none⟩)) (.agg (dg_secA d))).run Tryz.prog W = .ok .skip W' ∧ XI W0 W' F B gx st v1 (.slice x n2 c) v3 n1 n2 n3 K := by
  obtain ⟨m1, m2, m3, h1, h2, h3, h4, hX⟩ := h
  obtain ⟨g, rfl, -⟩ := OwnK.form hX.o2 (by omega)
  obtain ⟨W', k1, k2⟩ := hX.mark2 i d hi
  exact ⟨g, W', rfl, k1, _, _, _, h1, by rw [List.length_set]; exact h2, h3, h4, k2⟩
theorem XI.mark3 {x : Option Addr} {c i : Nat} (h : XI W0 W F B gx st v1 v2 (.slice x n3 c) n1 n2 n3 i) (hi : i < n3) : ∃ g u, x = some ⟨g, 0, none⟩ ∧ W.cell? ⟨g, i, none⟩ = some u ∧ W.frozen? ⟨g, i, none⟩ = false ∧ XI W0 (W.setCell ⟨g, i, none⟩ (.int .i64 (-1))) F B gx st v1 v2 (.slice x n3 c) n1 n2 n3 (i + 1) := by
  obtain ⟨m1, m2, m3, h1, h2, h3, h4, hX⟩ := h
  obtain ⟨g, c9, he, -⟩ := OwnG.form hX.o3 (by intro h0; have := inV_len m3; rw [h0] at this; simp at this; omega)
  simp only [Value.slice.injEq] at he
  obtain ⟨rfl, -, -⟩ := he
  obtain ⟨k1, k2, k3⟩ := hX.mark3 i m3[i] (List.getElem?_eq_getElem (by omega))
  refine ⟨g, _, rfl, k1, k2, _, _, _, h1, h2, by rw [List.length_set]; exact h3, fun j hj => ?_, k3⟩
  by_cases e : i = j
  · subst e
    rw [List.getElem?_set_self (by omega)]
  · rw [List.getElem?_set_ne e]
    exact h4 j (by omega)
theorem XI.grow1 {x : Option Addr} {c : Nat} (h : XI W0 W F B gx st (.slice x n1 c) v2 v3 n1 n2 n3 K) (d : Fd) (hs : n1 ≤ 100000) : ∃ g c' W', (Builtin.append_ #[22, 22] 22 #[.slice x n1 c, .slice (some ⟨W.heap.size, 0, none⟩) 1 1]).run Tryz.prog (W.alloc (.cells (fdA d) 25)) = .ok (.slice (some ⟨g, 0, none⟩) (n1 + 1) c') W' ∧ W'.cell? ⟨gx, 1, none⟩ = some (.slice x n1 c) ∧ W'.frozen? ⟨gx, 1, none⟩ = false ∧ XI W0 (W'.setCell ⟨gx, 1, none⟩ (.slice (some ⟨g, 0, none⟩) (n1 + 1) c')) F B gx st (.slice (some ⟨g, 0, none⟩) (n1 + 1) c') v2 v3 (n1 + 1) n2 n3 K := by
  obtain ⟨m1, m2, m3, h1, h2, h3, h4, hX⟩ := h
  obtain ⟨g, c', W', k1, k2, k3, k4⟩ := hX.grow1 h1 d hs
  exact ⟨g, c', W', k1, k2, k3, _, _, _, by rw [List.length_append, h1]; rfl, h2, h3, h4, k4⟩
theorem XI.grow2 {x : Option Addr} {c : Nat} (h : XI W0 W F B gx st v1 (.slice x n2 c) v3 n1 n2 n3 K) (d : Dg) (hs : n2 ≤ 100000) : ∃ g c' W', (Builtin.append_ #[29, 29] 29 #[.slice x n2 c, .slice (some ⟨W.heap.size, 0, none⟩) 1 1]).run Tryz.prog (W.alloc (.cells (dg_secA d) 50)) = .ok (.slice (some ⟨g, 0, none⟩) (n2 + 1) c') W' ∧ W'.cell? ⟨gx, 2, none⟩ = some (.slice x n2 c) ∧ W'.frozen? ⟨gx, 2, none⟩ = false ∧ XI W0 (W'.setCell ⟨gx, 2, none⟩ (.slice (some ⟨g, 0, none⟩) (n2 + 1) c')) F B gx st v1 (.slice (some ⟨g, 0, none⟩) (n2 + 1) c') v3 n1 (n2 + 1) n3 K := by
  obtain ⟨m1, m2, m3, h1, h2, h3, h4, hX⟩ := h
  obtain ⟨g, c', W', k1, k2, k3, k4⟩ := hX.grow2 h2 d hs
  exact ⟨g, c', W', k1, k2, k3, _, _, _, h1, by rw [List.length_append, h2]; rfl, h3, h4, k4⟩
theorem XI.grow3 {x : Option Addr} {c : Nat} (h : XI W0 W F B gx st v1 v2 (.slice x n3 c) n1 n2 n3 n3) (hs : n3 ≤ 100000) : ∃ g c' W', (Builtin.append_ #[30, 30] 30 #[.slice x n3 c, .slice (some ⟨W.heap.size, 0, none⟩) 1 1]).run Tryz.prog (W.alloc (.cells #[.int .i64 (-1)] 3)) = .ok (.slice (some ⟨g, 0, none⟩) (n3 + 1) c') W' ∧ W'.cell? ⟨gx, 3, none⟩ = some (.slice x n3 c) ∧ W'.frozen? ⟨gx, 3, none⟩ = false ∧ XI W0 (W'.setCell ⟨gx, 3, none⟩ (.slice (some ⟨g, 0, none⟩) (n3 + 1) c')) F B gx st v1 v2 (.slice (some ⟨g, 0, none⟩) (n3 + 1) c') n1 n2 (n3 + 1) (n3 + 1) := by
  obtain ⟨m1, m2, m3, h1, h2, h3, h4, hX⟩ := h
  obtain ⟨g, c', W', k1, k2, k3, k4⟩ := hX.grow3 h3 hs
  refine ⟨g, c', W', k1, k2, k3, _, _, _, h1, h2, by rw [List.length_append, h3]; rfl, fun j hj => ?_, k4⟩
  by_cases e : j < n3
  · rw [List.getElem?_append_left (by omega)]
    exact h4 j e
  · obtain rfl : j = m3.length := by omega
    rw [List.getElem?_append_right (Nat.le_refl _), Nat.sub_self]
    rfl
theorem XI.spot3 {x : Option Addr} {c j : Nat} (h : XI W0 W F B gx st v1 v2 (.slice x n3 c) n1 n2 n3 n3) (hj : j < n3) : ∃ g, x = some ⟨g, 0, none⟩ ∧ W.cell? ⟨g, j, none⟩ = some (.int .i64 (-1)) := by
  obtain ⟨m1, m2, m3, h1, h2, h3, h4, hX⟩ := h
  obtain ⟨g, c9, he, -⟩ := OwnG.form hX.o3 (by intro h0; have := inV_len m3; rw [h0] at this; simp at this; omega)
  simp only [Value.slice.injEq] at he
  obtain ⟨rfl, -, -⟩ := he
  exact ⟨g, rfl, OwnG.cell hX.o3 j _ (inV_get _ _ _ (h4 j hj))⟩
end Go.Proofs.YtklbdhpnbjhgkaaGreatDoor
