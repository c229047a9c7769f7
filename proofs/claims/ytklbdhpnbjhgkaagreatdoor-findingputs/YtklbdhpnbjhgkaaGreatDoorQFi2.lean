import Derived.Test.YtklbdhpnbjhgkaaGreatDoorQFi1
import Derived.Test.YtklbdhpnbjhgkaaGreatDoorQFiT
import Derived.Test.YtklbdhpnbjhgkaaGreatDoorQGao
namespace Go.Proofs.YtklbdhpnbjhgkaaGreatDoor
open Go.RowKit Go.Sort

/-! Lists of findings: copied, marked, written into -/
/-- append([]api.Finding{}, l...) -/
theorem copyF22 (w : World) (x : Option Addr) (n c : Nat) (l : List Fd) (hl : IsK fdE w (.slice x n c) l) (hn : l.length = n) (hs : n * 16 ≤ 140737488355328) :
    ∃ v c' w', (Builtin.append_ #[22, 22] 22 #[.slice (some ⟨w.heap.size, 0, none⟩) 0 0, .slice x n c]).run Tryz.prog (w.alloc (.cells #[] 25)) = .ok (.slice v n c') w' ∧ OwnK fdE w' w.heap.size (.slice v n c') l ∧ Below w.heap.size w w' := by
  have b0 := below_alloc w (.cells #[] 25)
  obtain ⟨v', c', w', h1, h2, h3, -⟩ := run_appAll22 fdE_ok (w.alloc (.cells #[] 25)) w.heap.size (some ⟨w.heap.size, 0, none⟩) 0 0 [] l x n c n 22 (OwnK.lit0 fdE w) (hl.kept b0) rfl hn (by omega) hs (by unfold maxLen; omega) b0.size
  exact ⟨v', c', w', h1, h2, b0.trans h3⟩
theorem fd_lit_range (w : World) (d : Fd) : (w.alloc (.cells (fdA d) 25)).rangeAt w.heap.size 0 (fdE.enc d) := by
  rw [fdE_enc]; exact row_range (RowC.new w _ _)
/-- append(l, mk) -/
theorem markF22 (w : World) (B : Nat) (v : Option Addr) (n c : Nat) (l : List Fd) (mk : Fd) (h : OwnK fdE w B (.slice v n c) l) (hn : l.length = n) (hs : (n + 1) * 16 ≤ 140737488355328) (hb : B ≤ w.heap.size) :
    ∃ g c' w', (Builtin.append_ #[22, 22] 22 #[.slice v n c, .slice (some ⟨w.heap.size, 0, none⟩) 1 1]).run Tryz.prog (w.alloc (.cells (fdA mk) 25)) = .ok (.slice (some ⟨g, 0, none⟩) (n + 1) c') w' ∧ OwnK fdE w' B (.slice (some ⟨g, 0, none⟩) (n + 1) c') (l ++ [mk]) ∧ Below B w w' := by
  have b0 := below_alloc w (.cells (fdA mk) 25)
  subst hn
  obtain ⟨g, c', w', h1, h2, -, h3, -⟩ := run_app1K fdE_ok (w.alloc (.cells (fdA mk) 25)) B w.heap.size (.slice v l.length c) l mk 22 (h.keep b0) (fd_lit_range w mk) (by simp) (by show (l.length + 1) * 16 ≤ _; omega) (by unfold maxLen; omega) (Nat.le_trans hb b0.size)
  exact ⟨g, c', w', h1, h2, (b0.mono hb).trans (OwnK.below (h.keep b0) h3 (Nat.le_trans hb b0.size))⟩
theorem setCell_self (w : World) (g o : Nat) (v : Value) (h : w.cell? ⟨g, o, none⟩ = some v) : w.setCell ⟨g, o, none⟩ v = w := by
  have hh : (w.setCell ⟨g, o, none⟩ v).heap = w.heap := by
    apply Array.ext_getElem?
    intro j
    simp only [World.setCell, Array.getElem?_modify]
    split
    · rename_i e
      subst e
      cases hj : w.heap[g]? with
      | none => rfl
      | some ob =>
        cases ob with
        | cells cur t fr =>
          have hc : cur[o]? = some v := by
            simpa [World.cell?, hj] using h
          simp only [Option.map_some, Option.isSome_none]
          congr 2
          apply Array.ext_getElem?
          intro i
          simp only [Bool.false_eq_true, if_false]
          rw [Array.getElem?_setIfInBounds]
          split
          · rename_i e
            subst e
            obtain ⟨hlt, hv⟩ := Array.getElem?_eq_some_iff.1 hc
            simp [hlt, hv]
          · rfl
        | _ => rfl
    · rfl
  show ({ w with heap := (w.setCell ⟨g, o, none⟩ v).heap } : World) = w
  rw [hh]
/-- l[K].Kind = a, l[K].At = b: one cell of an element. -/
theorem setF_at (w : World) (g o : Nat) (a b : Value) (h : w.cell? ⟨g, o, none⟩ = some a) : w.setCells g o [a, b] = w.setCell ⟨g, o + 1, none⟩ b := by
  show ((w.setCell ⟨g, o, none⟩ a).setCell ⟨g, o + 1, none⟩ b) = _
  rw [setCell_self w g o a h]
theorem setF_kind (w : World) (g o : Nat) (a b : Value) (h : w.cell? ⟨g, o + 1, none⟩ = some b) : w.setCells g o [a, b] = w.setCell ⟨g, o, none⟩ a := by
  show ((w.setCell ⟨g, o, none⟩ a).setCell ⟨g, o + 1, none⟩ b) = _
  rw [setCell_self]
  rw [World.cell?_setCell_other _ _ _ _ (by simp)]
  exact h
theorem OwnK.frozen22 {α : Type} {E : EK α} {w : World} {B g n c : Nat} {ds : List α} (h : OwnK E w B (.slice (some ⟨g, 0, none⟩) n c) ds) (j : Nat) : w.frozen? ⟨g, j, none⟩ = false := by
  obtain ⟨cur, -, -, hg, -⟩ := h.heap
  exact frozen_of_row w g j cur _ hg
def repF (m : Fd) (n : Nat) : List Fd := List.replicate n m
theorem repF_len (m : Fd) (n : Nat) : (repF m n).length = n := by simp [repF]
theorem repF_at (m : Fd) (n i : Nat) (h : i < n) : (repF m n)[i]? = some m := by simp [repF, h]
theorem repF_succ (m : Fd) (n : Nat) : repF m n ++ [m] = repF m (n + 1) := by simp [repF, List.replicate_succ']
theorem repF_set (m : Fd) (ds : List Fd) (i : Nat) (h : i < ds.length) : (repF m i ++ ds.drop i).set i m = repF m (i + 1) ++ ds.drop (i + 1) := by
  rw [List.set_append_right _ _ (by rw [repF_len]; exact Nat.le_refl _), repF_len, Nat.sub_self, List.drop_eq_getElem_cons h, List.set_cons_zero, ← repF_succ, List.append_assoc]
  rfl
theorem fd_store22 {W : World} {g o : Nat} {d : Fd} {W' : World} (h : (Instr.storeAt fdE.T (.pointer (some ⟨g, o, none⟩)) (.agg (fdE.enc d).toArray)).run Tryz.prog W = .ok () W') : (bigStore 25 (.pointer (some ⟨g, o, none⟩)) (.agg (fdA d))).run Tryz.prog W = .ok .skip W' := by
  rw [fdE_arr] at h
  simp only [bigStore, Sem.run_bind]
  rw [show (Instr.storeAt 25 (.pointer (some ⟨g, o, none⟩)) (.agg (fdA d))).run Tryz.prog W = .ok () W' from h]
  rfl
def ngF (d : Fd) : Fd := (d.1, wrap64 (-d.2))
theorem ng_set (l : List Fd) (mk : Fd) (i : Nat) (d : Fd) (h : l[i]? = some d) : ((l.take i).map ngF ++ (l.drop i ++ [mk])).set i (ngF d) = (l.take (i + 1)).map ngF ++ (l.drop (i + 1) ++ [mk]) := by
  obtain ⟨hl, rfl⟩ := List.getElem?_eq_some_iff.1 h
  have h1 : ((l.take i).map ngF).length = i := by rw [List.length_map, List.length_take]; omega
  rw [List.set_append_right _ _ (by omega), h1, Nat.sub_self, List.drop_eq_getElem_cons hl, List.cons_append, List.set_cons_zero, List.take_succ_eq_append_getElem hl, List.map_append, List.append_assoc]
  rfl
theorem ng_at (l : List Fd) (mk : Fd) (i : Nat) (d : Fd) (h : l[i]? = some d) : ((l.take i).map ngF ++ (l.drop i ++ [mk]))[i]? = some d := by
  obtain ⟨hl, rfl⟩ := List.getElem?_eq_some_iff.1 h
  have h1 : ((l.take i).map ngF).length = i := by rw [List.length_map, List.length_take]; omega
  rw [List.getElem?_append_right (by omega), h1, Nat.sub_self, List.drop_eq_getElem_cons hl]
  rfl
end Go.Proofs.YtklbdhpnbjhgkaaGreatDoor
