import Derived.Test.YtklbdhpnbjhgkaaGreatDoorQFrg
import Derived.Test.YtklbdhpnbjhgkaaGreatDoorQApl
namespace Go.Proofs.YtklbdhpnbjhgkaaGreatDoor
open Go.RowKit Go.Sort

/-! The lists of a report, marked and lengthened -/
theorem Keep.onto {F G : List Nat} {w W W' : World} (h : Keep F w W) (k : Keep G W W') (hG : ∀ q ∈ G, q ∈ F ∨ w.heap.size ≤ q) : Keep F w W' :=
  ⟨k.os.trans h.os, k.tape.trans h.tape, k.output.trans h.output, Nat.le_trans h.size k.size, fun i hi hF => (k.block i (Nat.lt_of_lt_of_le hi h.size) (fun hm => by
    rcases hG i hm with h9 | h9
    · exact hF h9
    · omega)).trans (h.block i hi hF)⟩
theorem own_apart {w : World} {B B' : Nat} {e e' : TypeId} {k k' n n' : Nat} {v v' : Value} {xs xs' : List Value} (h : w.ownsRow B e k v n xs) (h' : w.ownsRow B' e' k' v' n' xs') (hne : e ≠ e') : ∀ q, v.ownBlock = some q → v'.ownBlock ≠ some q := by
  intro q hq hq'
  rcases h.2 with ⟨rfl, -⟩ | ⟨g, cap, cur, rfl, -, hg, -⟩
  · cases hq
  · rcases h'.2 with ⟨rfl, -⟩ | ⟨g', cap', cur', rfl, -, hg', -⟩
    · cases hq'
    · simp only [Value.ownBlock, Option.some.injEq] at hq hq'
      subst hq
      subst hq'
      rw [hg] at hg'
      cases hg'
      exact hne rfl
theorem t_fd : fdE.T ≠ dgE.T := by decide
theorem t_fi : fdE.T ≠ 3 := by decide
theorem t_di : dgE.T ≠ 3 := by decide
structure Xs (W0 W : World) (F : List Nat) (B gx : Nat) (st : Int) (v1 v2 v3 : Value) (l1 : List Fd) (l2 : List Dg) (l3 : List Int) : Prop where
  keep : Keep F W0 W
  row : RowC W gx (rpA st v1 v2 v3)
  o1 : OwnK fdE W B v1 l1
  o2 : OwnK dgE W B v2 l2
  o3 : OwnI W B v3 l3
  a1 : ∀ q, v1.ownBlock = some q → (q ∈ F ∨ W0.heap.size ≤ q) ∧ q ≠ gx
  a2 : ∀ q, v2.ownBlock = some q → (q ∈ F ∨ W0.heap.size ≤ q) ∧ q ≠ gx
  a3 : ∀ q, v3.ownBlock = some q → (q ∈ F ∨ W0.heap.size ≤ q) ∧ q ≠ gx
  ag : gx ∈ F
  ab : B ≤ W.heap.size
variable {W0 W W' : World} {F : List Nat} {B gx : Nat} {st : Int} {v1 v2 v3 : Value} {l1 : List Fd} {l2 : List Dg} {l3 : List Int}
theorem Xs.later (h : Xs W0 W F B gx st v1 v2 v3 l1 l2 l3) (hb : Below W.heap.size W W') : Xs W0 W' F B gx st v1 v2 v3 l1 l2 l3 :=
  ⟨h.keep.onto (G := []) (Keep.of_below hb) (fun _ hq => by cases hq), h.row.kept hb, h.o1.keep hb, h.o2.keep hb, OwnG.keepsF (F := []) h.o3 (Keep.of_below hb) (fun _ _ => by simp), h.a1, h.a2, h.a3, h.ag, Nat.le_trans h.ab hb.size⟩
theorem Xs.c1 (h : Xs W0 W F B gx st v1 v2 v3 l1 l2 l3) : W.cell? ⟨gx, 1, none⟩ = some v1 := by rw [h.row.cell]; rfl
theorem Xs.c2 (h : Xs W0 W F B gx st v1 v2 v3 l1 l2 l3) : W.cell? ⟨gx, 2, none⟩ = some v2 := by rw [h.row.cell]; rfl
theorem Xs.c3 (h : Xs W0 W F B gx st v1 v2 v3 l1 l2 l3) : W.cell? ⟨gx, 3, none⟩ = some v3 := by rw [h.row.cell]; rfl
/-- List 1 is written into where it lies. -/
theorem Xs.put1 (h : Xs W0 W F B gx st v1 v2 v3 l1 l2 l3) {G : List Nat} {m : List Fd} (hK : Keep G W W') (hG : ∀ q ∈ G, v1.ownBlock = some q) (o : OwnK fdE W' B v1 m) : Xs W0 W' F B gx st v1 v2 v3 m l2 l3 :=
  ⟨h.keep.onto hK (fun q hq => (h.a1 q (hG q hq)).1), h.row.keepsF hK (fun hm => (h.a1 gx (hG gx hm)).2 rfl), o, OwnK.keeps h.o2 hK (fun q hq hm => own_apart h.o1 h.o2 t_fd q (hG q hm) hq), OwnG.keepsF h.o3 hK (fun q hq hm => own_apart h.o1 h.o3 t_fi q (hG q hm) hq), h.a1, h.a2, h.a3, h.ag, Nat.le_trans h.ab hK.size⟩
/-- List 2 is written into where it lies. -/
theorem Xs.put2 (h : Xs W0 W F B gx st v1 v2 v3 l1 l2 l3) {G : List Nat} {m : List Dg} (hK : Keep G W W') (hG : ∀ q ∈ G, v2.ownBlock = some q) (o : OwnK dgE W' B v2 m) : Xs W0 W' F B gx st v1 v2 v3 l1 m l3 :=
  ⟨h.keep.onto hK (fun q hq => (h.a2 q (hG q hq)).1), h.row.keepsF hK (fun hm => (h.a2 gx (hG gx hm)).2 rfl), OwnK.keeps h.o1 hK (fun q hq hm => own_apart h.o2 h.o1 (Ne.symm t_fd) q (hG q hm) hq), o, OwnG.keepsF h.o3 hK (fun q hq hm => own_apart h.o2 h.o3 t_di q (hG q hm) hq), h.a1, h.a2, h.a3, h.ag, Nat.le_trans h.ab hK.size⟩
/-- List 3 is written into where it lies. -/
theorem Xs.put3 (h : Xs W0 W F B gx st v1 v2 v3 l1 l2 l3) {G : List Nat} {m : List Int} (hK : Keep G W W') (hG : ∀ q ∈ G, v3.ownBlock = some q) (o : OwnI W' B v3 m) : Xs W0 W' F B gx st v1 v2 v3 l1 l2 m :=
  ⟨h.keep.onto hK (fun q hq => (h.a3 q (hG q hq)).1), h.row.keepsF hK (fun hm => (h.a3 gx (hG gx hm)).2 rfl), OwnK.keeps h.o1 hK (fun q hq hm => own_apart h.o3 h.o1 (Ne.symm t_fi) q (hG q hm) hq), OwnK.keeps h.o2 hK (fun q hq hm => own_apart h.o3 h.o2 (Ne.symm t_di) q (hG q hm) hq), o, h.a1, h.a2, h.a3, h.ag, Nat.le_trans h.ab hK.size⟩
/-- List 1 is lengthened, and the report has the longer one. -/
theorem Xs.new1 (h : Xs W0 W F B gx st v1 v2 v3 l1 l2 l3) {u : Value} {m : List Fd} (hK : Keep v1.ownBlock.toList W W') (o : OwnK fdE W' B u m) (hv : ∀ q, u.ownBlock = some q → v1.ownBlock = some q ∨ W.heap.size ≤ q) : Xs W0 (W'.setCell ⟨gx, 1, none⟩ u) F B gx st u v2 v3 m l2 l3 := by
  have hG : ∀ q ∈ v1.ownBlock.toList, v1.ownBlock = some q := fun q hq => by simpa using hq
  have an : ∀ q, u.ownBlock = some q → (q ∈ F ∨ W0.heap.size ≤ q) ∧ q ≠ gx := fun q hq => by
    rcases hv q hq with h9 | h9
    · exact h.a1 q h9
    · have := h.keep.size
      have := h.row.lt
      exact ⟨.inr (by omega), by omega⟩
  refine ⟨(h.keep.onto hK (fun q hq => (h.a1 q (hG q hq)).1)).onto (Keep.cell1 W' gx 1 u) (fun q hq => .inl (by rw [List.mem_singleton.1 hq]; exact h.ag)), (h.row.keepsF hK (fun hm => (h.a1 gx (hG gx hm)).2 rfl)).set 1 u, OwnK.keeps o (Keep.cell1 W' gx 1 u) (fun q hq hm => (an q hq).2 (List.mem_singleton.1 hm)), OwnK.keeps (OwnK.keeps h.o2 hK (fun q hq hm => own_apart h.o1 h.o2 t_fd q (hG q hm) hq)) (Keep.cell1 W' gx 1 u) (fun q hq hm => (h.a2 q hq).2 (List.mem_singleton.1 hm)), OwnG.keepsF (OwnG.keepsF h.o3 hK (fun q hq hm => own_apart h.o1 h.o3 t_fi q (hG q hm) hq)) (Keep.cell1 W' gx 1 u) (fun q hq hm => (h.a3 q hq).2 (List.mem_singleton.1 hm)), an, h.a2, h.a3, h.ag, ?_⟩
  simp only [World.setCell, Array.size_modify]
  exact Nat.le_trans h.ab hK.size
/-- List 2 is lengthened, and the report has the longer one. -/
theorem Xs.new2 (h : Xs W0 W F B gx st v1 v2 v3 l1 l2 l3) {u : Value} {m : List Dg} (hK : Keep v2.ownBlock.toList W W') (o : OwnK dgE W' B u m) (hv : ∀ q, u.ownBlock = some q → v2.ownBlock = some q ∨ W.heap.size ≤ q) : Xs W0 (W'.setCell ⟨gx, 2, none⟩ u) F B gx st v1 u v3 l1 m l3 := by
  have hG : ∀ q ∈ v2.ownBlock.toList, v2.ownBlock = some q := fun q hq => by simpa using hq
  have an : ∀ q, u.ownBlock = some q → (q ∈ F ∨ W0.heap.size ≤ q) ∧ q ≠ gx := fun q hq => by
    rcases hv q hq with h9 | h9
    · exact h.a2 q h9
    · have := h.keep.size
      have := h.row.lt
      exact ⟨.inr (by omega), by omega⟩
  refine ⟨(h.keep.onto hK (fun q hq => (h.a2 q (hG q hq)).1)).onto (Keep.cell1 W' gx 2 u) (fun q hq => .inl (by rw [List.mem_singleton.1 hq]; exact h.ag)), (h.row.keepsF hK (fun hm => (h.a2 gx (hG gx hm)).2 rfl)).set 2 u, OwnK.keeps (OwnK.keeps h.o1 hK (fun q hq hm => own_apart h.o2 h.o1 (Ne.symm t_fd) q (hG q hm) hq)) (Keep.cell1 W' gx 2 u) (fun q hq hm => (h.a1 q hq).2 (List.mem_singleton.1 hm)), OwnK.keeps o (Keep.cell1 W' gx 2 u) (fun q hq hm => (an q hq).2 (List.mem_singleton.1 hm)), OwnG.keepsF (OwnG.keepsF h.o3 hK (fun q hq hm => own_apart h.o2 h.o3 t_di q (hG q hm) hq)) (Keep.cell1 W' gx 2 u) (fun q hq hm => (h.a3 q hq).2 (List.mem_singleton.1 hm)), h.a1, an, h.a3, h.ag, ?_⟩
  simp only [World.setCell, Array.size_modify]
  exact Nat.le_trans h.ab hK.size
/-- List 3 is lengthened, and the report has the longer one. -/
theorem Xs.new3 (h : Xs W0 W F B gx st v1 v2 v3 l1 l2 l3) {u : Value} {m : List Int} (hK : Keep v3.ownBlock.toList W W') (o : OwnI W' B u m) (hv : ∀ q, u.ownBlock = some q → v3.ownBlock = some q ∨ W.heap.size ≤ q) : Xs W0 (W'.setCell ⟨gx, 3, none⟩ u) F B gx st v1 v2 u l1 l2 m := by
  have hG : ∀ q ∈ v3.ownBlock.toList, v3.ownBlock = some q := fun q hq => by simpa using hq
  have an : ∀ q, u.ownBlock = some q → (q ∈ F ∨ W0.heap.size ≤ q) ∧ q ≠ gx := fun q hq => by
    rcases hv q hq with h9 | h9
    · exact h.a3 q h9
    · have := h.keep.size
      have := h.row.lt
      exact ⟨.inr (by omega), by omega⟩
  refine ⟨(h.keep.onto hK (fun q hq => (h.a3 q (hG q hq)).1)).onto (Keep.cell1 W' gx 3 u) (fun q hq => .inl (by rw [List.mem_singleton.1 hq]; exact h.ag)), (h.row.keepsF hK (fun hm => (h.a3 gx (hG gx hm)).2 rfl)).set 3 u, OwnK.keeps (OwnK.keeps h.o1 hK (fun q hq hm => own_apart h.o3 h.o1 (Ne.symm t_fi) q (hG q hm) hq)) (Keep.cell1 W' gx 3 u) (fun q hq hm => (h.a1 q hq).2 (List.mem_singleton.1 hm)), OwnK.keeps (OwnK.keeps h.o2 hK (fun q hq hm => own_apart h.o3 h.o2 (Ne.symm t_di) q (hG q hm) hq)) (Keep.cell1 W' gx 3 u) (fun q hq hm => (h.a2 q hq).2 (List.mem_singleton.1 hm)), OwnG.keepsF o (Keep.cell1 W' gx 3 u) (fun q hq hm => (an q hq).2 (List.mem_singleton.1 hm)), h.a1, h.a2, an, h.ag, ?_⟩
  simp only [World.setCell, Array.size_modify]
  exact Nat.le_trans h.ab hK.size
/-- x.Findings[i].Kind = -1. -/
theorem Xs.mark1 {g n c : Nat} (h : Xs W0 W F B gx st (.slice (some ⟨g, 0, none⟩) n c) v2 v3 l1 l2 l3) (i : Nat) (d : Fd) (hi : l1[i]? = some d) : W.cell? ⟨g, i * 2, none⟩ = some (.int .i64 d.1) ∧ W.frozen? ⟨g, i * 2, none⟩ = false ∧ Xs W0 (W.setCell ⟨g, i * 2, none⟩ (.int .i64 (-1))) F B gx st (.slice (some ⟨g, 0, none⟩) n c) v2 v3 (l1.set i (-1, d.2)) l2 l3 := by
  obtain ⟨g', o', he, -, k1, k2⟩ := fd_at (h.o1.isK fdE_ok) i d hi
  cases he
  rw [Nat.zero_add] at k1 k2
  have k2' : W.cell? ⟨g, i * 2 + 1, none⟩ = some (.int .i64 d.2) := k2.1
  have hn := h.o1.cap22 fdE_ok
  have hl := (List.getElem?_eq_some_iff.1 hi).1
  have hp := h.o1.put fdE_ok i (-1, d.2) (by omega)
  rw [show fdE.enc (-1, d.2) = [.int .i64 (-1), .int .i64 d.2] from rfl, show fdE.k = 2 from rfl, setF_kind W g (i * 2) _ _ k2'] at hp
  exact ⟨k1, h.o1.frozen22 _, h.put1 (Keep.cell1 W g (i * 2) _) (fun q hq => by rw [List.mem_singleton.1 hq]; rfl) hp⟩
theorem dg_store22 {W : World} {g o : Nat} {d : Dg} {W' : World} (h : (Instr.storeAt dgE.T (.pointer (some ⟨g, o, none⟩)) (.agg (dgE.enc d).toArray)).run Tryz.prog W = .ok () W') : (bigStore 50 (.pointer (some ⟨g, o, none⟩)) (.agg (dg_secA d))).run Tryz.prog W = .ok .skip W' := by
  rw [dgE_arr] at h
  simp only [bigStore, Sem.run_bind]
  rw [show (Instr.storeAt 50 (.pointer (some ⟨g, o, none⟩)) (.agg (dg_secA d))).run Tryz.prog W = .ok () W' from h]
  rfl
/-- x.Fetch[i] = d. -/
theorem Xs.mark2 {g n c : Nat} (h : Xs W0 W F B gx st v1 (.slice (some ⟨g, 0, none⟩) n c) v3 l1 l2 l3) (i : Nat) (d : Dg) (hi : i < n) : ∃ W', (bigStore 50 (.pointer (some ⟨g, i * 32, none⟩)) (.agg (dg_secA d))).run Tryz.prog W = .ok .skip W' ∧ Xs W0 W' F B gx st v1 (.slice (some ⟨g, 0, none⟩) n c) v3 l1 (l2.set i d) l3 := by
  have hs := h.o2.store dgE_ok i d hi
  have hp := h.o2.put dgE_ok i d hi
  exact ⟨_, dg_store22 hs, h.put2 (Keep.of_grown (grown_setC W g (i * dgE.k) _) (fun q hq => by cases hq; simp) : Keep [g] W _) (fun q hq => by rw [List.mem_singleton.1 hq]; rfl) hp⟩
/-- x.Dropped[i] = -1. -/
theorem Xs.mark3 {g n c : Nat} (h : Xs W0 W F B gx st v1 v2 (.slice (some ⟨g, 0, none⟩) n c) l1 l2 l3) (i : Nat) (d : Int) (hi : l3[i]? = some d) : W.cell? ⟨g, i, none⟩ = some (.int .i64 d) ∧ W.frozen? ⟨g, i, none⟩ = false ∧ Xs W0 (W.setCell ⟨g, i, none⟩ (.int .i64 (-1))) F B gx st v1 v2 (.slice (some ⟨g, 0, none⟩) n c) l1 l2 (l3.set i (-1)) := by
  have hp := (OwnG.put h.o3 i (.int .i64 (-1))).1
  have e : (inV l3).set i (.int .i64 (-1)) = inV (l3.set i (-1)) := by unfold inV; rw [List.map_set]
  rw [e] at hp
  exact ⟨OwnG.cell h.o3 i _ (inV_get _ _ _ hi), OwnG.frozen h.o3 i, h.put3 (Keep.cell1 W g i _) (fun q hq => by rw [List.mem_singleton.1 hq]; rfl) hp⟩
/-- x.Findings = append(x.Findings, d). -/
theorem Xs.grow1 {x : Option Addr} {n c : Nat} (h : Xs W0 W F B gx st (.slice x n c) v2 v3 l1 l2 l3) (hn : l1.length = n) (d : Fd) (hs : n ≤ 100000) : ∃ g c' W', (Builtin.append_ #[22, 22] 22 #[.slice x n c, .slice (some ⟨W.heap.size, 0, none⟩) 1 1]).run Tryz.prog (W.alloc (.cells (fdA d) 25)) = .ok (.slice (some ⟨g, 0, none⟩) (n + 1) c') W' ∧ W'.cell? ⟨gx, 1, none⟩ = some (.slice x n c) ∧ W'.frozen? ⟨gx, 1, none⟩ = false ∧ Xs W0 (W'.setCell ⟨gx, 1, none⟩ (.slice (some ⟨g, 0, none⟩) (n + 1) c')) F B gx st (.slice (some ⟨g, 0, none⟩) (n + 1) c') v2 v3 (l1 ++ [d]) l2 l3 := by
  have b0 := below_alloc W (.cells (fdA d) 25)
  have h0 := h.later b0
  obtain ⟨g, c', W', hr, hO, -, hg, hw⟩ := run_app1K fdE_ok (W.alloc (.cells (fdA d) 25)) B W.heap.size (.slice x n c) l1 d 22 h0.o1 (fd_lit_range W d) (by simp) (by show (l1.length + 1) * 16 ≤ _; omega) (by unfold maxLen; omega) h0.ab
  rw [hn] at hr hO
  have hK : Keep (Value.slice x n c).ownBlock.toList (W.alloc (.cells (fdA d) 25)) W' := Keep.of_grown hg (fun q hq => by rw [hq]; simp)
  have hG : ∀ q ∈ (Value.slice x n c).ownBlock.toList, (Value.slice x n c).ownBlock = some q := fun q hq => by simpa using hq
  have hrow := h0.row.keepsF hK (fun hm => (h0.a1 gx (hG gx hm)).2 rfl)
  exact ⟨g, c', W', hr, by rw [hrow.cell]; rfl, hrow.frozen 1, h0.new1 hK hO (fun q hq => by
    cases hq
    rcases hw with h9 | h9
    · exact .inl h9
    · exact .inr (by rw [h9]; exact Nat.le_refl _))⟩
theorem dg_lit_range (w : World) (d : Dg) : (w.alloc (.cells (dg_secA d) 50)).rangeAt w.heap.size 0 (dgE.enc d) := by
  have h := OwnK.range dgE_ok (own_dgLit1 w d) 0 d rfl
  rwa [Nat.zero_mul] at h
/-- x.Fetch = append(x.Fetch, d). -/
theorem Xs.grow2 {x : Option Addr} {n c : Nat} (h : Xs W0 W F B gx st v1 (.slice x n c) v3 l1 l2 l3) (hn : l2.length = n) (d : Dg) (hs : n ≤ 100000) : ∃ g c' W', (Builtin.append_ #[29, 29] 29 #[.slice x n c, .slice (some ⟨W.heap.size, 0, none⟩) 1 1]).run Tryz.prog (W.alloc (.cells (dg_secA d) 50)) = .ok (.slice (some ⟨g, 0, none⟩) (n + 1) c') W' ∧ W'.cell? ⟨gx, 2, none⟩ = some (.slice x n c) ∧ W'.frozen? ⟨gx, 2, none⟩ = false ∧ Xs W0 (W'.setCell ⟨gx, 2, none⟩ (.slice (some ⟨g, 0, none⟩) (n + 1) c')) F B gx st v1 (.slice (some ⟨g, 0, none⟩) (n + 1) c') v3 l1 (l2 ++ [d]) l3 := by
  have b0 := below_alloc W (.cells (dg_secA d) 50)
  have h0 := h.later b0
  obtain ⟨g, c', W', hr, hO, -, hg, hw⟩ := run_app1K dgE_ok (W.alloc (.cells (dg_secA d) 50)) B W.heap.size (.slice x n c) l2 d 29 h0.o2 (dg_lit_range W d) (by simp) (by show (l2.length + 1) * 32 ≤ _; omega) (by unfold maxLen; omega) h0.ab
  rw [hn] at hr hO
  have hK : Keep (Value.slice x n c).ownBlock.toList (W.alloc (.cells (dg_secA d) 50)) W' := Keep.of_grown hg (fun q hq => by rw [hq]; simp)
  have hG : ∀ q ∈ (Value.slice x n c).ownBlock.toList, (Value.slice x n c).ownBlock = some q := fun q hq => by simpa using hq
  have hrow := h0.row.keepsF hK (fun hm => (h0.a2 gx (hG gx hm)).2 rfl)
  exact ⟨g, c', W', hr, by rw [hrow.cell]; rfl, hrow.frozen 2, h0.new2 hK hO (fun q hq => by
    cases hq
    rcases hw with h9 | h9
    · exact .inl h9
    · exact .inr (by rw [h9]; exact Nat.le_refl _))⟩
theorem intsElt22 : Elt 30 3 8 := ⟨Tryz.underlying30, by
  have h : (Tryz.prog.info? 3).map (fun i => (i.zero, i.size, i.bytes)) = some (some (.int .i64 0), 1, 8) := by kernel_rfl
  obtain ⟨i, hi, hz⟩ := Option.map_eq_some_iff.1 h
  simp only [Prod.mk.injEq] at hz
  exact ⟨i, _, hi, hz.1, hz.2.1, hz.2.2, rfl⟩⟩
/-- x.Dropped = append(x.Dropped, -1). -/
theorem Xs.grow3 {x : Option Addr} {n c : Nat} (h : Xs W0 W F B gx st v1 v2 (.slice x n c) l1 l2 l3) (hn : l3.length = n) (hs : n ≤ 100000) : ∃ g c' W', (Builtin.append_ #[30, 30] 30 #[.slice x n c, .slice (some ⟨W.heap.size, 0, none⟩) 1 1]).run Tryz.prog (W.alloc (.cells #[.int .i64 (-1)] 3)) = .ok (.slice (some ⟨g, 0, none⟩) (n + 1) c') W' ∧ W'.cell? ⟨gx, 3, none⟩ = some (.slice x n c) ∧ W'.frozen? ⟨gx, 3, none⟩ = false ∧ Xs W0 (W'.setCell ⟨gx, 3, none⟩ (.slice (some ⟨g, 0, none⟩) (n + 1) c')) F B gx st v1 v2 (.slice (some ⟨g, 0, none⟩) (n + 1) c') l1 l2 (l3 ++ [-1]) := by
  have b0 := below_alloc W (.cells #[.int .i64 (-1)] 3)
  have h0 := h.later b0
  obtain ⟨g, c', W', hr, hO, hK, hw⟩ := apLies intsElt22 (W.alloc (.cells #[.int .i64 (-1)] 3)) B x n c (inV l3) [.int .i64 (-1)] W.heap.size 1 30 h0.o3 (by rw [inV_len]; exact hn) rfl (fun j u hu => by
    rcases j with _ | j
    · simp at hu; subst hu; simp
    · simp at hu) (by simp [Value.oneCell']) (by omega) h0.ab (by omega) (by unfold maxLen; omega)
  have e : inV l3 ++ [.int .i64 (-1)] = inV (l3 ++ [-1]) := by rw [inV_app]; rfl
  rw [e] at hO
  have hG : ∀ q ∈ (Value.slice x n c).ownBlock.toList, (Value.slice x n c).ownBlock = some q := fun q hq => by simpa using hq
  have hrow := h0.row.keepsF hK (fun hm => (h0.a3 gx (hG gx hm)).2 rfl)
  exact ⟨g, c', W', hr, by rw [hrow.cell]; rfl, hrow.frozen 3, h0.new3 hK hO (fun q hq => by
    cases hq
    rcases hw with h9 | h9
    · exact .inl h9
    · exact .inr h9)⟩
end Go.Proofs.YtklbdhpnbjhgkaaGreatDoor
