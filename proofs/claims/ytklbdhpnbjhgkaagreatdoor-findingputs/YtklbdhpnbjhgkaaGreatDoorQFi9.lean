import Derived.Test.YtklbdhpnbjhgkaaGreatDoorQFi8
import Derived.Test.YtklbdhpnbjhgkaaGreatDoorQLawFinBack
import Derived.Test.YtklbdhpnbjhgkaaGreatDoorQGam
namespace Go.Proofs.YtklbdhpnbjhgkaaGreatDoor
open Go.RowKit Go.Sort

/-! Bytes among the things -/
theorem bytElt22 : Elt 33 5 1 := ⟨Tryz.underlying33, by
  have h : (Tryz.prog.info? 5).map (fun i => (i.zero, i.size, i.bytes)) = some (some (.int .u8 0), 1, 1) := by kernel_rfl
  obtain ⟨i, hi, hz⟩ := Option.map_eq_some_iff.1 h
  simp only [Prod.mk.injEq] at hz
  exact ⟨i, _, hi, hz.1, hz.2.1, hz.2.2, rfl⟩⟩
def byV (l : List UInt8) : List Value := (bytesA l).toList
theorem byV_len (l : List UInt8) : (byV l).length = l.length := by simp [byV, bytesA]
theorem ownBG {w : World} {B : Nat} {v : Value} {l : List UInt8} (h : OwnB w B v l) : OwnG 5 w B v (byV l) := by
  unfold OwnG
  rw [byV_len]
  exact h
theorem ownGB {w : World} {B : Nat} {v : Value} {l : List UInt8} (h : OwnG 5 w B v (byV l)) : OwnB w B v l := by
  unfold OwnG at h
  rw [byV_len] at h
  exact h
def repV (u : Value) (n : Nat) : List Value := List.replicate n u
theorem repV_len (m : Value) (n : Nat) : (repV m n).length = n := by simp [repV]
theorem repV_at (m : Value) (n i : Nat) (h : i < n) : (repV m n)[i]? = some m := by simp [repV, h]
theorem repV_succ (m : Value) (n : Nat) : repV m n ++ [m] = repV m (n + 1) := by simp [repV, List.replicate_succ']
theorem repV_set (m : Value) (ds : List Value) (i : Nat) (h : i < ds.length) : (repV m i ++ ds.drop i).set i m = repV m (i + 1) ++ ds.drop (i + 1) := by
  rw [List.set_append_right _ _ (by rw [repV_len]; exact Nat.le_refl _), repV_len, Nat.sub_self, List.drop_eq_getElem_cons h, List.set_cons_zero, ← repV_succ, List.append_assoc]
  rfl
theorem repV_old (m : Value) (ds : List Value) (i : Nat) (h : i < ds.length) : ∃ u, (repV m i ++ ds.drop i)[i]? = some u := ⟨_, List.getElem?_eq_getElem (by rw [List.length_append, repV_len, List.length_drop]; omega)⟩
/-- l[K] = u. -/
theorem Ga.setG {e : TypeId} {W : World} {B g n c : Nat} {T : Nat → Option Th} (h : Ga W B T) {k : Nat} {xs : List Value} (hk : T k = some (thG e B (.slice (some ⟨g, 0, none⟩) n c) xs)) (K : Nat) (u : Value) : Ga (W.setCell ⟨g, K, none⟩ u) B (updT T k (thG e B (.slice (some ⟨g, 0, none⟩) n c) (xs.set K u))) ∧ Below B W (W.setCell ⟨g, K, none⟩ u) := by
  have hO := h.isG hk
  obtain ⟨h1, h2⟩ := hO.put K u
  exact ⟨(h.putG hk (Keep.of_grown h2 (fun q hq => by cases hq; simp [Value.ownBlock])) h1 (fun q hq => .inl hq)).1, (Below.refl B W).setCell (hO.lt g rfl).1 u⟩
theorem put_len22 (r : Rp) : (putM r).length ≤ 3000000 := by
  unfold putM
  split
  · rename_i h; exact body_len r h
  · simp
theorem OwnI.cap22 {w : World} {B n c : Nat} {x : Option Addr} {l : List Int} (h : OwnI w B (.slice x n c) l) : n ≤ c := by
  rcases h.2 with ⟨h1, h2⟩ | ⟨g1, c1, cur, he, -, -, hle, -⟩
  · simp only [Value.slice.injEq] at h1; omega
  · simp only [Value.slice.injEq] at he
    omega
theorem TwQ.tw {w w' : World} {r : Rp} {nf nd ni : Nat} {e : Ending} (h : TwQ w r nf nd ni e w') (n1 : r.fs.length = nf) (n2 : r.ds.length = nd) (n3 : r.dr.length = ni) : ∃ g1 d1 g2 d2 g3 d3, e = .returned (.agg (rpA r.st (.slice (some ⟨g1, 0, none⟩) nf d1) (.slice (some ⟨g2, 0, none⟩) nd d2) (.slice (some ⟨g3, 0, none⟩) ni d3))) ∧ TwI w' r nf nd ni g1 d1 g2 d2 g3 d3 ∧ Below w.heap.size w w' := by
  obtain ⟨g1, d1, g2, d2, g3, d3, he, h1, h2, h3, hb⟩ := h
  exact ⟨g1, d1, g2, d2, g3, d3, he, ⟨h1.isK fdE_ok, h2.isK dgE_ok, OwnG.isG h3, OwnI.cap22 h3, n1, n2, n3⟩, hb⟩
end Go.Proofs.YtklbdhpnbjhgkaaGreatDoor
