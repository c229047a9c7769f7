
import Derived.Test.YtmbkkdojjfdliaaGal
namespace Go.Proofs.Ytmbkkdojjfdliaa
open Go.RowKit

/-! append(v, x..): where the answer lies -/
theorem apLies {t e : TypeId} {bytes : Nat} (EL : Elt t e bytes) (W : World) (B : Nat) (xv : Option Addr) (nv cv : Nat) (ds us : List Value) (y m : Nat) (ty : TypeId) (h : OwnG e W B (.slice xv nv cv) ds) (hn : ds.length = nv) (hm : us.length = m) (hus : ∀ (j : Nat) (u : Value), us[j]? = some u → W.cell? ⟨y, j, none⟩ = some u) (h1 : ∀ u ∈ us, u.oneCell' = true) (h0 : 0 < m) (hB : B ≤ W.heap.size) (hl : (nv + m) * bytes ≤ 140737488355328) (h63 : nv + m ≤ maxLen) :
    ∃ g c' w', (Builtin.append_ #[t, t] ty #[.slice xv nv cv, .slice (some ⟨y, 0, none⟩) m m]).run Try.prog W = .ok (.slice (some ⟨g, 0, none⟩) (nv + m) c') w' ∧ OwnG e w' B (.slice (some ⟨g, 0, none⟩) (nv + m) c') (ds ++ us) ∧ Keep (Value.slice xv nv cv).ownBlock.toList W w' ∧ ((Value.slice xv nv cv).ownBlock = some g ∨ W.heap.size ≤ g) := by
  subst hn hm
  obtain ⟨i, z, hi, hz, hsz, hby, hzs⟩ := EL.info
  obtain ⟨g, c', w', hr, hO, hg, hway, hlt⟩ := run_append_lies (P := Try.prog) W t ty B e i z 1 bytes EL.ht hi hz hsz hby hzs (by omega) (.slice xv ds.length cv) ds.length ds h ⟨y, 0, none⟩ us.length us.length us (by omega) (fun j u hu => by rw [addr_add, Nat.zero_add]; exact hus j u hu) h1 h0 h63 hl hB _ rfl
  refine ⟨g, c', w', hr, by unfold OwnG; rw [List.length_append]; exact hO, Keep.of_grown hg (fun q hq => by rw [hq]; simp), ?_⟩
  rcases hway with h1 | h1
  · exact .inl h1
  · exact .inr (by omega)
end Go.Proofs.Ytmbkkdojjfdliaa
