
import Derived.Test.YtmbkkdojjfdliaaBata
namespace Go.Proofs.Ytmbkkdojjfdliaa
open Go.RowKit

/-! Lists that were lent; what stays while a row beside is written -/
theorem CutP.blocks {w w' : World} {B : Nat} {v : Value} {C : List (List Wr)} {ps : List Pt} (h : CutP w B v C ps) (hb : ∀ f, B ≤ f → f < w.heap.size → w'.heap[f]? = w.heap[f]?) : CutP w' B v C ps := by
  have hP : ∀ (i : Nat) p, ps[i]? = some p → w'.heap[p.g]? = w.heap[p.g]? := fun i p hp => hb p.g (h.ok i p hp).ge (h.ok i p hp).lt
  refine ⟨h.own.same (fun f hf => hb f (h.own.lt f hf).1 (h.own.lt f hf).2), h.len, fun i p hp => ?_, fun i p ds hp hd => ?_, h.ap⟩
  · have hO := h.ok i p hp
    obtain ⟨cur, k1, k2⟩ := hO.row
    exact ⟨hO.ge, hO.le, hO.mx, cur, by rw [hP i p hp]; exact k1, k2⟩
  · have hI := h.is i p ds hp hd
    exact ⟨hI.1, fun j u hu => cell_block26 (hI.2 j u hu) (hP i p hp)⟩
theorem CutP.later {w w' : World} {B : Nat} {v : Value} {C : List (List Wr)} {ps : List Pt} (h : CutP w B v C ps) (hb : Below w.heap.size w w') : CutP w' B v C ps := h.blocks (fun f _ hf => hb.block f hf)
theorem CutP.keeps {w w' : World} {B : Nat} {v : Value} {C : List (List Wr)} {ps : List Pt} {F : List Nat} (h : CutP w B v C ps) (hk : Keep F w w') (hF : ∀ f ∈ F, f < B) : CutP w' B v C ps := h.blocks (fun f hf hl => hk.block f hl (fun h9 => by have := hF f h9; omega))
def e77 : Wr := (-77, secZ)
/-- A list that was lent, and the mark behind it. -/
theorem lent_is {w : World} {B g n c : Nat} {l : List Wr} (h : OwnK wrE w B (.slice (some ⟨g, 0, none⟩) (n + 1) c) (l ++ [e77])) (hn : l.length = n) : IsK wrE w (.slice (some ⟨g, 0, none⟩) n c) l := by
  have := (h.cut wrE_ok n (by omega)).isK wrE_ok
  rwa [List.take_left' hn] at this
theorem lent_at {w : World} {B g n c : Nat} {l : List Wr} (h : OwnK wrE w B (.slice (some ⟨g, 0, none⟩) (n + 1) c) (l ++ [e77])) (hn : l.length = n) : w.cell? ⟨g, n * 65, none⟩ = some (.int .i64 (-77)) := by
  have := h.range wrE_ok n e77 (by rw [List.getElem?_append_right (by omega), hn, Nat.sub_self]; rfl)
  exact wr_at26 this
structure Inn (w : World) (B : Nat) (v : Value) (us : List Value) (D : List (List Wr)) (i : Nat) : Prop where
  own : OwnG 22 w B v us
  len : us.length = i
  each : ∀ (q : Nat) u e, us[q]? = some u → D[q]? = some e → ∃ g c, u = .slice (some ⟨g, 0, none⟩) e.length c ∧ OwnK wrE w B (.slice (some ⟨g, 0, none⟩) (e.length + 1) c) (e ++ [e77]) ∧ v.ownBlock ≠ some g
theorem Inn.start (w : World) (B : Nat) (D : List (List Wr)) : Inn w B (.slice none 0 0) [] D 0 := ⟨OwnG.nil _ _ _, rfl, fun q u e hu => by simp at hu⟩
theorem Inn.later {w w' : World} {B i : Nat} {v : Value} {us : List Value} {D : List (List Wr)} (h : Inn w B v us D i) (hb : Below w.heap.size w w') : Inn w' B v us D i :=
  ⟨h.own.keep hb, h.len, fun q u e hu he => by
    obtain ⟨g, c, k1, k2, k3⟩ := h.each q u e hu he
    exact ⟨g, c, k1, k2.keep hb, k3⟩⟩
theorem Inn.isLL {w : World} {B i : Nat} {v : Value} {us : List Value} {D : List (List Wr)} (h : Inn w B v us D i) (hi : D.length = i) : IsLL w v D := by
  refine ⟨us, h.own.isG, by rw [h.len, hi], fun q e he => ?_⟩
  obtain ⟨u, hu⟩ : ∃ u, us[q]? = some u := ⟨_, List.getElem?_eq_getElem (by have := (List.getElem?_eq_some_iff.1 he).1; have := h.len; omega)⟩
  obtain ⟨g, c, rfl, k2, -⟩ := h.each q u e hu he
  exact ⟨_, c, hu, lent_is k2 rfl⟩
/-- One more. -/
theorem Inn.grow {w wa : World} {B i : Nat} {xv : Option Addr} {cv : Nat} {us : List Value} {D : List (List Wr)} (h : Inn w B (.slice xv i cv) us D i) {e : List Wr} (he : D[i]? = some e) (hb : Below w.heap.size w wa) {g c ne : Nat} (hne : e.length = ne) (ho : OwnK wrE wa w.heap.size (.slice (some ⟨g, 0, none⟩) (ne + 1) c) (e ++ [e77])) (hB : B ≤ w.heap.size) (hl : (i + 1) * 24 ≤ 140737488355328) :
    ∃ g' c' w', (Builtin.append_ #[24, 24] 24 #[.slice xv i cv, .slice (some ⟨wa.heap.size, 0, none⟩) 1 1]).run Try.prog (wa.alloc (.cells #[.slice (some ⟨g, 0, none⟩) ne c] 22)) = .ok (.slice (some ⟨g', 0, none⟩) (i + 1) c') w' ∧ Inn w' B (.slice (some ⟨g', 0, none⟩) (i + 1) c') (us ++ [.slice (some ⟨g, 0, none⟩) ne c]) D (i + 1) ∧ Below B wa w' := by
  have ha := below_alloc wa (.cells #[.slice (some ⟨g, 0, none⟩) ne c] 22)
  have h1 := (h.later hb).later ha
  have hs1 := hb.size
  have hs2 := ha.size
  obtain ⟨g', c', w', hr, hO, hK, hway⟩ := apLies eltLL (wa.alloc (.cells #[.slice (some ⟨g, 0, none⟩) ne c] 22)) B xv i cv us [.slice (some ⟨g, 0, none⟩) ne c] wa.heap.size 1 24 h1.own h.len rfl (fun j u hu => (OwnG.lit 22 wa [.slice (some ⟨g, 0, none⟩) ne c] (by simp [maxLen])).cell j u hu) (fun u hu => by simp at hu; subst hu; rfl) (by omega) (by omega) hl (by unfold maxLen; omega)
  have hg : g < wa.heap.size ∧ w.heap.size ≤ g := ⟨(World.ownsRow.lt ho g rfl).2, (World.ownsRow.lt ho g rfl).1⟩
  have hold : ∀ q e c0, OwnK wrE (wa.alloc (.cells #[.slice (some ⟨g, 0, none⟩) ne c] 22)) B (.slice (some ⟨q, 0, none⟩) (e.length + 1) c0) (e ++ [e77]) → (Value.slice xv i cv).ownBlock ≠ some q → OwnK wrE w' B (.slice (some ⟨q, 0, none⟩) (e.length + 1) c0) (e ++ [e77]) ∧ (Value.slice (some ⟨g', 0, none⟩) (i + 1) c').ownBlock ≠ some q := fun q e c0 hq hn => by
    refine ⟨hq.keeps hK (fun f hf h9 => ?_), fun h9 => ?_⟩
    · have h8 : (Value.slice xv i cv).ownBlock = some f := by simpa using h9
      have h7 : q = f := by simpa [Value.ownBlock] using hf
      exact hn (by rw [h8, h7])
    · have h7 : g' = q := by simpa [Value.ownBlock] using h9
      subst h7
      rcases hway with h8 | h8
      · exact hn h8
      · have := (World.ownsRow.lt hq g' rfl).2
        omega
  refine ⟨g', c', w', hr, ⟨hO, by rw [List.length_append, h.len]; rfl, fun q u e' hu he' => ?_⟩, (ha.mono (Nat.le_trans hB hs1)).trans (hK.below (fun f hf => (h1.own.lt f (by simpa using hf)).1) (by omega))⟩
  by_cases hq : q < i
  · rw [List.getElem?_append_left (by rw [h.len]; exact hq)] at hu
    obtain ⟨g0, c0, k1, k2, k3⟩ := h1.each q u e' hu he'
    obtain ⟨m1, m2⟩ := hold g0 e' c0 k2 k3
    exact ⟨g0, c0, k1, m1, m2⟩
  · have hql := (List.getElem?_eq_some_iff.1 hu).1
    rw [List.length_append, h.len, List.length_cons, List.length_nil] at hql
    obtain rfl : q = i := by omega
    rw [List.getElem?_append_right (by rw [h.len]; exact Nat.le_refl _), h.len, Nat.sub_self] at hu
    simp only [List.getElem?_cons_zero, Option.some.injEq] at hu
    subst hu
    rw [he] at he'
    cases he'
    subst hne
    have hne2 : (Value.slice xv q cv).ownBlock ≠ some g := fun h9 => by
      have := (h.own.lt g h9).2
      omega
    obtain ⟨m1, m2⟩ := hold g e c ((ho.le hB).keep ha) hne2
    exact ⟨g, c, rfl, m1, m2⟩
end Go.Proofs.Ytmbkkdojjfdliaa
