import Derived.Test.YtafbkdpheneceaaQExtM
import Derived.Test.YtafbkdpheneceaaQGenA
import Derived.Test.YtafbkdpheneceaaQRelk
namespace Go.Proofs.Ytafbkdpheneceaa
open Go.RowKit

/-! Lists of pairs of the law's own, beside an extent -/
def Apt (u v : Value) : Prop := u.ownBlock = none ∨ u.ownBlock ≠ v.ownBlock
theorem Apt.symm {u v : Value} (h : Apt u v) : Apt v u := by
  unfold Apt at *
  cases hv : v.ownBlock with
  | none => exact .inl rfl
  | some q =>
    right
    intro e
    rcases h with h | h
    · rw [h] at e; cases e
    · exact h (by rw [← e, hv])
def zV (l : List Int) : List Value := l.map (Value.int .i64)
theorem zV_len (l : List Int) : (zV l).length = l.length := by simp [zV]
theorem zV_at {l : List Int} {j : Nat} {a : Int} (h : l[j]? = some a) : (zV l)[j]? = some (.int .i64 a) := by simp [zV, h]
def lenV : Value → Nat
  | .slice _ n _ => n
  | _ => 0
theorem kokp8 {G : List Nat} : KOk (Keep G) := ⟨fun h => Keep.of_below h, fun h k => h.trans k⟩
theorem cell_keepF {F : List Nat} {w w' : World} {b o : Nat} {v : Value} (h : Keep F w w') (hc : w.cell? ⟨b, o, none⟩ = some v) (hb : b ∉ F) : w'.cell? ⟨b, o, none⟩ = some v := by
  have hlt := World.block_lt_of_cell? w _ hc
  unfold World.cell? at hc ⊢
  rw [h.block b hlt hb]; exact hc
theorem app8 {X : World → Value → XSt → List Nat → Prop} (O : ExtOk X) (W : World) (B : Nat) (xv : Option Addr) (nv cv : Nat) (ds es : List Pr) (x : Option Addr) (ne c : Nat) (ty : TypeId) (h : OwnK prE W B (.slice xv nv cv) ds) (hnv : ds.length = nv) (hne : es.length = ne) (hx : IsK prE W (.slice x ne c) es) (hB : B ≤ W.heap.size) (hl : nv + ne ≤ 100000) :
    ∃ y c' w', (Builtin.append_ #[31, 31] ty #[.slice xv nv cv, .slice x ne c]).run Try.prog W = .ok (.slice y (nv + ne) c') w' ∧ OwnK prE w' B (.slice y (nv + ne) c') (ds ++ es) ∧ Below B W w' ∧
      (∀ u us, OwnK prE W B u us → Apt u (.slice xv nv cv) → OwnK prE w' B u us ∧ Apt u (.slice y (nv + ne) c')) ∧
      (∀ A e st, (∀ q, (Value.slice xv nv cv).ownBlock = some q → q ∈ A) → XAt X B A W e st → XAt X B ((Value.slice y (nv + ne) c').ownBlock.toList ++ A) w' e st) := by
  subst hnv
  subst hne
  have hlt : ∀ A e st, (∀ q, (Value.slice xv ds.length cv).ownBlock = some q → q ∈ A) → XAt X B A W e st → XAt X B ((Value.slice xv ds.length cv).ownBlock.toList ++ A) W e st := fun A e st hA hX => by
    obtain ⟨F, h1, h2, h3⟩ := hX
    refine ⟨F, h1, h2, fun a ha => ?_⟩
    rcases List.mem_append.1 ha with ha | ha
    · exact h3 a (hA a (by simpa using ha))
    · exact h3 a ha
  by_cases h0 : es = []
  · subst h0
    have hr := run_appK0 prE_ok W xv ds.length cv (by
      rcases h.2 with ⟨h1, hn⟩ | ⟨g, cap, cur, h1, hb, hg, hle, hm, hs, ht⟩
      · simp only [Value.slice.injEq] at h1; omega
      · simp only [Value.slice.injEq] at h1; omega) x c ty (fun hnone => by
      rcases h.2 with ⟨h1, hn⟩ | ⟨g, cap, cur, h1, hb, hg, hle, hm, hs, ht⟩
      · simp only [Value.slice.injEq] at h1; omega
      · subst hnone; simp at h1)
    have hr' : (Builtin.append_ #[31, 31] ty #[.slice xv ds.length cv, .slice x 0 c]).run Try.prog W = .ok (.slice xv ds.length cv) W := hr
    exact ⟨xv, cv, W, hr', by simpa using h, Below.refl _ _, fun u us hu ha => ⟨hu, by simpa using ha⟩, fun A e st hA hX => by simpa using hlt A e st hA hX⟩
  · obtain ⟨g, c', w', hr, hO, hg, hway⟩ := run_appK prE_ok W B (.slice xv ds.length cv) ds es x c ty h hx h0 (by show _ * 16 ≤ _; omega) (by unfold maxLen; omega) hB
    have hlg := World.ownsRow.lt hO g rfl
    refine ⟨some ⟨g, 0, none⟩, c', w', hr, hO, h.below hg hB, fun u us hu ha => ⟨World.ownsRow.kept hu hg ha, ?_⟩, fun A e st hA hX => ?_⟩
    · unfold Apt
      cases hq : u.ownBlock with
      | none => exact .inl rfl
      | some q =>
        right
        intro he
        have hqg : q = g := by simpa [Value.ownBlock] using he
        have hql := (World.ownsRow.lt hu q hq).2
        rcases hway with h1 | h1
        · rcases ha with h2 | h2
          · rw [hq] at h2; cases h2
          · exact h2 (by rw [hq, h1, hqg])
        · omega
    · refine hX.more O hg hA _ fun a ha => ?_
      rcases List.mem_append.1 ha with ha | ha
      · have hag : a = g := by
          have : (Value.slice (some ⟨g, 0, none⟩) (ds.length + es.length) c').ownBlock = some a := by simpa using ha
          simpa [Value.ownBlock] using this.symm
        subst hag
        rcases hway with h1 | h1
        · exact .inl (hA a h1)
        · exact .inr ⟨by omega, hlg.2⟩
      · exact .inl ha
theorem isK_drop {W : World} {B g n c : Nat} {ds : List Pr} (h : OwnK prE W B (.slice (some ⟨g, 0, none⟩) n c) ds) (k : Nat) (hk : k ≤ n) : IsK prE W (.slice (some ⟨g, k * 2, none⟩) (n - k) (c - k)) (ds.drop k) := by
  obtain ⟨cur, h1, h2, h3, h4, h5, h6, h7⟩ := h.heap
  refine ⟨some ⟨g, k * 2, none⟩, c - k, by rw [List.length_drop, ← h1], by rw [List.length_drop]; omega, fun i d hi => ?_⟩
  rw [List.getElem?_drop] at hi
  refine ⟨g, k * 2, rfl, (Array.getElem?_eq_some_iff.1 h3).1, ?_⟩
  have := h.range prE_ok (k + i) d hi
  rw [prE_k] at this ⊢
  rwa [show k * 2 + i * 2 = (k + i) * 2 by omega]
theorem isK_drop' {W : World} {B g n c : Nat} {ds : List Pr} (h : OwnK prE W B (.slice (some ⟨g, 0, none⟩) n c) ds) (k : Nat) (hk : k ≤ n) : IsK prE W (.slice (if c = k then some ⟨g, 0, none⟩ else some ⟨g, k * 2, none⟩) (n - k) (c - k)) (ds.drop k) := by
  by_cases hc : c = k
  · rw [if_pos hc]
    have hcap := (h.isK prE_ok).cap
    have hd : ds.drop k = [] := List.drop_eq_nil_of_le (by omega)
    rw [hd]
    exact ⟨some ⟨g, 0, none⟩, c - k, by rw [show n - k = 0 by omega]; rfl, Nat.zero_le _, fun i d hi => by simp at hi⟩
  · rw [if_neg hc]; exact isK_drop h k hk
theorem isK_take {W : World} {B g n c : Nat} {ds : List Pr} (h : OwnK prE W B (.slice (some ⟨g, 0, none⟩) n c) ds) (k : Nat) (hk : k ≤ n) : IsK prE W (.slice (some ⟨g, 0, none⟩) k c) (ds.take k) := (h.cut prE_ok k hk).isK prE_ok
theorem rI_take (l : List (Nat × Nat)) (k : Nat) : rI (l.take k) = (rI l).take k := by simp [rI, List.map_take]
theorem rI_drop (l : List (Nat × Nat)) (k : Nat) : rI (l.drop k) = (rI l).drop k := by simp [rI, List.map_drop]
theorem rI_app (l r : List (Nat × Nat)) : rI (l ++ r) = rI l ++ rI r := by simp [rI]
/-- A slot of the frame, said otherwise. -/
theorem wp_slot {c : Code} {Q : Exit → Act → World → Prop} {a : Act} {w : World} (k : Nat) (v : Value) (h : a.tmps[k]? = some v) (hw : c.wp Try.prog Q { tmps := a.tmps.setIfInBounds k v, defers := a.defers } w) : c.wp Try.prog Q a w := by
  have e : a.tmps.setIfInBounds k v = a.tmps := by
    apply Array.ext_getElem?
    intro i
    rw [Array.getElem?_setIfInBounds]
    by_cases hi : k = i
    · subst hi
      rw [if_pos rfl, if_pos (Array.getElem?_eq_some_iff.1 h).1, h]
    · rw [if_neg hi]
  rw [e] at hw
  exact hw
/-- The law's own lists, and an extent that none of them lies in. -/
theorem XAt.less {X : World → Value → XSt → List Nat → Prop} {B : Nat} {A A' : List Nat} {W : World} {v : Value} {st : XSt} (h : XAt X B A W v st) (hA : ∀ a ∈ A', a ∈ A) : XAt X B A' W v st := by
  obtain ⟨F, h1, h2, h3⟩ := h
  exact ⟨F, h1, h2, fun a ha => h3 a (hA a ha)⟩
end Go.Proofs.Ytafbkdpheneceaa
