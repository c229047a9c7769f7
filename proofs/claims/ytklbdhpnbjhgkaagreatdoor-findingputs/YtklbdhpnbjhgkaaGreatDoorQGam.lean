import Derived.Test.YtklbdhpnbjhgkaaGreatDoorQApl
namespace Go.Proofs.YtklbdhpnbjhgkaaGreatDoor
open Go.RowKit

/-! A list of one-cell elements that is appended to many times, and the one that it began as, as a thing of Gal's game -/
theorem isG_nil {w w' : World} {o : Value} (h : IsG w o []) : IsG w' o [] := by
  rcases h with h | ⟨x, c, he, -⟩
  · exact .inl h
  · exact .inr ⟨x, c, he, fun i hi => by simp at hi⟩
theorem isG_blk {w w' : World} {o : Value} {ys : List Value} (h : IsG w o ys) (hb : ∀ q, o.ownBlock = some q → w'.heap[q]? = w.heap[q]?) (hf : o.ownBlock = none → ys = []) : IsG w' o ys := by
  rcases h with h | ⟨x, c, rfl, hc⟩
  · exact .inl h
  · refine .inr ⟨x, c, rfl, fun i hi => ?_⟩
    have e : (x.add i).block = x.block := Addr.add_block x i
    rw [World.cell?_of_block (w := w) (by
      rw [e]
      by_cases hx : (Value.slice (some x) ys.length c).ownBlock = none
      · have := hf hx; rw [this] at hi; simp at hi
      · obtain ⟨q, hq⟩ := Option.ne_none_iff_exists'.1 hx
        have := hb q hq
        have hqx : q = x.block := by
          simp [Value.ownBlock] at hq; exact hq.symm
        rw [← hqx]; exact this)]
    exact hc i hi
/-- What append does to a list of one's own: it stays where it is, or nothing that was there turns. -/
theorem apWay {t e : TypeId} {bytes : Nat} (EL : Elt t e bytes) (W W' : World) (B : Nat) (v a : Value) (xs : List Value) (u : Value) (y c : Nat) (ty : TypeId) (h : OwnG e W B v xs) (hus : W.cell? ⟨y, 0, none⟩ = some u) (h1 : u.oneCell' = true) (hl : (xs.length + 1) * bytes ≤ 140737488355328) (h63 : xs.length + 1 ≤ 9223372036854775807)
    (hr : (Builtin.append_ #[t, t] ty #[v, .slice (some ⟨y, 0, none⟩) 1 c]).run Tryz.prog W = .ok a W') : xs = [] ∨ (∃ g cap, v = .slice (some ⟨g, 0, none⟩) xs.length cap ∧ a = .slice (some ⟨g, 0, none⟩) (xs.length + 1) cap) ∨ Below W.heap.size W W' := by
  obtain ⟨i, z, hi, hz, hsz, hby, hzs⟩ := EL.info
  have hh := h
  obtain ⟨hn, ⟨he, h0⟩ | ⟨g, cap, cur, he, hb, hg, hle, hm, hs, ht⟩⟩ := h
  · exact .inl (List.eq_nil_of_length_eq_zero h0)
  · right
    have hnews : ∀ (j : Nat) x, [u][j]? = some x → W.cell? ((⟨y, 0, none⟩ : Addr).add j) = some x := fun j x hx => by
      rcases j with _ | j
      · simp at hx; subst hx; rw [addr_add]; exact hus
      · simp at hx
    by_cases hroom : xs.length + 1 ≤ cap
    · left
      have h9 := run_append_room (P := Tryz.prog) (w := W) t ty e i EL.ht hi g xs.length cap cur hg ⟨y, 0, none⟩ 1 c [u] (by rw [hsz]; rfl) hnews (by simpa using h1) hroom (by rw [hsz]; simp; omega)
      rw [he] at hr
      rw [h9] at hr
      simp only [Result.ok.injEq] at hr
      exact ⟨g, cap, he, hr.1.symm⟩
    · right
      have h9 := run_append_grow (P := Tryz.prog) (w := W) t ty e i z EL.ht hi hz ⟨g, 0, none⟩ xs.length cap xs (by rw [hsz]; omega) (fun j x hx => by rw [he] at hh; rw [addr_add, Nat.zero_add]; exact hh.cell j x hx) ⟨y, 0, none⟩ 1 c [u] (by rw [hsz]; rfl) hnews (by omega) (by omega) (growslice_fits (by omega) (by rw [hby]; omega))
      rw [he] at hr
      rw [h9] at hr
      simp only [Result.ok.injEq] at hr
      obtain ⟨-, rfl⟩ := hr
      exact (Below.refl _ _).drew.alloc (Nat.le_refl _) _
/-- A list of one's own, and the one that it began as. -/
def thN (e : TypeId) (B : Nat) (a : Value) (xs : List Value) (o : Value) (ys : List Value) : Th where
  P w F R := OwnG e w B a xs ∧ IsG w o ys ∧ ys <+: xs ∧ F = a.ownBlock.toList ∧ R = a.ownBlock.toList ++ o.ownBlock.toList ∧ (∀ q, o.ownBlock = some q → q < w.heap.size) ∧ (o.ownBlock = none → ys = []) ∧ ∀ x n c, o = .slice (some x) n c → x = ⟨x.block, 0, none⟩
  keeps := fun {w w' F R G} ⟨h1, h2, h3, h4, h5, h6, h7, h8⟩ hK hd => ⟨h1.keepsF hK (fun q hq => hd q (by rw [h5, hq]; simp)), isG_blk h2 (fun q hq => hK.block q (h6 q hq) (hd q (by rw [h5, hq]; simp))) h7, h3, h4, h5, fun q hq => Nat.lt_of_lt_of_le (h6 q hq) hK.size, h7, h8⟩
  sub := fun ⟨_, _, _, h4, h5, _⟩ q hq => by rw [h4] at hq; rw [h5]; exact List.mem_append_left _ hq
  lt := fun ⟨h1, _, _, _, h5, h6, _⟩ q hq => by
    rw [h5] at hq
    rcases List.mem_append.1 hq with hq | hq
    · exact (h1.lt q (by simpa using hq)).2
    · exact h6 q (by simpa using hq)
theorem Ga.isN {e : TypeId} {W : World} {B : Nat} {T : Nat → Option Th} (h : Ga W B T) {k : Nat} {a o : Value} {xs ys : List Value} (hk : T k = some (thN e B a xs o ys)) : OwnG e W B a xs ∧ IsG W o ys := by
  obtain ⟨F, R, h1, h2, -⟩ := h.get hk
  exact ⟨h1, h2⟩
theorem Ga.beginN {e : TypeId} {W : World} {B : Nat} {T : Nat → Option Th} (h : Ga W B T) {k : Nat} {a : Value} {xs : List Value} (hk : T k = some (thG e B a xs)) : Ga W B (updT T k (thN e B a xs a xs)) := by
  refine (h.act hk fun F R hP _ => ?_).1
  obtain ⟨hO, rfl, rfl⟩ := hP
  refine ⟨_, _, ⟨hO, hO.isG, List.prefix_refl _, rfl, rfl, fun q hq => (hO.lt q hq).2, fun hn => ?_, fun x n c hx => ?_⟩, fun q hq => .inl hq, fun q hq => .inl ?_, Keep.refl _ _⟩
  · rcases hO.2 with ⟨-, h0⟩ | ⟨g, cap, cur, he, -⟩
    · exact List.eq_nil_of_length_eq_zero h0
    · rw [he] at hn; simp [Value.ownBlock] at hn
  · rcases hO.2 with ⟨h0, -⟩ | ⟨g, cap, cur, he, -⟩
    · rw [h0] at hx; cases hx
    · rw [he] at hx; cases hx; rfl
  · rcases List.mem_append.1 hq with hq | hq <;> exact hq
/-- append(a, u) -/
theorem Ga.appN {t e : TypeId} {bytes : Nat} (EL : Elt t e bytes) {W : World} {B : Nat} {T : Nat → Option Th} (h : Ga W B T) {k : Nat} {a o : Value} {xs ys : List Value} (hk : T k = some (thN e B a xs o ys)) (u : Value) (y : Nat) (ty : TypeId) (hus : W.cell? ⟨y, 0, none⟩ = some u) (h1 : u.oneCell' = true) (hl : (xs.length + 1) * bytes ≤ 140737488355328) (h63 : xs.length + 1 ≤ 9223372036854775807) :
    ∃ (g c' : Nat) (W' : World), (Builtin.append_ #[t, t] ty #[a, .slice (some ⟨y, 0, none⟩) 1 1]).run Tryz.prog W = .ok (.slice (some ⟨g, 0, none⟩) (xs.length + 1) c') W' ∧ Ga W' B (updT T k (thN e B (.slice (some ⟨g, 0, none⟩) (xs.length + 1) c') (xs ++ [u]) o ys)) ∧ Below B W W' := by
  have hO := (h.isN hk).1
  obtain ⟨xa, ca, ea⟩ := hO.isG.len
  obtain ⟨g, c', W', hr, hO', hK, hway⟩ := apLies EL W B xa xs.length ca xs [u] y 1 ty (by rw [← ea]; exact hO) rfl rfl (fun j v hv => by
    rcases j with _ | j
    · simp at hv; subst hv; exact hus
    · simp at hv) (fun v hv => by simp at hv; subst hv; exact h1) (by omega) h.size (by omega) (by unfold maxLen; omega)
  rw [← ea] at hr hK hway
  have hap := apWay EL W W' B a _ xs u y 1 ty hO hus h1 hl h63 hr
  have hA := h.act (t' := thN e B (.slice (some ⟨g, 0, none⟩) (xs.length + 1) c') (xs ++ [u]) o ys) hk fun F R hP _ => by
    obtain ⟨-, p2, p3, rfl, rfl, p6, p7, p8⟩ := hP
    refine ⟨_, _, ⟨hO', ?_, p3.trans (List.prefix_append _ _), rfl, rfl, fun q hq => Nat.lt_of_lt_of_le (p6 q hq) hK.size, p7, p8⟩, fun q hq => ?_, fun q hq => ?_, hK⟩
    · rcases hap with h0 | ⟨g9, cap, e1, e2⟩ | hb
      · rw [h0] at p3
        have : ys = [] := List.prefix_nil.1 p3
        subst this
        exact isG_nil p2
      · by_cases hb : o.ownBlock = some g9
        · -- the same block
          simp only [Value.slice.injEq, Option.some.injEq, Addr.mk.injEq] at e2
          obtain ⟨⟨rfl, -⟩, -, -⟩ := e2
          rcases p2 with p2 | ⟨x, cx, rfl, hc⟩
          · exact .inl p2
          · refine .inr ⟨x, cx, rfl, fun i hi => ?_⟩
            have hx := p8 x _ _ rfl
            have hxb : x.block = g := by simp [Value.ownBlock] at hb; exact hb
            rw [hx, hxb, addr_add, Nat.zero_add]
            obtain ⟨t9, rfl⟩ := p3
            exact hO'.cell i _ (by rw [List.append_assoc, List.getElem?_append_left hi, List.getElem?_eq_getElem hi])
        · exact isG_blk p2 (fun q hq => hK.block q (p6 q hq) (fun hm => by
            rw [e1] at hm
            simp [Value.ownBlock] at hm
            exact hb (by rw [hq, hm]))) p7
      · exact p2.kept hb
    · have hq' : q = g := by simpa [Value.ownBlock] using hq
      subst hq'
      rcases hway with h9 | h9
      · exact .inl (by rw [h9]; simp)
      · exact .inr h9
    · rcases List.mem_append.1 hq with hq | hq
      · have hq' : q = g := by simpa [Value.ownBlock] using hq
        subst hq'
        rcases hway with h9 | h9
        · exact .inl (by rw [h9]; simp)
        · exact .inr h9
      · exact .inl (List.mem_append_right _ hq)
  exact ⟨g, c', W', hr, hA.1, (hA.2 [] (fun a ha => by cases ha)).below h.size⟩
end Go.Proofs.YtklbdhpnbjhgkaaGreatDoor
