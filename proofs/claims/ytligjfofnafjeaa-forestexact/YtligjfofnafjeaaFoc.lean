
import Derived.Test.YtligjfofnafjeaaGam
import Derived.Test.YtligjfofnafjeaaFor9
namespace Go.Proofs.Ytligjfofnafjeaa
open Go.RowKit

/-! assaylaw21.apart: what holds from round to round -/
def mkI (i : Nat) : Value := .int .i64 (-10 - (i : Int))
def rep (i k : Nat) : List Value := List.replicate k (mkI i)
theorem rep_len (i k : Nat) : (rep i k).length = k := by simp [rep]
theorem rep_succ (i k : Nat) : rep i (k + 1) = rep i k ++ [mkI i] := by unfold rep; rw [List.replicate_succ']
theorem rep_get (i k j : Nat) (h : j < k) : (rep i k)[j]? = some (mkI i) := by simp [rep, h]
/-- What list m holds while list i is marked, up to j. -/
def cI (o : Nat → List Value) (i j m : Nat) : List Value := if m < i then rep m (o m).length else if m = i then rep i j ++ (o m).drop j else o m
theorem cI_set (o : Nat → List Value) (i j : Nat) (hj : j < (o i).length) : (cI o i j i).set j (mkI i) = cI o i (j + 1) i := by
  unfold cI
  rw [if_neg (Nat.lt_irrefl _), if_pos rfl, if_neg (Nat.lt_irrefl _), if_pos rfl, rep_succ]
  rw [List.set_append_right _ _ (by rw [rep_len]; exact Nat.le_refl _), rep_len, Nat.sub_self]
  rw [List.drop_eq_getElem_cons hj, List.set_cons_zero, List.append_assoc]
  rfl
theorem cI_ne (o : Nat → List Value) (i j j' m : Nat) (h : m ≠ i) : cI o i j m = cI o i j' m := by
  unfold cI
  split
  · rfl
  · first | rfl | simp only [if_neg h]
theorem cI_next (o : Nat → List Value) (i m : Nat) : cI o i (o i).length m = cI o (i + 1) 0 m := by
  unfold cI
  by_cases h1 : m < i
  · rw [if_pos h1, if_pos (by omega)]
  · rw [if_neg h1]
    by_cases h2 : m = i
    · subst h2
      rw [if_pos rfl, if_pos (by omega), List.drop_eq_nil_of_le (Nat.le_refl _), List.append_nil]
    · rw [if_neg h2, if_neg (by omega)]
      by_cases h3 : m = i + 1
      · subst h3; rw [if_pos rfl]; simp [rep]
      · rw [if_neg h3]
theorem cI_start (o : Nat → List Value) (m : Nat) : cI o 0 0 m = o m := by
  unfold cI
  rw [if_neg (Nat.not_lt_zero _)]
  by_cases h : m = 0
  · subst h; rw [if_pos rfl]; simp [rep]
  · rw [if_neg h]
theorem cI_done (o : Nat → List Value) (p j m : Nat) (h : m < p) : cI o p j m = rep m (o m).length := by unfold cI; rw [if_pos h]
theorem cI_len (o : Nat → List Value) (i j m : Nat) (hj : j ≤ (o i).length) : (cI o i j m).length = (o m).length := by
  unfold cI
  split
  · exact rep_len _ _
  · split
    · rename_i h; subst h
      rw [List.length_append, rep_len, List.length_drop]; omega
    · rfl
/-- The lists while they are marked; R: the other things. -/
structure A1 (B : Nat) (w wr : World) (lv : Nat → Value) (C : Nat → List Value) (R : Nat → Option Th) : Prop where
  game : ∃ T, Ga wr B T ∧ (∀ m, m < 8 → T m = some (thG 3 B (lv m) (C m))) ∧ ∀ k, 8 ≤ k → T k = R k
  be : Below B w wr
theorem A1.later {B : Nat} {w wr w1 : World} {lv : Nat → Value} {C : Nat → List Value} {R : Nat → Option Th} (h : A1 B w wr lv C R) (hb : Below wr.heap.size wr w1) : A1 B w w1 lv C R := by
  obtain ⟨T, h1, h2, h3⟩ := h.game
  exact ⟨⟨T, h1.later hb, h2, h3⟩, h.be.trans (hb.mono h1.size)⟩
theorem A1.own {B : Nat} {w wr : World} {lv : Nat → Value} {C : Nat → List Value} {R : Nat → Option Th} (h : A1 B w wr lv C R) (m : Nat) (hm : m < 8) : OwnG 3 wr B (lv m) (C m) := by
  obtain ⟨T, h1, h2, h3⟩ := h.game
  exact h1.isG (h2 m hm)
theorem A1.rest {B : Nat} {w wr : World} {lv : Nat → Value} {C : Nat → List Value} {R : Nat → Option Th} (h : A1 B w wr lv C R) {k : Nat} (hk : 8 ≤ k) {e : TypeId} {v : Value} {xs : List Value} (hR : R k = some (thG e B v xs)) : OwnG e wr B v xs := by
  obtain ⟨T, h1, h2, h3⟩ := h.game
  exact h1.isG (by rw [h3 k hk, hR])
theorem A1.mark {B : Nat} {w wr : World} {lv : Nat → Value} {C C' : Nat → List Value} {R : Nat → Option Th} (h : A1 B w wr lv C R) (i j : Nat) (hi : i < 8) (v : Value) (hj : j < (C i).length) (hC : (C i).set j v = C' i) (hne : ∀ m, m ≠ i → C m = C' m) :
    ∃ g c u, lv i = .slice (some ⟨g, 0, none⟩) (C i).length c ∧ wr.cell? ⟨g, j, none⟩ = some u ∧ wr.frozen? ⟨g, j, none⟩ = false ∧ A1 B w (wr.setCell ⟨g, j, none⟩ v) lv C' R := by
  obtain ⟨T, h1, h2, h3⟩ := h.game
  have hO := h1.isG (h2 i hi)
  obtain ⟨g, c, he, -⟩ := hO.form (fun h0 => by rw [h0] at hj; simp at hj)
  have hO' := hO
  rw [he] at hO'
  have hk := h2 i hi
  rw [he] at hk
  refine ⟨g, c, _, he, hO'.cell j _ (List.getElem?_eq_getElem hj), hO'.frozen j, ?_⟩
  obtain ⟨hO2, hg2⟩ := hO'.put j v
  rw [hC] at hO2
  have hG := (h1.putG hk (Keep.of_grown hg2 (fun q hq => by cases hq; simp [Value.ownBlock])) hO2 (fun q hq => .inl hq)).1
  refine ⟨⟨_, hG, fun m hm => ?_, fun k hk' => by rw [updT_ne _ _ _ _ (by omega)]; exact h3 k hk'⟩, h.be.trans (hO'.below (by exact hg2) h1.size)⟩
  by_cases hmi : m = i
  · subst hmi
    rw [updT_same, he]
  · rw [updT_ne _ _ _ _ hmi, h2 m hm, hne m hmi]
/-- append(a, u) to a list of the game. -/
theorem Ga.app1 {t e : TypeId} {bytes : Nat} (EL : Elt t e bytes) {W : World} {B : Nat} {T : Nat → Option Th} (h : Ga W B T) {k : Nat} {a : Value} {xs : List Value} (hk : T k = some (thG e B a xs)) (u : Value) (y : Nat) (ty : TypeId) (hus : W.cell? ⟨y, 0, none⟩ = some u) (h1 : u.oneCell' = true) (hl : (xs.length + 1) * bytes ≤ 140737488355328) (h63 : xs.length + 1 ≤ 9223372036854775807) :
    ∃ (g c' : Nat) (W' : World), (Builtin.append_ #[t, t] ty #[a, .slice (some ⟨y, 0, none⟩) 1 1]).run Try.prog W = .ok (.slice (some ⟨g, 0, none⟩) (xs.length + 1) c') W' ∧ Ga W' B (updT T k (thG e B (.slice (some ⟨g, 0, none⟩) (xs.length + 1) c') (xs ++ [u]))) ∧ Below B W W' := by
  have hO := h.isG hk
  obtain ⟨xa, ca, ea⟩ := hO.isG.len
  obtain ⟨g, c', W', hr, hO', hK, hway⟩ := apLies EL W B xa xs.length ca xs [u] y 1 ty (by rw [← ea]; exact hO) rfl rfl (fun j v hv => by
    rcases j with _ | j
    · simp at hv; subst hv; exact hus
    · simp at hv) (fun v hv => by simp at hv; subst hv; exact h1) (by omega) h.size (by omega) (by unfold maxLen; omega)
  rw [← ea] at hr hK hway
  have hG := h.putG hk hK hO' (fun q hq => by
    have hq' : q = g := by simpa [Value.ownBlock] using hq.symm
    subst hq'
    exact hway)
  exact ⟨g, c', W', hr, hG.1, (hG.2 [] (fun a ha => by cases ha)).below h.size⟩
theorem eltL21 : Elt 59 26 24 := ⟨Try.underlying59, by
  have h : (Try.prog.info? 26).map (fun i => (i.zero, i.size, i.bytes)) = some (some (.slice none 0 0), 1, 24) := by kernel_rfl
  obtain ⟨i, hi, hzz⟩ := Option.map_eq_some_iff.1 h
  simp only [Prod.mk.injEq] at hzz
  exact ⟨i, _, hi, hzz.1, hzz.2.1, hzz.2.2, rfl⟩⟩
theorem eltU21 : Elt 25 33 4 := ⟨Try.underlying25, by
  have h : (Try.prog.info? 33).map (fun i => (i.zero, i.size, i.bytes)) = some (some (.int .u32 0), 1, 4) := by kernel_rfl
  obtain ⟨i, hi, hzz⟩ := Option.map_eq_some_iff.1 h
  simp only [Prod.mk.injEq] at hzz
  exact ⟨i, _, hi, hzz.1, hzz.2.1, hzz.2.2, rfl⟩⟩
theorem eltB21 : Elt 24 4 1 := ⟨Try.underlying24, by
  have h : (Try.prog.info? 4).map (fun i => (i.zero, i.size, i.bytes)) = some (some (.bool false), 1, 1) := by kernel_rfl
  obtain ⟨i, hi, hzz⟩ := Option.map_eq_some_iff.1 h
  simp only [Prod.mk.injEq] at hzz
  exact ⟨i, _, hi, hzz.1, hzz.2.1, hzz.2.2, rfl⟩⟩
/-- The lists while they are lengthened: the first i are. -/
structure A2 (B : Nat) (w wr : World) (i : Nat) (lv pv : Nat → Value) (N : Nat → Nat) (qv : Value) (R : Nat → Option Th) : Prop where
  game : ∃ T, Ga wr B T ∧ (∀ m, m < i → T m = some (thN 3 B (pv m) (rep m (N m + 2)) (lv m) (rep m (N m)))) ∧ (∀ m, i ≤ m → m < 8 → T m = some (thG 3 B (lv m) (rep m (N m)))) ∧ (∀ k, 8 ≤ k → k ≠ 13 → T k = R k) ∧ T 13 = some (thG 26 B qv ((List.range i).map pv))
  be : Below B w wr
theorem A2.later {B : Nat} {w wr w1 : World} {i : Nat} {lv pv : Nat → Value} {N : Nat → Nat} {qv : Value} {R : Nat → Option Th} (h : A2 B w wr i lv pv N qv R) (hb : Below wr.heap.size wr w1) : A2 B w w1 i lv pv N qv R := by
  obtain ⟨T, h1, h2⟩ := h.game
  exact ⟨⟨T, h1.later hb, h2⟩, h.be.trans (hb.mono h1.size)⟩
/-- One round: append, append, append. -/
theorem A2.round {B : Nat} {w wr : World} {i : Nat} {lv pv : Nat → Value} {N : Nat → Nat} {qv : Value} {R : Nat → Option Th} (h : A2 B w wr i lv pv N qv R) (hi : i < 8) (hN : ∀ m, N m ≤ 3298534883328) :
    ∃ g1 c1 W1, (Builtin.append_ #[26, 26] 26 #[lv i, .slice (some ⟨wr.heap.size, 0, none⟩) 1 1]).run Try.prog (wr.alloc (.cells #[mkI i] 3)) = .ok (.slice (some ⟨g1, 0, none⟩) (N i + 1) c1) W1 ∧
    ∃ g2 c2 W2, (Builtin.append_ #[26, 26] 26 #[.slice (some ⟨g1, 0, none⟩) (N i + 1) c1, .slice (some ⟨W1.heap.size, 0, none⟩) 1 1]).run Try.prog (W1.alloc (.cells #[mkI i] 3)) = .ok (.slice (some ⟨g2, 0, none⟩) (N i + 2) c2) W2 ∧
    ∃ g3 c3 W3, (Builtin.append_ #[59, 59] 59 #[qv, .slice (some ⟨W2.heap.size, 0, none⟩) 1 1]).run Try.prog (W2.alloc (.cells #[.slice (some ⟨g2, 0, none⟩) (N i + 2) c2] 26)) = .ok (.slice (some ⟨g3, 0, none⟩) (i + 1) c3) W3 ∧
    A2 B w W3 (i + 1) lv (fun m => if m = i then .slice (some ⟨g2, 0, none⟩) (N i + 2) c2 else pv m) N (.slice (some ⟨g3, 0, none⟩) (i + 1) c3) R := by
  obtain ⟨T, h1, h2, h3, h4, h5⟩ := h.game
  have hNi := hN i
  have b1 := below_alloc wr (.cells #[mkI i] 3)
  have l1 : (wr.alloc (.cells #[mkI i] 3)).cell? ⟨wr.heap.size, 0, none⟩ = some (mkI i) := cell_of_row _ _ 0 _ _ _ (heap_alloc_last _ _)
  obtain ⟨g1, c1, W1, r1, G1, d1⟩ := ((h1.beginN (h3 i (Nat.le_refl _) hi)).later b1).appN eltI21 (updT_same _ _ _) (mkI i) wr.heap.size 26 l1 rfl (by rw [rep_len]; omega) (by rw [rep_len]; omega)
  rw [rep_len] at r1 G1
  rw [← rep_succ] at G1
  have b2 := below_alloc W1 (.cells #[mkI i] 3)
  have l2 : (W1.alloc (.cells #[mkI i] 3)).cell? ⟨W1.heap.size, 0, none⟩ = some (mkI i) := cell_of_row _ _ 0 _ _ _ (heap_alloc_last _ _)
  obtain ⟨g2, c2, W2, r2, G2, d2⟩ := (G1.later b2).appN eltI21 (updT_same _ _ _) (mkI i) W1.heap.size 26 l2 rfl (by rw [rep_len]; omega) (by rw [rep_len]; omega)
  rw [rep_len] at r2 G2
  rw [← rep_succ] at G2
  have b3 := below_alloc W2 (.cells #[.slice (some ⟨g2, 0, none⟩) (N i + 1 + 1) c2] 26)
  have l3 : (W2.alloc (.cells #[.slice (some ⟨g2, 0, none⟩) (N i + 1 + 1) c2] 26)).cell? ⟨W2.heap.size, 0, none⟩ = some (.slice (some ⟨g2, 0, none⟩) (N i + 1 + 1) c2) := cell_of_row _ _ 0 _ _ _ (heap_alloc_last _ _)
  have hk13 : updT (updT (updT T i (thN 3 B (lv i) (rep i (N i)) (lv i) (rep i (N i)))) i (thN 3 B (.slice (some ⟨g1, 0, none⟩) (N i + 1) c1) (rep i (N i + 1)) (lv i) (rep i (N i)))) i (thN 3 B (.slice (some ⟨g2, 0, none⟩) (N i + 1 + 1) c2) (rep i (N i + 1 + 1)) (lv i) (rep i (N i))) 13 = some (thG 26 B qv ((List.range i).map pv)) := by
    rw [updT_ne _ _ _ _ (by omega), updT_ne _ _ _ _ (by omega), updT_ne _ _ _ _ (by omega)]; exact h5
  have hlen : ((List.range i).map pv).length = i := by simp
  obtain ⟨g3, c3, W3, r3, G3, d3⟩ := (G2.later b3).app1 eltL21 hk13 (.slice (some ⟨g2, 0, none⟩) (N i + 1 + 1) c2) W2.heap.size 59 l3 rfl (by rw [hlen]; omega) (by rw [hlen]; omega)
  rw [hlen] at r3 G3
  refine ⟨g1, c1, W1, r1, g2, c2, W2, r2, g3, c3, W3, r3, ⟨_, G3, fun m hm => ?_, fun m hm hm8 => ?_, fun k hk hk13 => ?_, ?_⟩, ?_⟩
  · rw [updT_ne _ _ _ _ (by omega)]
    by_cases e : m = i
    · subst e; rw [updT_same, if_pos rfl]
    · rw [updT_ne _ _ _ _ e, updT_ne _ _ _ _ e, updT_ne _ _ _ _ e, if_neg e]; exact h2 m (by omega)
  · rw [updT_ne _ _ _ _ (by omega), updT_ne _ _ _ _ (by omega), updT_ne _ _ _ _ (by omega), updT_ne _ _ _ _ (by omega)]; exact h3 m (by omega) hm8
  · rw [updT_ne _ _ _ _ hk13, updT_ne _ _ _ _ (by omega), updT_ne _ _ _ _ (by omega), updT_ne _ _ _ _ (by omega)]; exact h4 k hk hk13
  · rw [updT_same]
    have e9 : (List.range i).map pv ++ [Value.slice (some ⟨g2, 0, none⟩) (N i + 1 + 1) c2] = (List.range (i + 1)).map (fun m => if m = i then .slice (some ⟨g2, 0, none⟩) (N i + 2) c2 else pv m) := by
      rw [List.range_succ, List.map_append]
      congr 1
      · exact List.map_congr_left fun m hm => by
          have : m < i := by simpa using hm
          rw [if_neg (by omega)]
      · simp
    rw [e9]
  · have s1 := Nat.le_trans h1.size b1.size
    have s2 := Nat.le_trans s1 d1.size
    have s3 := Nat.le_trans s2 b2.size
    have s4 := Nat.le_trans s3 d2.size
    exact (((((h.be.trans (b1.mono h1.size)).trans d1).trans (b2.mono s2)).trans d2).trans (b3.mono s4)).trans d3
theorem A2.rest {B : Nat} {w wr : World} {i : Nat} {lv pv : Nat → Value} {N : Nat → Nat} {qv : Value} {R : Nat → Option Th} (h : A2 B w wr i lv pv N qv R) {k : Nat} (hk : 8 ≤ k) (hk13 : k ≠ 13) {e : TypeId} {v : Value} {xs : List Value} (hR : R k = some (thG e B v xs)) : OwnG e wr B v xs := by
  obtain ⟨T, h1, -, -, h4, -⟩ := h.game
  exact h1.isG (by rw [h4 k hk hk13, hR])
theorem A2.own {B : Nat} {w wr : World} {i : Nat} {lv pv : Nat → Value} {N : Nat → Nat} {qv : Value} {R : Nat → Option Th} (h : A2 B w wr i lv pv N qv R) (m : Nat) (hi : i ≤ m) (hm : m < 8) : OwnG 3 wr B (lv m) (rep m (N m)) := by
  obtain ⟨T, h1, -, h3, -, -⟩ := h.game
  exact h1.isG (h3 m hi hm)
theorem A2.both {B : Nat} {w wr : World} {i : Nat} {lv pv : Nat → Value} {N : Nat → Nat} {qv : Value} {R : Nat → Option Th} (h : A2 B w wr i lv pv N qv R) (m : Nat) (hm : m < i) : OwnG 3 wr B (pv m) (rep m (N m + 2)) ∧ IsG wr (lv m) (rep m (N m)) := by
  obtain ⟨T, h1, h2, -⟩ := h.game
  exact h1.isN (h2 m hm)
theorem A2.longer {B : Nat} {w wr : World} {i : Nat} {lv pv : Nat → Value} {N : Nat → Nat} {qv : Value} {R : Nat → Option Th} (h : A2 B w wr i lv pv N qv R) : OwnG 26 wr B qv ((List.range i).map pv) := by
  obtain ⟨T, h1, -, -, -, h5⟩ := h.game
  exact h1.isG h5
/-- Parents while they are marked. -/
structure A4 (B n : Nat) (w wr : World) (V U : Nat → Value) (g2 g3 : Nat) (k1 k2 : List Value) (p q : Nat → Nat) : Prop where
  game : ∃ T, Ga wr B T ∧ T 8 = some (thG 33 B (V 1) (uF p n)) ∧ T 9 = some (thG 33 B (U 1) (uF q n)) ∧ T 10 = some (thG 4 B (V 0) k1) ∧ T 11 = some (thG 4 B (U 0) k2) ∧ T 14 = some (thRow g2 (foA V)) ∧ T 15 = some (thRow g3 (foA U))
  be : Below B w wr
variable {B n : Nat} {w wr : World} {V U : Nat → Value} {g2 g3 : Nat} {k1 k2 : List Value} {p q : Nat → Nat}
theorem A4.row2 (h : A4 B n w wr V U g2 g3 k1 k2 p q) : RowC wr g2 (foA V) ∧ RowC wr g3 (foA U) := by
  obtain ⟨T, h1, -, -, -, -, h6, h7⟩ := h.game
  exact ⟨h1.isRow h6, h1.isRow h7⟩
theorem A4.own (h : A4 B n w wr V U g2 g3 k1 k2 p q) : OwnG 33 wr B (V 1) (uF p n) ∧ OwnG 33 wr B (U 1) (uF q n) := by
  obtain ⟨T, h1, h2, h3, -⟩ := h.game
  exact ⟨h1.isG h2, h1.isG h3⟩
theorem A4.set8 (h : A4 B n w wr V U g2 g3 k1 k2 p q) (i v : Nat) (hi : i < n) : ∃ g c u, V 1 = .slice (some ⟨g, 0, none⟩) n c ∧ wr.cell? ⟨g, i, none⟩ = some u ∧ wr.frozen? ⟨g, i, none⟩ = false ∧ A4 B n w (wr.setCell ⟨g, i, none⟩ (.int .u32 (v : Int))) V U g2 g3 k1 k2 (fun j => if j = i then v else p j) q := by
  obtain ⟨T, h1, h2, h3, h4, h5, h6, h7⟩ := h.game
  have hO := h1.isG h2
  obtain ⟨g, c, he, -⟩ := hO.form (fun e => by have := uF_len p n; rw [e] at this; simp at this; omega)
  rw [uF_len] at he
  have hO' := hO
  rw [he] at hO'
  have hk := h2
  rw [he] at hk
  refine ⟨g, c, _, he, hO'.cell i _ (uF_get p n i hi), hO'.frozen i, ?_⟩
  obtain ⟨hO2, hg2⟩ := hO'.put i (.int .u32 (v : Int))
  rw [uF_set] at hO2
  have hG := (h1.putG hk (Keep.of_grown hg2 (fun q hq => by cases hq; simp [Value.ownBlock])) hO2 (fun q hq => .inl hq)).1
  refine ⟨⟨_, hG, by rw [updT_same, he], ?_, ?_, ?_, ?_, ?_⟩, h.be.trans (hO'.below (by exact hg2) h1.size)⟩
  all_goals rw [updT_ne _ _ _ _ (by omega)]; assumption
theorem A4.set9 (h : A4 B n w wr V U g2 g3 k1 k2 p q) (i v : Nat) (hi : i < n) : ∃ g c u, U 1 = .slice (some ⟨g, 0, none⟩) n c ∧ wr.cell? ⟨g, i, none⟩ = some u ∧ wr.frozen? ⟨g, i, none⟩ = false ∧ A4 B n w (wr.setCell ⟨g, i, none⟩ (.int .u32 (v : Int))) V U g2 g3 k1 k2 p (fun j => if j = i then v else q j) := by
  obtain ⟨T, h1, h2, h3, h4, h5, h6, h7⟩ := h.game
  have hO := h1.isG h3
  obtain ⟨g, c, he, -⟩ := hO.form (fun e => by have := uF_len q n; rw [e] at this; simp at this; omega)
  rw [uF_len] at he
  have hO' := hO
  rw [he] at hO'
  have hk := h3
  rw [he] at hk
  refine ⟨g, c, _, he, hO'.cell i _ (uF_get q n i hi), hO'.frozen i, ?_⟩
  obtain ⟨hO2, hg2⟩ := hO'.put i (.int .u32 (v : Int))
  rw [uF_set] at hO2
  have hG := (h1.putG hk (Keep.of_grown hg2 (fun q hq => by cases hq; simp [Value.ownBlock])) hO2 (fun q hq => .inl hq)).1
  refine ⟨⟨_, hG, ?_, by rw [updT_same, he], ?_, ?_, ?_, ?_⟩, h.be.trans (hO'.below (by exact hg2) h1.size)⟩
  all_goals rw [updT_ne _ _ _ _ (by omega)]; assumption
/-- The four appends behind it. -/
theorem A4.four (h : A4 B n w wr V U g2 g3 k1 k2 p q) (hn : n ≤ 3298534883328) (l1 : k1.length = n) (l2 : k2.length = n) :
    ∃ ga ca W1, (Builtin.append_ #[25, 25] 25 #[V 1, .slice (some ⟨wr.heap.size, 0, none⟩) 1 1]).run Try.prog (wr.alloc (.cells #[.int .u32 73] 33)) = .ok (.slice (some ⟨ga, 0, none⟩) (n + 1) ca) W1 ∧
    ∃ gb cb W2, (Builtin.append_ #[25, 25] 25 #[U 1, .slice (some ⟨W1.heap.size, 0, none⟩) 1 1]).run Try.prog (W1.alloc (.cells #[.int .u32 74] 33)) = .ok (.slice (some ⟨gb, 0, none⟩) (n + 1) cb) W2 ∧
    (IsG W2 (V 1) (uF p n) ∧ IsG W2 (U 1) (uF q n) ∧ OwnG 33 W2 B (.slice (some ⟨ga, 0, none⟩) (n + 1) ca) (uF p n ++ [.int .u32 73]) ∧ OwnG 33 W2 B (.slice (some ⟨gb, 0, none⟩) (n + 1) cb) (uF q n ++ [.int .u32 74]) ∧ RowC W1 g3 (foA U) ∧ RowC W2 g2 (foA V) ∧ RowC W2 g3 (foA U)) ∧
    ∃ gc cc W3, (Builtin.append_ #[24, 24] 24 #[V 0, .slice (some ⟨W2.heap.size, 0, none⟩) 1 1]).run Try.prog (W2.alloc (.cells #[.bool true] 4)) = .ok (.slice (some ⟨gc, 0, none⟩) (n + 1) cc) W3 ∧ RowC W3 g3 (foA U) ∧
    ∃ gd cd W4, (Builtin.append_ #[24, 24] 24 #[U 0, .slice (some ⟨W3.heap.size, 0, none⟩) 1 1]).run Try.prog (W3.alloc (.cells #[.bool false] 4)) = .ok (.slice (some ⟨gd, 0, none⟩) (n + 1) cd) W4 ∧
    W4.cell? ⟨ga, n, none⟩ = some (.int .u32 73) ∧ W4.cell? ⟨gb, n, none⟩ = some (.int .u32 74) ∧ W4.cell? ⟨gc, n, none⟩ = some (.bool true) ∧ W4.cell? ⟨gd, n, none⟩ = some (.bool false) ∧ Below B w W4 := by
  obtain ⟨T, h1, h2, h3, h4, h5, h6, h7⟩ := h.game
  have lit : ∀ (W : World) (v : Value) (t : TypeId), (W.alloc (.cells #[v] t)).cell? ⟨W.heap.size, 0, none⟩ = some v := fun W v t => cell_of_row _ _ 0 _ _ _ (heap_alloc_last _ _)
  have b1 := below_alloc wr (.cells #[Value.int .u32 73] 33)
  obtain ⟨ga, ca, W1, r1, G1, d1⟩ := ((h1.beginN h2).later b1).appN eltU21 (updT_same _ _ _) (.int .u32 73) wr.heap.size 25 (lit _ _ _) rfl (by rw [uF_len]; omega) (by rw [uF_len]; omega)
  rw [uF_len] at r1 G1
  have b2 := below_alloc W1 (.cells #[Value.int .u32 74] 33)
  have G1' := (G1.beginN (k := 9) (a := U 1) (xs := uF q n) (e := 33) (by rw [updT_ne _ _ _ _ (by omega), updT_ne _ _ _ _ (by omega)]; exact h3)).later b2
  obtain ⟨gb, cb, W2, r2, G2, d2⟩ := G1'.appN eltU21 (updT_same _ _ _) (.int .u32 74) W1.heap.size 25 (lit _ _ _) rfl (by rw [uF_len]; omega) (by rw [uF_len]; omega)
  rw [uF_len] at r2 G2
  have b3 := below_alloc W2 (.cells #[Value.bool true] 4)
  obtain ⟨gc, cc, W3, r3, G3, d3⟩ := (G2.later b3).app1 eltB21 (k := 10) (a := V 0) (xs := k1) (by rw [updT_ne _ _ _ _ (by omega), updT_ne _ _ _ _ (by omega), updT_ne _ _ _ _ (by omega), updT_ne _ _ _ _ (by omega)]; exact h4) (.bool true) W2.heap.size 24 (lit _ _ _) rfl (by omega) (by omega)
  rw [l1] at r3 G3
  have b4 := below_alloc W3 (.cells #[Value.bool false] 4)
  obtain ⟨gd, cd, W4, r4, G4, d4⟩ := (G3.later b4).app1 eltB21 (k := 11) (a := U 0) (xs := k2) (by rw [updT_ne _ _ _ _ (by omega), updT_ne _ _ _ _ (by omega), updT_ne _ _ _ _ (by omega), updT_ne _ _ _ _ (by omega), updT_ne _ _ _ _ (by omega)]; exact h5) (.bool false) W3.heap.size 24 (lit _ _ _) rfl (by omega) (by omega)
  rw [l2] at r4 G4
  have m8 := (G2.isN (k := 8) (by rw [updT_ne _ _ _ _ (by omega), updT_ne _ _ _ _ (by omega), updT_same]))
  have m9 := (G2.isN (k := 9) (updT_same _ _ _))
  have n8 := (G4.isN (k := 8) (by rw [updT_ne _ _ _ _ (by omega), updT_ne _ _ _ _ (by omega), updT_ne _ _ _ _ (by omega), updT_ne _ _ _ _ (by omega), updT_same])).1
  have n9 := (G4.isN (k := 9) (by rw [updT_ne _ _ _ _ (by omega), updT_ne _ _ _ _ (by omega), updT_same])).1
  have n10 := G4.isG (k := 10) (by rw [updT_ne _ _ _ _ (by omega), updT_same])
  have n11 := G4.isG (k := 11) (updT_same _ _ _)
  have s1 := Nat.le_trans h1.size b1.size
  have s2 := Nat.le_trans s1 d1.size
  have s3 := Nat.le_trans s2 b2.size
  have s4 := Nat.le_trans s3 d2.size
  have s5 := Nat.le_trans s4 b3.size
  have s6 := Nat.le_trans s5 d3.size
  have rr : ∀ (X : Value) (xs : List Value) (u : Value), xs.length = n → (xs ++ [u])[n]? = some u := fun X xs u hx => by rw [List.getElem?_append_right (by omega), hx, Nat.sub_self]; rfl
  refine ⟨ga, ca, W1, r1, gb, cb, W2, r2, ⟨m8.2, m9.2, m8.1, m9.1, G1.isRow (k := 15) (by rw [updT_ne _ _ _ _ (by omega), updT_ne _ _ _ _ (by omega)]; exact h7), G2.isRow (k := 14) (by rw [updT_ne _ _ _ _ (by omega), updT_ne _ _ _ _ (by omega), updT_ne _ _ _ _ (by omega), updT_ne _ _ _ _ (by omega)]; exact h6), G2.isRow (k := 15) (by rw [updT_ne _ _ _ _ (by omega), updT_ne _ _ _ _ (by omega), updT_ne _ _ _ _ (by omega), updT_ne _ _ _ _ (by omega)]; exact h7)⟩, gc, cc, W3, r3, G3.isRow (k := 15) (by rw [updT_ne _ _ _ _ (by omega), updT_ne _ _ _ _ (by omega), updT_ne _ _ _ _ (by omega), updT_ne _ _ _ _ (by omega), updT_ne _ _ _ _ (by omega)]; exact h7), gd, cd, W4, r4, n8.cell n _ (rr nilV _ _ (uF_len _ _)), n9.cell n _ (rr nilV _ _ (uF_len _ _)), n10.cell n _ (rr nilV _ _ l1), n11.cell n _ (rr nilV _ _ l2), ?_⟩
  exact (((((((h.be.trans (b1.mono h1.size)).trans d1).trans (b2.mono s2)).trans d2).trans (b3.mono s4)).trans d3).trans (b4.mono s6)).trans d4
end Go.Proofs.Ytligjfofnafjeaa
