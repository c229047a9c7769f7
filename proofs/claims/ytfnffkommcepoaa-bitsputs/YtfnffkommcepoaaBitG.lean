
import Derived.Test.YtfnffkommcepoaaBitW
import Derived.Test.YtfnffkommcepoaaBitP
import Derived.Test.YtfnffkommcepoaaBit9
namespace Go.Proofs.Ytfnffkommcepoaa
open Go.RowKit Go.Shelf
attribute [local go_sem] Oper.semAt_some

/-! bits.Get -/
theorem whole_torn (s : Sc) (k n o : Nat) (hk : k * 480 ≤ n) (ho : o = min ((k + 1) * 480) n - k * 480) : (isSl s && !overU s 0 o 480) = !tornB s k n := by
  have e : overU s 0 o 480 = overU s k n 480 := by
    rw [Bool.eq_iff_iff, overU_iff, overU_iff]
    constructor
    · rintro ⟨i, h1, h2, h3⟩; exact ⟨i, h1, by omega, h3⟩
    · rintro ⟨i, h1, h2, h3⟩; exact ⟨i, h1, by omega, h3⟩
  unfold tornB
  rw [e]
  cases isSl s <;> cases overU s k n 480 <;> rfl
theorem keeps_own {e : TypeId} {W W' : World} {B : Nat} {v : Value} {xs : List Value} (h : OwnG e W B v xs) (hg : W.grownBy W' v.ownBlock) : KeepsOthers W W' := by
  refine KeepsOthers.of_grownBy hg fun j o ej hj => ?_
  rcases h.2 with ⟨rfl, _⟩ | ⟨g, cap, cur, rfl, _, hgb, _⟩
  · simp [Value.ownBlock] at ej
  · obtain rfl : g = j := by simpa [Value.ownBlock] using ej
    rw [hgb] at hj; cases hj; rfl
theorem app_keepG {t e : TypeId} {bytes : Nat} (E : Elt t e bytes) (W : World) (B : Nat) (xu : Option Addr) (nu cu : Nat) (xs : List Value) (d : Value) (ty : TypeId) (h : OwnG e W B (.slice xu nu cu) xs) (hd : d.oneCell' = true) (hB : B ≤ W.heap.size) (hs : (nu + 1) * bytes ≤ 140737488355328) (h63 : nu + 1 ≤ maxLen) :
    ∃ g c' w', (Builtin.append_ #[t, t] ty #[.slice xu nu cu, .slice (some ⟨W.heap.size, 0, none⟩) 1 1]).run Try.prog (W.alloc (.cells #[d] e)) = .ok (.slice (some ⟨g, 0, none⟩) (nu + 1) c') w' ∧
      OwnG e w' B (.slice (some ⟨g, 0, none⟩) (nu + 1) c') (xs ++ [d]) ∧ Below B W w' ∧ KeepsOthers W w' ∧
      ∀ (v : Value) (e' : TypeId) (k m : Nat) (ys : List Value), W.ownsRow B e' k v m ys → ApartV v (.slice xu nu cu) → w'.ownsRow B e' k v m ys ∧ ApartV v (.slice (some ⟨g, 0, none⟩) (nu + 1) c') := by
  have hlen := h.num
  subst hlen
  have hA : Below W.heap.size W (W.alloc (.cells #[d] e)) := below_alloc _ _
  obtain ⟨i, z, hi, hz, hsz, hby, hzs⟩ := E.info
  have hcell : (W.alloc (.cells #[d] e)).cell? ⟨W.heap.size, 0, none⟩ = some d := cell_of_row _ _ 0 _ _ _ (heap_new W _)
  obtain ⟨g, c', w', hr, hO, hg, hway, hlt⟩ := run_append_lies (P := Try.prog) (W.alloc (.cells #[d] e)) t ty B e i z 1 bytes E.ht hi hz hsz hby hzs (by omega) (.slice xu xs.length cu) xs.length xs (h.keep hA) ⟨W.heap.size, 0, none⟩ 1 1 [d] (by simp) (fun j u hu => by
    rcases j with _ | j
    · simp at hu; subst hu; rw [addr_add]; exact hcell
    · simp at hu) (by simpa using hd) (by omega) h63 hs (by simp; omega) _ rfl
  refine ⟨g, c', w', hr, by unfold OwnG; rw [List.length_append]; exact hO, (hA.mono hB).trans (OwnG.below (h.keep hA) hg (by simp; omega)), (keeps_below hA).trans (keeps_own (h.keep hA) hg), ?_⟩
  intro v e' k m ys hv hap
  have hv2 : (W.alloc (.cells #[d] e)).ownsRow B e' k v m ys := World.ownsRow.kept hv (row := none) (World.grownBy_alloc W _ none) (by
    cases hq : v.ownBlock with
    | none => exact .inl rfl
    | some k => exact .inr (by simp))
  refine ⟨World.ownsRow.kept hv2 hg hap, ?_⟩
  unfold ApartV
  cases hq : v.ownBlock with
  | none => exact .inl rfl
  | some q =>
    right
    intro he
    have hql := (World.ownsRow.lt hv q hq).2
    have hqg : q = g := by simpa [Value.ownBlock] using he
    rcases hway with h1 | h1
    · rcases hap with h2 | h2
      · rw [hq] at h2; cases h2
      · exact h2 (by rw [hq, h1, hqg])
    · rw [World.size_alloc] at h1; omega
/-- The bits, those of the first k sectors read. -/
def upB (l : List Sc) (n k : Nat) : List Bool := (List.range n).map fun i => decide (i < k * 480) && bitOf l n i
theorem upB_zero (l : List Sc) (n : Nat) : upB l n 0 = List.replicate n false := by
  apply List.ext_getElem
  · simp [upB]
  · intro i h1 h2; simp [upB]
theorem upB_all (l : List Sc) (n m : Nat) (h : n ≤ m * 480) : upB l n m = (List.range n).map (bitOf l n) := by
  unfold upB
  apply List.map_congr_left
  intro i hi
  have : i < n := by simpa using hi
  simp [show i < m * 480 by omega]
theorem upB_len (l : List Sc) (n k : Nat) : (upB l n k).length = n := by simp [upB]
def setL {f : Nat → Bool} {m : Nat} (at' : Nat) (cs : List Bool) (pre : List (Hit f m)) : List Bool := pre.foldl (fun c z => c.set (at' + z.1) true) cs
theorem setL_snoc {f : Nat → Bool} {m : Nat} (at' : Nat) (cs : List Bool) (pre : List (Hit f m)) (z : Hit f m) : setL at' cs (pre ++ [z]) = (setL at' cs pre).set (at' + z.1) true := by simp [setL]
theorem setL_len {f : Nat → Bool} {m : Nat} (at' : Nat) : ∀ (pre : List (Hit f m)) (cs : List Bool), (setL at' cs pre).length = cs.length
  | [], _ => rfl
  | z :: r, cs => by
    have := setL_len at' r (cs.set (at' + z.1) true)
    rw [List.length_set] at this
    exact this
theorem setL_at {f : Nat → Bool} {m : Nat} (at' i : Nat) : ∀ (pre : List (Hit f m)) (cs : List Bool), i < cs.length → (bAt (setL at' cs pre) i = true ↔ bAt cs i = true ∨ ∃ z ∈ pre, at' + z.1 = i)
  | [], cs, _ => by simp [setL]
  | z :: r, cs, hi => by
    have := setL_at at' i r (cs.set (at' + z.1) true) (by rw [List.length_set]; exact hi)
    rw [show setL at' cs (z :: r) = setL at' (cs.set (at' + z.1) true) r from rfl, this]
    have e : bAt (cs.set (at' + z.1) true) i = true ↔ bAt cs i = true ∨ at' + z.1 = i := by
      unfold bAt
      rw [List.getElem?_set]
      by_cases h : at' + z.1 = i
      · simp [h, hi]
      · simp [h]
    rw [e]
    simp only [List.mem_cons]
    constructor
    · rintro ((h | h) | ⟨y, h1, h2⟩)
      · exact .inl h
      · exact .inr ⟨z, .inl rfl, h⟩
      · exact .inr ⟨y, .inr h1, h2⟩
    · rintro (h | ⟨y, rfl | h1, h2⟩)
      · exact .inl (.inl h)
      · exact .inl (.inr h2)
      · exact .inr ⟨y, h1, h2⟩
theorem bAt_upB (l : List Sc) (n k i : Nat) (hi : i < n) : bAt (upB l n k) i = (decide (i < k * 480) && bitOf l n i) := by simp [bAt, upB, hi]
theorem list_bAt {a b : List Bool} (hl : a.length = b.length) (h : ∀ i, i < a.length → bAt a i = bAt b i) : a = b := by
  apply List.ext_getElem hl
  intro i h1 h2
  have := h i h1
  unfold bAt at this
  rw [List.getElem?_eq_getElem h1, List.getElem?_eq_getElem h2] at this
  simpa using this
theorem up480 (i k : Nat) (h : i < k * 480) : i < (k + 1) * 480 := Nat.lt_of_lt_of_le h (Nat.mul_le_mul_right 480 (Nat.le_succ k))
theorem up481 (i k z : Nat) (h : k * 480 + z = i) (hz : z < 480) : i < (k + 1) * 480 := by rw [Nat.succ_mul]; omega
theorem upB_torn (l : List Sc) (n k : Nat) (s : Sc) (hs : l[k]? = some s) (ht : tornB s k n = true) : upB l n (k + 1) = upB l n k := by
  apply list_bAt
  · rw [upB_len, upB_len]
  intro i hi
  rw [upB_len] at hi
  rw [bAt_upB _ _ _ _ hi, bAt_upB _ _ _ _ hi]
  by_cases h1 : i < k * 480
  · simp [h1, up480 i k h1]
  · by_cases h2 : i < (k + 1) * 480
    · have := bitOf_at l n k (i - k * 480) s hs (by omega)
      rw [show k * 480 + (i - k * 480) = i by omega, ht] at this
      simp [h1, h2, this]
    · simp [h1, h2]
theorem upB_read (l : List Sc) (n k : Nat) (s : Sc) (hs : l[k]? = some s) (ht : tornB s k n = false) : setL (k * 480) (upB l n k) (hitL (fbit s) 480 480) = upB l n (k + 1) := by
  apply list_bAt
  · rw [setL_len, upB_len, upB_len]
  intro i hi
  rw [setL_len, upB_len] at hi
  rw [Bool.eq_iff_iff, setL_at _ _ _ _ (by rw [upB_len]; exact hi), bAt_upB _ _ _ _ hi, bAt_upB _ _ _ _ hi]
  simp only [Bool.and_eq_true, decide_eq_true_eq]
  constructor
  · rintro (⟨h1, h2⟩ | ⟨z, _, h2⟩)
    · exact ⟨up480 i k h1, h2⟩
    · have hz := z.2
      refine ⟨up481 i k _ h2 hz.1, ?_⟩
      rw [← h2, bitOf_at l n k z.1 s hs hz.1, ht, hz.2]
      rfl
  · rintro ⟨h1, h2⟩
    by_cases h3 : i < k * 480
    · exact .inl ⟨h3, h2⟩
    · have := bitOf_at l n k (i - k * 480) s hs (by omega)
      rw [show k * 480 + (i - k * 480) = i by omega, ht, h2] at this
      have hf : fbit s (i - k * 480) = true := by simpa using this.symm
      exact .inr ⟨⟨i - k * 480, by omega, hf⟩, hitL_mem _ _ _ _ (by simp only; omega), by simp only; omega⟩
theorem hit_in (s : Sc) (k n o : Nat) (ho : o = min ((k + 1) * 480) n - k * 480) (ht : tornB s k n = false) (z : Hit (fbit s) 480) : z.1 < o := by
  have hz := z.2
  unfold tornB at ht
  rw [Bool.or_eq_false_iff] at ht
  apply Nat.lt_of_not_le
  intro hge
  have := (overU_iff s k n 480).2 ⟨z.1, hz.1, by omega, hz.2⟩
  rw [ht.2] at this
  cases this
set_option maxRecDepth 100000 in
set_option maxHeartbeats 400000 in
theorem get_no (l : List Sc) (x : Option Addr) (m c : Nat) (n : Int) (w : World) (hl : l.length = m) (_hm : m ≤ 3) (h0 : -9223372036854775808 ≤ n) (h1 : n ≤ 9223372036854775807) (hno : ¬ (manyN n.toNat ≠ 0 ∧ l.length = manyN n.toNat)) :
    Calls Try.prog 9 #[.slice x m c, .int .i64 n] w fun e w' => ∃ u v, e = .returned (.tuple #[u, v]) ∧ OwnG 4 w' w.heap.size u (bV (getBits l n.toNat)) ∧ OwnG 3 w' w.heap.size v (iV (nI (getBad l n.toNat))) ∧ ApartV u v ∧ Below w.heap.size w w' := by
  have e1 : getBits l n.toNat = [] := by unfold getBits; rw [if_neg hno]
  have e2 : getBad l n.toNat = [] := by unfold getBad; rw [if_neg hno]
  rw [e1, e2]
  by_cases hr : 64 ≤ n ∧ n ≤ 1024
  · have hz : manyN n.toNat ≠ 0 := manyN_pos.2 (by omega)
    have hlm : ¬ m = manyN n.toNat := fun h => hno ⟨hz, by rw [hl]; exact h⟩
    have hg2 := geo_many n.toNat (by omega) (by omega)
    rw [show ((n.toNat : Nat) : Int) = n by omega] at hg2
    generalize manyN n.toNat = M at hz hlm hg2
    have hO := fun w => of_yes n w hr.1 hr.2
    generalize hF : geoF n = f at hO hg2
    clear hF hno
    have hm1 : ((m : Int) != (M : Int)) = true := by simp; omega
    have hm2 : ¬ (m : Int) = (M : Int) := by omega
    go_enter Try.func9, Try.ntmps9
    go_wp2_with (go_at_call 16; refine (hO _).mono ?_; rintro e w1 ⟨rfl, hb⟩)
    exact tmp2_bodyPost 4 5 rfl rfl ⟨_, _, rfl, OwnG.nil _ _ _, OwnG.nil _ _ _, .inl rfl, hb.alloc hb.size _⟩
  · clear hno
    go_enter Try.func9, Try.ntmps9
    go_wp2_with (go_at_call 16; refine (of_no n _ hr h0 h1).mono ?_; rintro e w1 ⟨rfl, hb⟩)
    exact tmp2_bodyPost 4 5 rfl rfl ⟨_, _, rfl, OwnG.nil _ _ _, OwnG.nil _ _ _, .inl rfl, hb.alloc hb.size _⟩
set_option linter.unusedSimpArgs false in
set_option maxRecDepth 100000 in
set_option maxHeartbeats 2000000 in
theorem get_yes (l : List Sc) (x : Option Addr) (m c n : Nat) (w : World) (hl : l.length = m) (h64 : 64 ≤ n) (h1024 : n ≤ 1024) (hmm : m = manyN n) (hK : IsK secE w (.slice x m c) l) :
    Calls Try.prog 9 #[.slice x m c, .int .i64 (n : Int)] w fun e w' => ∃ u v, e = .returned (.tuple #[u, v]) ∧ OwnG 4 w' w.heap.size u (bV (getBits l n)) ∧ OwnG 3 w' w.heap.size v (iV (nI (getBad l n))) ∧ ApartV u v ∧ Below w.heap.size w w' := by
  have hz : manyN n ≠ 0 := manyN_pos.2 ⟨h64, h1024⟩
  have e1 : getBits l n = (List.range n).map (bitOf l n) := by unfold getBits; rw [if_pos ⟨hz, by omega⟩]
  have e2 : getBad l n = badU l n m := by unfold getBad; rw [if_pos ⟨hz, by omega⟩, hl]
  rw [e1, e2]
  have hg2 := geo_many n h64 h1024
  rw [← hmm] at hg2 hz
  have hcov : n ≤ m * 480 ∧ (m - 1) * 480 < n := by rw [hmm]; unfold manyN; rw [if_pos ⟨h64, h1024⟩]; omega
  have hm3 : m ≤ 3 := by rw [hmm]; exact manyN_le n
  have hO := fun w => of_yes (n : Int) w (by omega) (by omega)
  generalize hF : geoF (n : Int) = f at hO hg2
  clear hF e1 e2 hmm
  have hn0 : (0 : Int) ≤ (n : Int) := by omega
  have hn1 : (n : Int) ≤ 281474976710656 := by omega
  refine calls_marks Try.func9 rfl ?_
  simp only [Try.ntmps9, List.size_toArray, List.length_cons, List.length_nil, Nat.reduceAdd, Nat.reduceSub, Array.replicate_succ, Array.replicate_zero, List.push_toArray, List.append_toArray, List.nil_append, List.cons_append]
  go_wp2_with (go_at_call 16; refine (hO _).mono ?_; rintro e w1 ⟨rfl, hb1⟩)
  have hB2 : Below w.heap.size w ((w1.alloc (.cells (gA f) 43)).alloc (.cells (rowF n) 4)) := (hb1.alloc hb1.size _).alloc (by have := hb1.size; simp; omega) _
  have hU2 : OwnG 4 ((w1.alloc (.cells (gA f) 43)).alloc (.cells (rowF n) 4)) w.heap.size (.slice (some ⟨w1.heap.size + 1, 0, none⟩) n n) (bV (upB l n 0)) := by
    have := (ownB_new (w1.alloc (.cells (gA f) 43)) n (by unfold maxLen; omega)).le (base' := w.heap.size) (by have := hb1.size; simp; omega)
    rw [World.size_alloc] at this
    rw [upB_zero]
    exact this
  have hgw : w.heap.size ≤ w1.heap.size + 1 := by have := hb1.size; omega
  generalize (w1.alloc (.cells (gA f) 43)).alloc (.cells (rowF n) 4) = w2 at hB2 hU2 ⊢
  generalize w1.heap.size + 1 = g at hU2 hgw ⊢
  clear hb1 hO hg2 hn0 hn1
  refine wp_loop (fun a' w' => ∃ (k : Nat) (Ds : List Nat) (xv : Option Addr) (cv : Nat) (u10 u11 u12 u13 u33 u34 u35 u36 u37 u38 u39 u40 u41 u42 u43 u44 u45 u46 u47 u48 u49 u50 u51 u52 u53 u54 u55 u56 u57 u58 u59 u60 u61 : Value), (k ≤ m ∧ Ds.Nodup ∧ (∀ D ∈ Ds, w'.heap[D]? = some (.deferred (some []))) ∧ (∀ D ∈ Ds, w.heap.size ≤ D) ∧ OwnG 4 w' w.heap.size (.slice (some ⟨g, 0, none⟩) n n) (bV (upB l n k)) ∧ OwnG 3 w' w.heap.size (.slice xv (badU l n k).length cv) (iV (nI (badU l n k))) ∧ ApartV (.slice (some ⟨g, 0, none⟩) n n) (.slice xv (badU l n k).length cv) ∧ Below w.heap.size w w') ∧ a' = { tmps := #[.slice x m c, .int .i64 (n : Int), undef, undef, .slice none 0 0, .slice none 0 0, .pointer (some ⟨w1.heap.size, 0, none⟩), .int .i64 0, .slice (some ⟨g, 0, none⟩) n n, .slice xv (badU l n k).length cv, u10, u11, u12, u13, .tuple #[.agg (gA f), .int .i64 0], .int .i64 (n : Int), .tuple #[.agg (gA f), .int .i64 0], .agg (gA f), .int .i64 0, .int .i64 0, .bool false, .bool false, .slice x m c, .int .i64 (m : Int), .pointer (some ⟨w1.heap.size, 2, none⟩), .int .i64 (m : Int), .bool false, .bool false, .int .i64 (n : Int), .slice (some ⟨g, 0, none⟩) n n, .slice x m c, .int .i64 (m : Int), .int .i64 (k : Int), u33, u34, u35, u36, u37, u38, u39, u40, u41, u42, u43, u44, u45, u46, u47, u48, u49, u50, u51, u52, u53, u54, u55, u56, u57, u58, u59, u60, u61, undef, undef], defers := Ds.map mkD }) (fun a' _ => m - (intOf (a'.tmps.getD 32 undef)).toNat) ?st ?rd
  case st =>
    exact ⟨0, [], none, 0, _, _, _, _, _, _, _, _, _, _, _, _, _, _, _, _, _, _, _, _, _, _, _, _, _, _, _, _, _, _, _, _, _, ⟨by omega, by simp, by simp, by simp, hU2, by simpa [badU, nI, iV] using OwnG.nil 3 w2 w.heap.size, .inr (by simp [Value.ownBlock]), hB2⟩, rfl⟩
  case rd =>
    clear hU2 hB2
    rintro a' wr ⟨k, Ds, xv, cv, u10, u11, u12, u13, u33, u34, u35, u36, u37, u38, u39, u40, u41, u42, u43, u44, u45, u46, u47, u48, u49, u50, u51, u52, u53, u54, u55, u56, u57, u58, u59, u60, u61, ⟨hk, hnd, hDs, hDw, hU, hV, hA, hB⟩, rfl⟩
    by_cases hlt : k < m
    · have hlt' : (k : Int) < (m : Int) := by omega
      obtain ⟨s, hs⟩ : ∃ s, l[k]? = some s := ⟨l[k]'(by omega), List.getElem?_eq_getElem (by omega)⟩
      obtain ⟨b1, o1, rfl, hb1, hr1⟩ := (hK.kept hB).at k s hs
      obtain ⟨ok1, rg1⟩ := rg_of hr1 (secE_ok.len s)
      rw [secE_arr] at rg1
      rw [secE_k] at ok1 rg1
      have hpk : k * 480 < n := by
        have : k * 480 ≤ (m - 1) * 480 := Nat.mul_le_mul_right _ (by omega)
        omega
      have hbl := badU_len l n k
      have hk3 : k ≤ 2 := by omega
      have hk3' : (k : Int) ≤ 2 := by omega
      clear hr1
      obtain ⟨e, he⟩ : ∃ e, min ((k + 1) * 480) n = e := ⟨_, rfl⟩
      have hE : (if (n : Int) < ((k : Int) + 1) * 480 then (n : Int) else ((k : Int) + 1) * 480) = (e : Int) := by split <;> omega
      have hen : e ≤ n := by omega
      have hen' : (e : Int) ≤ (n : Int) := by omega
      have hke : (k : Int) * 480 ≤ (e : Int) := by omega
      go_upto_region 9 with fail
      clear ok1 rg1
      go_upto_region 10 with fail
      have hA1 := below_alloc wr (.cells (secA s) 29)
      have hA2 := below_alloc (wr.alloc (.cells (secA s) 29)) (.cells #[.slice (some ⟨g, k * 480, none⟩) (e - k * 480) (n - k * 480)] 22)
      have hAB : Below wr.heap.size wr ((wr.alloc (.cells (secA s) 29)).alloc (.cells #[.slice (some ⟨g, k * 480, none⟩) (e - k * 480) (n - k * 480)] 22)) := hA1.trans (hA2.mono (by simp))
      have hS := (ScR.new wr s 29).kept hA2
      have hX := Boxed.new (wr.alloc (.cells (secA s) 29)) 22 (.slice (some ⟨g, k * 480, none⟩) (e - k * 480) (n - k * 480))
      rw [World.size_alloc] at hX
      have hgr := (hU.lt g rfl).2
      replace hU := hU.keep hAB
      replace hV := hV.keep hAB
      replace hB := hB.trans (hAB.mono hB.size)
      replace hDs : ∀ D ∈ Ds, ((wr.alloc (.cells (secA s) 29)).alloc (.cells #[.slice (some ⟨g, k * 480, none⟩) (e - k * 480) (n - k * 480)] 22)).heap[D]? = some (.deferred (some [])) := fun D hD => (hAB.block D (Array.getElem?_eq_some_iff.1 (hDs D hD)).1).trans (hDs D hD)
      generalize (wr.alloc (.cells (secA s) 29)).alloc (.cells #[.slice (some ⟨g, k * 480, none⟩) (e - k * 480) (n - k * 480)] 22) = wb at hS hX hU hV hB hDs ⊢
      generalize wr.heap.size = gs at hS hX hgr ⊢
      clear hA1 hA2 hAB
      obtain ⟨o, ho⟩ : ∃ o, e - k * 480 = o := ⟨_, rfl⟩
      have hoe : o = min ((k + 1) * 480) n - k * 480 := by rw [he]; exact ho.symm
      rw [ho] at hX ⊢
      have ho4 : o ≤ 480 := by rw [Nat.succ_mul] at hoe; omega
      have hoN : k * 480 + o ≤ n := by omega
      have hwt := whole_torn s k n o (by omega) hoe
      clear hE hen' hke he ho
      have HE : Hid (o = min ((k + 1) * 480) n - k * 480) := hoe
      clear hoe hen
      have HS : Hid (ScR wb gs s) := hS
      obtain ⟨so1, so2⟩ := hS
      have hxc := hX.cell
      go_wp2_with fail
      go_at_call 19
      refine (whole_any s o ho4 _).mono ?_
      rintro ee wq ⟨rfl, hq⟩
      rw [hwt]
      have hS := ScR.kept HS.out hq
      replace hX := box_later hX hq
      replace hU := hU.keep hq
      replace hV := hV.keep hq
      replace hB := hB.trans (hq.mono hB.size)
      replace hDs : ∀ D ∈ Ds, wq.heap[D]? = some (.deferred (some [])) := fun D hD => (hq.block D (Array.getElem?_eq_some_iff.1 (hDs D hD)).1).trans (hDs D hD)
      clear hq so1 so2 hxc HS hwt wb
      cases ht : tornB s k n
      · have hbu := badU_no l n k s hs ht
        rw [← hbu] at hV hA ⊢
        clear hbu
        obtain ⟨so1, so2⟩ := hS
        have hgq : g < wq.heap.size := (hU.lt g rfl).2
        go_wp2_with fail
        go_at_call 20
        refine (ones_it s _).mono ?_
        rintro ee wc' ⟨rfl, rfl⟩
        clear so1 so2
        have hAq := below_alloc wq (.cells (secA s) 29)
        have hSn := ScR.new wq s 29
        replace hX := box_later hX hAq
        replace hU := hU.keep hAq
        replace hV := hV.keep hAq
        replace hB := hB.trans (hAq.mono hB.size)
        replace hDs : ∀ D ∈ Ds, (wq.alloc (.cells (secA s) 29)).heap[D]? = some (.deferred (some [])) := fun D hD => (hAq.block D (Array.getElem?_eq_some_iff.1 (hDs D hD)).1).trans (hDs D hD)
        generalize hgo : wq.heap.size = go at hgq hSn ⊢
        generalize wq.alloc (.cells (secA s) 29) = wc at hX hU hV hB hDs hSn ⊢
        clear hAq hgo
        go_wp2_with fail
        refine wp_range (fun W => ScR W go s) (stands_ScR _ _) (gf := 30) (lb := #[.pointer (some ⟨go, 0, none⟩)]) rfl (enters_of Try.func30 (by kernel_rfl) rfl) (ones_stops _ _ s hSn) (fun _ => rfl) w.heap.size w (Nat.le_refl _)
          (fun pre W => OwnG 4 W w.heap.size (.slice (some ⟨g, 0, none⟩) n n) (bV (setL (k * 480) (upB l n k) pre)) ∧ OwnG 3 W w.heap.size (.slice xv (badU l n (k + 1)).length cv) (iV (nI (badU l n (k + 1)))) ∧ Boxed W (gs + 1) 22 (.slice (some ⟨g, k * 480, none⟩) o (n - k * 480)))
          (fun _ _ _ => False)
          (fun _ => (stands_ownG _ _ _ _).and ((stands_ownG _ _ _ _).and (stands_box _ _ _))) (fun _ _ => Stands.pure _) ⟨hU, hV, hX⟩ hB ?fr ?assign ?body ?done ?stop
        case assign =>
          intro l' z W K hK'
          gi_wp2
          exact hK'
        case stop =>
          rintro D c' pre W _ _ h _
          exact h.elim
        case body =>
          clear hU hV hX hB hDs hSn
          rintro l' pre z W ⟨hU, hV, hX⟩ hB
          have hzo := hit_in s k n o HE.out ht z
          have hsl := setL_len (k * 480) (pre ++ [z]) (upB l n k)
          have hsl0 := setL_len (k * 480) pre (upB l n k)
          have hsn := setL_snoc (k * 480) (upB l n k) pre z
          rw [upB_len] at hsl hsl0
          obtain ⟨i, hi⟩ := z
          dsimp only at hzo hsn ⊢
          generalize setL (k * 480) (upB l n k) pre = cs at hU hsn hsl0
          have hcc := hU.cell (k * 480 + i) _ (bV_get cs _ (by omega))
          have hcf := hU.frozen (k * 480 + i)
          have hxc := hX.cell
          obtain ⟨hU1, hB1, hst⟩ := put_apartG hU hB.size (k * 480 + i) (.bool true)
          have hV1 := hst _ _ _ _ _ hV (ApartV.symm hA)
          rw [bV_set, ← hsn] at hU1
          have hX1 := hX.kept (grown_c1 W g (k * 480 + i) (.bool true)) (by simp; omega)
          have HU : Hid _ := hU1
          have HV : Hid _ := hV1
          have HX : Hid _ := hX1
          have HB : Hid _ := hB.trans hB1
          have hio : (i : Int) < (o : Int) := by omega
          clear hU hV hX hB hU1 hB1 hst hV1 hX1 hsn hsl hsl0 hK
          gi_wp2
          exact ⟨KeepsOthers.setCell _ _ _, fun h => h.set_ne _ _ (by omega), ⟨HU.out, HV.out, HX.out⟩, HB.out⟩
        case done =>
          rintro D ys W hD hys ⟨hU', hV', hX'⟩ hB' hko hDk
          have hys' : ys = hitL (fbit s) 480 480 := hys
          rw [hys', upB_read l n k s hs ht] at hU'
          have hnD : D ∉ Ds := fun hm => by
            have := (Array.getElem?_eq_some_iff.1 (hDs D hm)).1
            omega
          have hDs' : ∀ D' ∈ D :: Ds, W.heap[D']? = some (.deferred (some [])) := fun D' hm => by
            rcases List.mem_cons.1 hm with rfl | hm
            · exact hDk
            · exact hko.same D' _ (hDs D' hm) rfl
          have hDw' : ∀ D' ∈ D :: Ds, w.heap.size ≤ D' := fun D' hm => by
            rcases List.mem_cons.1 hm with rfl | hm
            · have := hB.size; omega
            · exact hDw D' hm
          have HR : Hid _ := And.intro (show (D :: Ds).Nodup from List.nodup_cons.2 ⟨hnD, hnd⟩) (And.intro hDs' (And.intro hDw' (And.intro hU' (And.intro hV' (And.intro hA hB')))))
          clear hU hV hX hB hDs hSn hys hys' hU' hV' hX' hB' hko hDk hnD hDs' hDw' hA hD
          go_wp2
          obtain ⟨r1, r2, r3, r4, r5, r6, r7⟩ := HR.out
          refine ⟨⟨k + 1, D :: Ds, xv, cv, _, _, _, _, _, _, _, _, _, _, _, _, _, _, _, _, _, _, _, _, _, _, _, _, _, _, _, _, _, _, _, _, _, ⟨by omega, r1, r2, r3, r4, r5, r6, r7⟩, rfl⟩, ?_⟩
          simp [intOf]; omega
      · have hbu := badU_yes l n k s hs ht
        obtain ⟨g1, c1, wA, hrA, hV1, hBA, hko, hstay⟩ := app_keepG intsElt wq w.heap.size xv (badU l n k).length cv (iV (nI (badU l n k))) (.int .i64 (k : Int)) 30 hV rfl hB.size (by omega) (by unfold maxLen; omega)
        obtain ⟨hU1, hA1⟩ := hstay _ _ _ _ _ hU hA
        have hbl1 : (badU l n (k + 1)).length = (badU l n k).length + 1 := by rw [hbu]; simp
        have hbv : iV (nI (badU l n k)) ++ [Value.int .i64 (k : Int)] = iV (nI (badU l n (k + 1))) := by rw [hbu, nI_app, ← iV_app]; rfl
        rw [hbv, ← hbl1] at hV1
        rw [← hbl1] at hA1 hrA
        rw [← upB_torn l n k s hs ht] at hU1
        have HR : Hid _ := And.intro hnd (And.intro (show ∀ D ∈ Ds, wA.heap[D]? = some (.deferred (some [])) from fun D hm => hko.same D _ (hDs D hm) rfl) (And.intro hDw (And.intro (show OwnG 4 wA w.heap.size (.slice (some ⟨g, 0, none⟩) n n) (bV (upB l n (k + 1))) from hU1) (And.intro hV1 (And.intro hA1 (hB.trans hBA))))))
        clear hU hV hX hB hDs hV1 hBA hko hstay hU1 hA1 hbl1 hbv hS hA hbu
        go_wp2_with (at_builtin; refine wpL_appT 30 rfl _ _ rfl _ wA (by exact hrA) ?_)
        obtain ⟨r1, r2, r3, r4, r5, r6, r7⟩ := HR.out
        refine ⟨⟨k + 1, Ds, some ⟨g1, 0, none⟩, c1, _, _, _, _, _, _, _, _, _, _, _, _, _, _, _, _, _, _, _, _, _, _, _, _, _, _, _, _, _, _, _, _, _, ⟨by omega, r1, r2, r3, r4, r5, r6, r7⟩, rfl⟩, ?_⟩
        simp [intOf]; omega
    · obtain rfl : k = m := by omega
      rw [upB_all l n k hcov.1] at hU
      have HR : Hid _ := And.intro hU (And.intro hV (And.intro hA hB))
      have HD : Hid _ := And.intro hnd (And.intro hDs hDw)
      clear hU hV hA hB hnd hDs hDw hK
      go_wp2
      obtain ⟨r1, r2, r3, r4⟩ := HR.out
      obtain ⟨d1, d2, d3⟩ := HD.out
      refine leave_marks Ds _ d1 d2 ⟨_, results_tmp2 (t := 4) (u := 5) rfl _ _ _, _, _, rfl, ?_, ?_, ?_, ?_⟩
      · exact shut_stands (stands_ownG _ _ _ _) Ds _ d1 d2 r1
      · exact shut_stands (stands_ownG _ _ _ _) Ds _ d1 d2 r2
      · exact r3
      · exact shut_below Ds _ d1 d2 d3 r4
theorem getOk : GetOk := fun l x m c n w hl hm h0 h1 hK => by
  by_cases h : manyN n.toNat ≠ 0 ∧ l.length = manyN n.toNat
  · have hp := manyN_pos.1 h.1
    obtain ⟨N, rfl⟩ : ∃ N : Nat, n = (N : Int) := ⟨n.toNat, by omega⟩
    rw [Int.toNat_natCast] at h hp ⊢
    exact get_yes l x m c N w hl hp.1 hp.2 (by rw [← hl]; exact h.2) hK
  · exact get_no l x m c n w hl hm h0 h1 h
end Go.Proofs.Ytfnffkommcepoaa
