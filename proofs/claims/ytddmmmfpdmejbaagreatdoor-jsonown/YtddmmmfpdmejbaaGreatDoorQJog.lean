import Derived.Test.YtddmmmfpdmejbaaGreatDoorQJmh
import Derived.Test.YtddmmmfpdmejbaaGreatDoorQGal
import Derived.Test.YtddmmmfpdmejbaaGreatDoorQJzc
namespace Go.Proofs.YtddmmmfpdmejbaaGreatDoor
open Go.RowKit

/-! JsonOwn's game: all lists of what was read, each a thing of its own -/
/-- Behind an append of one the list that was there reads as before. -/
theorem appOld {t e : TypeId} {bytes : Nat} (EL : Elt t e bytes) (W W' : World) (B : Nat) (v a : Sl) (xs : List Value) (u : Value) (y c : Nat) (ty : TypeId) (h : OwnG e W B v.v xs) (hus : W.cell? ⟨y, 0, none⟩ = some u) (h1 : u.oneCell' = true) (hl : (xs.length + 1) * bytes ≤ 140737488355328) (h63 : xs.length + 1 ≤ 9223372036854775807)
    (hr : (Builtin.append_ #[t, t] ty #[v.v, .slice (some ⟨y, 0, none⟩) 1 c]).run Tryz.prog W = .ok a.v W') (hO : OwnG e W' B a.v (xs ++ [u])) : IsG W' v.v xs := by
  obtain ⟨i, z, hi, hz, hsz, hby, hzs⟩ := EL.info
  have hh := h
  obtain ⟨hn, ⟨he, h0⟩ | ⟨g, cap, cur, he, hb, hg, hle, hm, hs, ht⟩⟩ := h
  · refine .inl ⟨he, ?_⟩
    exact List.eq_nil_of_length_eq_zero h0
  · have hnews : ∀ (j : Nat) x, [u][j]? = some x → W.cell? ((⟨y, 0, none⟩ : Addr).add j) = some x := fun j x hx => by
      rcases j with _ | j
      · simp at hx; subst hx; rw [addr_add]; exact hus
      · simp at hx
    by_cases hroom : xs.length + 1 ≤ cap
    · have h9 := run_append_room (P := Tryz.prog) (w := W) t ty e i EL.ht hi g xs.length cap cur hg ⟨y, 0, none⟩ 1 c [u] (by rw [hsz]; rfl) hnews (by simpa using h1) hroom (by rw [hsz]; simp; omega)
      rw [he] at hr ⊢
      rw [h9] at hr
      simp only [Result.ok.injEq] at hr
      obtain ⟨ha, -⟩ := hr
      rw [← ha] at hO
      refine .inr ⟨⟨g, 0, none⟩, cap, rfl, fun j hj => ?_⟩
      rw [addr_add, Nat.zero_add]
      exact hO.cell j _ (by rw [List.getElem?_append_left hj, List.getElem?_eq_getElem hj])
    · have h9 := run_append_grow (P := Tryz.prog) (w := W) t ty e i z EL.ht hi hz ⟨g, 0, none⟩ xs.length cap xs (by rw [hsz]; omega) (fun j x hx => by rw [he] at hh; rw [addr_add, Nat.zero_add]; exact hh.cell j x hx) ⟨y, 0, none⟩ 1 c [u] (by rw [hsz]; rfl) hnews (by omega) (by omega) (growslice_fits (by omega) (by rw [hby]; omega))
      rw [he] at hr
      rw [h9] at hr
      simp only [Result.ok.injEq] at hr
      obtain ⟨-, rfl⟩ := hr
      refine hh.isG.kept ?_
      exact (Below.refl _ _).drew.alloc (Nat.le_refl _) _
/-- A list that was appended to, and the one ahead of it. -/
def thM (e : TypeId) (B : Nat) (a : Sl) (xs : List Value) (o : Sl) (ys : List Value) : Th where
  P w F R := OwnG e w B a.v xs ∧ IsG w o.v ys ∧ F = a.ob ∧ R = a.ob ++ o.ob ∧ o.In (· ∈ R) ∧ ∀ q ∈ o.ob, q < w.heap.size
  keeps := fun {w w' F R G} ⟨h1, h2, h3, h4, h5, h6⟩ hK hd => ⟨h1.keepsF hK (fun q hq => hd q (by rw [h4]; exact List.mem_append_left _ (mem_ob.2 hq))), h2.ag h5 (fun q hq hl => hK.block q hl (hd q hq)), h3, h4, h5, fun q hq => Nat.lt_of_lt_of_le (h6 q hq) hK.size⟩
  sub := fun ⟨_, _, h3, h4, _, _⟩ q hq => by rw [h3] at hq; rw [h4]; exact List.mem_append_left _ hq
  lt := fun ⟨h1, _, _, h4, _, h6⟩ q hq => by
    rw [h4] at hq
    rcases List.mem_append.1 hq with hq | hq
    · exact (h1.lt q (mem_ob.1 hq)).2
    · exact h6 q hq
theorem Ga.isM {e : TypeId} {W : World} {B : Nat} {T : Nat → Option Th} (h : Ga W B T) {k : Nat} {a o : Sl} {xs ys : List Value} (hk : T k = some (thM e B a xs o ys)) : OwnG e W B a.v xs ∧ IsG W o.v ys := by
  obtain ⟨F, R, h1, h2, -⟩ := h.get hk
  exact ⟨h1, h2⟩
/-- A list is appended to: it and the one ahead of it. -/
theorem Ga.appM {t e : TypeId} {bytes : Nat} (EL : Elt t e bytes) {W : World} {B : Nat} {T : Nat → Option Th} (h : Ga W B T) {k : Nat} {v : Sl} {xs : List Value} (hk : T k = some (thG e B v.v xs)) (u : Value) (y c : Nat) (ty : TypeId) (hus : W.cell? ⟨y, 0, none⟩ = some u) (h1 : u.oneCell' = true) (hl : (xs.length + 1) * bytes ≤ 140737488355328) (h63 : xs.length + 1 ≤ 9223372036854775807) :
    ∃ (a : Sl) (W' : World), (Builtin.append_ #[t, t] ty #[v.v, .slice (some ⟨y, 0, none⟩) 1 c]).run Tryz.prog W = .ok a.v W' ∧ Ga W' B (updT T k (thM e B a (xs ++ [u]) v xs)) ∧ Below B W W' ∧ a.n = xs.length + 1 := by
  have hO := h.isG hk
  obtain ⟨g, c', W', hr, hO', hg, hway⟩ := appLie EL W B v xs u y c ty hO hus h1 h.size hl h63
  refine ⟨_, W', hr, ?_, hO.below hg h.size, rfl⟩
  have hold := appOld EL W W' B v ⟨some ⟨g, 0, none⟩, xs.length + 1, c'⟩ xs u y c ty hO hus h1 hl h63 hr hO'
  refine (h.act hk fun F R hP _ => ?_).1
  obtain ⟨hO2, rfl, rfl⟩ := hP
  refine ⟨_, _, ⟨hO', hold, rfl, rfl, fun h0 p hp => ?_, fun q hq => Nat.lt_of_lt_of_le (hO.lt q (mem_ob.1 hq)).2 hg.size⟩, fun q hq => ?_, fun q hq => ?_, Keep.of_grown hg (fun q hq => by rw [hq]; simp)⟩
  · have h9 := hO
    obtain ⟨-, ⟨he, -⟩ | ⟨g9, cap, cur, he, -⟩⟩ := h9
    · simp only [Sl.v, Value.slice.injEq] at he
      rw [he.1] at hp; cases hp
    · refine List.mem_append_right _ (mem_ob.2 ?_)
      rw [he]
      simp only [Sl.v, Value.slice.injEq] at he
      rw [he.1] at hp
      cases hp
      rfl
  · have hq' : q = g := List.mem_singleton.1 (show q ∈ [g] from hq)
    subst hq'
    rcases hway with h9 | h9
    · exact .inl (by rw [h9]; simp)
    · exact .inr (by omega)
  · rcases List.mem_append.1 hq with hq | hq
    · have hq' : q = g := List.mem_singleton.1 (show q ∈ [g] from hq)
      subst hq'
      rcases hway with h9 | h9
      · exact .inl (by rw [h9]; simp)
      · exact .inr (by omega)
    · exact .inl hq
/-! All lists at the start -/
def kL (i : Nat) : Nat := 4 + 2 * i
def kK (i : Nat) : Nat := 5 + 2 * i
def ttO (B : Nat) (L : Lb) (K : Kb) : Nat → Option Th := fun k => if k < 4 then none else if k % 2 = 0 then (L[(k - 4) / 2]?).map (fun x => thG 27 B x.1.v x.2) else (K[(k - 5) / 2]?).map (fun x => thG 9 B x.1.v (strs x.2))
theorem ttO_L (B : Nat) (L : Lb) (K : Kb) (i : Nat) : ttO B L K (kL i) = (L[i]?).map (fun x => thG 27 B x.1.v x.2) := by
  unfold ttO kL
  rw [if_neg (by omega), if_pos (by omega), show (4 + 2 * i - 4) / 2 = i by omega]
theorem ttO_K (B : Nat) (L : Lb) (K : Kb) (i : Nat) : ttO B L K (kK i) = (K[i]?).map (fun x => thG 9 B x.1.v (strs x.2)) := by
  unfold ttO kK
  rw [if_neg (by omega), if_neg (by omega), show (5 + 2 * i - 5) / 2 = i by omega]
theorem nodup_fl {α : Type} (f : α → List Nat) : ∀ (l : List α), (l.flatMap f).Nodup → ∀ (i j : Nat) x y, l[i]? = some x → l[j]? = some y → i ≠ j → ∀ q ∈ f x, q ∉ f y
  | [], _, i, j, x, y, h1, _, _ => by simp at h1
  | a :: r, hn, 0, 0, x, y, h1, h2, hne => absurd rfl hne
  | a :: r, hn, 0, j + 1, x, y, h1, h2, hne => fun q hq hq2 => by
    simp at h1
    subst h1
    rw [List.flatMap_cons] at hn
    exact (List.nodup_append.1 hn).2.2 q hq q (List.mem_flatMap.2 ⟨y, List.mem_of_getElem? (by simpa using h2), hq2⟩) rfl
  | a :: r, hn, i + 1, 0, x, y, h1, h2, hne => fun q hq hq2 => by
    simp at h2
    subst h2
    rw [List.flatMap_cons] at hn
    exact (List.nodup_append.1 hn).2.2 q hq2 q (List.mem_flatMap.2 ⟨x, List.mem_of_getElem? (by simpa using h1), hq⟩) rfl
  | a :: r, hn, i + 1, j + 1, x, y, h1, h2, hne => by
    rw [List.flatMap_cons] at hn
    exact nodup_fl f r (List.nodup_append.1 hn).2.1 i j x y (by simpa using h1) (by simpa using h2) (by omega)
theorem Ga.all {W : World} {B : Nat} {L : Lb} {K : Kb} (hB : B ≤ W.heap.size) (hL : ∀ x ∈ L, OwnG 27 W B x.1.v x.2) (hK : ∀ x ∈ K, OwnG 9 W B x.1.v (strs x.2)) (hn : (blks L K).Nodup) : Ga W B (ttO B L K) := by
  refine ⟨hB, fun k => if k < 4 then [] else if k % 2 = 0 then ((L[(k - 4) / 2]?).map (fun x => x.1.ob)).getD [] else ((K[(k - 5) / 2]?).map (fun x => x.1.ob)).getD [], fun k => if k < 4 then [] else if k % 2 = 0 then ((L[(k - 4) / 2]?).map (fun x => x.1.ob)).getD [] else ((K[(k - 5) / 2]?).map (fun x => x.1.ob)).getD [], fun k t hk => ?_, fun j k tj tk hj hk hne => ?_⟩
  · unfold ttO at hk
    by_cases h4 : k < 4
    · rw [if_pos h4] at hk; cases hk
    rw [if_neg h4] at hk
    simp only [if_neg h4]
    by_cases h2 : k % 2 = 0
    · rw [if_pos h2] at hk
      simp only [if_pos h2]
      obtain ⟨x, hx, rfl⟩ := Option.map_eq_some_iff.1 hk
      rw [hx]
      have h9 := hL x (List.mem_of_getElem? hx)
      exact ⟨⟨h9, rfl, rfl⟩, fun q hq => (h9.lt q (mem_ob.1 hq)).1⟩
    · rw [if_neg h2] at hk
      simp only [if_neg h2]
      obtain ⟨x, hx, rfl⟩ := Option.map_eq_some_iff.1 hk
      rw [hx]
      have h9 := hK x (List.mem_of_getElem? hx)
      exact ⟨⟨h9, rfl, rfl⟩, fun q hq => (h9.lt q (mem_ob.1 hq)).1⟩
  · unfold ttO at hj hk
    by_cases j4 : j < 4
    · rw [if_pos j4] at hj; cases hj
    by_cases k4 : k < 4
    · rw [if_pos k4] at hk; cases hk
    rw [if_neg j4] at hj
    rw [if_neg k4] at hk
    simp only [if_neg j4, if_neg k4]
    have hnL := (List.nodup_append.1 hn).1
    have hnK := (List.nodup_append.1 hn).2.1
    have hdis := (List.nodup_append.1 hn).2.2
    by_cases j2 : j % 2 = 0
    · rw [if_pos j2] at hj
      simp only [if_pos j2]
      obtain ⟨x, hx, rfl⟩ := Option.map_eq_some_iff.1 hj
      by_cases k2 : k % 2 = 0
      · rw [if_pos k2] at hk
        simp only [if_pos k2]
        obtain ⟨y, hy, rfl⟩ := Option.map_eq_some_iff.1 hk
        rw [hx, hy]
        exact nodup_fl (fun x : Sl × List Value => x.1.ob) L hnL _ _ x y hx hy (by omega)
      · rw [if_neg k2] at hk
        simp only [if_neg k2]
        obtain ⟨y, hy, rfl⟩ := Option.map_eq_some_iff.1 hk
        rw [hx, hy]
        intro q hq hq2
        exact hdis q (blL_mem (List.mem_of_getElem? hx) (mem_ob.1 hq)) q (blK_mem (List.mem_of_getElem? hy) (mem_ob.1 hq2)) rfl
    · rw [if_neg j2] at hj
      simp only [if_neg j2]
      obtain ⟨x, hx, rfl⟩ := Option.map_eq_some_iff.1 hj
      by_cases k2 : k % 2 = 0
      · rw [if_pos k2] at hk
        simp only [if_pos k2]
        obtain ⟨y, hy, rfl⟩ := Option.map_eq_some_iff.1 hk
        rw [hx, hy]
        intro q hq hq2
        exact hdis q (blL_mem (List.mem_of_getElem? hy) (mem_ob.1 hq2)) q (blK_mem (List.mem_of_getElem? hx) (mem_ob.1 hq)) rfl
      · rw [if_neg k2] at hk
        simp only [if_neg k2]
        obtain ⟨y, hy, rfl⟩ := Option.map_eq_some_iff.1 hk
        rw [hx, hy]
        exact nodup_fl (fun x : Sl × List ByteArray => x.1.ob) K hnK _ _ x y hx hy (by omega)
/-- Each list of a value is its own. -/
theorem VlO.own {w : World} {B : Nat} {v : Value} {d : Nd} {L : Lb} {K : Kb} (h : VlO w B v d L K) : (∀ x ∈ L, OwnG 27 w B x.1.v x.2 ∧ x.1.n ≤ 1759218604441) ∧ ∀ x ∈ K, OwnG 9 w B x.1.v (strs x.2) ∧ x.1.n ≤ 8796093022208 := by
  induction h using VlO.rc with
  | null => exact ⟨fun x h => (by cases h), fun x h => (by cases h)⟩
  | bool b => exact ⟨fun x h => (by cases h), fun x h => (by cases h)⟩
  | num n hn => exact ⟨fun x h => (by cases h), fun x h => (by cases h)⟩
  | str s => exact ⟨fun x h => (by cases h), fun x h => (by cases h)⟩
  | list a us ds L K hv hl hz hL hK he ih =>
    refine ⟨fun x hx => ?_, fun x hx => ?_⟩
    · rcases List.mem_cons.1 hx with rfl | hx
      · exact ⟨hv, hz⟩
      · obtain ⟨l, hl9, hx⟩ := List.mem_flatten.1 hx
        obtain ⟨i, hi⟩ := List.getElem?_of_mem hl9
        obtain ⟨i1, -⟩ := List.getElem?_eq_some_iff.1 hi
        exact (ih i _ _ l _ (List.getElem?_eq_getElem (by omega)) (List.getElem?_eq_getElem (by omega)) hi (List.getElem?_eq_getElem (by omega))).1 x hx
    · obtain ⟨k, hk9, hx⟩ := List.mem_flatten.1 hx
      obtain ⟨i, hi⟩ := List.getElem?_of_mem hk9
      obtain ⟨i1, -⟩ := List.getElem?_eq_some_iff.1 hi
      exact (ih i _ _ _ k (List.getElem?_eq_getElem (by omega)) (List.getElem?_eq_getElem (by omega)) (List.getElem?_eq_getElem (by omega)) hi).2 x hx
  | obj ks a kb us ds L K hk hv hl hz hL hK he ih =>
    refine ⟨fun x hx => ?_, fun x hx => ?_⟩
    · rcases List.mem_cons.1 hx with rfl | hx
      · exact ⟨hv, hz.2⟩
      · obtain ⟨l, hl9, hx⟩ := List.mem_flatten.1 hx
        obtain ⟨i, hi⟩ := List.getElem?_of_mem hl9
        obtain ⟨i1, -⟩ := List.getElem?_eq_some_iff.1 hi
        exact (ih i _ _ l _ (List.getElem?_eq_getElem (by omega)) (List.getElem?_eq_getElem (by omega)) hi (List.getElem?_eq_getElem (by omega))).1 x hx
    · rcases List.mem_cons.1 hx with rfl | hx
      · exact ⟨hk, hz.1⟩
      · obtain ⟨k, hk9, hx⟩ := List.mem_flatten.1 hx
        obtain ⟨i, hi⟩ := List.getElem?_of_mem hk9
        obtain ⟨i1, -⟩ := List.getElem?_eq_some_iff.1 hi
        exact (ih i _ _ _ k (List.getElem?_eq_getElem (by omega)) (List.getElem?_eq_getElem (by omega)) (List.getElem?_eq_getElem (by omega)) hi).2 x hx
theorem blks_app2 (L1 L2 : Lb) (K1 K2 : Kb) : (blks (L1 ++ L2) (K1 ++ K2)).Perm (blks L1 K1 ++ blks L2 K2) := by
  unfold blks
  rw [blL_app, blK_app, List.append_assoc, List.append_assoc]
  refine List.Perm.append_left _ ?_
  rw [← List.append_assoc, ← List.append_assoc]
  exact List.Perm.append_right _ List.perm_append_comm
/-- Two values, the second one read behind the first. -/
theorem blks_two {L1 L2 : Lb} {K1 K2 : Kb} {n : Nat} (h1 : (blks L1 K1).Nodup) (h2 : (blks L2 K2).Nodup) (l1 : ∀ q ∈ blks L1 K1, q < n) (l2 : ∀ q ∈ blks L2 K2, n ≤ q) : (blks (L1 ++ L2) (K1 ++ K2)).Nodup :=
  (blks_app2 L1 L2 K1 K2).nodup_iff.2 (List.nodup_append.2 ⟨h1, h2, fun x hx y hy e => by subst e; have := l1 x hx; have := l2 x hy; omega⟩)
end Go.Proofs.YtddmmmfpdmejbaaGreatDoor
namespace Go.Proofs.YtddmmmfpdmejbaaGreatDoor
open Go.RowKit

/-! JsonOwn's game: marks, and what holds from round to round -/
def mV (s : ByteArray) : Value := .iface 54 (.string s)
def mK (s : ByteArray) : Value := .string s
def mks (f : ByteArray → Value) (i n : Nat) : List Value := (List.range n).map (fun j => f (mkT i j))
theorem mks_len (f : ByteArray → Value) (i n : Nat) : (mks f i n).length = n := by simp [mks]
theorem mks_at (f : ByteArray → Value) (i n j : Nat) (h : j < n) : (mks f i n)[j]? = some (f (mkT i j)) := by simp [mks, h]
theorem mks_succ (f : ByteArray → Value) (i n : Nat) : mks f i (n + 1) = mks f i n ++ [f (mkT i n)] := by simp [mks, List.range_succ]
/-- What list m holds while list i is written, up to j. -/
def cc (f : ByteArray → Value) (n : Nat → Nat) (o : Nat → List Value) (i j m : Nat) : List Value := if m < i then mks f m (n m) else if m = i then mks f i j ++ (o m).drop j else o m
theorem cc_set (f : ByteArray → Value) (n : Nat → Nat) (o : Nat → List Value) (i j : Nat) (hj : j < (o i).length) : (cc f n o i j i).set j (f (mkT i j)) = cc f n o i (j + 1) i := by
  unfold cc
  rw [if_neg (Nat.lt_irrefl _), if_pos rfl, if_neg (Nat.lt_irrefl _), if_pos rfl, mks_succ]
  rw [List.set_append_right _ _ (by rw [mks_len]; exact Nat.le_refl _), mks_len, Nat.sub_self]
  rw [List.drop_eq_getElem_cons hj, List.set_cons_zero, List.append_assoc]
  rfl
theorem cc_ne (f : ByteArray → Value) (n : Nat → Nat) (o : Nat → List Value) (i j j' m : Nat) (h : m ≠ i) : cc f n o i j m = cc f n o i j' m := by
  unfold cc
  split
  · rfl
  · first | rfl | simp only [if_neg h]
theorem cc_next (f : ByteArray → Value) (n : Nat → Nat) (o : Nat → List Value) (i m : Nat) (hn : ∀ m, (o m).length = n m) : cc f n o i (n i) m = cc f n o (i + 1) 0 m := by
  unfold cc
  by_cases h1 : m < i
  · rw [if_pos h1, if_pos (by omega)]
  · rw [if_neg h1]
    by_cases h2 : m = i
    · subst h2
      rw [if_pos rfl, if_pos (by omega), List.drop_eq_nil_of_le (by rw [hn]; exact Nat.le_refl _), List.append_nil]
    · rw [if_neg h2, if_neg (by omega)]
      by_cases h3 : m = i + 1
      · subst h3
        rw [if_pos rfl]
        simp [mks]
      · rw [if_neg h3]
theorem cc_start (f : ByteArray → Value) (n : Nat → Nat) (o : Nat → List Value) (m : Nat) : cc f n o 0 0 m = o m := by
  unfold cc
  rw [if_neg (Nat.not_lt_zero _)]
  by_cases h : m = 0
  · subst h; rw [if_pos rfl]; simp [mks]
  · rw [if_neg h]
theorem cc_done (f : ByteArray → Value) (n : Nat → Nat) (o : Nat → List Value) (p j m : Nat) (h : m < p) : cc f n o p j m = mks f m (n m) := by unfold cc; rw [if_pos h]
theorem cc_len (f : ByteArray → Value) (n : Nat → Nat) (o : Nat → List Value) (i j m : Nat) (hn : ∀ m, (o m).length = n m) (hj : j ≤ n i) : (cc f n o i j m).length = n m := by
  unfold cc
  split
  · exact mks_len _ _ _
  · split
    · rename_i h; subst h
      rw [List.length_append, mks_len, List.length_drop, hn]; omega
    · exact hn m
/-- The lists: those of values, those of keys. -/
structure Cat where
  B : Nat
  p : Nat
  q : Nat
  Ls : Nat → Sl
  Ks : Nat → Sl
  oL : Nat → List Value
  oK : Nat → List Value
  ls : Sl
  ks : Sl
def Cat.nL (C : Cat) (m : Nat) : Nat := (C.oL m).length
def Cat.nK (C : Cat) (m : Nat) : Nat := (C.oK m).length
def Cat.cl (C : Cat) : List Value := (List.range C.p).map (fun m => (C.Ls m).v)
def Cat.ck (C : Cat) : List Value := (List.range C.q).map (fun m => (C.Ks m).v)
structure Cat.Ok (C : Cat) : Prop where
  p : C.p ≤ 100000000000
  q : C.q ≤ 100000000000
  nL : ∀ m, C.nL m ≤ 1759218604441
  nK : ∀ m, C.nK m ≤ 8796093022208 - 1
def I12 (C : Cat) (i j i2 j2 : Nat) (w wr : World) : Prop :=
  ∃ T, Ga wr C.B T ∧ T 0 = some (thG 53 C.B C.ls.v C.cl) ∧ T 1 = some (thG 22 C.B C.ks.v C.ck) ∧ (∀ m, m < C.p → T (kL m) = some (thG 27 C.B (C.Ls m).v (cc mV C.nL C.oL i j m))) ∧ (∀ m, m < C.q → T (kK m) = some (thG 9 C.B (C.Ks m).v (cc mK C.nK C.oK i2 j2 m))) ∧ Below C.B w wr
theorem kL_inj {a b : Nat} (h : a ≠ b) : kL a ≠ kL b := by unfold kL; omega
theorem kK_inj {a b : Nat} (h : a ≠ b) : kK a ≠ kK b := by unfold kK; omega
theorem kLK (a b : Nat) : kL a ≠ kK b := by unfold kL kK; omega
theorem kL_ge (a : Nat) : 4 ≤ kL a := by unfold kL; omega
theorem kK_ge (a : Nat) : 5 ≤ kK a := by unfold kK; omega
theorem I12.later {C : Cat} {i j i2 j2 : Nat} {w wr w1 : World} (h : I12 C i j i2 j2 w wr) (hb : Below wr.heap.size wr w1) : I12 C i j i2 j2 w w1 := by
  obtain ⟨T, h1, h2, h3, h4, h5, h6⟩ := h
  exact ⟨T, h1.later hb, h2, h3, h4, h5, h6.trans (hb.mono h1.size)⟩
theorem own_at {e : TypeId} {w : World} {B : Nat} {a : Sl} {xs : List Value} (h : OwnG e w B a.v xs) (j : Nat) (hj : j < xs.length) : ∃ g c, a = ⟨some ⟨g, 0, none⟩, xs.length, c⟩ ∧ w.cell? ⟨g, j, none⟩ = some xs[j] ∧ w.frozen? ⟨g, j, none⟩ = false := by
  obtain ⟨g, c, he, -⟩ := h.form (fun h0 => by rw [h0] at hj; simp at hj)
  obtain ⟨ax, an, ac⟩ := a
  simp only [Sl.v, Value.slice.injEq] at he
  obtain ⟨rfl, rfl, rfl⟩ := he
  exact ⟨g, ac, rfl, h.cell j _ (List.getElem?_eq_getElem hj), h.frozen j⟩
/-- A mark is written into a list of values. -/
theorem I12.stepL {C : Cat} {i j i2 j2 : Nat} {w wr : World} (h : I12 C i j i2 j2 w wr) (hi : i < C.p) (hj : j < C.nL i) : ∃ g c u, C.Ls i = ⟨some ⟨g, 0, none⟩, C.nL i, c⟩ ∧ wr.cell? ⟨g, j, none⟩ = some u ∧ wr.frozen? ⟨g, j, none⟩ = false ∧ I12 C i (j + 1) i2 j2 w (wr.setCell ⟨g, j, none⟩ (mV (mkT i j))) := by
  obtain ⟨T, h1, h2, h3, h4, h5, h6⟩ := h
  have hO := h1.isG (h4 i hi)
  have hlen : (cc mV C.nL C.oL i j i).length = C.nL i := cc_len _ _ _ _ _ _ (fun _ => rfl) (by omega)
  obtain ⟨g, c, he, hc, hf⟩ := own_at hO j (by rw [hlen]; exact hj)
  rw [hlen] at he
  refine ⟨g, c, _, he, hc, hf, ?_⟩
  have h4i := h4 i hi
  rw [he] at hO h4i
  obtain ⟨hO2, hg2⟩ := hO.put (g := g) j (mV (mkT i j))
  rw [cc_set mV C.nL C.oL i j hj] at hO2
  have hG := (h1.putG h4i (Keep.of_grown hg2 (fun q hq => by cases hq; simp [Sl.v, Value.ownBlock])) hO2 (fun q hq => .inl hq)).1
  refine ⟨_, hG, by rw [updT_ne _ _ _ _ (by have := kL_ge i; omega)]; exact h2, by rw [updT_ne _ _ _ _ (by have := kL_ge i; omega)]; exact h3, fun m hm => ?_, fun m hm => by rw [updT_ne _ _ _ _ (fun e => kLK i m e.symm)]; exact h5 m hm, h6.trans (hO.below hg2 h1.size)⟩
  by_cases hmi : m = i
  · subst hmi
    rw [updT_same, he]
    rfl
  · rw [updT_ne _ _ _ _ (kL_inj hmi), h4 m hm, cc_ne _ _ _ _ _ (j + 1) m hmi]
theorem I12.stepK {C : Cat} {i j i2 j2 : Nat} {w wr : World} (h : I12 C i j i2 j2 w wr) (hi : i2 < C.q) (hj : j2 < C.nK i2) : ∃ g c u, C.Ks i2 = ⟨some ⟨g, 0, none⟩, C.nK i2, c⟩ ∧ wr.cell? ⟨g, j2, none⟩ = some u ∧ wr.frozen? ⟨g, j2, none⟩ = false ∧ I12 C i j i2 (j2 + 1) w (wr.setCell ⟨g, j2, none⟩ (mK (mkT i2 j2))) := by
  obtain ⟨T, h1, h2, h3, h4, h5, h6⟩ := h
  have hO := h1.isG (h5 i2 hi)
  have hlen : (cc mK C.nK C.oK i2 j2 i2).length = C.nK i2 := cc_len _ _ _ _ _ _ (fun _ => rfl) (by omega)
  obtain ⟨g, c, he, hc, hf⟩ := own_at hO j2 (by rw [hlen]; exact hj)
  rw [hlen] at he
  refine ⟨g, c, _, he, hc, hf, ?_⟩
  have h5i := h5 i2 hi
  rw [he] at hO h5i
  obtain ⟨hO2, hg2⟩ := hO.put (g := g) j2 (mK (mkT i2 j2))
  rw [cc_set mK C.nK C.oK i2 j2 hj] at hO2
  have hG := (h1.putG h5i (Keep.of_grown hg2 (fun q hq => by cases hq; simp [Sl.v, Value.ownBlock])) hO2 (fun q hq => .inl hq)).1
  refine ⟨_, hG, by rw [updT_ne _ _ _ _ (by have := kK_ge i2; omega)]; exact h2, by rw [updT_ne _ _ _ _ (by have := kK_ge i2; omega)]; exact h3, fun m hm => by rw [updT_ne _ _ _ _ (kLK m i2)]; exact h4 m hm, fun m hm => ?_, h6.trans (hO.below hg2 h1.size)⟩
  by_cases hmi : m = i2
  · subst hmi
    rw [updT_same, he]
    rfl
  · rw [updT_ne _ _ _ _ (kK_inj hmi), h5 m hm, cc_ne _ _ _ _ _ (j2 + 1) m hmi]
theorem I12.nextL {C : Cat} {i i2 j2 : Nat} {w wr : World} (h : I12 C i (C.nL i) i2 j2 w wr) : I12 C (i + 1) 0 i2 j2 w wr := by
  obtain ⟨T, h1, h2, h3, h4, h5, h6⟩ := h
  exact ⟨T, h1, h2, h3, fun m hm => by rw [h4 m hm, cc_next mV C.nL C.oL i m (fun _ => rfl)], h5, h6⟩
theorem I12.nextK {C : Cat} {i j i2 : Nat} {w wr : World} (h : I12 C i j i2 (C.nK i2) w wr) : I12 C i j (i2 + 1) 0 w wr := by
  obtain ⟨T, h1, h2, h3, h4, h5, h6⟩ := h
  exact ⟨T, h1, h2, h3, h4, fun m hm => by rw [h5 m hm, cc_next mK C.nK C.oK i2 m (fun _ => rfl)], h6⟩
/-- List m of the book, and of the keys' book. -/
theorem I12.getL {C : Cat} {i j i2 j2 : Nat} {w wr : World} (h : I12 C i j i2 j2 w wr) (m : Nat) (hm : m < C.p) : ∃ g c, C.ls = ⟨some ⟨g, 0, none⟩, C.p, c⟩ ∧ wr.cell? ⟨g, m, none⟩ = some (C.Ls m).v := by
  obtain ⟨T, h1, h2, h3, h4, h5, h6⟩ := h
  obtain ⟨g, c, he, hc, -⟩ := own_at (h1.isG h2) m (by simp [Cat.cl]; exact hm)
  refine ⟨g, c, by rw [he]; simp [Cat.cl], ?_⟩
  rw [hc]; simp [Cat.cl]
theorem I12.getK {C : Cat} {i j i2 j2 : Nat} {w wr : World} (h : I12 C i j i2 j2 w wr) (m : Nat) (hm : m < C.q) : ∃ g c, C.ks = ⟨some ⟨g, 0, none⟩, C.q, c⟩ ∧ wr.cell? ⟨g, m, none⟩ = some (C.Ks m).v := by
  obtain ⟨T, h1, h2, h3, h4, h5, h6⟩ := h
  obtain ⟨g, c, he, hc, -⟩ := own_at (h1.isG h3) m (by simp [Cat.ck]; exact hm)
  refine ⟨g, c, by rw [he]; simp [Cat.ck], ?_⟩
  rw [hc]; simp [Cat.ck]
theorem I12.numL {C : Cat} {i j i2 j2 : Nat} {w wr : World} (h : I12 C i j i2 j2 w wr) (hj : j ≤ C.nL i) (m : Nat) (hm : m < C.p) : (C.Ls m).n = C.nL m := by
  obtain ⟨T, h1, h2, h3, h4, h5, h6⟩ := h
  have h9 : (C.Ls m).n = (cc mV C.nL C.oL i j m).length := IsG.num (h1.isG (h4 m hm)).isG
  exact h9.trans (cc_len mV C.nL C.oL i j m (fun _ => rfl) hj)
theorem I12.numK {C : Cat} {i j i2 j2 : Nat} {w wr : World} (h : I12 C i j i2 j2 w wr) (hj : j2 ≤ C.nK i2) (m : Nat) (hm : m < C.q) : (C.Ks m).n = C.nK m := by
  obtain ⟨T, h1, h2, h3, h4, h5, h6⟩ := h
  have h9 : (C.Ks m).n = (cc mK C.nK C.oK i2 j2 m).length := IsG.num (h1.isG (h5 m hm)).isG
  exact h9.trans (cc_len mK C.nK C.oK i2 j2 m (fun _ => rfl) hj)
theorem I12.numls {C : Cat} {i j i2 j2 : Nat} {w wr : World} (h : I12 C i j i2 j2 w wr) : C.ls.n = C.p ∧ C.ks.n = C.q := by
  obtain ⟨T, h1, h2, h3, h4, h5, h6⟩ := h
  have h9 : C.ls.n = C.cl.length := IsG.num (h1.isG h2).isG
  have h8 : C.ks.n = C.ck.length := IsG.num (h1.isG h3).isG
  exact ⟨by rw [h9]; simp [Cat.cl], by rw [h8]; simp [Cat.ck]⟩
/-! Lists are lengthened -/
theorem eltV15o : Elt 53 27 16 := ⟨Tryz.underlying53, by
  have h : (Tryz.prog.info? 27).map (fun i => (i.zero, i.size, i.bytes)) = some (some .nilIface, 1, 16) := by kernel_rfl
  obtain ⟨i, hi, hzz⟩ := Option.map_eq_some_iff.1 h
  simp only [Prod.mk.injEq] at hzz
  exact ⟨i, _, hi, hzz.1, hzz.2.1, hzz.2.2, rfl⟩⟩
def lT (C : Cat) (M : Nat → Sl) (i m : Nat) : Th := if m < i then thM 27 C.B (M m) (mks mV m (C.nL m + 1)) (C.Ls m) (mks mV m (C.nL m)) else thG 27 C.B (C.Ls m).v (mks mV m (C.nL m))
def kT (C : Cat) (M : Nat → Sl) (i m : Nat) : Th := if m < i then thM 9 C.B (M m) (mks mK m (C.nK m + 1)) (C.Ks m) (mks mK m (C.nK m)) else thG 9 C.B (C.Ks m).v (mks mK m (C.nK m))
def updM (M : Nat → Sl) (i : Nat) (a : Sl) : Nat → Sl := fun m => if m = i then a else M m
theorem updM_same (M : Nat → Sl) (i : Nat) (a : Sl) : updM M i a i = a := if_pos rfl
theorem updM_ne (M : Nat → Sl) (i m : Nat) (a : Sl) (h : m ≠ i) : updM M i a m = M m := if_neg h
def mvs (M : Nat → Sl) (i : Nat) : List Value := (List.range i).map (fun m => (M m).v)
theorem mvs_succ (M : Nat → Sl) (i : Nat) : mvs M (i + 1) = mvs M i ++ [(M i).v] := by simp [mvs, List.range_succ]
theorem mvs_len (M : Nat → Sl) (i : Nat) : (mvs M i).length = i := by simp [mvs]
theorem mvs_upd (M : Nat → Sl) (i : Nat) (a : Sl) : mvs (updM M i a) i = mvs M i := by
  unfold mvs
  apply List.map_congr_left
  intro m hm
  rw [List.mem_range] at hm
  rw [updM_ne _ _ _ _ (by omega)]
structure I34 (C : Cat) (M N : Nat → Sl) (mo lo : Sl) (i i2 : Nat) (w wr : World) : Prop where
  ex : ∃ T, Ga wr C.B T ∧ T 0 = some (thG 53 C.B C.ls.v C.cl) ∧ T 1 = some (thG 22 C.B C.ks.v C.ck) ∧ T 2 = some (thG 53 C.B mo.v (mvs M i)) ∧ T 3 = some (thG 22 C.B lo.v (mvs N i2)) ∧ (∀ m, m < C.p → T (kL m) = some (lT C M i m)) ∧ (∀ m, m < C.q → T (kK m) = some (kT C N i2 m))
  bl : Below C.B w wr
  nM : ∀ m, m < i → (M m).n = C.nL m + 1
  nN : ∀ m, m < i2 → (N m).n = C.nK m + 1
theorem I34.start {C : Cat} {w wr : World} (h : I12 C C.p 0 C.q 0 w wr) : I34 C (fun _ => slZ) (fun _ => slZ) slZ slZ 0 0 w wr := by
  obtain ⟨T, h1, h2, h3, h4, h5, h6⟩ := h
  have g1 := h1.newG 2 (Below.refl _ _) (OwnG.nil 53 wr wr.heap.size) (OwnG.nil _ _ _)
  have g2 := g1.newG 3 (Below.refl _ _) (OwnG.nil 22 wr wr.heap.size) (OwnG.nil _ _ _)
  refine ⟨⟨_, g2, ?_, ?_, ?_, ?_, fun m hm => ?_, fun m hm => ?_⟩, h6, fun m hm => absurd hm (Nat.not_lt_zero _), fun m hm => absurd hm (Nat.not_lt_zero _)⟩
  · rw [updT_ne _ _ _ _ (by omega), updT_ne _ _ _ _ (by omega)]; exact h2
  · rw [updT_ne _ _ _ _ (by omega), updT_ne _ _ _ _ (by omega)]; exact h3
  · rw [updT_ne _ _ _ _ (by omega), updT_same]; rfl
  · rw [updT_same]; rfl
  · rw [updT_ne _ _ _ _ (by have := kL_ge m; omega), updT_ne _ _ _ _ (by have := kL_ge m; omega), h4 m hm, cc_done _ _ _ _ _ _ hm]
    unfold lT
    rw [if_neg (Nat.not_lt_zero _)]
  · rw [updT_ne _ _ _ _ (by have := kK_ge m; omega), updT_ne _ _ _ _ (by have := kK_ge m; omega), h5 m hm, cc_done _ _ _ _ _ _ hm]
    unfold kT
    rw [if_neg (Nat.not_lt_zero _)]
theorem I34.later {C : Cat} {M N : Nat → Sl} {mo lo : Sl} {i i2 : Nat} {w wr w1 : World} (h : I34 C M N mo lo i i2 w wr) (hb : Below wr.heap.size wr w1) : I34 C M N mo lo i i2 w w1 := by
  obtain ⟨⟨T, h1, h2⟩, h6, h7, h8⟩ := h
  exact ⟨⟨T, h1.later hb, h2⟩, h6.trans (hb.mono h1.size), h7, h8⟩
/-- Half a round: the list is lengthened; the longer one isn't yet told. -/
structure J34 (C : Cat) (M N : Nat → Sl) (mo lo : Sl) (a : Sl) (i i2 : Nat) (w wr : World) : Prop where
  ex : ∃ T, Ga wr C.B T ∧ T 0 = some (thG 53 C.B C.ls.v C.cl) ∧ T 1 = some (thG 22 C.B C.ks.v C.ck) ∧ T 2 = some (thG 53 C.B mo.v (mvs M i)) ∧ T 3 = some (thG 22 C.B lo.v (mvs N i2)) ∧ (∀ m, m < C.p → T (kL m) = some (lT C (updM M i a) (i + 1) m)) ∧ (∀ m, m < C.q → T (kK m) = some (kT C N i2 m))
  bl : Below C.B w wr
  nM : ∀ m, m < i → (M m).n = C.nL m + 1
  nN : ∀ m, m < i2 → (N m).n = C.nK m + 1
  na : a.n = C.nL i + 1
theorem J34.later {C : Cat} {M N : Nat → Sl} {mo lo a : Sl} {i i2 : Nat} {w wr w1 : World} (h : J34 C M N mo lo a i i2 w wr) (hb : Below wr.heap.size wr w1) : J34 C M N mo lo a i i2 w w1 := by
  obtain ⟨⟨T, h1, h2⟩, h6, h7, h8, h9⟩ := h
  exact ⟨⟨T, h1.later hb, h2⟩, h6.trans (hb.mono h1.size), h7, h8, h9⟩
theorem lT_ne {C : Cat} {M : Nat → Sl} {a : Sl} {i m : Nat} (h : m ≠ i) : lT C (updM M i a) (i + 1) m = lT C M i m := by
  unfold lT
  by_cases hm : m < i
  · rw [if_pos (by omega), if_pos hm, updM_ne _ _ _ _ h]
  · rw [if_neg (by omega), if_neg hm]
theorem I34.appL {C : Cat} (O : C.Ok) {M N : Nat → Sl} {mo lo : Sl} {i i2 : Nat} {w wr : World} (h : I34 C M N mo lo i i2 w wr) (hi : i < C.p) (y c : Nat) (hy : wr.cell? ⟨y, 0, none⟩ = some (mV (mkT i (C.nL i)))) :
    ∃ (a : Sl) (w' : World), (Builtin.append_ #[53, 53] 53 #[(C.Ls i).v, .slice (some ⟨y, 0, none⟩) 1 c]).run Tryz.prog wr = .ok a.v w' ∧ J34 C M N mo lo a i i2 w w' := by
  obtain ⟨⟨T, h1, h2, h3, h4, h5, h6, h7⟩, h8, h9, h10⟩ := h
  have hk : T (kL i) = some (thG 27 C.B (C.Ls i).v (mks mV i (C.nL i))) := by rw [h6 i hi]; unfold lT; rw [if_neg (Nat.lt_irrefl _)]
  have hn := O.nL i
  obtain ⟨a, w', hr, hG, hB, hna⟩ := h1.appM eltV15o hk (mV (mkT i (C.nL i))) y c 53 hy rfl (by rw [mks_len]; omega) (by rw [mks_len]; omega)
  rw [← mks_succ] at hG
  rw [mks_len] at hna
  refine ⟨a, w', hr, ⟨_, hG, ?_, ?_, ?_, ?_, fun m hm => ?_, fun m hm => ?_⟩, h8.trans hB, h9, h10, hna⟩
  · rw [updT_ne _ _ _ _ (by have := kL_ge i; omega)]; exact h2
  · rw [updT_ne _ _ _ _ (by have := kL_ge i; omega)]; exact h3
  · rw [updT_ne _ _ _ _ (by have := kL_ge i; omega)]; exact h4
  · rw [updT_ne _ _ _ _ (by have := kL_ge i; omega)]; exact h5
  · by_cases hmi : m = i
    · subst hmi
      rw [updT_same]
      unfold lT
      rw [if_pos (by omega), updM_same]
    · rw [updT_ne _ _ _ _ (kL_inj hmi), lT_ne hmi]; exact h6 m hm
  · rw [updT_ne _ _ _ _ (fun e => kLK i m e.symm)]; exact h7 m hm
/-- .. and told. -/
theorem J34.tellL {C : Cat} (O : C.Ok) {M N : Nat → Sl} {mo lo a : Sl} {i i2 : Nat} {w wr : World} (h : J34 C M N mo lo a i i2 w wr) (hi : i < C.p) (y c : Nat) (hy : wr.cell? ⟨y, 0, none⟩ = some a.v) :
    ∃ (mo' : Sl) (w' : World), (Builtin.append_ #[49, 49] 49 #[mo.v, .slice (some ⟨y, 0, none⟩) 1 c]).run Tryz.prog wr = .ok mo'.v w' ∧ I34 C (updM M i a) N mo' lo (i + 1) i2 w w' := by
  obtain ⟨⟨T, h1, h2, h3, h4, h5, h6, h7⟩, h8, h9, h10, h11⟩ := h
  have hO := h1.isG h4
  have hp := O.p
  obtain ⟨g, c', w', hr, hO', hg, hway⟩ := appLie eltVs wr C.B mo (mvs M i) a.v y c 49 hO hy rfl h1.size (by rw [mvs_len]; omega) (by rw [mvs_len]; unfold maxLen; omega)
  have hc : mvs M i ++ [a.v] = mvs (updM M i a) (i + 1) := by
    rw [mvs_succ, mvs_upd, updM_same]
  rw [hc] at hO'
  have hG := (h1.putG h4 (Keep.of_grown hg (fun q hq => by rw [hq]; simp)) hO' (fun q hq => by
    have hq' : q = g := by have h9 : some g = some q := hq; exact (Option.some.inj h9).symm
    subst hq'
    rcases hway with h9 | h9
    · exact .inl h9
    · exact .inr (by omega))).1
  refine ⟨_, w', hr, ⟨_, hG, ?_, ?_, ?_, ?_, fun m hm => ?_, fun m hm => ?_⟩, h8.trans (hO.below hg h1.size), fun m hm => ?_, h10⟩
  · rw [updT_ne _ _ _ _ (by omega)]; exact h2
  · rw [updT_ne _ _ _ _ (by omega)]; exact h3
  · rw [updT_same]
  · rw [updT_ne _ _ _ _ (by omega)]; exact h5
  · rw [updT_ne _ _ _ _ (by have := kL_ge m; omega)]; exact h6 m hm
  · rw [updT_ne _ _ _ _ (by have := kK_ge m; omega)]; exact h7 m hm
  · by_cases hmi : m = i
    · subst hmi; rw [updM_same]; exact h11
    · rw [updM_ne _ _ _ _ hmi]; exact h9 m (by omega)
/-- Half a round: the list is lengthened; the longer one isn't yet told. -/
structure JK34 (C : Cat) (M N : Nat → Sl) (mo lo : Sl) (a : Sl) (i i2 : Nat) (w wr : World) : Prop where
  ex : ∃ T, Ga wr C.B T ∧ T 0 = some (thG 53 C.B C.ls.v C.cl) ∧ T 1 = some (thG 22 C.B C.ks.v C.ck) ∧ T 2 = some (thG 53 C.B mo.v (mvs M i)) ∧ T 3 = some (thG 22 C.B lo.v (mvs N i2)) ∧ (∀ m, m < C.p → T (kL m) = some (lT C M i m)) ∧ (∀ m, m < C.q → T (kK m) = some (kT C (updM N i2 a) (i2 + 1) m))
  bl : Below C.B w wr
  nM : ∀ m, m < i → (M m).n = C.nL m + 1
  nN : ∀ m, m < i2 → (N m).n = C.nK m + 1
  na : a.n = C.nK i2 + 1
theorem JK34.later {C : Cat} {M N : Nat → Sl} {mo lo a : Sl} {i i2 : Nat} {w wr w1 : World} (h : JK34 C M N mo lo a i i2 w wr) (hb : Below wr.heap.size wr w1) : JK34 C M N mo lo a i i2 w w1 := by
  obtain ⟨⟨T, h1, h2⟩, h6, h7, h8, h9⟩ := h
  exact ⟨⟨T, h1.later hb, h2⟩, h6.trans (hb.mono h1.size), h7, h8, h9⟩
theorem kT_ne {C : Cat} {M : Nat → Sl} {a : Sl} {i m : Nat} (h : m ≠ i) : kT C (updM M i a) (i + 1) m = kT C M i m := by
  unfold kT
  by_cases hm : m < i
  · rw [if_pos (by omega), if_pos hm, updM_ne _ _ _ _ h]
  · rw [if_neg (by omega), if_neg hm]
theorem I34.appK {C : Cat} (O : C.Ok) {M N : Nat → Sl} {mo lo : Sl} {i i2 : Nat} {w wr : World} (h : I34 C M N mo lo i i2 w wr) (hi : i2 < C.q) (y c : Nat) (hy : wr.cell? ⟨y, 0, none⟩ = some (mK (mkT i2 (C.nK i2)))) :
    ∃ (a : Sl) (w' : World), (Builtin.append_ #[22, 22] 22 #[(C.Ks i2).v, .slice (some ⟨y, 0, none⟩) 1 c]).run Tryz.prog wr = .ok a.v w' ∧ JK34 C M N mo lo a i i2 w w' := by
  obtain ⟨⟨T, h1, h2, h3, h4, h5, h6, h7⟩, h8, h9, h10⟩ := h
  have hk : T (kK i2) = some (thG 9 C.B (C.Ks i2).v (mks mK i2 (C.nK i2))) := by rw [h7 i2 hi]; unfold kT; rw [if_neg (Nat.lt_irrefl _)]
  have hn := O.nK i2
  obtain ⟨a, w', hr, hG, hB, hna⟩ := h1.appM eltS hk (mK (mkT i2 (C.nK i2))) y c 22 hy rfl (by rw [mks_len]; omega) (by rw [mks_len]; omega)
  rw [← mks_succ] at hG
  rw [mks_len] at hna
  refine ⟨a, w', hr, ⟨_, hG, ?_, ?_, ?_, ?_, fun m hm => ?_, fun m hm => ?_⟩, h8.trans hB, h9, h10, hna⟩
  · rw [updT_ne _ _ _ _ (by have := kK_ge i2; omega)]; exact h2
  · rw [updT_ne _ _ _ _ (by have := kK_ge i2; omega)]; exact h3
  · rw [updT_ne _ _ _ _ (by have := kK_ge i2; omega)]; exact h4
  · rw [updT_ne _ _ _ _ (by have := kK_ge i2; omega)]; exact h5
  · rw [updT_ne _ _ _ _ (kLK m i2)]; exact h6 m hm
  · by_cases hmi : m = i2
    · subst hmi
      rw [updT_same]
      unfold kT
      rw [if_pos (by omega), updM_same]
    · rw [updT_ne _ _ _ _ (kK_inj hmi), kT_ne hmi]; exact h7 m hm
/-- .. and told. -/
theorem JK34.tellK {C : Cat} (O : C.Ok) {M N : Nat → Sl} {mo lo a : Sl} {i i2 : Nat} {w wr : World} (h : JK34 C M N mo lo a i i2 w wr) (hi : i2 < C.q) (y c : Nat) (hy : wr.cell? ⟨y, 0, none⟩ = some a.v) :
    ∃ (mo' : Sl) (w' : World), (Builtin.append_ #[51, 51] 51 #[lo.v, .slice (some ⟨y, 0, none⟩) 1 c]).run Tryz.prog wr = .ok mo'.v w' ∧ I34 C M (updM N i2 a) mo mo' i (i2 + 1) w w' := by
  obtain ⟨⟨T, h1, h2, h3, h4, h5, h6, h7⟩, h8, h9, h10, h11⟩ := h
  have hO := h1.isG h5
  have hp := O.q
  obtain ⟨g, c', w', hr, hO', hg, hway⟩ := appLie eltKs wr C.B lo (mvs N i2) a.v y c 51 hO hy rfl h1.size (by rw [mvs_len]; omega) (by rw [mvs_len]; unfold maxLen; omega)
  have hc : mvs N i2 ++ [a.v] = mvs (updM N i2 a) (i2 + 1) := by
    rw [mvs_succ, mvs_upd, updM_same]
  rw [hc] at hO'
  have hG := (h1.putG h5 (Keep.of_grown hg (fun q hq => by rw [hq]; simp)) hO' (fun q hq => by
    have hq' : q = g := by have h9 : some g = some q := hq; exact (Option.some.inj h9).symm
    subst hq'
    rcases hway with h9 | h9
    · exact .inl h9
    · exact .inr (by omega))).1
  refine ⟨_, w', hr, ⟨_, hG, ?_, ?_, ?_, ?_, fun m hm => ?_, fun m hm => ?_⟩, h8.trans (hO.below hg h1.size), h9, fun m hm => ?_⟩
  · rw [updT_ne _ _ _ _ (by omega)]; exact h2
  · rw [updT_ne _ _ _ _ (by omega)]; exact h3
  · rw [updT_ne _ _ _ _ (by omega)]; exact h4
  · rw [updT_same]
  · rw [updT_ne _ _ _ _ (by have := kL_ge m; omega)]; exact h6 m hm
  · rw [updT_ne _ _ _ _ (by have := kK_ge m; omega)]; exact h7 m hm
  · by_cases hmi : m = i2
    · subst hmi; rw [updM_same]; exact h11
    · rw [updM_ne _ _ _ _ hmi]; exact h10 m (by omega)
/-! What is read then -/
theorem I34.size {C : Cat} {M N : Nat → Sl} {mo lo : Sl} {i i2 : Nat} {w wr : World} (h : I34 C M N mo lo i i2 w wr) : C.B ≤ wr.heap.size := by
  obtain ⟨⟨T, h1, -⟩, -⟩ := h
  exact h1.size
theorem I34.getL {C : Cat} {M N : Nat → Sl} {mo lo : Sl} {i i2 : Nat} {w wr : World} (h : I34 C M N mo lo i i2 w wr) (m : Nat) (hm : m < C.p) : ∃ g c, C.ls = ⟨some ⟨g, 0, none⟩, C.p, c⟩ ∧ wr.cell? ⟨g, m, none⟩ = some (C.Ls m).v := by
  obtain ⟨⟨T, h1, h2, h3, -⟩, -⟩ := h
  obtain ⟨g, c, he, hc, -⟩ := own_at (h1.isG h2) m (by simp [Cat.cl]; exact hm)
  refine ⟨g, c, by rw [he]; simp [Cat.cl], ?_⟩
  rw [hc]; simp [Cat.cl]
theorem I34.getK {C : Cat} {M N : Nat → Sl} {mo lo : Sl} {i i2 : Nat} {w wr : World} (h : I34 C M N mo lo i i2 w wr) (m : Nat) (hm : m < C.q) : ∃ g c, C.ks = ⟨some ⟨g, 0, none⟩, C.q, c⟩ ∧ wr.cell? ⟨g, m, none⟩ = some (C.Ks m).v := by
  obtain ⟨⟨T, h1, h2, h3, -⟩, -⟩ := h
  obtain ⟨g, c, he, hc, -⟩ := own_at (h1.isG h3) m (by simp [Cat.ck]; exact hm)
  refine ⟨g, c, by rw [he]; simp [Cat.ck], ?_⟩
  rw [hc]; simp [Cat.ck]
theorem I34.numls {C : Cat} {M N : Nat → Sl} {mo lo : Sl} {i i2 : Nat} {w wr : World} (h : I34 C M N mo lo i i2 w wr) : C.ls.n = C.p ∧ C.ks.n = C.q ∧ mo.n = i ∧ lo.n = i2 := by
  obtain ⟨⟨T, h1, h2, h3, h4, h5, -⟩, -⟩ := h
  have g1 : C.ls.n = C.cl.length := IsG.num (h1.isG h2).isG
  have g2 : C.ks.n = C.ck.length := IsG.num (h1.isG h3).isG
  have g3 : mo.n = (mvs M i).length := IsG.num (h1.isG h4).isG
  have g4 : lo.n = (mvs N i2).length := IsG.num (h1.isG h5).isG
  exact ⟨by rw [g1]; simp [Cat.cl], by rw [g2]; simp [Cat.ck], by rw [g3, mvs_len], by rw [g4, mvs_len]⟩
theorem I34.getM {C : Cat} {M N : Nat → Sl} {mo lo : Sl} {i i2 : Nat} {w wr : World} (h : I34 C M N mo lo i i2 w wr) (m : Nat) (hm : m < i) : ∃ g c, mo = ⟨some ⟨g, 0, none⟩, i, c⟩ ∧ wr.cell? ⟨g, m, none⟩ = some (M m).v := by
  obtain ⟨⟨T, h1, h2, h3, h4, h5, -⟩, -⟩ := h
  obtain ⟨g, c, he, hc, -⟩ := own_at (h1.isG h4) m (by rw [mvs_len]; exact hm)
  refine ⟨g, c, by rw [he, mvs_len], ?_⟩
  rw [hc]; simp [mvs]
theorem I34.getN {C : Cat} {M N : Nat → Sl} {mo lo : Sl} {i i2 : Nat} {w wr : World} (h : I34 C M N mo lo i i2 w wr) (m : Nat) (hm : m < i2) : ∃ g c, lo = ⟨some ⟨g, 0, none⟩, i2, c⟩ ∧ wr.cell? ⟨g, m, none⟩ = some (N m).v := by
  obtain ⟨⟨T, h1, h2, h3, h4, h5, -⟩, -⟩ := h
  obtain ⟨g, c, he, hc, -⟩ := own_at (h1.isG h5) m (by rw [mvs_len]; exact hm)
  refine ⟨g, c, by rw [he, mvs_len], ?_⟩
  rw [hc]; simp [mvs]
theorem I34.atM {C : Cat} {M N : Nat → Sl} {mo lo : Sl} {i i2 : Nat} {w wr : World} (h : I34 C M N mo lo i i2 w wr) (m : Nat) (hm : m < i) (hp : m < C.p) (j : Nat) (hj : j < C.nL m + 1) : ∃ g c, M m = ⟨some ⟨g, 0, none⟩, C.nL m + 1, c⟩ ∧ wr.cell? ⟨g, j, none⟩ = some (mV (mkT m j)) := by
  obtain ⟨⟨T, h1, h2, h3, h4, h5, h6, h7⟩, -⟩ := h
  have hk := h6 m hp
  unfold lT at hk
  rw [if_pos hm] at hk
  obtain ⟨g, c, he, hc, -⟩ := own_at (h1.isM hk).1 j (by rw [mks_len]; exact hj)
  refine ⟨g, c, by rw [he, mks_len], ?_⟩
  rw [hc]
  have h9 := mks_at mV m (C.nL m + 1) j hj
  rw [List.getElem?_eq_getElem (by rw [mks_len]; exact hj)] at h9
  exact h9
theorem I34.atN {C : Cat} {M N : Nat → Sl} {mo lo : Sl} {i i2 : Nat} {w wr : World} (h : I34 C M N mo lo i i2 w wr) (m : Nat) (hm : m < i2) (hp : m < C.q) (j : Nat) (hj : j < C.nK m + 1) : ∃ g c, N m = ⟨some ⟨g, 0, none⟩, C.nK m + 1, c⟩ ∧ wr.cell? ⟨g, j, none⟩ = some (mK (mkT m j)) := by
  obtain ⟨⟨T, h1, h2, h3, h4, h5, h6, h7⟩, -⟩ := h
  have hk := h7 m hp
  unfold kT at hk
  rw [if_pos hm] at hk
  obtain ⟨g, c, he, hc, -⟩ := own_at (h1.isM hk).1 j (by rw [mks_len]; exact hj)
  refine ⟨g, c, by rw [he, mks_len], ?_⟩
  rw [hc]
  have h9 := mks_at mK m (C.nK m + 1) j hj
  rw [List.getElem?_eq_getElem (by rw [mks_len]; exact hj)] at h9
  exact h9
theorem I34.atL {C : Cat} {M N : Nat → Sl} {mo lo : Sl} {i i2 : Nat} {w wr : World} (h : I34 C M N mo lo i i2 w wr) (m : Nat) (hm : m < i) (hp : m < C.p) (j : Nat) (hj : j < C.nL m) : ∃ b o c, C.Ls m = ⟨some ⟨b, o, none⟩, C.nL m, c⟩ ∧ wr.cell? ⟨b, o + j, none⟩ = some (mV (mkT m j)) := by
  obtain ⟨⟨T, h1, h2, h3, h4, h5, h6, h7⟩, -⟩ := h
  have hk := h6 m hp
  unfold lT at hk
  rw [if_pos hm] at hk
  have hG := (h1.isM hk).2
  have hn : (C.Ls m).n = (mks mV m (C.nL m)).length := IsG.num hG
  rw [mks_len] at hn
  generalize C.Ls m = S at hG hn ⊢
  obtain ⟨x, n, c⟩ := S
  obtain ⟨b, o, hx, -, cu⟩ := IsG.spot hG j (by rw [mks_len]; exact hj)
  simp only at hn
  subst hn hx
  exact ⟨b, o, c, rfl, cu j _ (mks_at mV m _ j hj)⟩
theorem I34.atK {C : Cat} {M N : Nat → Sl} {mo lo : Sl} {i i2 : Nat} {w wr : World} (h : I34 C M N mo lo i i2 w wr) (m : Nat) (hm : m < i2) (hp : m < C.q) (j : Nat) (hj : j < C.nK m) : ∃ b o c, C.Ks m = ⟨some ⟨b, o, none⟩, C.nK m, c⟩ ∧ wr.cell? ⟨b, o + j, none⟩ = some (mK (mkT m j)) := by
  obtain ⟨⟨T, h1, h2, h3, h4, h5, h6, h7⟩, -⟩ := h
  have hk := h7 m hp
  unfold kT at hk
  rw [if_pos hm] at hk
  have hG := (h1.isM hk).2
  have hn : (C.Ks m).n = (mks mK m (C.nK m)).length := IsG.num hG
  rw [mks_len] at hn
  generalize C.Ks m = S at hG hn ⊢
  obtain ⟨x, n, c⟩ := S
  obtain ⟨b, o, hx, -, cu⟩ := IsG.spot hG j (by rw [mks_len]; exact hj)
  simp only at hn
  subst hn hx
  exact ⟨b, o, c, rfl, cu j _ (mks_at mK m _ j hj)⟩
/-- How long list m is. -/
theorem I34.lenL {C : Cat} {M N : Nat → Sl} {mo lo : Sl} {i i2 : Nat} {w wr : World} (h : I34 C M N mo lo i i2 w wr) (m : Nat) (hp : m < C.p) : (C.Ls m).n = C.nL m := by
  obtain ⟨⟨T, h1, h2, h3, h4, h5, h6, h7⟩, -⟩ := h
  have hk := h6 m hp
  unfold lT at hk
  by_cases hm : m < i
  · rw [if_pos hm] at hk
    have hn : (C.Ls m).n = (mks mV m (C.nL m)).length := IsG.num (h1.isM hk).2
    rw [hn, mks_len]
  · rw [if_neg hm] at hk
    have hn : (C.Ls m).n = (mks mV m (C.nL m)).length := IsG.num (h1.isG hk).isG
    rw [hn, mks_len]
theorem I34.lenK {C : Cat} {M N : Nat → Sl} {mo lo : Sl} {i i2 : Nat} {w wr : World} (h : I34 C M N mo lo i i2 w wr) (m : Nat) (hp : m < C.q) : (C.Ks m).n = C.nK m := by
  obtain ⟨⟨T, h1, h2, h3, h4, h5, h6, h7⟩, -⟩ := h
  have hk := h7 m hp
  unfold kT at hk
  by_cases hm : m < i2
  · rw [if_pos hm] at hk
    have hn : (C.Ks m).n = (mks mK m (C.nK m)).length := IsG.num (h1.isM hk).2
    rw [hn, mks_len]
  · rw [if_neg hm] at hk
    have hn : (C.Ks m).n = (mks mK m (C.nK m)).length := IsG.num (h1.isG hk).isG
    rw [hn, mks_len]
end Go.Proofs.YtddmmmfpdmejbaaGreatDoor
namespace Go.Proofs.YtddmmmfpdmejbaaGreatDoor
open Go.RowKit

/-! JsonOwn's game: how it begins -/
/-- append(v, x...): whatever x is, and where the answer lies. -/
theorem appAnyL {t e : TypeId} {bytes : Nat} (E : Elt t e bytes) (w : World) (B : Nat) (v : Sl) (x : Sl) (xs ys : List Value) (ty : TypeId) (h : OwnG e w B v.v xs) (hx : IsG w x.v ys) (h1 : ∀ u ∈ ys, u.oneCell' = true) (hl : (xs.length + ys.length) * bytes ≤ 140737488355328) (h63 : xs.length + ys.length ≤ maxLen) (hb : B ≤ w.heap.size) :
    ∃ (a : Sl) (w' : World), (Builtin.append_ #[t, t] ty #[v.v, x.v]).run Tryz.prog w = .ok a.v w' ∧ OwnG e w' B a.v (xs ++ ys) ∧ w.grownBy w' v.v.ownBlock ∧ ∀ q, a.v.ownBlock = some q → v.v.ownBlock = some q ∨ w.heap.size ≤ q := by
  obtain ⟨vx, vn, vc⟩ := v
  obtain ⟨xx, xn, xc⟩ := x
  have hxn : xn = ys.length := IsG.num (a := ⟨xx, xn, xc⟩) hx
  subst hxn
  by_cases h0 : ys = []
  · subst h0
    have hvn : vn = xs.length := IsG.num (a := ⟨vx, vn, vc⟩) h.isG
    refine ⟨⟨vx, vn, vc⟩, w, run_app0G E w vx vn vc ?_ xx xc ty ?_, by rw [List.append_nil]; exact h, ⟨rfl, rfl, rfl, Nat.le_refl _, fun _ _ _ => rfl⟩, fun q hq => .inl hq⟩
    · by_cases hx0 : xs = []
      · rw [hvn, hx0]; exact Nat.zero_le _
      · obtain ⟨g, c, he, -, -, hc, -⟩ := h.form hx0
        simp only [Sl.v, Value.slice.injEq] at he
        omega
    · intro hn
      by_cases hx0 : xs = []
      · rw [hvn, hx0]; rfl
      · obtain ⟨g, c, he, -, -, hc, -⟩ := h.form hx0
        simp only [Sl.v, Value.slice.injEq] at he
        rw [hn] at he
        cases he.1
  · rcases hx with ⟨h9, h2⟩ | ⟨a, d, he, hc⟩
    · exact absurd h2 h0
    · simp only [Sl.v, Value.slice.injEq] at he
      obtain ⟨rfl, -, rfl⟩ := he
      obtain ⟨i, z, hi, hz, hsz, hby, hzs⟩ := E.info
      obtain ⟨g, cap, w', hr, h2, h3, h4, h5⟩ := run_append_lies (P := Tryz.prog) w t ty B e i z 1 bytes E.ht hi hz hsz hby hzs (by omega) (.slice vx vn vc) xs.length xs h a ys.length xc ys (by simp) (fun j u hu => by
        obtain ⟨hj, rfl⟩ := List.getElem?_eq_some_iff.1 hu
        exact hc j hj) h1 (List.length_pos_iff.2 h0) h63 hl hb _ rfl
      refine ⟨⟨some ⟨g, 0, none⟩, xs.length + ys.length, cap⟩, w', hr, by unfold OwnG; rw [List.length_append]; exact h2, h3, fun q hq => ?_⟩
      have hq' : q = g := by have h9 : some g = some q := hq; exact (Option.some.inj h9).symm
      subst hq'
      rcases h4 with h9 | h9
      · exact .inl h9
      · exact .inr (by omega)
theorem szK_cnt : ∀ (kb : List ByteArray), 16 * kb.length ≤ ((kb.map lS).map (fun t => t.length + 16)).sum
  | [] => by simp
  | a :: r => by
    have := szK_cnt r
    simp only [List.map_cons, List.sum_cons, List.length_cons]
    omega
theorem szL_memo : ∀ (vs : List Nd) (d : Nd), d ∈ vs → szN d ≤ szL vs
  | a :: r, d, h => by
    rw [szL]
    rcases List.mem_cons.1 h with rfl | h
    · omega
    · have := szL_memo r d h; omega
/-- How many keys a list has at most. -/
theorem VlO.kn {w : World} {B : Nat} {v : Value} {d : Nd} {L : Lb} {K : Kb} (h : VlO w B v d L K) : ∀ x ∈ K, 16 * x.2.length ≤ szN d := by
  induction h using VlO.rc with
  | null => exact fun x h => (by cases h)
  | bool b => exact fun x h => (by cases h)
  | num n hn => exact fun x h => (by cases h)
  | str s => exact fun x h => (by cases h)
  | list a us ds L K hv hl hz hL hK he ih =>
    intro x hx
    obtain ⟨k, hk9, hx⟩ := List.mem_flatten.1 hx
    obtain ⟨i, hi⟩ := List.getElem?_of_mem hk9
    obtain ⟨i1, -⟩ := List.getElem?_eq_some_iff.1 hi
    have hd : ds[i]? = some ds[i] := List.getElem?_eq_getElem (by omega)
    have h1 := ih i _ _ _ k (List.getElem?_eq_getElem (by omega)) hd (List.getElem?_eq_getElem (by omega)) hi x hx
    have h2 := szL_memo ds _ (List.mem_of_getElem? hd)
    rw [szN_mk]
    omega
  | obj ks a kb us ds L K hk hv hl hz hL hK he ih =>
    intro x hx
    rcases List.mem_cons.1 hx with rfl | hx
    · have := szK_cnt kb
      rw [szN_mk]
      simp only
      omega
    · obtain ⟨k, hk9, hx⟩ := List.mem_flatten.1 hx
      obtain ⟨i, hi⟩ := List.getElem?_of_mem hk9
      obtain ⟨i1, -⟩ := List.getElem?_eq_some_iff.1 hi
      have hd : ds[i]? = some ds[i] := List.getElem?_eq_getElem (by omega)
      have h1 := ih i _ _ _ k (List.getElem?_eq_getElem (by omega)) hd (List.getElem?_eq_getElem (by omega)) hi x hx
      have h2 := szL_memo ds _ (List.mem_of_getElem? hd)
      rw [szN_mk]
      omega
def catO (B : Nat) (LB : Lb) (KB : Kb) (ls ks : Sl) : Cat :=
  { B := B, p := LB.length, q := KB.length, Ls := fun m => ((LB[m]?).map (·.1)).getD slZ, Ks := fun m => ((KB[m]?).map (·.1)).getD slZ, oL := fun m => ((LB[m]?).map (·.2)).getD [], oK := fun m => ((KB[m]?).map (fun x => strs x.2)).getD [], ls := ls, ks := ks }
theorem catO_cl (B : Nat) (LB : Lb) (KB : Kb) (ls ks : Sl) : (catO B LB KB ls ks).cl = LB.map (fun q => q.1.v) := by
  apply List.ext_getElem?
  intro i
  unfold Cat.cl catO
  by_cases h : i < LB.length
  · simp [h]
  · simp [h]
theorem catO_ck (B : Nat) (LB : Lb) (KB : Kb) (ls ks : Sl) : (catO B LB KB ls ks).ck = KB.map (fun q => q.1.v) := by
  apply List.ext_getElem?
  intro i
  unfold Cat.ck catO
  by_cases h : i < KB.length
  · simp [h]
  · simp [h]
theorem I12.begin {B : Nat} {LB : Lb} {KB : Kb} {ls ks : Sl} {w W : World} {T : Nat → Option Th} (h : Ga W B T) (h0 : T 0 = some (thG 53 B ls.v (LB.map (fun q => q.1.v)))) (h1 : T 1 = some (thG 22 B ks.v (KB.map (fun q => q.1.v)))) (h2 : ∀ k, 4 ≤ k → T k = ttO B LB KB k) (hb : Below B w W) : I12 (catO B LB KB ls ks) 0 0 0 0 w W := by
  refine ⟨T, h, by rw [catO_cl]; exact h0, by rw [catO_ck]; exact h1, fun m hm => ?_, fun m hm => ?_, hb⟩
  · have hm' : m < LB.length := hm
    rw [h2 _ (kL_ge m), ttO_L, cc_start, List.getElem?_eq_getElem hm']
    simp [catO, hm']
  · have hm' : m < KB.length := hm
    rw [h2 _ (by have := kK_ge m; omega), ttO_K, cc_start, List.getElem?_eq_getElem hm']
    simp [catO, hm']
theorem catO_ok {B : Nat} {LB : Lb} {KB : Kb} {ls ks : Sl} (hp : LB.length ≤ 100000000000) (hq : KB.length ≤ 100000000000) (hL : ∀ x ∈ LB, x.2.length ≤ 1759218604441) (hK : ∀ x ∈ KB, x.2.length ≤ 100000000000) : (catO B LB KB ls ks).Ok := by
  refine ⟨hp, hq, fun m => ?_, fun m => ?_⟩
  · show (((LB[m]?).map (·.2)).getD []).length ≤ _
    cases h : LB[m]? with
    | none => simp
    | some x => exact hL x (List.mem_of_getElem? h)
  · show (((KB[m]?).map (fun x => strs x.2)).getD []).length ≤ _
    cases h : KB[m]? with
    | none => simp
    | some x => have := hK x (List.mem_of_getElem? h); simp [strs]; omega
end Go.Proofs.YtddmmmfpdmejbaaGreatDoor
