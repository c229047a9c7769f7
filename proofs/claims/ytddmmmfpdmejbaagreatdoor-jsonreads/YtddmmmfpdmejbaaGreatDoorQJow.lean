import Derived.Test.YtddmmmfpdmejbaaGreatDoorQJpl
import Derived.Test.YtddmmmfpdmejbaaGreatDoorQNum
namespace Go.Proofs.YtddmmmfpdmejbaaGreatDoor
open Go.RowKit

/-! A value whose lists are its own; all its lists, in book's and keys' order; their blocks -/
abbrev Lb := List (Sl × List Value)
abbrev Kb := List (Sl × List ByteArray)
set_option linter.unusedVariables false
def VlO (w : World) (B : Nat) (i1 : Value) (i2 : Nd) (i3 : Lb) (i4 : Kb) : Prop := ∀ Q : Value → Nd → Lb → Kb → Prop, (Q (.iface 65 (.agg #[])) (.mk 1 0 [] [] []) [] []) → (∀ (b : Bool), Q (.iface 66 (.bool b)) (.mk 2 (bif b then 1 else 0) [] [] []) [] []) → (∀ (n : Int) (hn : -9223372036854775808 ≤ n ∧ n ≤ 9223372036854775807), Q (.iface 67 (.int .i64 n)) (.mk 3 n [] [] []) [] []) → (∀ (s : ByteArray), Q (.iface 54 (.string s)) (.mk 4 0 (lS s) [] []) [] []) → (∀ (a : Sl) (us : List Value) (ds : List Nd) (L : List Lb) (K : List Kb) (hv : OwnG 27 w B a.v us) (hl : us.length = ds.length) (hz : a.n ≤ 1759218604441) (hL : L.length = us.length) (hK : K.length = us.length) (he : ∀ (i : Nat) u d l k, us[i]? = some u → ds[i]? = some d → L[i]? = some l → K[i]? = some k → Q u d l k), Q (.iface 68 a.v) (.mk 5 0 [] [] ds) ((a, us) :: L.flatten) K.flatten) → (∀ (ks a : Sl) (kb : List ByteArray) (us : List Value) (ds : List Nd) (L : List Lb) (K : List Kb) (hk : OwnG 9 w B ks.v (strs kb)) (hv : OwnG 27 w B a.v us) (hl : us.length = ds.length) (hz : ks.n ≤ 8796093022208 ∧ a.n ≤ 1759218604441) (hL : L.length = us.length) (hK : K.length = us.length) (he : ∀ (i : Nat) u d l k, us[i]? = some u → ds[i]? = some d → L[i]? = some l → K[i]? = some k → Q u d l k), Q (.iface 70 (.agg #[ks.v, a.v])) (.mk 6 0 [] (kb.map lS) ds) ((a, us) :: L.flatten) ((ks, kb) :: K.flatten)) → Q i1 i2 i3 i4
theorem VlO.null {w : World} {B : Nat}  : VlO w B (.iface 65 (.agg #[])) (.mk 1 0 [] [] []) [] [] := fun Q q0 q1 q2 q3 q4 q5 => q0
theorem VlO.bool {w : World} {B : Nat} (b : Bool) : VlO w B (.iface 66 (.bool b)) (.mk 2 (bif b then 1 else 0) [] [] []) [] [] := fun Q q0 q1 q2 q3 q4 q5 => q1 b
theorem VlO.num {w : World} {B : Nat} (n : Int) (hn : -9223372036854775808 ≤ n ∧ n ≤ 9223372036854775807) : VlO w B (.iface 67 (.int .i64 n)) (.mk 3 n [] [] []) [] [] := fun Q q0 q1 q2 q3 q4 q5 => q2 n hn
theorem VlO.str {w : World} {B : Nat} (s : ByteArray) : VlO w B (.iface 54 (.string s)) (.mk 4 0 (lS s) [] []) [] [] := fun Q q0 q1 q2 q3 q4 q5 => q3 s
theorem VlO.list {w : World} {B : Nat} (a : Sl) (us : List Value) (ds : List Nd) (L : List Lb) (K : List Kb) (hv : OwnG 27 w B a.v us) (hl : us.length = ds.length) (hz : a.n ≤ 1759218604441) (hL : L.length = us.length) (hK : K.length = us.length) (he : ∀ (i : Nat) u d l k, us[i]? = some u → ds[i]? = some d → L[i]? = some l → K[i]? = some k → VlO w B u d l k) : VlO w B (.iface 68 a.v) (.mk 5 0 [] [] ds) ((a, us) :: L.flatten) K.flatten := fun Q q0 q1 q2 q3 q4 q5 => q4 a us ds L K hv hl hz hL hK (fun i u d l k hz0 hz1 hz2 hz3 => he i u d l k hz0 hz1 hz2 hz3 Q q0 q1 q2 q3 q4 q5)
theorem VlO.obj {w : World} {B : Nat} (ks a : Sl) (kb : List ByteArray) (us : List Value) (ds : List Nd) (L : List Lb) (K : List Kb) (hk : OwnG 9 w B ks.v (strs kb)) (hv : OwnG 27 w B a.v us) (hl : us.length = ds.length) (hz : ks.n ≤ 8796093022208 ∧ a.n ≤ 1759218604441) (hL : L.length = us.length) (hK : K.length = us.length) (he : ∀ (i : Nat) u d l k, us[i]? = some u → ds[i]? = some d → L[i]? = some l → K[i]? = some k → VlO w B u d l k) : VlO w B (.iface 70 (.agg #[ks.v, a.v])) (.mk 6 0 [] (kb.map lS) ds) ((a, us) :: L.flatten) ((ks, kb) :: K.flatten) := fun Q q0 q1 q2 q3 q4 q5 => q5 ks a kb us ds L K hk hv hl hz hL hK (fun i u d l k hz0 hz1 hz2 hz3 => he i u d l k hz0 hz1 hz2 hz3 Q q0 q1 q2 q3 q4 q5)
theorem VlO.rc {w : World} {B : Nat} {M : ∀ (i1 : Value) (i2 : Nd) (i3 : Lb) (i4 : Kb), VlO w B i1 i2 i3 i4 → Prop} (null : M (.iface 65 (.agg #[])) (.mk 1 0 [] [] []) [] [] (VlO.null)) (bool : ∀ (b : Bool), M (.iface 66 (.bool b)) (.mk 2 (bif b then 1 else 0) [] [] []) [] [] (VlO.bool b)) (num : ∀ (n : Int) (hn : -9223372036854775808 ≤ n ∧ n ≤ 9223372036854775807), M (.iface 67 (.int .i64 n)) (.mk 3 n [] [] []) [] [] (VlO.num n hn)) (str : ∀ (s : ByteArray), M (.iface 54 (.string s)) (.mk 4 0 (lS s) [] []) [] [] (VlO.str s)) (list : ∀ (a : Sl) (us : List Value) (ds : List Nd) (L : List Lb) (K : List Kb) (hv : OwnG 27 w B a.v us) (hl : us.length = ds.length) (hz : a.n ≤ 1759218604441) (hL : L.length = us.length) (hK : K.length = us.length) (he : ∀ (i : Nat) u d l k, us[i]? = some u → ds[i]? = some d → L[i]? = some l → K[i]? = some k → VlO w B u d l k), (∀ (i : Nat) u d l k (hz0 : us[i]? = some u) (hz1 : ds[i]? = some d) (hz2 : L[i]? = some l) (hz3 : K[i]? = some k), M u d l k (he i u d l k hz0 hz1 hz2 hz3)) → M (.iface 68 a.v) (.mk 5 0 [] [] ds) ((a, us) :: L.flatten) K.flatten (VlO.list a us ds L K hv hl hz hL hK he)) (obj : ∀ (ks a : Sl) (kb : List ByteArray) (us : List Value) (ds : List Nd) (L : List Lb) (K : List Kb) (hk : OwnG 9 w B ks.v (strs kb)) (hv : OwnG 27 w B a.v us) (hl : us.length = ds.length) (hz : ks.n ≤ 8796093022208 ∧ a.n ≤ 1759218604441) (hL : L.length = us.length) (hK : K.length = us.length) (he : ∀ (i : Nat) u d l k, us[i]? = some u → ds[i]? = some d → L[i]? = some l → K[i]? = some k → VlO w B u d l k), (∀ (i : Nat) u d l k (hz0 : us[i]? = some u) (hz1 : ds[i]? = some d) (hz2 : L[i]? = some l) (hz3 : K[i]? = some k), M u d l k (he i u d l k hz0 hz1 hz2 hz3)) → M (.iface 70 (.agg #[ks.v, a.v])) (.mk 6 0 [] (kb.map lS) ds) ((a, us) :: L.flatten) ((ks, kb) :: K.flatten) (VlO.obj ks a kb us ds L K hk hv hl hz hL hK he)) {i1 : Value} {i2 : Nd} {i3 : Lb} {i4 : Kb} (h : VlO w B i1 i2 i3 i4) : M i1 i2 i3 i4 h :=
  (h (fun i1 i2 i3 i4 => ∃ h9 : VlO w B i1 i2 i3 i4, M i1 i2 i3 i4 h9) (⟨VlO.null, null⟩) (fun b => ⟨VlO.bool b, bool b⟩) (fun n hn => ⟨VlO.num n hn, num n hn⟩) (fun s => ⟨VlO.str s, str s⟩) (fun a us ds L K hv hl hz hL hK he => ⟨VlO.list a us ds L K hv hl hz hL hK (fun i u d l k hz0 hz1 hz2 hz3 => (he i u d l k hz0 hz1 hz2 hz3).1), list a us ds L K hv hl hz hL hK (fun i u d l k hz0 hz1 hz2 hz3 => (he i u d l k hz0 hz1 hz2 hz3).1) (fun i u d l k hz0 hz1 hz2 hz3 => (he i u d l k hz0 hz1 hz2 hz3).2)⟩) (fun ks a kb us ds L K hk hv hl hz hL hK he => ⟨VlO.obj ks a kb us ds L K hk hv hl hz hL hK (fun i u d l k hz0 hz1 hz2 hz3 => (he i u d l k hz0 hz1 hz2 hz3).1), obj ks a kb us ds L K hk hv hl hz hL hK (fun i u d l k hz0 hz1 hz2 hz3 => (he i u d l k hz0 hz1 hz2 hz3).1) (fun i u d l k hz0 hz1 hz2 hz3 => (he i u d l k hz0 hz1 hz2 hz3).2)⟩)).2
theorem VlO.keep {w w1 : World} {B : Nat} {v : Value} {d : Nd} {L : Lb} {K : Kb} (h : VlO w B v d L K) (hb : Below w.heap.size w w1) : VlO w1 B v d L K := by
  induction h using VlO.rc with
  | null => exact .null
  | bool b => exact .bool b
  | num n hn => exact .num n hn
  | str s => exact .str s
  | list a us ds L K hv hl hz hL hK he ih => exact .list a us ds L K (hv.keep hb) hl hz hL hK ih
  | obj ks a kb us ds L K hk hv hl hz hL hK he ih => exact .obj ks a kb us ds L K (hk.keep hb) (hv.keep hb) hl hz hL hK ih
theorem VlO.f {w : World} {B : Nat} {v : Value} {d : Nd} {L : Lb} {K : Kb} (h : VlO w B v d L K) : VlF w (B ≤ ·) v d := by
  induction h using VlO.rc with
  | null => exact .null
  | bool b => exact .bool b
  | num n hn => exact .num n hn
  | str s => exact .str s
  | list a us ds L K hv hl hz hL hK he ih =>
    exact .list a us ds hv.isG (Sl.own_inG15 hv) hl hz fun i u d h1 h2 => by
      obtain ⟨l, hl9⟩ : ∃ q, L[i]? = some q := ⟨_, List.getElem?_eq_getElem (by obtain ⟨h9, -⟩ := List.getElem?_eq_some_iff.1 h1; omega)⟩
      obtain ⟨k, hk9⟩ : ∃ q, K[i]? = some q := ⟨_, List.getElem?_eq_getElem (by obtain ⟨h9, -⟩ := List.getElem?_eq_some_iff.1 h1; omega)⟩
      exact ih i u d l k h1 h2 hl9 hk9
  | obj ks a kb us ds L K hk hv hl hz hL hK he ih =>
    exact .obj ks a kb us ds hk.isG (Sl.own_inG15 hk) hv.isG (Sl.own_inG15 hv) hl hz fun i u d h1 h2 => by
      obtain ⟨l, hl9⟩ : ∃ q, L[i]? = some q := ⟨_, List.getElem?_eq_getElem (by obtain ⟨h9, -⟩ := List.getElem?_eq_some_iff.1 h1; omega)⟩
      obtain ⟨k, hk9⟩ : ∃ q, K[i]? = some q := ⟨_, List.getElem?_eq_getElem (by obtain ⟨h9, -⟩ := List.getElem?_eq_some_iff.1 h1; omega)⟩
      exact ih i u d l k h1 h2 hl9 hk9
theorem cnt_flat {α : Type} : ∀ (L : List (List α)) (ds : List Nd), L.length = ds.length → (∀ (i : Nat) l d, L[i]? = some l → ds[i]? = some d → 80 * l.length ≤ szN d) → 80 * L.flatten.length ≤ szL ds
  | [], [], _, _ => by simp [szL]
  | l :: L, d :: ds, hl, h => by
    have h1 := cnt_flat L ds (by simpa using hl) (fun i a b ha hb => h (i + 1) a b (by simpa using ha) (by simpa using hb))
    have h2 := h 0 l d rfl rfl
    rw [List.flatten_cons, List.length_append, szL]
    omega
  | [], _ :: _, hl, _ => by simp at hl
  | _ :: _, [], hl, _ => by simp at hl
/-- There are no more lists than the value's size tells. -/
theorem VlO.cnt {w : World} {B : Nat} {v : Value} {d : Nd} {L : Lb} {K : Kb} (h : VlO w B v d L K) : 80 * L.length ≤ szN d ∧ 80 * K.length ≤ szN d := by
  induction h using VlO.rc with
  | null => rw [szN_mk]; simp
  | bool b => rw [szN_mk]; simp
  | num n hn => rw [szN_mk]; simp
  | str s => rw [szN_mk]; simp
  | list a us ds L K hv hl hz hL hK he ih =>
    have h1 := cnt_flat L ds (by omega) (fun i l d h1 h2 => by
      obtain ⟨i1, -⟩ := List.getElem?_eq_some_iff.1 h1
      exact (ih i _ d l _ (List.getElem?_eq_getElem (by omega)) h2 h1 (List.getElem?_eq_getElem (by omega))).1)
    have h2 := cnt_flat K ds (by omega) (fun i l d h1 h2 => by
      obtain ⟨i1, -⟩ := List.getElem?_eq_some_iff.1 h1
      exact (ih i _ d _ l (List.getElem?_eq_getElem (by omega)) h2 (List.getElem?_eq_getElem (by omega)) h1).2)
    rw [szN_mk, List.length_cons]
    omega
  | obj ks a kb us ds L K hk hv hl hz hL hK he ih =>
    have h1 := cnt_flat L ds (by omega) (fun i l d h1 h2 => by
      obtain ⟨i1, -⟩ := List.getElem?_eq_some_iff.1 h1
      exact (ih i _ d l _ (List.getElem?_eq_getElem (by omega)) h2 h1 (List.getElem?_eq_getElem (by omega))).1)
    have h2 := cnt_flat K ds (by omega) (fun i l d h1 h2 => by
      obtain ⟨i1, -⟩ := List.getElem?_eq_some_iff.1 h1
      exact (ih i _ d _ l (List.getElem?_eq_getElem (by omega)) h2 (List.getElem?_eq_getElem (by omega)) h1).2)
    rw [szN_mk, List.length_cons, List.length_cons]
    omega
/-! The blocks of the lists -/
def Sl.ob (a : Sl) : List Nat := a.v.ownBlock.toList
def blL (L : Lb) : List Nat := L.flatMap (fun q => q.1.ob)
def blK (K : Kb) : List Nat := K.flatMap (fun q => q.1.ob)
def blks (L : Lb) (K : Kb) : List Nat := blL L ++ blK K
theorem OwnG.oth {e : TypeId} {w w' : World} {B : Nat} {v : Value} {xs : List Value} (h : OwnG e w B v xs) (hl : ∀ g, v.ownBlock = some g → w'.heap[g]? = w.heap[g]?) : OwnG e w' B v xs := by
  obtain ⟨h1, h2⟩ := h
  refine ⟨h1, ?_⟩
  rcases h2 with hn | ⟨g, cap, cur, hv, hb, hg, r⟩
  · exact .inl hn
  · refine .inr ⟨g, cap, cur, hv, hb, ?_, r⟩
    rw [hl g (by rw [hv]; rfl)]; exact hg
theorem mem_ob {a : Sl} {g : Nat} : g ∈ a.ob ↔ a.v.ownBlock = some g := by
  unfold Sl.ob
  rw [Option.mem_toList]
theorem blL_mem {L : Lb} {q : Sl × List Value} {g : Nat} (h : q ∈ L) (hg : q.1.v.ownBlock = some g) : g ∈ blL L := List.mem_flatMap.2 ⟨q, h, mem_ob.2 hg⟩
theorem blK_mem {K : Kb} {q : Sl × List ByteArray} {g : Nat} (h : q ∈ K) (hg : q.1.v.ownBlock = some g) : g ∈ blK K := List.mem_flatMap.2 ⟨q, h, mem_ob.2 hg⟩
theorem flat_sub {α : Type} {L : List (List α)} {i : Nat} {l : List α} (h : L[i]? = some l) : ∀ x ∈ l, x ∈ L.flatten := fun _ hx => List.mem_flatten.2 ⟨l, List.mem_of_getElem? h, hx⟩
theorem blL_sub {L M : Lb} (h : ∀ x ∈ L, x ∈ M) : ∀ g ∈ blL L, g ∈ blL M := fun g hg => by
  obtain ⟨q, hq, hg⟩ := List.mem_flatMap.1 hg
  exact List.mem_flatMap.2 ⟨q, h q hq, hg⟩
theorem blK_sub {L M : Kb} (h : ∀ x ∈ L, x ∈ M) : ∀ g ∈ blK L, g ∈ blK M := fun g hg => by
  obtain ⟨q, hq, hg⟩ := List.mem_flatMap.1 hg
  exact List.mem_flatMap.2 ⟨q, h q hq, hg⟩
theorem blks_sub {L M : Lb} {K J : Kb} (h : ∀ x ∈ L, x ∈ M) (k : ∀ x ∈ K, x ∈ J) : ∀ g ∈ blks L K, g ∈ blks M J := fun g hg => by
  rcases List.mem_append.1 hg with hg | hg
  · exact List.mem_append_left _ (blL_sub h g hg)
  · exact List.mem_append_right _ (blK_sub k g hg)
/-- The blocks lie from B on. -/
theorem VlO.bl {w : World} {B : Nat} {v : Value} {d : Nd} {L : Lb} {K : Kb} (h : VlO w B v d L K) : ∀ g ∈ blks L K, B ≤ g ∧ g < w.heap.size := by
  induction h using VlO.rc with
  | null => intro g hg; cases hg
  | bool b => intro g hg; cases hg
  | num n hn => intro g hg; cases hg
  | str s => intro g hg; cases hg
  | list a us ds L K hv hl hz hL hK he ih =>
    intro g hg
    have hin : ∀ (i : Nat) l k, L[i]? = some l → K[i]? = some k → ∀ g ∈ blks l k, B ≤ g ∧ g < w.heap.size := fun i l k h1 h2 => by
      obtain ⟨i1, -⟩ := List.getElem?_eq_some_iff.1 h1
      exact ih i _ _ l k (List.getElem?_eq_getElem (by omega)) (List.getElem?_eq_getElem (by omega)) h1 h2
    rcases List.mem_append.1 hg with hg | hg
    · obtain ⟨q, hq, hg⟩ := List.mem_flatMap.1 hg
      rcases List.mem_cons.1 hq with rfl | hq
      · exact hv.lt g (mem_ob.1 hg)
      · obtain ⟨l, hl9, hq⟩ := List.mem_flatten.1 hq
        obtain ⟨i, hi⟩ := List.getElem?_of_mem hl9
        obtain ⟨i1, -⟩ := List.getElem?_eq_some_iff.1 hi
        exact hin i l _ hi (List.getElem?_eq_getElem (by omega)) g (List.mem_append_left _ (List.mem_flatMap.2 ⟨q, hq, hg⟩))
    · obtain ⟨q, hq, hg⟩ := List.mem_flatMap.1 hg
      obtain ⟨k, hk9, hq⟩ := List.mem_flatten.1 hq
      obtain ⟨i, hi⟩ := List.getElem?_of_mem hk9
      obtain ⟨i1, -⟩ := List.getElem?_eq_some_iff.1 hi
      exact hin i _ k (List.getElem?_eq_getElem (by omega)) hi g (List.mem_append_right _ (List.mem_flatMap.2 ⟨q, hq, hg⟩))
  | obj ks a kb us ds L K hk hv hl hz hL hK he ih =>
    intro g hg
    have hin : ∀ (i : Nat) l k, L[i]? = some l → K[i]? = some k → ∀ g ∈ blks l k, B ≤ g ∧ g < w.heap.size := fun i l k h1 h2 => by
      obtain ⟨i1, -⟩ := List.getElem?_eq_some_iff.1 h1
      exact ih i _ _ l k (List.getElem?_eq_getElem (by omega)) (List.getElem?_eq_getElem (by omega)) h1 h2
    rcases List.mem_append.1 hg with hg | hg
    · obtain ⟨q, hq, hg⟩ := List.mem_flatMap.1 hg
      rcases List.mem_cons.1 hq with rfl | hq
      · exact hv.lt g (mem_ob.1 hg)
      · obtain ⟨l, hl9, hq⟩ := List.mem_flatten.1 hq
        obtain ⟨i, hi⟩ := List.getElem?_of_mem hl9
        obtain ⟨i1, -⟩ := List.getElem?_eq_some_iff.1 hi
        exact hin i l _ hi (List.getElem?_eq_getElem (by omega)) g (List.mem_append_left _ (List.mem_flatMap.2 ⟨q, hq, hg⟩))
    · obtain ⟨q, hq, hg⟩ := List.mem_flatMap.1 hg
      rcases List.mem_cons.1 hq with rfl | hq
      · exact hk.lt g (mem_ob.1 hg)
      · obtain ⟨k, hk9, hq⟩ := List.mem_flatten.1 hq
        obtain ⟨i, hi⟩ := List.getElem?_of_mem hk9
        obtain ⟨i1, -⟩ := List.getElem?_eq_some_iff.1 hi
        exact hin i _ k (List.getElem?_eq_getElem (by omega)) hi g (List.mem_append_right _ (List.mem_flatMap.2 ⟨q, hq, hg⟩))
/-- Nothing but the blocks of its lists matters. -/
theorem VlO.ag {w w1 : World} {B : Nat} {v : Value} {d : Nd} {L : Lb} {K : Kb} (h : VlO w B v d L K) : (∀ g ∈ blks L K, w1.heap[g]? = w.heap[g]?) → VlO w1 B v d L K := by
  induction h using VlO.rc with
  | null => exact fun _ => .null
  | bool b => exact fun _ => .bool b
  | num n hn => exact fun _ => .num n hn
  | str s => exact fun _ => .str s
  | list a us ds L K hv hl hz hL hK he ih =>
    intro hb
    refine .list a us ds L K (hv.oth fun g hg => hb g (List.mem_append_left _ (blL_mem (q := (a, us)) (by simp) hg))) hl hz hL hK fun i u d l k h1 h2 h3 h4 => ih i u d l k h1 h2 h3 h4 fun g hg => hb g ?_
    exact blks_sub (fun x hx => List.mem_cons_of_mem _ (flat_sub h3 x hx)) (flat_sub h4) g hg
  | obj ks a kb us ds L K hk hv hl hz hL hK he ih =>
    intro hb
    refine .obj ks a kb us ds L K (hk.oth fun g hg => hb g (List.mem_append_right _ (blK_mem (q := (ks, kb)) (by simp) hg))) (hv.oth fun g hg => hb g (List.mem_append_left _ (blL_mem (q := (a, us)) (by simp) hg))) hl hz hL hK fun i u d l k h1 h2 h3 h4 => ih i u d l k h1 h2 h3 h4 fun g hg => hb g ?_
    exact blks_sub (fun x hx => List.mem_cons_of_mem _ (flat_sub h3 x hx)) (fun x hx => List.mem_cons_of_mem _ (flat_sub h4 x hx)) g hg
theorem VlO.le {w : World} {B B' : Nat} {v : Value} {d : Nd} {L : Lb} {K : Kb} (h : VlO w B v d L K) (hB : B' ≤ B) : VlO w B' v d L K := by
  induction h using VlO.rc with
  | null => exact .null
  | bool b => exact .bool b
  | num n hn => exact .num n hn
  | str s => exact .str s
  | list a us ds L K hv hl hz hL hK he ih => exact .list a us ds L K (hv.le hB) hl hz hL hK ih
  | obj ks a kb us ds L K hk hv hl hz hL hK he ih => exact .obj ks a kb us ds L K (hk.le hB) (hv.le hB) hl hz hL hK ih
end Go.Proofs.YtddmmmfpdmejbaaGreatDoor
