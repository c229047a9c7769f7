import Derived.Test.YtddmmmfpdmejbaaGreatDoorQJop
import Derived.Test.YtddmmmfpdmejbaaGreatDoorQJza
import Derived.Test.YtddmmmfpdmejbaaGreatDoorQKel
namespace Go.Proofs.YtddmmmfpdmejbaaGreatDoor
open Go.RowKit

/-! A list of values, or an object, while it is read: keys and values in memory of their own, apart from one another and from all that is in them -/
theorem appLie {t e : TypeId} {bytes : Nat} (EL : Elt t e bytes) (W : World) (B : Nat) (v : Sl) (ds : List Value) (u : Value) (y c : Nat) (ty : TypeId) (h : OwnG e W B v.v ds) (hus : W.cell? ⟨y, 0, none⟩ = some u) (h1 : u.oneCell' = true) (hB : B ≤ W.heap.size) (hl : (ds.length + 1) * bytes ≤ 140737488355328) (h63 : ds.length + 1 ≤ maxLen) :
    ∃ (g c' : Nat) (w' : World), (Builtin.append_ #[t, t] ty #[v.v, .slice (some ⟨y, 0, none⟩) 1 c]).run Tryz.prog W = .ok (Sl.v ⟨some ⟨g, 0, none⟩, ds.length + 1, c'⟩) w' ∧ OwnG e w' B (Sl.v ⟨some ⟨g, 0, none⟩, ds.length + 1, c'⟩) (ds ++ [u]) ∧ W.grownBy w' v.v.ownBlock ∧ (v.v.ownBlock = some g ∨ g = W.heap.size) := by
  obtain ⟨i, z, hi, hz, hsz, hby, hzs⟩ := EL.info
  obtain ⟨g, c', w', hr, hO, hg, hway, hlt⟩ := run_append_lies (P := Tryz.prog) W t ty B e i z 1 bytes EL.ht hi hz hsz hby hzs (by omega) v.v ds.length ds h ⟨y, 0, none⟩ 1 c [u] (by simp) (fun j x hx => by
    rcases j with _ | j
    · simp at hx; subst hx; rw [addr_add]; exact hus
    · simp at hx) (by simpa using h1) (by simp) h63 hl hB _ rfl
  exact ⟨g, c', w', hr, by unfold OwnG; rw [List.length_append]; exact hO, hg, hway⟩
theorem VlO.one {w : World} {B : Nat} {v : Value} {d : Nd} {L : Lb} {K : Kb} (h : VlO w B v d L K) : v.oneCell' = true := by cases h using VlO.rc <;> rfl
structure Ac (w : World) (B : Nat) (ks a : Sl) (kb : List ByteArray) (us : List Value) (ds : List Nd) (L : List Lb) (K : List Kb) : Prop where
  hk : OwnG 9 w B ks.v (strs kb)
  hv : OwnG 27 w B a.v us
  hl : us.length = ds.length
  hL : L.length = us.length
  hK : K.length = us.length
  he : ∀ (i : Nat) u d l k, us[i]? = some u → ds[i]? = some d → L[i]? = some l → K[i]? = some k → VlO w B u d l k
  nd : (ks.ob ++ (a.ob ++ blks L.flatten K.flatten)).Nodup
theorem Ac.nil (w : World) (B : Nat) : Ac w B slZ slZ [] [] [] [] [] := ⟨OwnG.nil _ _ _, OwnG.nil _ _ _, rfl, rfl, rfl, fun i u d l k h => by simp at h, by decide⟩
theorem Ac.bl {w : World} {B : Nat} {ks a : Sl} {kb : List ByteArray} {us : List Value} {ds : List Nd} {L : List Lb} {K : List Kb} (h : Ac w B ks a kb us ds L K) : ∀ g ∈ ks.ob ++ (a.ob ++ blks L.flatten K.flatten), B ≤ g ∧ g < w.heap.size := by
  intro g hg
  rcases List.mem_append.1 hg with hg | hg
  · exact h.hk.lt g (mem_ob.1 hg)
  rcases List.mem_append.1 hg with hg | hg
  · exact h.hv.lt g (mem_ob.1 hg)
  have hin : ∀ (i : Nat) l k, L[i]? = some l → K[i]? = some k → ∀ g ∈ blks l k, B ≤ g ∧ g < w.heap.size := fun i l k h1 h2 => by
    obtain ⟨i1, -⟩ := List.getElem?_eq_some_iff.1 h1
    have := h.hL; have := h.hl
    exact (h.he i _ _ l k (List.getElem?_eq_getElem (by omega)) (List.getElem?_eq_getElem (by omega)) h1 h2).bl
  have e1 := h.hL
  have e2 := h.hK
  rcases List.mem_append.1 hg with hg | hg
  · obtain ⟨q, hq, hg⟩ := List.mem_flatMap.1 hg
    obtain ⟨l, hl9, hq⟩ := List.mem_flatten.1 hq
    obtain ⟨i, hi⟩ := List.getElem?_of_mem hl9
    obtain ⟨i1, -⟩ := List.getElem?_eq_some_iff.1 hi
    exact hin i l _ hi (List.getElem?_eq_getElem (by omega)) g (List.mem_append_left _ (List.mem_flatMap.2 ⟨q, hq, hg⟩))
  · obtain ⟨q, hq, hg⟩ := List.mem_flatMap.1 hg
    obtain ⟨k, hk9, hq⟩ := List.mem_flatten.1 hq
    obtain ⟨i, hi⟩ := List.getElem?_of_mem hk9
    obtain ⟨i1, -⟩ := List.getElem?_eq_some_iff.1 hi
    exact hin i _ k (List.getElem?_eq_getElem (by omega)) hi g (List.mem_append_right _ (List.mem_flatMap.2 ⟨q, hq, hg⟩))
theorem Ac.ag {w w1 : World} {B : Nat} {ks a : Sl} {kb : List ByteArray} {us : List Value} {ds : List Nd} {L : List Lb} {K : List Kb} (h : Ac w B ks a kb us ds L K) (hb : ∀ g ∈ ks.ob ++ (a.ob ++ blks L.flatten K.flatten), w1.heap[g]? = w.heap[g]?) : Ac w1 B ks a kb us ds L K :=
  ⟨h.hk.oth fun g hg => hb g (List.mem_append_left _ (mem_ob.2 hg)), h.hv.oth fun g hg => hb g (List.mem_append_right _ (List.mem_append_left _ (mem_ob.2 hg))), h.hl, h.hL, h.hK, fun i u d l k h1 h2 h3 h4 => (h.he i u d l k h1 h2 h3 h4).ag fun g hg => hb g (List.mem_append_right _ (List.mem_append_right _ (blks_sub (flat_sub h3) (flat_sub h4) g hg))), h.nd⟩
theorem Ac.grown {w w1 : World} {B : Nat} {ks a : Sl} {kb : List ByteArray} {us : List Value} {ds : List Nd} {L : List Lb} {K : List Kb} {r : Option Nat} (h : Ac w B ks a kb us ds L K) (hg : w.grownBy w1 r) (hn : ∀ g, r = some g → g ∉ ks.ob ++ (a.ob ++ blks L.flatten K.flatten)) : Ac w1 B ks a kb us ds L K :=
  h.ag fun g hm => hg.block g (h.bl g hm).2 (fun e => hn g e.symm hm)
theorem blL_app (L M : Lb) : blL (L ++ M) = blL L ++ blL M := List.flatMap_append
theorem blK_app (L M : Kb) : blK (L ++ M) = blK L ++ blK M := List.flatMap_append
theorem blks_app (L : List Lb) (K : List Kb) (l : Lb) (k : Kb) : (blks (L ++ [l]).flatten (K ++ [k]).flatten).Perm (blks L.flatten K.flatten ++ blks l k) := by
  unfold blks
  rw [List.flatten_append, List.flatten_append, List.flatten_singleton, List.flatten_singleton, blL_app, blK_app, List.append_assoc, List.append_assoc]
  refine List.Perm.append_left _ ?_
  rw [← List.append_assoc, ← List.append_assoc]
  exact List.Perm.append_right _ List.perm_append_comm
/-- A key more. -/
theorem Ac.appK {t : TypeId} {w : World} {B y c : Nat} {ks a : Sl} {kb : List ByteArray} {us : List Value} {ds : List Nd} {L : List Lb} {K : List Kb} (ty : TypeId) (E : Elt t 9 16) (h : Ac w B ks a kb us ds L K) (s : ByteArray) (hy : w.cell? ⟨y, 0, none⟩ = some (.string s)) (hB : B ≤ w.heap.size) (hn : kb.length + 1 ≤ 8796093022208) :
    ∃ (ks' : Sl) (w' : World), (Builtin.append_ #[t, t] ty #[ks.v, .slice (some ⟨y, 0, none⟩) 1 c]).run Tryz.prog w = .ok ks'.v w' ∧ Ac w' B ks' a (kb ++ [s]) us ds L K ∧ w.grownBy w' ks.v.ownBlock ∧ (∀ b ∈ ks'.ob, b ∈ ks.ob ∨ b = w.heap.size) := by
  have hm : maxLen = 9223372036854775807 := rfl
  have hlen : (strs kb).length = kb.length := by simp [strs]
  obtain ⟨g, c', w', hr, hO, hg, hway⟩ := appLie E w B ks (strs kb) (.string s) y c ty h.hk hy rfl hB (by rw [hlen]; omega) (by rw [hlen]; omega)
  refine ⟨_, w', hr, ?_, hg, ?_⟩
  · have hne : ∀ b, b ∈ a.ob ++ blks L.flatten K.flatten → ks.v.ownBlock ≠ some b := fun b hb e => (List.nodup_append.1 h.nd).2.2 b (mem_ob.2 e) b hb rfl
    have hag : ∀ b, b ∈ a.ob ++ blks L.flatten K.flatten → w'.heap[b]? = w.heap[b]? := fun b hb => hg.block b (h.bl b (List.mem_append_right _ hb)).2 (fun e => hne b hb e.symm)
    refine ⟨by rw [show strs (kb ++ [s]) = strs kb ++ [.string s] by simp [strs]]; exact hO, h.hv.oth fun b hb => hag b (List.mem_append_left _ (mem_ob.2 hb)), h.hl, h.hL, h.hK, fun i u d l k h1 h2 h3 h4 => (h.he i u d l k h1 h2 h3 h4).ag fun b hb => hag b (List.mem_append_right _ (blks_sub (flat_sub h3) (flat_sub h4) b hb)), ?_⟩
    refine List.nodup_append.2 ⟨by show [g].Nodup; simp, (List.nodup_append.1 h.nd).2.1, fun x hx z hz e => ?_⟩
    subst e
    obtain rfl : x = g := List.mem_singleton.1 (show x ∈ [g] from hx)
    rcases hway with h9 | h9
    · exact hne x hz h9
    · have := (h.bl x (List.mem_append_right _ hz)).2; omega
  · intro b hb
    obtain rfl : b = g := List.mem_singleton.1 (show b ∈ [g] from hb)
    rcases hway with h9 | h9
    · exact .inl (mem_ob.2 h9)
    · exact .inr h9
/-- A value more; what is in it lies from H on. -/
theorem Ac.appV {t : TypeId} {w : World} {B H y c : Nat} {ks a : Sl} {kb : List ByteArray} {us : List Value} {ds : List Nd} {L : List Lb} {K : List Kb} (ty : TypeId) (E : Elt t 27 16) (h : Ac w B ks a kb us ds L K) (u : Value) (d : Nd) (l : Lb) (k : Kb) (hu : VlO w H u d l k) (hnd : (blks l k).Nodup) (hBH : B ≤ H) (hdis : ∀ g ∈ ks.ob ++ (a.ob ++ blks L.flatten K.flatten), g ∉ blks l k) (hy : w.cell? ⟨y, 0, none⟩ = some u) (hB : H ≤ w.heap.size) (hn : us.length + 1 ≤ 8796093022208) :
    ∃ (a' : Sl) (w' : World), (Builtin.append_ #[t, t] ty #[a.v, .slice (some ⟨y, 0, none⟩) 1 c]).run Tryz.prog w = .ok a'.v w' ∧ Ac w' B ks a' kb (us ++ [u]) (ds ++ [d]) (L ++ [l]) (K ++ [k]) ∧ w.grownBy w' a.v.ownBlock ∧ a'.n = us.length + 1 := by
  have hm : maxLen = 9223372036854775807 := rfl
  obtain ⟨g, c', w', hr, hO, hg, hway⟩ := appLie E w B a us u y c ty h.hv hy hu.one (by omega) (by omega) (by omega)
  refine ⟨_, w', hr, ?_, hg, rfl⟩
  have hub := hu.bl
  have hne : ∀ b, b ∈ ks.ob ++ blks L.flatten K.flatten → a.v.ownBlock ≠ some b := fun b hb e => by
    have h9 := h.nd
    rcases List.mem_append.1 hb with hb | hb
    · exact (List.nodup_append.1 h9).2.2 b hb b (List.mem_append_left _ (mem_ob.2 e)) rfl
    · exact (List.nodup_append.1 (List.nodup_append.1 h9).2.1).2.2 b (mem_ob.2 e) b hb rfl
  have hin : ∀ b, b ∈ ks.ob ++ blks L.flatten K.flatten → b ∈ ks.ob ++ (a.ob ++ blks L.flatten K.flatten) := fun b hb => by
    rcases List.mem_append.1 hb with hb | hb
    · exact List.mem_append_left _ hb
    · exact List.mem_append_right _ (List.mem_append_right _ hb)
  have hag : ∀ b, b ∈ ks.ob ++ blks L.flatten K.flatten → w'.heap[b]? = w.heap[b]? := fun b hb => hg.block b (h.bl b (hin b hb)).2 (fun e => hne b hb e.symm)
  have hneu : ∀ b ∈ blks l k, a.v.ownBlock ≠ some b := fun b hb e => hdis b (List.mem_append_right _ (List.mem_append_left _ (mem_ob.2 e))) hb
  have hagu : ∀ b ∈ blks l k, w'.heap[b]? = w.heap[b]? := fun b hb => hg.block b (hub b hb).2 (fun e => hneu b hb e.symm)
  have hgn : ∀ b, (b ∈ ks.ob ++ blks L.flatten K.flatten ∨ b ∈ blks l k) → b ≠ g := fun b hb e => by
    subst e
    rcases hb with hb | hb
    · rcases hway with h9 | h9
      · exact hne b hb h9
      · have := (h.bl b (hin b hb)).2; omega
    · rcases hway with h9 | h9
      · exact hneu b hb h9
      · have := (hub b hb).2; omega
  refine ⟨h.hk.oth fun b hb => hag b (List.mem_append_left _ (mem_ob.2 hb)), hO, by simp [h.hl], by simp [h.hL], by simp [h.hK], ?_, ?_⟩
  · intro i x e l1 k1 h1 h2 h3 h4
    by_cases hi : i < us.length
    · rw [List.getElem?_append_left hi] at h1
      rw [List.getElem?_append_left (by rw [← h.hl]; exact hi)] at h2
      rw [List.getElem?_append_left (by rw [h.hL]; exact hi)] at h3
      rw [List.getElem?_append_left (by rw [h.hK]; exact hi)] at h4
      exact (h.he i x e l1 k1 h1 h2 h3 h4).ag fun b hb => hag b (List.mem_append_right _ (blks_sub (flat_sub h3) (flat_sub h4) b hb))
    · have h0 : i = us.length := by have := (List.getElem?_eq_some_iff.1 h1).1; simp at this; omega
      subst h0
      rw [List.getElem?_append_right (Nat.le_refl _), Nat.sub_self] at h1
      rw [h.hl, List.getElem?_append_right (Nat.le_refl _), Nat.sub_self] at h2
      rw [← h.hL, List.getElem?_append_right (Nat.le_refl _), Nat.sub_self] at h3
      rw [← h.hK, List.getElem?_append_right (Nat.le_refl _), Nat.sub_self] at h4
      simp at h1 h2 h3 h4
      subst h1 h2 h3 h4
      exact (hu.ag hagu).le hBH
  · have hp : (ks.ob ++ (Sl.ob ⟨some ⟨g, 0, none⟩, us.length + 1, c'⟩ ++ blks (L ++ [l]).flatten (K ++ [k]).flatten)).Perm (g :: ((ks.ob ++ blks L.flatten K.flatten) ++ blks l k)) := by
      refine ((List.perm_append_comm_assoc _ _ _).trans ?_)
      show ([g] ++ (ks.ob ++ blks (L ++ [l]).flatten (K ++ [k]).flatten)).Perm ([g] ++ ((ks.ob ++ blks L.flatten K.flatten) ++ blks l k))
      refine List.Perm.append_left _ ?_
      rw [List.append_assoc]
      exact List.Perm.append_left _ (blks_app L K l k)
    refine hp.nodup_iff.2 (List.nodup_cons.2 ⟨fun hm9 => ?_, ?_⟩)
    · rcases List.mem_append.1 hm9 with h9 | h9
      · exact hgn g (.inl h9) rfl
      · exact hgn g (.inr h9) rfl
    · have h9 := (List.perm_append_comm_assoc ks.ob a.ob (blks L.flatten K.flatten)).nodup_iff.1 h.nd
      refine List.nodup_append.2 ⟨(List.nodup_append.1 h9).2.1, hnd, fun x hx z hz e => ?_⟩
      subst e
      exact hdis x (hin x hx) hz
/-- A list that is read. -/
theorem Ac.list {w : World} {B : Nat} {a : Sl} {kb : List ByteArray} {us : List Value} {ds : List Nd} {L : List Lb} {K : List Kb} {ks : Sl} (h : Ac w B ks a kb us ds L K) (hz : a.n ≤ 1759218604441) : VlO w B (.iface 68 a.v) (.mk 5 0 [] [] ds) ((a, us) :: L.flatten) K.flatten ∧ (blks ((a, us) :: L.flatten) K.flatten).Nodup := by
  refine ⟨.list a us ds L K h.hv h.hl hz h.hL h.hK h.he, ?_⟩
  have h9 := (List.nodup_append.1 h.nd).2.1
  have e : blks ((a, us) :: L.flatten) K.flatten = a.ob ++ blks L.flatten K.flatten := by
    unfold blks
    rw [← List.append_assoc]
    rfl
  rw [e]; exact h9
theorem Ac.obj {w : World} {B : Nat} {a : Sl} {kb : List ByteArray} {us : List Value} {ds : List Nd} {L : List Lb} {K : List Kb} {ks : Sl} (h : Ac w B ks a kb us ds L K) (hz : ks.n ≤ 8796093022208 ∧ a.n ≤ 1759218604441) : VlO w B (.iface 70 (.agg #[ks.v, a.v])) (.mk 6 0 [] (kb.map lS) ds) ((a, us) :: L.flatten) ((ks, kb) :: K.flatten) ∧ (blks ((a, us) :: L.flatten) ((ks, kb) :: K.flatten)).Nodup := by
  refine ⟨.obj ks a kb us ds L K h.hk h.hv h.hl hz h.hL h.hK h.he, ?_⟩
  have e : (blks ((a, us) :: L.flatten) ((ks, kb) :: K.flatten)).Perm (ks.ob ++ (a.ob ++ blks L.flatten K.flatten)) := by
    have e1 : blks ((a, us) :: L.flatten) ((ks, kb) :: K.flatten) = (a.ob ++ blL L.flatten) ++ (ks.ob ++ blK K.flatten) := rfl
    rw [e1]
    refine (List.perm_append_comm_assoc _ _ _).trans ?_
    refine List.Perm.append_left _ ?_
    unfold blks
    rw [List.append_assoc]
  exact e.nodup_iff.2 h.nd
end Go.Proofs.YtddmmmfpdmejbaaGreatDoor
