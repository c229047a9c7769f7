import Derived.Test.YtadnfiikfhdphaaQStm
namespace Go.Proofs.Ytadnfiikfhdphaa
open Go.RowKit

/-! stay: one store, one growth -/
theorem wrStore_mid {w : World} {B g n c : Nat} {ms : List Wr} (h : OwnK wrE w B (.slice (some ⟨g, 0, none⟩) n c) ms) (K : Nat) (d : Wr) (hK : K < n) : (wrStore (.pointer (some ⟨g, K * 65, none⟩)) (.agg (wrA d))).run Try.prog w = .ok .skip (w.setCells g (K * 65) (wrA d).toList) := by
  have hs := h.store wrE_ok K d hK
  have h9 : (Instr.storeAt 77 (.pointer (some ⟨g, K * 65, none⟩)) (.agg (wrA d))).run Try.prog w = .ok () (w.setCells g (K * 65) (wrA d).toList) := by
    simpa [wrE] using hs
  simp only [wrStore, Sem.run_bind, h9, Result.andThen_ok]
  rfl
def zL5 (z : Nat → Slc) (m : Nat) : List Value := (List.range m).map fun k => (z k).v
theorem zL5_len (z : Nat → Slc) (m : Nat) : (zL5 z m).length = m := by simp [zL5]
theorem zL5_at (z : Nat → Slc) (m k : Nat) (h : k < m) : (zL5 z m)[k]? = some (z k).v := by simp [zL5, h]
theorem zL5_snoc (z : Nat → Slc) (u : Nat) (s : Slc) : zL5 z u ++ [s.v] = zL5 (fun k => if k = u then s else z k) (u + 1) := by
  unfold zL5
  rw [List.range_succ, List.map_append]
  congr 1
  · apply List.map_congr_left
    intro k hk
    have : k < u := by simpa using hk
    show (z k).v = (if k = u then s else z k).v
    rw [if_neg (by omega)]
  · simp
theorem Ga.grow {α : Type} {E : EK α} {W W' : World} {B : Nat} {T : Nat → Option Th} (h : Ga W B T) {k n : Nat} {v z : Value} {m : α} (hk : T k = some (thK E B v (List.replicate n m))) (hK : Keep v.ownBlock.toList W W') (h1 : OwnK E W' B v (List.replicate n m)) (h2 : OwnK E W' B z (List.replicate (n + 2) m)) (hz : ∀ q, z.ownBlock = some q → v.ownBlock = some q ∨ W.heap.size ≤ q) : Ga W' B (updT T k (thGr E B v z n m)) ∧ ∀ A, RwN k T A → KA B A W W' := by
  refine h.act hk fun F R hP _ => ?_
  obtain ⟨_, rfl, rfl⟩ := hP
  refine ⟨_, _, ⟨h1, h2, rfl, rfl⟩, fun q hq => ?_, fun q hq => ?_, hK⟩
  all_goals
    rcases List.mem_append.1 hq with hq | hq
    · exact .inl hq
    · rcases hz q (by simpa using hq) with h1 | h1
      · exact .inl (by rw [h1]; simp)
      · exact .inr h1
theorem rep_two {α : Type} (n : Nat) (m : α) : List.replicate n m ++ [m] ++ [m] = List.replicate (n + 2) m := by
  rw [List.append_assoc, show n + 2 = n + 1 + 1 by omega, List.replicate_succ', List.replicate_succ', List.append_assoc]
theorem Ga.below {W W' : World} {B k : Nat} {T : Nat → Option Th} (h : Ga W B T) (hk : ∀ A, RwN k T A → KA B A W W') : Below B W W' := (hk [] (fun _ ha => by cases ha)).below h.size
variable {W W' : World} {B : Nat} {T : Nat → Option Th} {b : Bk} {fS : Nat → Slc × List Sc → Th} {fP : Nat → Slc × List Wr → Th}
theorem Sy.markS {t j n c : Nat} {y : Option Addr} {L : List Sc} (h : Sy W B T b (mkF secE B mS t j) fP) (hx : b.sS[t]? = some (⟨y, n, c⟩, L)) (hl : L.length = n) (hj : j < n) :
    ∃ g, y = some ⟨g, 0, none⟩ ∧ (secStore (.pointer (some ⟨g, j * 64, none⟩)) (.agg (secA (mS t)))).run Try.prog W = .ok .skip (W.setCells g (j * 64) (secA (mS t)).toList) ∧ ∃ T', Sy (W.setCells g (j * 64) (secA (mS t)).toList) B T' b (mkF secE B mS t (j + 1)) fP ∧ Below B W (W.setCells g (j * 64) (secA (mS t)).toList) := by
  have hT := h.lS t _ hx
  have hT' : T (8 * t + 3) = some (thK secE B (.slice y n c) (over9 (mS t) j L)) := by
    rw [hT]; unfold mkF; rw [if_neg (Nat.lt_irrefl t), if_pos rfl]; rfl
  have hO := h.ga.isK hT'
  have hlo := over9_len (mS t) j L (by omega)
  obtain ⟨g, hg, -⟩ := hO.form (by rw [hlo]; omega)
  subst hg
  have hput := hO.put secE_ok j (mS t) hj
  have e1 : secE.k = 64 := rfl
  have e2 : secE.enc (mS t) = (secA (mS t)).toList := by simp only [secE]
  rw [e1, e2, over9_set _ _ _ (by omega)] at hput
  obtain ⟨hG, hK⟩ := h.ga.putK (v' := .slice (some ⟨g, 0, none⟩) n c) (ds' := over9 (mS t) (j + 1) L) (W' := W.setCells g (j * 64) (secA (mS t)).toList) hT' (Keep.of_grown (grown_setC W g (j * 64) _) (fun q hq => by cases hq; simp [Value.ownBlock])) hput (fun q hq => .inl hq)
  refine ⟨g, rfl, secStore_mid hO j (mS t) hj, updT T (8 * t + 3) (mkF secE B mS t (j + 1) t (⟨some ⟨g, 0, none⟩, n, c⟩, L)), h.actS hx (mkF secE B mS t (j + 1)) (fun k x _ hne => ?_) ?_, h.ga.below hK⟩
  · unfold mkF
    by_cases h1 : k < t
    · rw [if_pos h1, if_pos h1]
    · rw [if_neg h1, if_neg h1, if_neg hne, if_neg hne]
  · have e3 : mkF secE B mS t (j + 1) t (⟨some ⟨g, 0, none⟩, n, c⟩, L) = thK secE B (.slice (some ⟨g, 0, none⟩) n c) (over9 (mS t) (j + 1) L) := by
      unfold mkF; rw [if_neg (Nat.lt_irrefl t), if_pos rfl]; rfl
    rw [e3]; exact hG
theorem Sy.growS {z : Nat → Slc} {u n c cl : Nat} {y xl : Option Addr} {L : List Sc} (h : Sy W B T b (grF secE B mS z u) fP) (hx : b.sS[u]? = some (⟨y, n, c⟩, L)) (hl : L.length = n) (hn : n ≤ 16777216) (hu : u ≤ 16777216) (h80 : T 80 = some (thG 24 B (.slice xl u cl) (zL5 z u))) :
    ∃ g1 c1 w1, (Builtin.append_ #[24, 24] 24 #[.slice y n c, .slice (some ⟨W.heap.size, 0, none⟩) 1 1]).run Try.prog (W.alloc (.cells (secA (mS u)) 27)) = .ok (.slice (some ⟨g1, 0, none⟩) (n + 1) c1) w1 ∧
    ∃ g2 c2 w2, (Builtin.append_ #[24, 24] 24 #[.slice (some ⟨g1, 0, none⟩) (n + 1) c1, .slice (some ⟨w1.heap.size, 0, none⟩) 1 1]).run Try.prog (w1.alloc (.cells (secA (mS u)) 27)) = .ok (.slice (some ⟨g2, 0, none⟩) (n + 2) c2) w2 ∧
    ∃ g3 c3 w3, (Builtin.append_ #[40, 40] 40 #[.slice xl u cl, .slice (some ⟨w2.heap.size, 0, none⟩) 1 1]).run Try.prog (w2.alloc (.cells #[.slice (some ⟨g2, 0, none⟩) (n + 2) c2] 24)) = .ok (.slice (some ⟨g3, 0, none⟩) (u + 1) c3) w3 ∧
    ∃ T', Sy w3 B T' b (grF secE B mS (fun k => if k = u then ⟨some ⟨g2, 0, none⟩, n + 2, c2⟩ else z k) (u + 1)) fP ∧ T' 80 = some (thG 24 B (.slice (some ⟨g3, 0, none⟩) (u + 1) c3) (zL5 (fun k => if k = u then ⟨some ⟨g2, 0, none⟩, n + 2, c2⟩ else z k) (u + 1))) ∧ T' 88 = T 88 ∧ Below B W w3 := by
  have hT := h.lS u _ hx
  have hT' : T (8 * u + 3) = some (thK secE B (.slice y n c) (List.replicate n (mS u))) := by
    rw [hT]; unfold grF; rw [if_neg (Nat.lt_irrefl u)]; simp only [hl]; rfl
  have hO := h.ga.isK hT'
  have e1 : secE.S = 24 := rfl
  have e2 : (secA (mS u)).toList = secE.enc (mS u) := by simp only [secE]
  obtain ⟨g1, c1, w1, hr1, g2, c2, w2, hr2, hO2, hS2, hK2, hway2⟩ := grow2E secE_ok W B ⟨y, n, c⟩ _ (mS u) 24 27 (secA (mS u)) e2 hO (by simp) h.ga.size (by simp only [secE]; omega) (by unfold maxLen; simp only; omega)
  rw [rep_two] at hO2
  rw [e1] at hr1 hr2
  obtain ⟨hG2, hA2⟩ := h.ga.grow (z := .slice (some ⟨g2, 0, none⟩) (n + 2) c2) hT' hK2 hS2 hO2 (fun q hq => by
    have e : g2 = q := by simpa [Value.ownBlock] using hq
    subst e; exact hway2)
  have h80' : updT T (8 * u + 3) (thGr secE B (.slice y n c) (.slice (some ⟨g2, 0, none⟩) (n + 2) c2) n (mS u)) 80 = some (thG 24 B (.slice xl u cl) (zL5 z u)) := by rw [updT_ne _ _ _ _ (by omega)]; exact h80
  have hG3 := hG2.later (below_alloc w2 (.cells #[.slice (some ⟨g2, 0, none⟩) (n + 2) c2] 24))
  have hL := hG3.isG h80'
  obtain ⟨g3, c3, w3, hr3, hO3, hK3, hway3⟩ := appLies eltS (w2.alloc (.cells #[.slice (some ⟨g2, 0, none⟩) (n + 2) c2] 24)) B xl u cl (zL5 z u) [Slc.v ⟨some ⟨g2, 0, none⟩, n + 2, c2⟩] w2.heap.size 1 40 hL (zL5_len _ _) rfl (fun j w hw => by
    rcases j with _ | j
    · simp at hw; subst hw; exact cell_of_row _ _ 0 _ _ _ (heap_alloc_last w2 _)
    · simp at hw) (fun w hw => by simp at hw; subst hw; rfl) (by omega) hG3.size (by omega) (by unfold maxLen; omega)
  rw [zL5_snoc] at hO3
  obtain ⟨hG4, hA4⟩ := hG3.putG (v' := .slice (some ⟨g3, 0, none⟩) (u + 1) c3) h80' hK3 hO3 (fun q hq => by
    have e : g3 = q := by simpa [Value.ownBlock] using hq
    subst e; exact hway3)
  have hSy : Sy w2 B (updT T (8 * u + 3) (grF secE B mS (fun k => if k = u then ⟨some ⟨g2, 0, none⟩, n + 2, c2⟩ else z k) (u + 1) u (⟨y, n, c⟩, L))) b (grF secE B mS (fun k => if k = u then ⟨some ⟨g2, 0, none⟩, n + 2, c2⟩ else z k) (u + 1)) fP := by
    refine h.actS hx _ (fun k x _ hne => ?_) ?_
    · unfold grF
      by_cases h1 : k < u
      · rw [if_pos h1, if_pos (by omega)]; simp only [if_neg hne]
      · rw [if_neg h1, if_neg (by omega)]
    · have e3 : grF secE B mS (fun k => if k = u then ⟨some ⟨g2, 0, none⟩, n + 2, c2⟩ else z k) (u + 1) u (⟨y, n, c⟩, L) = thGr secE B (.slice y n c) (.slice (some ⟨g2, 0, none⟩) (n + 2) c2) n (mS u) := by
        unfold grF; rw [if_pos (by omega)]; simp only [hl, if_true]; rfl
      rw [e3]; exact hG2
  have e3 : grF secE B mS (fun k => if k = u then ⟨some ⟨g2, 0, none⟩, n + 2, c2⟩ else z k) (u + 1) u (⟨y, n, c⟩, L) = thGr secE B (.slice y n c) (.slice (some ⟨g2, 0, none⟩) (n + 2) c2) n (mS u) := by
    unfold grF; rw [if_pos (by omega)]; simp only [hl, if_true]; rfl
  rw [e3] at hSy
  refine ⟨g1, c1, w1, hr1, g2, c2, w2, hr2, g3, c3, w3, hr3, _, (hSy.later (below_alloc w2 (.cells #[.slice (some ⟨g2, 0, none⟩) (n + 2) c2] 24))).upd (k := 80) (by omega) hG4, updT_same _ _ _, ?_, ?_⟩
  · rw [updT_ne _ _ _ _ (by omega), updT_ne _ _ _ _ (by omega)]
  · exact (h.ga.below hA2).trans (((below_alloc w2 (.cells #[.slice (some ⟨g2, 0, none⟩) (n + 2) c2] 24)).mono hG2.size).trans (hG3.below hA4))
theorem Sy.markP {t j n c : Nat} {y : Option Addr} {L : List Wr} (h : Sy W B T b fS (mkF wrE B mP t j)) (hx : b.sP[t]? = some (⟨y, n, c⟩, L)) (hl : L.length = n) (hj : j < n) :
    ∃ g, y = some ⟨g, 0, none⟩ ∧ (wrStore (.pointer (some ⟨g, j * 65, none⟩)) (.agg (wrA (mP t)))).run Try.prog W = .ok .skip (W.setCells g (j * 65) (wrA (mP t)).toList) ∧ ∃ T', Sy (W.setCells g (j * 65) (wrA (mP t)).toList) B T' b fS (mkF wrE B mP t (j + 1)) ∧ Below B W (W.setCells g (j * 65) (wrA (mP t)).toList) := by
  have hT := h.lP t _ hx
  have hT' : T (8 * t + 4) = some (thK wrE B (.slice y n c) (over9 (mP t) j L)) := by
    rw [hT]; unfold mkF; rw [if_neg (Nat.lt_irrefl t), if_pos rfl]; rfl
  have hO := h.ga.isK hT'
  have hlo := over9_len (mP t) j L (by omega)
  obtain ⟨g, hg, -⟩ := hO.form (by rw [hlo]; omega)
  subst hg
  have hput := hO.put wrE_ok j (mP t) hj
  have e1 : wrE.k = 65 := rfl
  have e2 : wrE.enc (mP t) = (wrA (mP t)).toList := by simp only [wrE]
  rw [e1, e2, over9_set _ _ _ (by omega)] at hput
  obtain ⟨hG, hK⟩ := h.ga.putK (v' := .slice (some ⟨g, 0, none⟩) n c) (ds' := over9 (mP t) (j + 1) L) (W' := W.setCells g (j * 65) (wrA (mP t)).toList) hT' (Keep.of_grown (grown_setC W g (j * 65) _) (fun q hq => by cases hq; simp [Value.ownBlock])) hput (fun q hq => .inl hq)
  refine ⟨g, rfl, wrStore_mid hO j (mP t) hj, updT T (8 * t + 4) (mkF wrE B mP t (j + 1) t (⟨some ⟨g, 0, none⟩, n, c⟩, L)), h.actP hx (mkF wrE B mP t (j + 1)) (fun k x _ hne => ?_) ?_, h.ga.below hK⟩
  · unfold mkF
    by_cases h1 : k < t
    · rw [if_pos h1, if_pos h1]
    · rw [if_neg h1, if_neg h1, if_neg hne, if_neg hne]
  · have e3 : mkF wrE B mP t (j + 1) t (⟨some ⟨g, 0, none⟩, n, c⟩, L) = thK wrE B (.slice (some ⟨g, 0, none⟩) n c) (over9 (mP t) (j + 1) L) := by
      unfold mkF; rw [if_neg (Nat.lt_irrefl t), if_pos rfl]; rfl
    rw [e3]; exact hG
theorem Sy.growP {z : Nat → Slc} {u n c cl : Nat} {y xl : Option Addr} {L : List Wr} (h : Sy W B T b fS (grF wrE B mP z u)) (hx : b.sP[u]? = some (⟨y, n, c⟩, L)) (hl : L.length = n) (hn : n ≤ 16777216) (hu : u ≤ 16777216) (h80 : T 88 = some (thG 56 B (.slice xl u cl) (zL5 z u))) :
    ∃ g1 c1 w1, (Builtin.append_ #[56, 56] 56 #[.slice y n c, .slice (some ⟨W.heap.size, 0, none⟩) 1 1]).run Try.prog (W.alloc (.cells (wrA (mP u)) 77)) = .ok (.slice (some ⟨g1, 0, none⟩) (n + 1) c1) w1 ∧
    ∃ g2 c2 w2, (Builtin.append_ #[56, 56] 56 #[.slice (some ⟨g1, 0, none⟩) (n + 1) c1, .slice (some ⟨w1.heap.size, 0, none⟩) 1 1]).run Try.prog (w1.alloc (.cells (wrA (mP u)) 77)) = .ok (.slice (some ⟨g2, 0, none⟩) (n + 2) c2) w2 ∧
    ∃ g3 c3 w3, (Builtin.append_ #[41, 41] 41 #[.slice xl u cl, .slice (some ⟨w2.heap.size, 0, none⟩) 1 1]).run Try.prog (w2.alloc (.cells #[.slice (some ⟨g2, 0, none⟩) (n + 2) c2] 56)) = .ok (.slice (some ⟨g3, 0, none⟩) (u + 1) c3) w3 ∧
    ∃ T', Sy w3 B T' b fS (grF wrE B mP (fun k => if k = u then ⟨some ⟨g2, 0, none⟩, n + 2, c2⟩ else z k) (u + 1)) ∧ T' 88 = some (thG 56 B (.slice (some ⟨g3, 0, none⟩) (u + 1) c3) (zL5 (fun k => if k = u then ⟨some ⟨g2, 0, none⟩, n + 2, c2⟩ else z k) (u + 1))) ∧ T' 80 = T 80 ∧ Below B W w3 := by
  have hT := h.lP u _ hx
  have hT' : T (8 * u + 4) = some (thK wrE B (.slice y n c) (List.replicate n (mP u))) := by
    rw [hT]; unfold grF; rw [if_neg (Nat.lt_irrefl u)]; simp only [hl]; rfl
  have hO := h.ga.isK hT'
  have e1 : wrE.S = 56 := rfl
  have e2 : (wrA (mP u)).toList = wrE.enc (mP u) := by simp only [wrE]
  obtain ⟨g1, c1, w1, hr1, g2, c2, w2, hr2, hO2, hS2, hK2, hway2⟩ := grow2E wrE_ok W B ⟨y, n, c⟩ _ (mP u) 56 77 (wrA (mP u)) e2 hO (by simp) h.ga.size (by simp only [wrE]; omega) (by unfold maxLen; simp only; omega)
  rw [rep_two] at hO2
  rw [e1] at hr1 hr2
  obtain ⟨hG2, hA2⟩ := h.ga.grow (z := .slice (some ⟨g2, 0, none⟩) (n + 2) c2) hT' hK2 hS2 hO2 (fun q hq => by
    have e : g2 = q := by simpa [Value.ownBlock] using hq
    subst e; exact hway2)
  have h80' : updT T (8 * u + 4) (thGr wrE B (.slice y n c) (.slice (some ⟨g2, 0, none⟩) (n + 2) c2) n (mP u)) 88 = some (thG 56 B (.slice xl u cl) (zL5 z u)) := by rw [updT_ne _ _ _ _ (by omega)]; exact h80
  have hG3 := hG2.later (below_alloc w2 (.cells #[.slice (some ⟨g2, 0, none⟩) (n + 2) c2] 56))
  have hL := hG3.isG h80'
  obtain ⟨g3, c3, w3, hr3, hO3, hK3, hway3⟩ := appLies eltW (w2.alloc (.cells #[.slice (some ⟨g2, 0, none⟩) (n + 2) c2] 56)) B xl u cl (zL5 z u) [Slc.v ⟨some ⟨g2, 0, none⟩, n + 2, c2⟩] w2.heap.size 1 41 hL (zL5_len _ _) rfl (fun j w hw => by
    rcases j with _ | j
    · simp at hw; subst hw; exact cell_of_row _ _ 0 _ _ _ (heap_alloc_last w2 _)
    · simp at hw) (fun w hw => by simp at hw; subst hw; rfl) (by omega) hG3.size (by omega) (by unfold maxLen; omega)
  rw [zL5_snoc] at hO3
  obtain ⟨hG4, hA4⟩ := hG3.putG (v' := .slice (some ⟨g3, 0, none⟩) (u + 1) c3) h80' hK3 hO3 (fun q hq => by
    have e : g3 = q := by simpa [Value.ownBlock] using hq
    subst e; exact hway3)
  have hSy : Sy w2 B (updT T (8 * u + 4) (grF wrE B mP (fun k => if k = u then ⟨some ⟨g2, 0, none⟩, n + 2, c2⟩ else z k) (u + 1) u (⟨y, n, c⟩, L))) b fS (grF wrE B mP (fun k => if k = u then ⟨some ⟨g2, 0, none⟩, n + 2, c2⟩ else z k) (u + 1)) := by
    refine h.actP hx _ (fun k x _ hne => ?_) ?_
    · unfold grF
      by_cases h1 : k < u
      · rw [if_pos h1, if_pos (by omega)]; simp only [if_neg hne]
      · rw [if_neg h1, if_neg (by omega)]
    · have e3 : grF wrE B mP (fun k => if k = u then ⟨some ⟨g2, 0, none⟩, n + 2, c2⟩ else z k) (u + 1) u (⟨y, n, c⟩, L) = thGr wrE B (.slice y n c) (.slice (some ⟨g2, 0, none⟩) (n + 2) c2) n (mP u) := by
        unfold grF; rw [if_pos (by omega)]; simp only [hl, if_true]; rfl
      rw [e3]; exact hG2
  have e3 : grF wrE B mP (fun k => if k = u then ⟨some ⟨g2, 0, none⟩, n + 2, c2⟩ else z k) (u + 1) u (⟨y, n, c⟩, L) = thGr wrE B (.slice y n c) (.slice (some ⟨g2, 0, none⟩) (n + 2) c2) n (mP u) := by
    unfold grF; rw [if_pos (by omega)]; simp only [hl, if_true]; rfl
  rw [e3] at hSy
  refine ⟨g1, c1, w1, hr1, g2, c2, w2, hr2, g3, c3, w3, hr3, _, (hSy.later (below_alloc w2 (.cells #[.slice (some ⟨g2, 0, none⟩) (n + 2) c2] 56))).upd (k := 88) (by omega) hG4, updT_same _ _ _, ?_, ?_⟩
  · rw [updT_ne _ _ _ _ (by omega), updT_ne _ _ _ _ (by omega)]
  · exact (h.ga.below hA2).trans (((below_alloc w2 (.cells #[.slice (some ⟨g2, 0, none⟩) (n + 2) c2] 56)).mono hG2.size).trans (hG3.below hA4))
theorem Sy.nil (h : Sy W B T b fS fP) (e : TypeId) {k : Nat} (hk : k = 80 ∨ k = 88) : Sy W B (updT T k (thG e B (.slice none 0 0) [])) b fS fP :=
  h.upd hk (h.ga.add (Below.refl _ _) ⟨[], [], ⟨OwnG.nil _ _ _, rfl, rfl⟩, fun _ hq => (by cases hq), fun _ hq => (by cases hq)⟩)
theorem G5.sy {ps : List Pr5} (h : G5 W B T ps b (bkA b)) : Sy W B T b (mkF secE B mS 0 0) (mkF wrE B mP 0 0) :=
  ⟨h.ga, h.book, h.S, h.P, fun k x hx => by rw [mkF_start]; exact h.lS k x hx, fun k x hx => by rw [mkF_start]; exact h.lP k x hx⟩
theorem mk_gr {α : Type} (E : EK α) (B : Nat) (m : Nat → α) (z : Nat → Slc) (n k : Nat) (x : Slc × List α) (h : k < n) : grF E B m z 0 k x = mkF E B m n 0 k x := by
  rw [mkF_in]
  unfold grF
  rw [if_neg (by omega), if_pos h]
theorem Sy.gr_S {u : Nat} {z : Nat → Slc} {k : Nat} {y : Option Addr} {n c : Nat} {L : List Sc} (h : Sy W B T b (grF secE B mS z u) fP) (hx : b.sS[k]? = some (⟨y, n, c⟩, L)) (hl : L.length = n) (hk : k < u) : OwnK secE W B (.slice y n c) (List.replicate n (mS k)) ∧ OwnK secE W B (z k).v (List.replicate (n + 2) (mS k)) := by
  have hT := h.lS k _ hx
  unfold grF at hT
  rw [if_pos hk] at hT
  obtain ⟨F, R, h1, h2, -⟩ := h.ga.get hT
  simp only [hl] at h1 h2
  exact ⟨h1, h2⟩
theorem Sy.gr_P {u : Nat} {z : Nat → Slc} {k : Nat} {y : Option Addr} {n c : Nat} {L : List Wr} (h : Sy W B T b fS (grF wrE B mP z u)) (hx : b.sP[k]? = some (⟨y, n, c⟩, L)) (hl : L.length = n) (hk : k < u) : OwnK wrE W B (.slice y n c) (List.replicate n (mP k)) ∧ OwnK wrE W B (z k).v (List.replicate (n + 2) (mP k)) := by
  have hT := h.lP k _ hx
  unfold grF at hT
  rw [if_pos hk] at hT
  obtain ⟨F, R, h1, h2, -⟩ := h.ga.get hT
  simp only [hl] at h1 h2
  exact ⟨h1, h2⟩
end Go.Proofs.Ytadnfiikfhdphaa
