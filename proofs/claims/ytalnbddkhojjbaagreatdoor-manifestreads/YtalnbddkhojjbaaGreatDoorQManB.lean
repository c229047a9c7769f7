import Derived.Test.YtalnbddkhojjbaaGreatDoorQManM
import Derived.Test.YtalnbddkhojjbaaGreatDoorQJma
import Derived.Test.YtalnbddkhojjbaaGreatDoorQMan1
namespace Go.Proofs.YtalnbddkhojjbaaGreatDoor
open Go.RowKit

def plB (b : UInt8) : Bool := decide (32 ≤ b.toNat) && decide (b.toNat < 127) && decide (b.toNat ≠ 34) && decide (b.toNat ≠ 92)
set_option maxRecDepth 100000 in
theorem plN_quo : ∀ n, n < 256 → plB (UInt8.ofNat n) = true → quo n = [UInt8.ofNat n] ∧ n < 128 := by decide +kernel
theorem plB_quo (b : UInt8) (h : plB b = true) : quo b.toNat = [b] ∧ b.toNat < 128 := by
  have h9 := plN_quo b.toNat b.toNat_lt (by rw [UInt8.ofNat_toNat]; exact h)
  rw [UInt8.ofNat_toNat] at h9
  exact h9
theorem rn_pl (x : List UInt8) (b : UInt8) (r : List UInt8) (hx : x = b :: r) (h : b.toNat < 128) : rn x = (b.toNat, 1) := by
  subst hx
  unfold rn
  rw [if_neg (by simp), show lB (b :: r) 0 = b from rfl, if_pos h]
theorem quF_pl (l : List UInt8) (hl : ∀ b ∈ l, plB b = true) : ∀ (f k : Nat) (out : List UInt8), l.length - k < f → k ≤ l.length → quF l f k out = some (out ++ l.drop k ++ [34])
  | 0, k, out, h, _ => by omega
  | f + 1, k, out, h, hk => by
    rw [quF]
    by_cases hlt : k < l.length
    · rw [if_pos hlt]
      have hd := List.drop_eq_getElem_cons hlt
      obtain ⟨q1, q2⟩ := plB_quo l[k] (hl _ (List.getElem_mem hlt))
      have hr := rn_pl (l.drop k) l[k] (l.drop (k + 1)) hd q2
      rw [hr]
      simp only
      rw [if_neg (by omega), q1, quF_pl l hl f (k + 1) (out ++ [l[k]]) (by omega) (by omega), hd]
      simp
    · rw [if_neg hlt, List.drop_of_length_le (by omega), List.append_nil]
theorem quA_pl (l : List UInt8) (hl : ∀ b ∈ l, plB b = true) : quA l = some ([34] ++ l ++ [34]) := by
  unfold quA
  rw [quF_pl l hl _ 0 [34] (by omega) (by omega)]
  simp
theorem quS_pl (l : List UInt8) (hl : ∀ b ∈ l, plB b = true) : quS l = [34] ++ l ++ [34] := by unfold quS; rw [quA_pl l hl]; rfl
theorem quE_pl (l : List UInt8) (hl : ∀ b ∈ l, plB b = true) : quE l = 0 := by unfold quE; rw [quA_pl l hl]; rfl
set_option maxRecDepth 100000 in
theorem digC_pl : ∀ i, i < 16 → plB (digC i) = true := by decide +kernel
def dcNd (d : Dc) : Nd := .mk 6 0 [] [kD, kS] [.mk 4 0 (textL d.key) [] [], .mk 3 d.size [] [] []]
def mNd (k : Int) (l : List Dc) : Nd := if k = 2 then .mk 6 0 [] [kV, kM] [.mk 3 2 [] [] [], .mk 5 0 [] [] (l.map dcNd)] else .mk 6 0 [] [kV, kC, kL16] [.mk 3 2 [] [] [], ((l.take 1).map dcNd).headD (.mk 1 0 [] [] []), .mk 5 0 [] [] ((l.drop 1).map dcNd)]
theorem hexL_pl (s : Nat → UInt8) : ∀ k, ∀ b ∈ hexL s k, plB b = true
  | 0, b, h => by simp [hexL] at h
  | k + 1, b, h => by
    rw [hexL] at h
    rcases List.mem_append.1 h with h | h
    · exact hexL_pl s k b h
    · have := (s k).toNat_lt
      simp at h
      rcases h with rfl | rfl
      · exact digC_pl _ (by omega)
      · exact digC_pl _ (by omega)
theorem textL_pl (s : Nat → UInt8) : ∀ b ∈ textL s, plB b = true := fun b h => by
  rcases List.mem_append.1 h with h | h
  · have h9 : ∀ b ∈ frontS, plB b = true := by decide +kernel
    exact h9 b h
  · exact hexL_pl s 32 b h
theorem key_pl : (∀ b ∈ kD, plB b = true) ∧ (∀ b ∈ kS, plB b = true) ∧ (∀ b ∈ kV, plB b = true) ∧ (∀ b ∈ kM, plB b = true) ∧ (∀ b ∈ kC, plB b = true) ∧ (∀ b ∈ kL16, plB b = true) := by decide +kernel
theorem txt_dc (d : Dc) : txtN (dcNd d) = dcT d := by
  unfold dcNd
  rw [txtN_mk]
  simp only [show (6 : Int) = 1 ↔ False by decide, show (6 : Int) = 2 ↔ False by decide, show (6 : Int) = 3 ↔ False by decide, show (6 : Int) = 4 ↔ False by decide, if_false, if_true]
  rw [txtO, txtO, txtO, txtN_mk, txtN_mk]
  simp only [show (4 : Int) = 1 ↔ False by decide, show (4 : Int) = 2 ↔ False by decide, show (4 : Int) = 3 ↔ False by decide, show (3 : Int) = 1 ↔ False by decide, show (3 : Int) = 2 ↔ False by decide, if_false, if_true, List.headD_cons, List.tail_cons, cond_true, cond_false]
  rw [quS_pl kD key_pl.1, quS_pl kS key_pl.2.1, quS_pl _ (textL_pl d.key)]
  unfold dcT kD kS
  simp [List.append_assoc]
theorem txt_dcs : ∀ (l : List Dc) (b : Bool), txtL (l.map dcNd) b = dcsT l b
  | [], b => by rw [List.map_nil, txtL, dcsT]
  | d :: r, b => by rw [List.map_cons, txtL, dcsT, txt_dc, txt_dcs r false]
theorem gd_dc (d : Dc) (h : dcOk d = true) : Gd (dcNd d) := by
  unfold dcOk at h
  simp only [Bool.and_eq_true, decide_eq_true_eq] at h
  refine .obj _ _ rfl (fun k hk => ?_) (by decide +kernel) (fun x hx => ?_)
  · simp at hk
    rcases hk with rfl | rfl
    · exact quE_pl _ key_pl.1
    · exact quE_pl _ key_pl.2.1
  · simp at hx
    rcases hx with rfl | rfl
    · exact .str _ (quE_pl _ (textL_pl d.key))
    · exact .num _ h.1 (by omega)
theorem txt_m2 (l : List Dc) : txtN (mNd 2 l) = mwT 2 l := by
  unfold mNd mwT
  rw [if_pos rfl, if_pos rfl, txtN_mk]
  simp only [show (6 : Int) = 1 ↔ False by decide, show (6 : Int) = 2 ↔ False by decide, show (6 : Int) = 3 ↔ False by decide, show (6 : Int) = 4 ↔ False by decide, if_false, if_true]
  rw [txtO, txtO, txtO, txtN_mk, txtN_mk]
  simp only [show (5 : Int) = 1 ↔ False by decide, show (5 : Int) = 2 ↔ False by decide, show (5 : Int) = 3 ↔ False by decide, show (5 : Int) = 4 ↔ False by decide, show (5 : Int) = 6 ↔ False by decide, show (3 : Int) = 1 ↔ False by decide, show (3 : Int) = 2 ↔ False by decide, if_false, if_true, List.headD_cons, List.tail_cons, cond_true, cond_false]
  rw [quS_pl kV key_pl.2.2.1, quS_pl kM key_pl.2.2.2.1, txt_dcs, show digN 2 = [50] by decide +kernel]
  unfold mHd kV kM
  simp [List.append_assoc]
theorem txt_m1 (d : Dc) (r : List Dc) : txtN (mNd 1 (d :: r)) = mwT 1 (d :: r) := by
  unfold mNd mwT
  rw [if_neg (by decide), if_neg (by decide), txtN_mk]
  simp only [show (6 : Int) = 1 ↔ False by decide, show (6 : Int) = 2 ↔ False by decide, show (6 : Int) = 3 ↔ False by decide, show (6 : Int) = 4 ↔ False by decide, if_false, if_true, List.take_succ_cons, List.take_zero, List.map_cons, List.map_nil, List.headD_cons, List.drop_succ_cons, List.drop_zero]
  rw [txtO, txtO, txtO, txtO, txt_dc, txtN_mk, txtN_mk]
  simp only [show (5 : Int) = 1 ↔ False by decide, show (5 : Int) = 2 ↔ False by decide, show (5 : Int) = 3 ↔ False by decide, show (5 : Int) = 4 ↔ False by decide, show (5 : Int) = 6 ↔ False by decide, show (3 : Int) = 1 ↔ False by decide, show (3 : Int) = 2 ↔ False by decide, if_false, if_true, List.headD_cons, List.tail_cons, cond_true, cond_false]
  rw [quS_pl kV key_pl.2.2.1, quS_pl kC key_pl.2.2.2.2.1, quS_pl kL16 key_pl.2.2.2.2.2, txt_dcs, show digN 2 = [50] by decide +kernel]
  unfold mHd kV kC kL16
  simp [dcsT, List.append_assoc]
theorem gd_m (k : Int) (l : List Dc) (hl : ∀ d ∈ l, dcOk d = true) (hk : k = 2 ∨ l ≠ []) : Gd (mNd k l) := by
  unfold mNd
  have hG : ∀ (m : List Dc), (∀ d ∈ m, d ∈ l) → Gd (.mk 5 0 [] [] (m.map dcNd)) := fun m hm => .list _ fun x hx => by
    obtain ⟨d, hd, rfl⟩ := List.mem_map.1 hx
    exact gd_dc d (hl d (hm d hd))
  split
  · refine .obj _ _ rfl (fun k hk => ?_) (by decide +kernel) (fun x hx => ?_)
    · simp at hk
      rcases hk with rfl | rfl
      · exact quE_pl _ key_pl.2.2.1
      · exact quE_pl _ key_pl.2.2.2.1
    · simp only [List.mem_cons, List.not_mem_nil, or_false] at hx
      rcases hx with rfl | rfl
      · exact .num _ (by omega) (by omega)
      · exact hG l (fun d h => h)
  · rename_i h2
    have hne : l ≠ [] := hk.resolve_left h2
    obtain ⟨d, r, rfl⟩ := List.exists_cons_of_ne_nil hne
    refine .obj _ _ rfl (fun k hk => ?_) (by decide +kernel) (fun x hx => ?_)
    · simp at hk
      rcases hk with rfl | rfl | rfl
      · exact quE_pl _ key_pl.2.2.1
      · exact quE_pl _ key_pl.2.2.2.2.1
      · exact quE_pl _ key_pl.2.2.2.2.2
    · simp only [List.mem_cons, List.not_mem_nil, or_false, List.take_succ_cons, List.take_zero, List.map_cons, List.map_nil, List.headD_cons, List.drop_succ_cons, List.drop_zero] at hx
      rcases hx with rfl | rfl | rfl
      · exact .num _ (by omega) (by omega)
      · exact gd_dc d (hl d (by simp))
      · exact hG r (fun d h => by simp [h])
theorem dep_dcs : ∀ (l : List Dc), depL (l.map dcNd) ≤ 1
  | [] => by rw [List.map_nil, depL]; omega
  | d :: r => by
    have h1 : depN (dcNd d) = 1 := by unfold dcNd; simp [depN_mk, depL]
    have := dep_dcs r
    rw [List.map_cons, depL, h1]
    omega
theorem dep_m (k : Int) (l : List Dc) (hk : k = 2 ∨ l ≠ []) : depN (mNd k l) ≤ 6 := by
  unfold mNd
  split
  · have := dep_dcs l
    simp [depN_mk, depL]
    omega
  · rename_i h2
    obtain ⟨d, r, rfl⟩ := List.exists_cons_of_ne_nil (hk.resolve_left h2)
    have := dep_dcs r
    have h1 : depN (dcNd d) = 1 := by unfold dcNd; simp [depN_mk, depL]
    simp [depN_mk, depL, h1]
    omega
theorem mwT_len (k : Int) (l : List Dc) (h : l.length ≤ 32) : (mwT k l).length ≤ 4094 := by
  unfold mwT mHd
  have h1 := dcsT_len l true
  have h2 := dcsT_len (l.take 1) true
  have h3 := dcsT_len (l.drop 1) true
  rw [List.length_take] at h2
  rw [List.length_drop] at h3
  split <;> simp only [List.length_append, List.length_cons, List.length_nil] <;> omega
theorem prs_m (k : Int) (l : List Dc) (h : mwE k l = 0) : mwS k l = mwT k l ∧ prsA (mwT k l) = (mNd k l, 0, 0) := by
  refine ⟨by unfold mwS; rw [if_pos h], ?_⟩
  unfold mwE at h
  split at h
  · cases h
  · rename_i h1
    split at h
    · cases h
    · rename_i h2
      split at h
      · rename_i h3
        have hk : k = 2 ∨ l ≠ [] := by
          by_cases hk2 : k = 2
          · exact .inl hk2
          · exact .inr fun h9 => h1 (by
              by_cases hk1 : k = 1
              · exact .inr ⟨hk1, h9⟩
              · exact .inl ⟨hk1, hk2⟩)
        have ht : txtN (mNd k l) = mwT k l := by
          by_cases hk2 : k = 2
          · subst hk2; exact txt_m2 l
          · have hk1 : k = 1 := Classical.byContradiction fun h9 => h1 (.inl ⟨h9, hk2⟩)
            subst hk1
            obtain ⟨d, r, rfl⟩ := List.exists_cons_of_ne_nil (hk.resolve_left hk2)
            exact txt_m1 d r
        have h9 := prs_txt (mNd k l) (gd_m k l (List.all_eq_true.1 h3) hk) (dep_m k l hk) (by rw [ht]; have := mwT_len k l (by omega); omega)
        rw [ht] at h9
        exact h9
      · cases h
def dcV (d : Dc) : Dc := ⟨pval (textL d.key), d.size⟩
theorem dsc_dc (d : Dc) (h : dcOk d = true) : dscN (dcNd d) = some (dcV d) := by
  unfold dcOk at h
  simp only [Bool.and_eq_true, decide_eq_true_eq] at h
  have h1 : fldN (dcNd d) kD = some (.mk 4 0 (textL d.key) [] []) := by unfold dcNd; simp [fldN, fldK]
  have h2 : fldN (dcNd d) kS = some (.mk 3 d.size [] [] []) := by unfold dcNd; simp [fldN, fldK, show ¬ kD = kS by decide]
  unfold dscN
  rw [h1, h2]
  simp only
  rw [if_pos ⟨rfl, rfl, h.1, h.2, (text_good d.key).1⟩]
  rfl
theorem dsc_dcs : ∀ (l : List Dc), (∀ d ∈ l, dcOk d = true) → dscA (l.map dcNd) = some (l.map dcV)
  | [], _ => rfl
  | d :: r, h => by rw [List.map_cons, dscA, dsc_dc d (h d (by simp)), dsc_dcs r (fun x hx => h x (by simp [hx]))]; rfl
theorem same_dcV : ∀ (l : List Dc), sameD (l.map dcV) l = true
  | [] => rfl
  | d :: r => by
    rw [List.map_cons, sameD, same_dcV r, Bool.and_true]
    unfold dcEq dcV
    rw [(dg_secEq_iff _ _).2 (fun i hi => (text_good d.key).2 i hi)]
    simp
theorem back16 (k : Int) (l : List Dc) (h : mwE k l = 0) : mRd (mwS k l) = (k, l.map dcV) := by
  obtain ⟨h1, h2⟩ := prs_m k l h
  have h0 := h
  unfold mwE at h
  split at h
  · cases h
  · rename_i g1
    split at h
    · cases h
    · rename_i g2
      split at h
      · rename_i g3
        have hok := List.all_eq_true.1 g3
        rw [h1]
        unfold mRd
        rw [if_neg (by have := mwT_len k l (by omega); omega), h2]
        simp only
        rw [if_neg (by simp)]
        have hA : ∀ D : Nd, D.kd = 6 → fldN D kV = some (.mk 3 2 [] [] []) → mrN D = mrB D := fun D e1 e2 => by
          unfold mrN mrA
          rw [if_neg (fun h9 => h9 e1), e2]
          exact if_neg (fun h9 => h9.elim (fun h8 => h8 rfl) (fun h8 => h8 rfl))
        by_cases hk2 : k = 2
        · subst hk2
          have fV : fldN (mNd 2 l) kV = some (.mk 3 2 [] [] []) := by unfold mNd; rw [if_pos rfl]; simp [fldN, fldK]
          have fL : fldN (mNd 2 l) kL16 = none := by unfold mNd; rw [if_pos rfl]; simp [fldN, fldK, show ¬ kV = kL16 by decide, show ¬ kM = kL16 by decide]
          have fM : fldN (mNd 2 l) kM = some (.mk 5 0 [] [] (l.map dcNd)) := by unfold mNd; rw [if_pos rfl]; simp [fldN, fldK, show ¬ kV = kM by decide]
          rw [hA _ (by unfold mNd; rw [if_pos rfl]; rfl) fV]
          unfold mrB
          rw [fL, fM]
          have hL : dscL (.mk 5 0 [] [] (l.map dcNd)) = some (l.map dcV) := by unfold dscL; rw [if_pos (show (Nd.mk 5 0 [] [] (l.map dcNd)).kd = 5 from rfl)]; exact dsc_dcs l hok
          simp only
          unfold mrM
          rw [hL]
          simp only
          rw [if_neg (by rw [List.length_map]; exact g2)]
        · have hk1 : k = 1 := Classical.byContradiction fun h9 => g1 (.inl ⟨h9, hk2⟩)
          subst hk1
          have hne : l ≠ [] := fun h9 => g1 (.inr ⟨rfl, h9⟩)
          obtain ⟨d, r, rfl⟩ := List.exists_cons_of_ne_nil hne
          have e1 : mNd 1 (d :: r) = .mk 6 0 [] [kV, kC, kL16] [.mk 3 2 [] [] [], dcNd d, .mk 5 0 [] [] (r.map dcNd)] := by unfold mNd; rw [if_neg (fun h9 => by cases h9)]; rfl
          rw [e1]
          rw [hA _ rfl (by simp [fldN, fldK])]
          have fL : fldN (.mk 6 0 [] [kV, kC, kL16] [.mk 3 2 [] [] [], dcNd d, .mk 5 0 [] [] (r.map dcNd)]) kL16 = some (.mk 5 0 [] [] (r.map dcNd)) := by simp [fldN, fldK, show ¬ kV = kL16 by decide, show ¬ kC = kL16 by decide]
          have fM : fldN (.mk 6 0 [] [kV, kC, kL16] [.mk 3 2 [] [] [], dcNd d, .mk 5 0 [] [] (r.map dcNd)]) kM = none := by simp [fldN, fldK, show ¬ kV = kM by decide, show ¬ kC = kM by decide, show ¬ kL16 = kM by decide]
          have fC : fldN (.mk 6 0 [] [kV, kC, kL16] [.mk 3 2 [] [] [], dcNd d, .mk 5 0 [] [] (r.map dcNd)]) kC = some (dcNd d) := by simp [fldN, fldK, show ¬ kV = kC by decide]
          unfold mrB
          rw [fL, fM]
          simp only
          rw [fC]
          simp only
          have hL : dscL (.mk 5 0 [] [] (r.map dcNd)) = some (r.map dcV) := by unfold dscL; rw [if_pos (show (Nd.mk 5 0 [] [] (r.map dcNd)).kd = 5 from rfl)]; exact dsc_dcs r (fun x hx => hok x (by simp [hx]))
          unfold mrL
          rw [dsc_dc d (hok d (by simp)), hL]
          simp only
          rw [if_neg (by rw [List.length_map]; simp at g2; omega)]
          rfl
      · cases h
end Go.Proofs.YtalnbddkhojjbaaGreatDoor
namespace Go.Proofs.YtalnbddkhojjbaaGreatDoor
open Go.RowKit

theorem mw_all (k : Int) (l : List Dc) (h : mwE k l = 0) : mwS k l = txtN (mNd k l) ∧ Gd (mNd k l) ∧ depN (mNd k l) ≤ 6 ∧ (mwS k l).length ≤ 4094 := by
  have h0 := h
  unfold mwE at h
  split at h
  · cases h
  · rename_i h1
    split at h
    · cases h
    · rename_i h2
      split at h
      · rename_i h3
        have hk : k = 2 ∨ l ≠ [] := by
          by_cases hk2 : k = 2
          · exact .inl hk2
          · exact .inr fun h9 => h1 (by
              by_cases hk1 : k = 1
              · exact .inr ⟨hk1, h9⟩
              · exact .inl ⟨hk1, hk2⟩)
        have ht : txtN (mNd k l) = mwT k l := by
          by_cases hk2 : k = 2
          · subst hk2; exact txt_m2 l
          · have hk1 : k = 1 := Classical.byContradiction fun h9 => h1 (.inl ⟨h9, hk2⟩)
            subst hk1
            obtain ⟨d, r, rfl⟩ := List.exists_cons_of_ne_nil (hk.resolve_left hk2)
            exact txt_m1 d r
        have hS : mwS k l = mwT k l := (prs_m k l h0).1
        refine ⟨by rw [hS, ht], gd_m k l (List.all_eq_true.1 h3) hk, dep_m k l hk, ?_⟩
        rw [hS]
        exact mwT_len k l (by omega)
      · cases h
theorem mRd_bad (b : List UInt8) (h : (prsA b).2.1 ≠ 0) : mRd b = (0, []) := by
  unfold mRd
  split
  · rfl
  · first | rfl | rw [if_pos h]
end Go.Proofs.YtalnbddkhojjbaaGreatDoor
