import Derived.Test.YtalnbddkhojjbaaGreatDoorQManM
import Derived.Test.YtalnbddkhojjbaaGreatDoorQJma
import Derived.Test.YtalnbddkhojjbaaGreatDoorQMan1
namespace Go.Proofs.YtalnbddkhojjbaaGreatDoor
open Go.RowKit

/-! What is written is read: a document's text is that of a value -/
def plB (b : UInt8) : Bool := decide (32 ≤ b.toNat) && decide (b.toNat < 127) && decide (b.toNat ≠ 34) && decide (b.toNat ≠ 92)
set_option maxRecDepth 100000 in
theorem plN_quo : ∀ n, n < 256 → plB (UInt8.ofNat n) = true → quo n = [UInt8.ofNat n] ∧ n < 128 := by decide +kernel
theorem plB_quo (b : UInt8) (h : plB b = true) : quo b.toNat = [b] ∧ b.toNat < 128 := by
  have h9 := plN_quo b.toNat b.toNat_lt (by rw [UInt8.ofNat_toNat]; exact h)
  rw [UInt8.ofNat_toNat] at h9
  exact h9
theorem rn_pl (x : List UInt8) (b : UInt8) (r : List UInt8) (hx : x = b :: r) (h : b.toNat < 128) : rn x = (b.toNat, 1) := by
  subst hx
  unfold rn
  rw [if_neg (by simp), show lB (b :: r) 0 = b from rfl, if_pos h]
theorem quF_pl (l : List UInt8) (hl : ∀ b ∈ l, plB b = true) : ∀ (f k : Nat) (out : List UInt8), l.length - k < f → k ≤ l.length → quF l f k out = some (out ++ l.drop k ++ [34])
  | 0, k, out, h, _ => by omega
  | f + 1, k, out, h, hk => by
    rw [quF]
    by_cases hlt : k < l.length
    · rw [if_pos hlt]
      have hd := List.drop_eq_getElem_cons hlt
      obtain ⟨q1, q2⟩ := plB_quo l[k] (hl _ (List.getElem_mem hlt))
      have hr := rn_pl (l.drop k) l[k] (l.drop (k + 1)) hd q2
      rw [hr]
      simp only
      rw [if_neg (by omega), q1, quF_pl l hl f (k + 1) (out ++ [l[k]]) (by omega) (by omega), hd]
      simp
    · rw [if_neg hlt, List.drop_of_length_le (by omega), List.append_nil]
theorem quA_pl (l : List UInt8) (hl : ∀ b ∈ l, plB b = true) : quA l = some ([34] ++ l ++ [34]) := by
  unfold quA
  rw [quF_pl l hl _ 0 [34] (by omega) (by omega)]
  simp
theorem quS_pl (l : List UInt8) (hl : ∀ b ∈ l, plB b = true) : quS l = [34] ++ l ++ [34] := by unfold quS; rw [quA_pl l hl]; rfl
theorem quE_pl (l : List UInt8) (hl : ∀ b ∈ l, plB b = true) : quE l = 0 := by unfold quE; rw [quA_pl l hl]; rfl
set_option maxRecDepth 100000 in
theorem digC_pl : ∀ i, i < 16 → plB (digC i) = true := by decide +kernel
/-- The values that a document is the text of. -/
def dcNd (d : Dc) : Nd := .mk 6 0 [] [kD, kS] [.mk 4 0 (textL d.key) [] [], .mk 3 d.size [] [] []]
def mNd (k : Int) (l : List Dc) : Nd := if k = 2 then .mk 6 0 [] [kV, kM] [.mk 3 2 [] [] [], .mk 5 0 [] [] (l.map dcNd)] else .mk 6 0 [] [kV, kC, kL16] [.mk 3 2 [] [] [], ((l.take 1).map dcNd).headD (.mk 1 0 [] [] []), .mk 5 0 [] [] ((l.drop 1).map dcNd)]
theorem hexL_pl (s : Nat → UInt8) : ∀ k, ∀ b ∈ hexL s k, plB b = true
  | 0, b, h => by simp [hexL] at h
  | k + 1, b, h => by
    rw [hexL] at h
    rcases List.mem_append.1 h with h | h
    · exact hexL_pl s k b h
    · have := (s k).toNat_lt
      simp at h
      rcases h with rfl | rfl
      · exact digC_pl _ (by omega)
      · exact digC_pl _ (by omega)
theorem textL_pl (s : Nat → UInt8) : ∀ b ∈ textL s, plB b = true := fun b h => by
  rcases List.mem_append.1 h with h | h
  · have h9 : ∀ b ∈ frontS, plB b = true := by decide +kernel
    exact h9 b h
  · exact hexL_pl s 32 b h
theorem key_pl : (∀ b ∈ kD, plB b = true) ∧ (∀ b ∈ kS, plB b = true) ∧ (∀ b ∈ kV, plB b = true) ∧ (∀ b ∈ kM, plB b = true) ∧ (∀ b ∈ kC, plB b = true) ∧ (∀ b ∈ kL16, plB b = true) := by decide +kernel
theorem txt_dc (d : Dc) : txtN (dcNd d) = dcT d := by
  unfold dcNd
  rw [txtN_mk]
  simp only [show (6 : Int) = 1 ↔ False by decide, show (6 : Int) = 2 ↔ False by decide, show (6 : Int) = 3 ↔ False by decide, show (6 : Int) = 4 ↔ False by decide, if_false, if_true]
  rw [txtO, txtO, txtO, txtN_mk, txtN_mk]
  simp only [show (4 : Int) = 1 ↔ False by decide, show (4 : Int) = 2 ↔ False by decide, show (4 : Int) = 3 ↔ False by decide, show (3 : Int) = 1 ↔ False by decide, show (3 : Int) = 2 ↔ False by decide, if_false, if_true, List.headD_cons, List.tail_cons, cond_true, cond_false]
  rw [quS_pl kD key_pl.1, quS_pl kS key_pl.2.1, quS_pl _ (textL_pl d.key)]
  unfold dcT kD kS
  simp [List.append_assoc]
theorem txt_dcs : ∀ (l : List Dc) (b : Bool), txtL (l.map dcNd) b = dcsT l b
  | [], b => by rw [List.map_nil, txtL, dcsT]
  | d :: r, b => by rw [List.map_cons, txtL, dcsT, txt_dc, txt_dcs r false]
theorem gd_dc (d : Dc) (h : dcOk d = true) : Gd (dcNd d) := by
  unfold dcOk at h
  simp only [Bool.and_eq_true, decide_eq_true_eq] at h
  refine .obj _ _ rfl (fun k hk => ?_) (by decide +kernel) (fun x hx => ?_)
  · simp at hk
    rcases hk with rfl | rfl
    · exact quE_pl _ key_pl.1
    · exact quE_pl _ key_pl.2.1
  · simp at hx
    rcases hx with rfl | rfl
    · exact .str _ (quE_pl _ (textL_pl d.key))
    · exact .num _ h.1 (by omega)
theorem txt_m2 (l : List Dc) : txtN (mNd 2 l) = mwT 2 l := by
  unfold mNd mwT
  rw [if_pos rfl, if_pos rfl, txtN_mk]
  simp only [show (6 : Int) = 1 ↔ False by decide, show (6 : Int) = 2 ↔ False by decide, show (6 : Int) = 3 ↔ False by decide, show (6 : Int) = 4 ↔ False by decide, if_false, if_true]
  rw [txtO, txtO, txtO, txtN_mk, txtN_mk]
  simp only [show (5 : Int) = 1 ↔ False by decide, show (5 : Int) = 2 ↔ False by decide, show (5 : Int) = 3 ↔ False by decide, show (5 : Int) = 4 ↔ False by decide, show (5 : Int) = 6 ↔ False by decide, show (3 : Int) = 1 ↔ False by decide, show (3 : Int) = 2 ↔ False by decide, if_false, if_true, List.headD_cons, List.tail_cons, cond_true, cond_false]
  rw [quS_pl kV key_pl.2.2.1, quS_pl kM key_pl.2.2.2.1, txt_dcs, show digN 2 = [50] by decide +kernel]
  unfold mHd kV kM
  simp [List.append_assoc]
theorem txt_m1 (d : Dc) (r : List Dc) : txtN (mNd 1 (d :: r)) = mwT 1 (d :: r) := by
  unfold mNd mwT
  rw [if_neg (by decide), if_neg (by decide), txtN_mk]
  simp only [show (6 : Int) = 1 ↔ False by decide, show (6 : Int) = 2 ↔ False by decide, show (6 : Int) = 3 ↔ False by decide, show (6 : Int) = 4 ↔ False by decide, if_false, if_true, List.take_succ_cons, List.take_zero, List.map_cons, List.map_nil, List.headD_cons, List.drop_succ_cons, List.drop_zero]
  rw [txtO, txtO, txtO, txtO, txt_dc, txtN_mk, txtN_mk]
  simp only [show (5 : Int) = 1 ↔ False by decide, show (5 : Int) = 2 ↔ False by decide, show (5 : Int) = 3 ↔ False by decide, show (5 : Int) = 4 ↔ False by decide, show (5 : Int) = 6 ↔ False by decide, show (3 : Int) = 1 ↔ False by decide, show (3 : Int) = 2 ↔ False by decide, if_false, if_true, List.headD_cons, List.tail_cons, cond_true, cond_false]
  rw [quS_pl kV key_pl.2.2.1, quS_pl kC key_pl.2.2.2.2.1, quS_pl kL16 key_pl.2.2.2.2.2, txt_dcs, show digN 2 = [50] by decide +kernel]
  unfold mHd kV kC kL16
  simp [dcsT, List.append_assoc]
theorem gd_m (k : Int) (l : List Dc) (hl : ∀ d ∈ l, dcOk d = true) (hk : k = 2 ∨ l ≠ []) : Gd (mNd k l) := by
  unfold mNd
  have hG : ∀ (m : List Dc), (∀ d ∈ m, d ∈ l) → Gd (.mk 5 0 [] [] (m.map dcNd)) := fun m hm => .list _ fun x hx => by
    obtain ⟨d, hd, rfl⟩ := List.mem_map.1 hx
    exact gd_dc d (hl d (hm d hd))
  split
  · refine .obj _ _ rfl (fun k hk => ?_) (by decide +kernel) (fun x hx => ?_)
    · simp at hk
      rcases hk with rfl | rfl
      · exact quE_pl _ key_pl.2.2.1
      · exact quE_pl _ key_pl.2.2.2.1
    · simp only [List.mem_cons, List.not_mem_nil, or_false] at hx
      rcases hx with rfl | rfl
      · exact .num _ (by omega) (by omega)
      · exact hG l (fun d h => h)
  · rename_i h2
    have hne : l ≠ [] := hk.resolve_left h2
    obtain ⟨d, r, rfl⟩ := List.exists_cons_of_ne_nil hne
    refine .obj _ _ rfl (fun k hk => ?_) (by decide +kernel) (fun x hx => ?_)
    · simp at hk
      rcases hk with rfl | rfl | rfl
      · exact quE_pl _ key_pl.2.2.1
      · exact quE_pl _ key_pl.2.2.2.2.1
      · exact quE_pl _ key_pl.2.2.2.2.2
    · simp only [List.mem_cons, List.not_mem_nil, or_false, List.take_succ_cons, List.take_zero, List.map_cons, List.map_nil, List.headD_cons, List.drop_succ_cons, List.drop_zero] at hx
      rcases hx with rfl | rfl | rfl
      · exact .num _ (by omega) (by omega)
      · exact gd_dc d (hl d (by simp))
      · exact hG r (fun d h => by simp [h])
theorem dep_dcs : ∀ (l : List Dc), depL (l.map dcNd) ≤ 1
  | [] => by rw [List.map_nil, depL]; omega
  | d :: r => by
    have h1 : depN (dcNd d) = 1 := by unfold dcNd; simp [depN_mk, depL]
    have := dep_dcs r
    rw [List.map_cons, depL, h1]
    omega
theorem dep_m (k : Int) (l : List Dc) (hk : k = 2 ∨ l ≠ []) : depN (mNd k l) ≤ 6 := by
  unfold mNd
  split
  · have := dep_dcs l
    simp [depN_mk, depL]
    omega
  · rename_i h2
    obtain ⟨d, r, rfl⟩ := List.exists_cons_of_ne_nil (hk.resolve_left h2)
    have := dep_dcs r
    have h1 : depN (dcNd d) = 1 := by unfold dcNd; simp [depN_mk, depL]
    simp [depN_mk, depL, h1]
    omega
theorem mwT_len (k : Int) (l : List Dc) (h : l.length ≤ 32) : (mwT k l).length ≤ 4094 := by
  unfold mwT mHd
  have h1 := dcsT_len l true
  have h2 := dcsT_len (l.take 1) true
  have h3 := dcsT_len (l.drop 1) true
  rw [List.length_take] at h2
  rw [List.length_drop] at h3
  split <;> simp only [List.length_append, List.length_cons, List.length_nil] <;> omega
/-- What is written, as a value. -/
theorem prs_m (k : Int) (l : List Dc) (h : mwE k l = 0) : mwS k l = mwT k l ∧ prsA (mwT k l) = (mNd k l, 0, 0) := by
  refine ⟨by unfold mwS; rw [if_pos h], ?_⟩
  unfold mwE at h
  split at h
  · cases h
  · rename_i h1
    split at h
    · cases h
    · rename_i h2
      split at h
      · rename_i h3
        have hk : k = 2 ∨ l ≠ [] := by
          by_cases hk2 : k = 2
          · exact .inl hk2
          · exact .inr fun h9 => h1 (by
              by_cases hk1 : k = 1
              · exact .inr ⟨hk1, h9⟩
              · exact .inl ⟨hk1, hk2⟩)
        have ht : txtN (mNd k l) = mwT k l := by
          by_cases hk2 : k = 2
          · subst hk2; exact txt_m2 l
          · have hk1 : k = 1 := Classical.byContradiction fun h9 => h1 (.inl ⟨h9, hk2⟩)
            subst hk1
            obtain ⟨d, r, rfl⟩ := List.exists_cons_of_ne_nil (hk.resolve_left hk2)
            exact txt_m1 d r
        have h9 := prs_txt (mNd k l) (gd_m k l (List.all_eq_true.1 h3) hk) (dep_m k l hk) (by rw [ht]; have := mwT_len k l (by omega); omega)
        rw [ht] at h9
        exact h9
      · cases h
def dcV (d : Dc) : Dc := ⟨pval (textL d.key), d.size⟩
theorem dsc_dc (d : Dc) (h : dcOk d = true) : dscN (dcNd d) = some (dcV d) := by
  unfold dcOk at h
  simp only [Bool.and_eq_true, decide_eq_true_eq] at h
  have h1 : fldN (dcNd d) kD = some (.mk 4 0 (textL d.key) [] []) := by unfold dcNd; simp [fldN, fldK]
  have h2 : fldN (dcNd d) kS = some (.mk 3 d.size [] [] []) := by unfold dcNd; simp [fldN, fldK, show ¬ kD = kS by decide]
  unfold dscN
  rw [h1, h2]
  simp only
  rw [if_pos ⟨rfl, rfl, h.1, h.2, (text_good d.key).1⟩]
  rfl
theorem dsc_dcs : ∀ (l : List Dc), (∀ d ∈ l, dcOk d = true) → dscA (l.map dcNd) = some (l.map dcV)
  | [], _ => rfl
  | d :: r, h => by rw [List.map_cons, dscA, dsc_dc d (h d (by simp)), dsc_dcs r (fun x hx => h x (by simp [hx]))]; rfl
theorem same_dcV : ∀ (l : List Dc), sameD (l.map dcV) l = true
  | [] => rfl
  | d :: r => by
    rw [List.map_cons, sameD, same_dcV r, Bool.and_true]
    unfold dcEq dcV
    rw [(dg_secEq_iff _ _).2 (fun i hi => (text_good d.key).2 i hi)]
    simp
/-- P16.3: what is written is read as it was. -/
theorem back16 (k : Int) (l : List Dc) (h : mwE k l = 0) : mRd (mwS k l) = (k, l.map dcV) := by
  obtain ⟨h1, h2⟩ := prs_m k l h
  have h0 := h
  unfold mwE at h
  split at h
  · cases h
  · rename_i g1
    split at h
    · cases h
    · rename_i g2
      split at h
      · rename_i g3
        have hok := List.all_eq_true.1 g3
        rw [h1]
        unfold mRd
        rw [if_neg (by have := mwT_len k l (by omega); omega), h2]
        simp only
        rw [if_neg (by simp)]
        have hA : ∀ D : Nd, D.kd = 6 → fldN D kV = some (.mk 3 2 [] [] []) → mrN D = mrB D := fun D e1 e2 => by
          unfold mrN mrA
          rw [if_neg (fun h9 => h9 e1), e2]
          exact if_neg (fun h9 => h9.elim (fun h8 => h8 rfl) (fun h8 => h8 rfl))
        by_cases hk2 : k = 2
        · subst hk2
          have fV : fldN (mNd 2 l) kV = some (.mk 3 2 [] [] []) := by unfold mNd; rw [if_pos rfl]; simp [fldN, fldK]
          have fL : fldN (mNd 2 l) kL16 = none := by unfold mNd; rw [if_pos rfl]; simp [fldN, fldK, show ¬ kV = kL16 by decide, show ¬ kM = kL16 by decide]
          have fM : fldN (mNd 2 l) kM = some (.mk 5 0 [] [] (l.map dcNd)) := by unfold mNd; rw [if_pos rfl]; simp [fldN, fldK, show ¬ kV = kM by decide]
          rw [hA _ (by unfold mNd; rw [if_pos rfl]; rfl) fV]
          unfold mrB
          rw [fL, fM]
          have hL : dscL (.mk 5 0 [] [] (l.map dcNd)) = some (l.map dcV) := by unfold dscL; rw [if_pos (show (Nd.mk 5 0 [] [] (l.map dcNd)).kd = 5 from rfl)]; exact dsc_dcs l hok
          simp only
          unfold mrM
          rw [hL]
          simp only
          rw [if_neg (by rw [List.length_map]; exact g2)]
        · have hk1 : k = 1 := Classical.byContradiction fun h9 => g1 (.inl ⟨h9, hk2⟩)
          subst hk1
          have hne : l ≠ [] := fun h9 => g1 (.inr ⟨rfl, h9⟩)
          obtain ⟨d, r, rfl⟩ := List.exists_cons_of_ne_nil hne
          have e1 : mNd 1 (d :: r) = .mk 6 0 [] [kV, kC, kL16] [.mk 3 2 [] [] [], dcNd d, .mk 5 0 [] [] (r.map dcNd)] := by unfold mNd; rw [if_neg (fun h9 => by cases h9)]; rfl
          rw [e1]
          rw [hA _ rfl (by simp [fldN, fldK])]
          have fL : fldN (.mk 6 0 [] [kV, kC, kL16] [.mk 3 2 [] [] [], dcNd d, .mk 5 0 [] [] (r.map dcNd)]) kL16 = some (.mk 5 0 [] [] (r.map dcNd)) := by simp [fldN, fldK, show ¬ kV = kL16 by decide, show ¬ kC = kL16 by decide]
          have fM : fldN (.mk 6 0 [] [kV, kC, kL16] [.mk 3 2 [] [] [], dcNd d, .mk 5 0 [] [] (r.map dcNd)]) kM = none := by simp [fldN, fldK, show ¬ kV = kM by decide, show ¬ kC = kM by decide, show ¬ kL16 = kM by decide]
          have fC : fldN (.mk 6 0 [] [kV, kC, kL16] [.mk 3 2 [] [] [], dcNd d, .mk 5 0 [] [] (r.map dcNd)]) kC = some (dcNd d) := by simp [fldN, fldK, show ¬ kV = kC by decide]
          unfold mrB
          rw [fL, fM]
          simp only
          rw [fC]
          simp only
          have hL : dscL (.mk 5 0 [] [] (r.map dcNd)) = some (r.map dcV) := by unfold dscL; rw [if_pos (show (Nd.mk 5 0 [] [] (r.map dcNd)).kd = 5 from rfl)]; exact dsc_dcs r (fun x hx => hok x (by simp [hx]))
          unfold mrL
          rw [dsc_dc d (hok d (by simp)), hL]
          simp only
          rw [if_neg (by rw [List.length_map]; simp at g2; omega)]
          rfl
      · cases h
end Go.Proofs.YtalnbddkhojjbaaGreatDoor
namespace Go.Proofs.YtalnbddkhojjbaaGreatDoor
open Go.RowKit

/-! What is written, with blanks around it, without its last byte, with one more -/
theorem tkG_at (g : Nat → List UInt8) : ∀ (D : TD) (k i j : Nat) (x : List UInt8 × List UInt8 × Tk), D[j]? = some x → ∃ p, (tkG g k i D)[j]? = some (atT x.2.2 p)
  | (b, z, t) :: D, k, i, 0, x, h => by
    simp at h
    subst h
    exact ⟨_, by rw [tkG]; rfl⟩
  | (b, z, t) :: D, k, i, j + 1, x, h => by
    obtain ⟨p, hp⟩ := tkG_at g D (k + (g i).length + b.length + z.length) (i + 1) j x (by simpa using h)
    exact ⟨p, by rw [tkG]; simpa using hp⟩
theorem mt_tkG (g : Nat → List UInt8) (D : TD) (k i : Nat) : Mt (tkG g k i D) 0 D := by
  refine ⟨by rw [tkG_len, Nat.zero_add]; exact Nat.le_refl _, fun j x h => ?_⟩
  obtain ⟨p, hp⟩ := tkG_at g D k i j x h
  unfold tkP
  rw [Nat.zero_add, hp]
  exact ⟨rfl, rfl, rfl⟩
theorem Mt.as {ts : List Tk} {i : Nat} {D E : TD} (h : Mt ts i D) (he : D.map (fun x => x.2.2) = E.map (fun x => x.2.2)) : Mt ts i E := by
  have hl : D.length = E.length := by have := congrArg List.length he; simpa using this
  refine ⟨by have := h.1; omega, fun j x hx => ?_⟩
  have hj := (List.getElem?_eq_some_iff.1 hx).1
  have hy : D[j]? = some D[j] := List.getElem?_eq_getElem (by omega)
  have h9 := congrArg (fun q => q[j]?) he
  simp only [List.getElem?_map, hx, hy, Option.map_some, Option.some.injEq] at h9
  have := h.2 j _ hy
  rw [h9] at this
  exact this
theorem prs_cut (l : List UInt8) (ts : List Tk) (hl : l.length ≤ 4096) (h : cutA l = (some ts, 0)) : prsA l = prsT ts (l.length : Int) := by
  have hE : cutE l = 0 := by unfold cutE; rw [if_neg (by omega), h]; rfl
  have hL : cutL l = ts := by unfold cutL; rw [if_neg (by omega), h]; rfl
  unfold prsA
  rw [if_pos hE, hL]
def g32 (i : Nat) : List UInt8 := if i = 0 then [32] else []
theorem g32_all (i : Nat) : allB (g32 i) := by
  unfold g32
  split
  · intro c hc; simp at hc; subst hc; decide
  · exact allB_nil
theorem layG_pos : ∀ (D : TD) (i : Nat), layG g32 (i + 1) D = lay0 D
  | [], _ => rfl
  | (b, z, t) :: D, i => by rw [layG, lay0, layG_pos D (i + 1), show g32 (i + 1) = [] from rfl, List.nil_append]
theorem txt_obj (ks : List (List UInt8)) (vs : List Nd) : txtN (.mk 6 0 [] ks vs) = [123] ++ (txtO ks vs true ++ [125]) := by
  have e : lyN (.mk 6 0 [] ks vs) = ([123], [], tkO 1) :: (lyO ks vs true ++ [([125], [], tkO 2)]) := by rw [lyN_mk]; rfl
  rw [← lay_txt, e, lay0, lay0_app, layO_txt vs ks true (fun d _ => lay_txt d)]
  rfl
theorem prs_blank (ks : List (List UInt8)) (vs : List Nd) (hg : Gd (.mk 6 0 [] ks vs)) (hd : depN (.mk 6 0 [] ks vs) ≤ 6) (hl : (txtN (.mk 6 0 [] ks vs)).length + 2 ≤ 4096) : prsA ([32] ++ txtN (.mk 6 0 [] ks vs) ++ [10]) = (.mk 6 0 [] ks vs, 0, 0) := by
  have hV : VD (([123], [], tkO 1) :: (lyO ks vs true ++ [([125], [10], tkO 2)])) := by
    cases hg using Gd.rc with
    | obj _ _ hl hk hdu h r9 =>
      clear r9
      have h9 : VD [([125], [10], tkO 2)] := ⟨tok_sign 125 (tkO 2) rfl (by decide) _, by decide, fun c hc => by simp at hc; subst hc; decide, trivial⟩
      exact ⟨tok_sign 123 (tkO 1) rfl (by decide) _, by decide, allB_nil, (vd_O vs ks true _ hl hk (fun d _ => vd_N d) h h9 (sf_sign 125 _ (by decide))).1⟩
  have hc := cut_gaps g32 g32_all _ hV
  have hlay : layG g32 0 (([123], [], tkO 1) :: (lyO ks vs true ++ [([125], [10], tkO 2)])) = [32] ++ txtN (.mk 6 0 [] ks vs) ++ [10] := by
    rw [layG, layG_pos, lay0_app, layO_txt vs ks true (fun d _ => lay_txt d), txt_obj]
    show [32] ++ ([123] ++ ([] ++ (txtO ks vs true ++ [125, 10]))) = _
    simp
  rw [hlay] at hc
  have hln : ([32] ++ txtN (.mk 6 0 [] ks vs) ++ [10]).length ≤ 4096 := by simp only [List.length_append, List.length_cons, List.length_nil]; omega
  rw [prs_cut _ _ hln hc]
  generalize hEn : ((([32] ++ txtN (.mk 6 0 [] ks vs) ++ [10]).length : Nat) : Int) = en
  have e : lyN (.mk 6 0 [] ks vs) = ([123], [], tkO 1) :: (lyO ks vs true ++ [([125], [], tkO 2)]) := by rw [lyN_mk]; rfl
  have hm : Mt (tkG g32 0 0 (([123], [], tkO 1) :: (lyO ks vs true ++ [([125], [10], tkO 2)]))) 0 (lyN (.mk 6 0 [] ks vs)) := (mt_tkG g32 _ 0 0).as (by rw [e]; simp)
  have hlen : (tkG g32 0 0 (([123], [], tkO 1) :: (lyO ks vs true ++ [([125], [10], tkO 2)]))).length = (lyN (.mk 6 0 [] ks vs)).length := by rw [tkG_len, e]; simp
  generalize tkG g32 0 0 (([123], [], tkO 1) :: (lyO ks vs true ++ [([125], [10], tkO 2)])) = ts at hm hlen ⊢
  have hp := prs_N _ ts en (2 * ts.length + 1) 0 0 0 hg hm (by omega) (by omega)
  have he : endP ts en (.mk 6 0 [] ks vs, st0 (0 + (lyN (.mk 6 0 [] ks vs)).length) 0 0) = st0 (0 + (lyN (.mk 6 0 [] ks vs)).length) 0 0 := by
    unfold endP
    exact if_neg (by rintro ⟨-, h⟩; simp only [st0] at h; omega)
  unfold prsT
  rw [show ps0 = st0 0 0 0 from rfl, hp, he]
  rfl
/-- A sign more. -/
theorem prs_more (d : Nd) (hg : Gd d) (hd : depN d ≤ 6) (hl : (txtN d).length + 1 ≤ 4096) : (prsA (txtN d ++ [125])).2.1 ≠ 0 := by
  have h9 : VD [([125], [], tkO 2)] := ⟨tok_sign 125 (tkO 2) rfl (by decide) _, by decide, allB_nil, trivial⟩
  have hV := vd_N d [([125], [], tkO 2)] hg h9 (sf_sign 125 _ (by decide))
  have hc := cut0 _ hV
  rw [lay0_app, lay_txt] at hc
  have hc : cutA (txtN d ++ [125]) = (some (tks 0 (lyN d ++ [([125], [], tkO 2)])), 0) := hc
  rw [prs_cut _ _ (by simp only [List.length_append, List.length_cons, List.length_nil]; omega) hc]
  generalize (((txtN d ++ [125]).length : Nat) : Int) = en
  have hm := (mt_tks (lyN d ++ [([125], [], tkO 2)]) 0).app.1
  have hlen : (tks 0 (lyN d ++ [([125], [], tkO 2)])).length = (lyN d).length + 1 := by rw [tks_len]; simp
  generalize tks 0 (lyN d ++ [([125], [], tkO 2)]) = ts at hm hlen ⊢
  have hp := prs_N d ts en (2 * ts.length + 1) 0 0 0 hg hm (by omega) (by omega)
  have he : endP ts en (d, st0 (0 + (lyN d).length) 0 0) = failP (st0 (0 + (lyN d).length) 0 0) 14 (atP ts en (st0 (0 + (lyN d).length) 0 0)) := by
    unfold endP
    exact if_pos ⟨rfl, by simp only [st0]; omega⟩
  unfold prsT
  rw [show ps0 = st0 0 0 0 from rfl, hp, he]
  unfold failP
  rw [if_pos (show (st0 (0 + (lyN d).length) 0 0).e = 0 from rfl)]
  simp only
  rw [if_neg (by decide)]
  show (14 : Int) ≠ 0
  decide
/-- A sign less. -/
theorem prs_Oc (ts : List Tk) (en : Int) (b : Int) (o : Nat) : ∀ (vs : List Nd) (ks qs : List (List UInt8)) (acc : List Nd) (f i : Nat), vs ≠ [] → ks.length = vs.length → dupK (qs ++ ks) = false → (∀ d ∈ vs, Gd d) → Mt ts i (lyO ks vs true) → ts.length = i + (lyO ks vs true).length → (lyO ks vs true).length + 1 ≤ f → depL vs + (o + 1) ≤ 6 →
    (prsF ts en f ((some (.inr (qs, acc)))) (st0 i b (o + 1))).2.e = 31
  | [], _, _, _, _, _, h, _, _, _, _, _, _, _ => absurd rfl h
  | d :: r, [], _, _, _, _, _, h, _, _, _, _, _, _ => by simp at h
  | d :: r, k :: ks, qs, acc, f, i, _, hl, hdu, hg, hm, ht, hf, hd => by
    obtain ⟨f, rfl⟩ : ∃ q, f = q + 1 := ⟨f - 1, by omega⟩
    rw [depL] at hd
    have e0 : lyO (k :: ks) (d :: r) true = (quS k, [], ⟨11, 0, 0, k⟩) :: ([58], [], tkO 5) :: (lyN d ++ lyO ks r false) := by rw [lyO]; rfl
    rw [e0] at hm hf ht
    simp only [List.length_cons, List.length_append] at hf ht
    obtain ⟨l1, ⟨k1, -, t1⟩, m1⟩ := Mt.cons hm
    obtain ⟨l2, ⟨k2, -, -⟩, m2⟩ := Mt.cons m1
    obtain ⟨m3, m4⟩ := m2.app
    rw [prsF]
    unfold pairP
    have htw : twcP ts en qs (st0 i b (o + 1)) = st0 (i + 1) b (o + 1) := by
      unfold twcP
      rw [if_neg]
      · rfl
      · show ¬ (tkP ts i).text ∈ qs
        rw [t1]
        exact dup_app qs k ks hdu
    rw [isP_eq _ _ _ _ _ l1, decide_eq_true (by rw [k1]), cond_true, htw, need_st ts en 5 _ b _ l2 k2, prs_N d ts en f (i + 1 + 1) b (o + 1) (hg d (by simp)) m3 (by omega) (by omega)]
    simp only
    unfold objE
    simp only
    rw [show (tkP ts (st0 i b (o + 1)).i).text = k from t1]
    cases r with
    | nil =>
      have e1 : lyO ks ([] : List Nd) false = [] := by cases ks <;> rw [lyO]
      rw [e1, List.length_nil] at ht
      rw [isP_end _ _ _ _ _ (by omega), cond_false]
      unfold needP
      rw [isP_end _ _ _ _ _ (by omega), cond_false]
      rfl
    | cons a r =>
      have e1 : lyO ks (a :: r) false = ([44], [], tkO 6) :: lyO ks (a :: r) true := by rw [lyO, lyO]; rfl
      rw [e1] at m4 hf ht
      obtain ⟨l3, ⟨k3, -, -⟩, m5⟩ := Mt.cons m4
      rw [isP_eq _ _ _ _ _ l3, decide_eq_true (by rw [k3]; rfl), cond_true, adv_st]
      exact prs_Oc ts en b o (a :: r) ks (qs ++ [k]) (acc ++ [d]) f (i + 1 + 1 + (lyN d).length + 1) (by simp) (by simpa using hl) (by simpa using hdu) (fun x hx => hg x (by simp [hx])) m5 (by simp only [List.length_cons] at ht; omega) (by simp only [List.length_cons] at hf; have := lyN_pos d; omega) (by omega)
theorem prs_less (ks : List (List UInt8)) (vs : List Nd) (hg : Gd (.mk 6 0 [] ks vs)) (h0 : vs ≠ []) (hd : depN (.mk 6 0 [] ks vs) ≤ 6) (hl : (txtN (.mk 6 0 [] ks vs)).length ≤ 4096) : (prsA ([123] ++ txtO ks vs true)).2.1 ≠ 0 := by
  rw [txt_obj] at hl
  simp only [List.length_append, List.length_cons, List.length_nil] at hl
  obtain ⟨hkl, hk, hdu, h⟩ : ks.length = vs.length ∧ (∀ k ∈ ks, quE k = 0) ∧ dupK ks = false ∧ ∀ d ∈ vs, Gd d := by
    cases hg using Gd.rc with
    | obj _ _ hl hk hdu h r9 => clear r9; exact ⟨hl, hk, hdu, h⟩
  have hV : VD (([123], [], tkO 1) :: lyO ks vs true) := by
    have h9 := (vd_O vs ks true [] hkl hk (fun d _ => vd_N d) h trivial (.inl rfl)).1
    rw [List.append_nil] at h9
    exact ⟨tok_sign 123 (tkO 1) rfl (by decide) _, by decide, allB_nil, h9⟩
  have hc := cut0 _ hV
  have hlay : lay0 (([123], [], tkO 1) :: lyO ks vs true) = [123] ++ txtO ks vs true := by
    rw [lay0, layO_txt vs ks true (fun d _ => lay_txt d)]; rfl
  rw [hlay] at hc
  rw [prs_cut _ _ (by simp only [List.length_append, List.length_cons, List.length_nil]; omega) hc]
  generalize ((([123] ++ txtO ks vs true).length : Nat) : Int) = en
  have hm := mt_tks (([123], [], tkO 1) :: lyO ks vs true) 0
  have hlen : (tks 0 (([123], [], tkO 1) :: lyO ks vs true)).length = (lyO ks vs true).length + 1 := by rw [tks_len]; simp
  generalize tks 0 (([123], [], tkO 1) :: lyO ks vs true) = ts at hm hlen ⊢
  obtain ⟨l1, ⟨k1, -, -⟩, m1⟩ := Mt.cons hm
  have hp : (prsF ts en (2 * ts.length + 1) none (st0 0 0 0)).2.e = 31 := by
    rw [prsF, if_neg (by show ¬ (0 : Int) ≠ 0; simp)]
    simp only [isP_eq _ _ _ _ _ l1, k1]
    show (objB ts (prsF ts en (2 * ts.length)) (st0 (0 + 1) 0 0)).2.e = 31
    unfold objB
    rw [opn_st ts (0 + 1) 0 0 (by omega)]
    rw [depN_mk, if_pos (.inr rfl)] at hd
    obtain ⟨a, r, rfl⟩ := List.exists_cons_of_ne_nil h0
    have hh : isP ts 2 (st0 (0 + 1) 0 (0 + 1)) = false := by
      have e2 : lyO ks (a :: r) true = (quS (ks.headD []), [], ⟨11, 0, 0, ks.headD []⟩) :: ([58], [], tkO 5) :: (lyN a ++ lyO ks.tail r false) := by rw [lyO]; rfl
      rw [e2] at m1
      obtain ⟨l2, ⟨k2, -, -⟩, -⟩ := Mt.cons m1
      rw [isP_eq _ _ _ _ _ l2, decide_eq_false (by rw [k2]; show ¬ (11 : Int) = 2; decide)]
    rw [hh, cond_false]
    exact prs_Oc ts en 0 0 (a :: r) ks [] [] (2 * ts.length) (0 + 1) (by simp) hkl hdu h m1 (by omega) (by omega) (by omega)
  unfold prsT
  rw [show ps0 = st0 0 0 0 from rfl]
  generalize prsF ts en (2 * ts.length + 1) none (st0 0 0 0) = R at hp ⊢
  have he : endP ts en R = R.2 := by
    unfold endP
    exact if_neg (fun h9 => by rw [hp] at h9; cases h9.1)
  rw [he, if_neg (by rw [hp]; decide)]
  show R.2.e ≠ 0
  rw [hp]
  decide
/-! Of documents -/
theorem mNd_form (k : Int) (l : List Dc) : ∃ ks vs, mNd k l = .mk 6 0 [] ks vs ∧ vs ≠ [] := by
  unfold mNd
  split
  · exact ⟨_, _, rfl, by simp⟩
  · exact ⟨_, _, rfl, by simp⟩
theorem mw_all (k : Int) (l : List Dc) (h : mwE k l = 0) : mwS k l = txtN (mNd k l) ∧ Gd (mNd k l) ∧ depN (mNd k l) ≤ 6 ∧ (mwS k l).length ≤ 4094 := by
  have h0 := h
  unfold mwE at h
  split at h
  · cases h
  · rename_i h1
    split at h
    · cases h
    · rename_i h2
      split at h
      · rename_i h3
        have hk : k = 2 ∨ l ≠ [] := by
          by_cases hk2 : k = 2
          · exact .inl hk2
          · exact .inr fun h9 => h1 (by
              by_cases hk1 : k = 1
              · exact .inr ⟨hk1, h9⟩
              · exact .inl ⟨hk1, hk2⟩)
        have ht : txtN (mNd k l) = mwT k l := by
          by_cases hk2 : k = 2
          · subst hk2; exact txt_m2 l
          · have hk1 : k = 1 := Classical.byContradiction fun h9 => h1 (.inl ⟨h9, hk2⟩)
            subst hk1
            obtain ⟨d, r, rfl⟩ := List.exists_cons_of_ne_nil (hk.resolve_left hk2)
            exact txt_m1 d r
        have hS : mwS k l = mwT k l := (prs_m k l h0).1
        refine ⟨by rw [hS, ht], gd_m k l (List.all_eq_true.1 h3) hk, dep_m k l hk, ?_⟩
        rw [hS]
        exact mwT_len k l (by omega)
      · cases h
theorem mRd_bad (b : List UInt8) (h : (prsA b).2.1 ≠ 0) : mRd b = (0, []) := by
  unfold mRd
  split
  · rfl
  · first | rfl | rw [if_pos h]
theorem back_blank16 (k : Int) (l : List Dc) (h : mwE k l = 0) : mRd ([32] ++ mwS k l ++ [10]) = (k, l.map dcV) := by
  obtain ⟨h1, h2, h3, h4⟩ := mw_all k l h
  have h5 := back16 k l h
  have h6 := (prs_m k l h).2
  rw [← (prs_m k l h).1] at h6
  unfold mRd at h5 ⊢
  rw [if_neg (by omega), h6] at h5
  rw [if_neg (by simp only [List.length_append, List.length_cons, List.length_nil]; omega)]
  obtain ⟨ks, vs, e1, e2⟩ := mNd_form k l
  have h7 := prs_blank ks vs (by rw [← e1]; exact h2) (by rw [← e1]; exact h3) (by rw [← e1, ← h1]; omega)
  rw [← e1, ← h1] at h7
  rw [h7]
  exact h5
theorem back_more16 (k : Int) (l : List Dc) (h : mwE k l = 0) : mRd (mwS k l ++ [125]) = (0, []) := by
  obtain ⟨h1, h2, h3, h4⟩ := mw_all k l h
  refine mRd_bad _ ?_
  rw [h1]
  exact prs_more _ h2 h3 (by rw [← h1]; omega)
theorem back_less16 (k : Int) (l : List Dc) (h : mwE k l = 0) : mRd ((mwS k l).take ((mwS k l).length - 1)) = (0, []) ∧ 0 < (mwS k l).length := by
  obtain ⟨h1, h2, h3, h4⟩ := mw_all k l h
  obtain ⟨ks, vs, e1, e2⟩ := mNd_form k l
  have e3 : mwS k l = ([123] ++ txtO ks vs true) ++ [125] := by rw [h1, e1, txt_obj]; simp
  have e4 : (mwS k l).take ((mwS k l).length - 1) = [123] ++ txtO ks vs true := by
    rw [e3, List.length_append, List.length_singleton, Nat.add_sub_cancel, List.take_left]
  refine ⟨?_, by rw [e3]; simp⟩
  rw [e4]
  refine mRd_bad _ (prs_less ks vs (by rw [← e1]; exact h2) e2 (by rw [← e1]; exact h3) (by rw [← e1, ← h1]; omega))
theorem mwE_in (k : Int) (l : List Dc) : mwE k l = 0 ∨ mwE k l = 1 ∨ mwE k l = 2 ∨ mwE k l = 13 := by
  unfold mwE
  split
  · exact .inr (.inl rfl)
  · split
    · exact .inr (.inr (.inl rfl))
    · split
      · exact .inl rfl
      · exact .inr (.inr (.inr rfl))
end Go.Proofs.YtalnbddkhojjbaaGreatDoor
