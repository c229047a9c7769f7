import Derived.Test.YtalnbddkhojjbaaGreatDoorQNum
import Derived.Test.YtalnbddkhojjbaaGreatDoorQLex9
namespace Go.Proofs.YtalnbddkhojjbaaGreatDoor
open Go.RowKit

theorem lB_app9 (b r : List UInt8) (j : Nat) (h : j < b.length) : lB (b ++ r) j = lB b j := by unfold lB; rw [List.getElem?_append_left h]
theorem lB_app0 (b r : List UInt8) (h : 0 < b.length) : lB (b ++ r) 0 = lB b 0 := lB_app9 b r 0 h
theorem esc_local (x x' : List UInt8) (m : List UInt8) (j : Nat) (h : escS x = (m, j)) (hj : j ≠ 0) (hl : j ≤ x'.length) (he : ∀ i, i < j → lB x' i = lB x i) : escS x' = (m, j) ∧ j ≤ x.length := by
  have key : ∀ (y : List UInt8), escU y = (m, j) → j = 6 ∧ 6 ≤ y.length ∧ lB y 1 = 117 ∧ ∃ v, hx y 4 = some v ∧ ¬ (55296 ≤ v ∧ v ≤ 57343) ∧ enc v = m := fun y hy => by
    unfold escU at hy
    split at hy
    · cases hy; exact absurd rfl hj
    · rename_i h6
      split at hy
      · cases hy; exact absurd rfl hj
      · rename_i v hv
        split at hy
        · cases hy; exact absurd rfl hj
        · rename_i hs
          cases hy
          exact ⟨rfl, by omega, by
            rcases Classical.em (lB y 1 = 117) with h9 | h9
            · exact h9
            · exact absurd (Or.inr h9) h6, v, hv, hs, rfl⟩
  have back : escU x = (m, j) → escU x' = (m, j) ∧ j ≤ x.length := fun hy => by
    obtain ⟨h6, hl6, h117, v, hv, hs, hm⟩ := key x hy
    have e2 : ∀ k, k ≤ 4 → hx x' k = hx x k := fun k => by
      induction k with
      | zero => intro _; rfl
      | succ k ih =>
        intro hk
        rw [hx, hx, ih (by omega), he (2 + k) (by omega)]
    refine ⟨?_, by omega⟩
    unfold escU
    rw [if_neg (by rw [he 1 (by omega)]; intro h9; rcases h9 with h9 | h9; · omega
                   · exact h9 h117), e2 4 (by omega), hv]
    simp only
    rw [if_neg hs, hm, h6]
  unfold escS at h
  split at h
  · rename_i h1
    split at h
    · rename_i i hi
      cases h
      refine ⟨?_, by omega⟩
      unfold escS
      rw [if_pos (by omega), he 1 (by omega), hi]
    · rename_i hi
      obtain ⟨b1, b2⟩ := back h
      refine ⟨?_, b2⟩
      obtain ⟨h6, -⟩ := key x h
      unfold escS
      rw [if_pos (by omega), he 1 (by omega), hi]
      exact b1
  · rename_i h1
    obtain ⟨h6, h7, -⟩ := key x h
    omega
theorem rn_local (x x' : List UInt8) (v n : Nat) (h : rn x = (v, n)) (hn : n ≠ 0) (he : x'.take n = x.take n) : rn x' = (v, n) := by
  obtain ⟨e1, e2, e3⟩ := enc_rn x v n h hn
  have h9 : x' = enc v ++ x'.drop n := by rw [← e1, ← he, List.take_append_drop]
  have hlen : (enc v).length = n := by rw [← e1, List.length_take]; omega
  rw [h9, rn_enc v e2, hlen]
theorem lB_take (x x' : List UInt8) (n : Nat) (he : x'.take n = x.take n) (i : Nat) (hi : i < n) : lB x' i = lB x i := by
  unfold lB
  have h1 : (x'.take n)[i]? = x'[i]? := by rw [List.getElem?_take, if_pos hi]
  have h2 : (x.take n)[i]? = x[i]? := by rw [List.getElem?_take, if_pos hi]
  rw [← h1, ← h2, he]
theorem piece_local (x x' m : List UInt8) (j : Nat) (h : piece x = (m, j)) (hj : j ≠ 0) (hl : j ≤ x'.length) (he : x'.take j = x.take j) : piece x' = (m, j) ∧ j ≤ x.length := by
  have h0 := lB_take x x' j he 0 (by omega)
  unfold piece at h ⊢
  rw [h0]
  split at h
  · rename_i h92
    rw [if_pos h92]
    exact esc_local x x' m j h hj hl (fun i hi => lB_take x x' j he i hi)
  · rename_i h92
    rw [if_neg h92]
    split at h
    · cases h; exact absurd rfl hj
    · rename_i h32
      cases hr : rn x with
      | mk v n =>
        rw [hr] at h h32
        simp only [Prod.mk.injEq] at h h32
        obtain ⟨hm, rfl⟩ := h
        rw [rn_local x x' v n hr hj he]
        simp only
        rw [if_neg h32, he, hm]
        exact ⟨rfl, (enc_rn x v n hr hj).2.2⟩
theorem take_drop_eq {x x' : List UInt8} {n k j : Nat} (he : x'.take n = x.take n) (h : k + j ≤ n) : (x'.drop k).take j = (x.drop k).take j := by
  have h1 : ∀ y : List UInt8, (y.drop k).take j = ((y.take n).drop k).take j := fun y => by
    rw [List.drop_take, List.take_take, Nat.min_eq_left (by omega)]
  rw [h1 x', h1 x, he]
theorem txt_ge (x : List UInt8) : ∀ f k out m n, txt x f k out = (m, n) → n ≠ 0 → k < n ∧ n ≤ x.length
  | 0, k, out, m, n, h, hn => by rw [txt] at h; cases h; exact absurd rfl hn
  | f + 1, k, out, m, n, h, hn => by
    rw [txt] at h
    split at h
    · rename_i hk
      split at h
      · cases h; omega
      · split at h
        · cases h; exact absurd rfl hn
        · have := txt_ge x f _ _ m n h hn; omega
    · cases h; exact absurd rfl hn
theorem txt_local (x x' : List UInt8) : ∀ f k out m n, txt x f k out = (m, n) → n ≠ 0 → n ≤ x'.length → x'.take n = x.take n → ∀ f', x'.length < f' + k → txt x' f' k out = (m, n)
  | 0, k, out, m, n, h, hn, _, _, f', _ => by rw [txt] at h; cases h; exact absurd rfl hn
  | f + 1, k, out, m, n, h, hn, hl, he, f', hf => by
    obtain ⟨hk, hnx⟩ := txt_ge x _ _ _ m n h hn
    obtain ⟨f', rfl⟩ : ∃ g, f' = g + 1 := ⟨f' - 1, by omega⟩
    rw [txt] at h
    rw [txt, if_pos (by omega), lB_take x x' n he k hk]
    rw [if_pos (by omega)] at h
    split at h
    · rename_i h34
      rw [if_pos h34]; exact h
    · rename_i h34
      rw [if_neg h34]
      split at h
      · cases h; exact absurd rfl hn
      · rename_i hp
        have h9 := txt_ge x f _ _ m n h hn
        cases hpc : piece (x.drop k) with
        | mk pm pj =>
          rw [hpc] at h hp h9
          simp only at h hp h9
          obtain ⟨hp', -⟩ := piece_local (x.drop k) (x'.drop k) pm pj hpc hp (by rw [List.length_drop]; omega) (take_drop_eq he (by omega))
          rw [hp']
          simp only
          rw [if_neg hp]
          exact txt_local x x' f _ _ m n h hn hl he f' (by omega)
def sf (r : List UInt8) : Prop := r = [] ∨ inW (lB r 0) = false
def allW (b : List UInt8) : Prop := ∀ c ∈ b, inW c = true
theorem allW_nil : allW [] := fun _ h => absurd h List.not_mem_nil
theorem wl_inv : ∀ (b r : List UInt8), wl (b ++ r) = b.length → allW b ∧ sf r
  | [], r, h => by
    refine ⟨allW_nil, ?_⟩
    match r with
    | [] => exact .inl rfl
    | c :: r =>
      right
      simp only [List.nil_append, wl, List.length_nil] at h
      split at h
      · omega
      · rename_i hc
        show inW c = false
        simpa using hc
  | c :: b, r, h => by
    simp only [List.cons_append, wl, List.length_cons] at h
    split at h
    · rename_i hc
      obtain ⟨h1, h2⟩ := wl_inv b r (by omega)
      refine ⟨fun d hd => ?_, h2⟩
      rcases List.mem_cons.1 hd with rfl | hd
      · exact hc
      · exact h1 d hd
    · omega
theorem wl_of : ∀ (b r : List UInt8), allW b → sf r → wl (b ++ r) = b.length
  | [], r, _, h => by
    match r, h with
    | [], _ => rfl
    | c :: r, h =>
      rcases h with h | h
      · cases h
      · have : inW c = false := h
        simp [wl, this]
  | c :: b, r, ha, h => by
    have hc : inW c = true := ha c (by simp)
    simp only [List.cons_append, wl, hc, if_true, List.length_cons]
    rw [wl_of b r (fun d hd => ha d (by simp [hd])) h]
def Tok (b : List UInt8) (t : Tk) (r : List UInt8) : Prop := oneTk (b ++ r) = (t, b.length) ∧ 0 < b.length
theorem word_len (w : List UInt8) (n : Nat) (t : Tk) (k : Nat) (h : wordTk w n = (t, k)) (hk : 0 < k) : k = n := by
  unfold wordTk at h
  split at h
  · cases h; rfl
  split at h
  · cases h; rfl
  split at h
  · cases h; rfl
  split at h
  · cases h; omega
  · cases h; rfl
theorem sgn_not {c : UInt8} (h : inW c = true) : sgnAt c 6 0 = none ∧ c ≠ 34 := by
  have h9 : ∀ n : Fin 256, inW (UInt8.ofNat n.val) = true → sgnAt (UInt8.ofNat n.val) 6 0 = none ∧ (UInt8.ofNat n.val) ≠ 34 := by decide +kernel
  have := h9 ⟨c.toNat, c.toNat_lt⟩
  simp only [UInt8.ofNat_toNat] at this
  exact this h
theorem tok_word {b r : List UInt8} {t : Tk} (h : Tok b t r) (hw : inW (lB b 0) = true) : allW b ∧ sf r ∧ wordTk b b.length = (t, b.length) := by
  obtain ⟨h1, h2⟩ := h
  obtain ⟨s1, s2⟩ := sgn_not hw
  unfold oneTk at h1
  rw [lB_app0 b r h2, s1] at h1
  simp only at h1
  rw [if_neg s2] at h1
  have h3 := word_len _ _ _ _ h1 h2
  obtain ⟨w1, w2⟩ := wl_inv b r h3.symm
  rw [← h3, List.take_left] at h1
  exact ⟨w1, w2, h1⟩
theorem tok_any {b r : List UInt8} {t : Tk} (h : Tok b t r) (r' : List UInt8) (hs : inW (lB b 0) = true → sf r') : Tok b t r' := by
  obtain ⟨h1, h2⟩ := h
  refine ⟨?_, h2⟩
  by_cases hw : inW (lB b 0) = true
  · obtain ⟨w1, w2, w3⟩ := tok_word ⟨h1, h2⟩ hw
    obtain ⟨s1, s2⟩ := sgn_not hw
    have hl := wl_of b r' w1 (hs hw)
    unfold oneTk
    rw [lB_app0 b r' h2, s1]
    simp only
    rw [if_neg s2, hl, List.take_left]
    exact w3
  · unfold oneTk at h1 ⊢
    rw [lB_app0 b r h2] at h1
    rw [lB_app0 b r' h2]
    cases hg : sgnAt (lB b 0) 6 0 with
    | some i => rw [hg] at h1; exact h1
    | none =>
      rw [hg] at h1
      simp only at h1 ⊢
      split at h1
      · rename_i h34
        rw [if_pos h34]
        simp only [Prod.mk.injEq] at h1
        obtain ⟨e1, e2⟩ := h1
        have hx : txt (b ++ r) (b ++ r).length 1 [] = ((txt (b ++ r) (b ++ r).length 1 []).1, b.length) := by rw [← e2]
        have := txt_local (b ++ r) (b ++ r') _ 1 [] _ _ hx (by omega) (by simp) (by rw [List.take_left, List.take_left]) (b ++ r').length (by omega)
        rw [this, ← e1]
      · rename_i h34
        exfalso
        have h3 := word_len _ _ _ _ h1 h2
        obtain ⟨w1, -⟩ := wl_inv b r h3.symm
        apply hw
        match b, h2, w1 with
        | c :: b, _, w1 => exact w1 c (by simp)
def allB (z : List UInt8) : Prop := ∀ c ∈ z, blk c = true
theorem allB_nil : allB [] := fun _ h => absurd h List.not_mem_nil
theorem blk_not {c : UInt8} (h : blk c = true) : inW c = false := by
  have h9 : ∀ n : Fin 256, blk (UInt8.ofNat n.val) = true → inW (UInt8.ofNat n.val) = false := by decide +kernel
  have := h9 ⟨c.toNat, c.toNat_lt⟩
  simp only [UInt8.ofNat_toNat] at this
  exact this h
abbrev TD := List (List UInt8 × List UInt8 × Tk)
def lay0 : TD → List UInt8
  | [] => []
  | (b, z, _) :: D => b ++ (z ++ lay0 D)
def VD : TD → Prop
  | [] => True
  | (b, z, t) :: D => Tok b t (z ++ lay0 D) ∧ blk (lB b 0) = false ∧ allB z ∧ VD D
def atT (t : Tk) (k : Nat) : Tk := { t with at_ := (k : Int) }
def tks : Nat → TD → List Tk
  | _, [] => []
  | k, (b, z, t) :: D => atT t k :: tks (k + b.length + z.length) D
theorem drop_lB (l : List UInt8) (k : Nat) (h : k < l.length) : l.drop k = lB l k :: l.drop (k + 1) := by
  rw [List.drop_eq_getElem_cons h]; unfold lB; rw [List.getElem?_eq_getElem h]; rfl
theorem lB_drop9 (l : List UInt8) (k : Nat) : lB (l.drop k) 0 = lB l k := by unfold lB; rw [List.getElem?_drop, Nat.add_zero]
theorem cut_lay (l : List UInt8) : ∀ f k out TS p, cutF l f k out = (some TS, p) → k ≤ l.length → ∃ z D, allB z ∧ l.drop k = z ++ lay0 D ∧ VD D ∧ TS = out ++ tks (k + z.length) D
  | 0, k, out, TS, p, h, _ => by rw [cutF] at h; cases h
  | f + 1, k, out, TS, p, h, hk => by
    rw [cutF] at h
    split at h
    · rename_i hlt
      split at h
      · rename_i hb
        obtain ⟨z, D, z1, z2, z3, z4⟩ := cut_lay l f _ _ TS p h (by omega)
        refine ⟨lB l k :: z, D, fun c hc => ?_, by rw [drop_lB l k hlt, z2]; rfl, z3, by rw [z4, List.length_cons, show k + 1 + z.length = k + (z.length + 1) by omega]⟩
        rcases List.mem_cons.1 hc with rfl | hc
        · exact hb
        · exact z1 c hc
      · rename_i hb
        split at h
        · cases h
        · rename_i hn
          have hone := one_le (l.drop k) (by rw [List.length_drop]; omega)
          rw [List.length_drop] at hone
          obtain ⟨n, hnv⟩ : ∃ n, (oneTk (l.drop k)).2 = n := ⟨_, rfl⟩
          rw [hnv] at hone hn h
          obtain ⟨z, D, z1, z2, z3, z4⟩ := cut_lay l f _ _ TS p h (by omega)
          have hbl : ((l.drop k).take n).length = n := by rw [List.length_take, List.length_drop]; omega
          have hsplit : (l.drop k).take n ++ (z ++ lay0 D) = l.drop k := by rw [← z2, ← List.drop_drop, List.take_append_drop]
          refine ⟨[], ((l.drop k).take n, z, (oneTk (l.drop k)).1) :: D, allB_nil, hsplit.symm, ⟨⟨?_, by omega⟩, ?_, z1, z3⟩, ?_⟩
          · rw [hsplit, hbl, ← hnv]
          · rw [← lB_app0 _ (z ++ lay0 D) (by omega), hsplit, lB_drop9]
            simpa using hb
          · rw [z4, List.append_assoc]
            simp only [tks, atT, hbl, List.length_nil, Nat.add_zero]
            rfl
    · cases h
      refine ⟨[], [], allB_nil, by rw [List.drop_of_length_le (by omega)]; rfl, trivial, by simp [tks]⟩
def layG (g : Nat → List UInt8) : Nat → TD → List UInt8
  | _, [] => []
  | i, (b, z, _) :: D => g i ++ (b ++ (z ++ layG g (i + 1) D))
def tkG (g : Nat → List UInt8) : Nat → Nat → TD → List Tk
  | _, _, [] => []
  | k, i, (b, z, t) :: D => atT t (k + (g i).length) :: tkG g (k + (g i).length + b.length + z.length) (i + 1) D
theorem cut_skip (R : List UInt8) : ∀ (z P : List UInt8) (f : Nat) (out : List Tk), allB z → z.length ≤ f → cutF (P ++ (z ++ R)) f P.length out = cutF (P ++ (z ++ R)) (f - z.length) (P.length + z.length) out
  | [], P, f, out, _, _ => by simp
  | c :: z, P, f, out, h, hf => by
    rw [List.length_cons] at hf
    obtain ⟨f, rfl⟩ : ∃ q, f = q + 1 := ⟨f - 1, by omega⟩
    have hb : lB (P ++ (c :: z ++ R)) P.length = c := lB_at P _
    have e : P ++ (c :: z ++ R) = (P ++ [c]) ++ (z ++ R) := by simp
    rw [cutF, if_pos (by simp), hb, if_pos (h c (by simp))]
    have ih := cut_skip R z (P ++ [c]) f out (fun d hd => h d (by simp [hd])) (by omega)
    rw [List.length_append, List.length_singleton] at ih
    rw [e, ih, List.length_cons, show f + 1 - (z.length + 1) = f - z.length by omega, show P.length + 1 + z.length = P.length + (z.length + 1) by omega]
theorem sf_app {z R : List UInt8} (hz : allB z) (h : z = [] → sf R) : sf (z ++ R) := by
  match z, hz, h with
  | [], _, h => exact h rfl
  | c :: z, hz, _ => exact .inr (blk_not (hz c (by simp)))
theorem sf_lay (g : Nat → List UInt8) (hg : ∀ i, allB (g i)) (D : TD) (hV : VD D) (i : Nat) (h : sf (lay0 D)) : sf (layG g i D) := by
  match D, hV, h with
  | [], _, _ => exact .inl rfl
  | (b, z, t) :: D, hV, h =>
    obtain ⟨⟨-, h0⟩, -, -, -⟩ := hV
    refine sf_app (hg i) fun _ => ?_
    rcases h with h | h
    · have := congrArg List.length h
      rw [lay0, List.length_append, List.length_nil] at this
      omega
    · right
      rw [lay0, lB_app0 _ _ h0] at h
      rw [lB_app0 _ _ h0]; exact h
theorem cut_layG (g : Nat → List UInt8) (hg : ∀ i, allB (g i)) : ∀ (D : TD), VD D → ∀ (i : Nat) (P : List UInt8) (f : Nat) (out : List Tk), (layG g i D).length < f → cutF (P ++ layG g i D) f P.length out = (some (out ++ tkG g P.length i D), 0)
  | [], _, i, P, f, out, hf => by
    obtain ⟨f, rfl⟩ : ∃ q, f = q + 1 := ⟨f - 1, by omega⟩
    rw [cutF, if_neg (by simp [layG])]
    simp [tkG]
  | (b, z, t) :: D, hV, i, P, f, out, hf => by
    obtain ⟨hT, hbk, hz, hV'⟩ := hV
    have h0 := hT.2
    rw [layG, List.length_append, List.length_append, List.length_append] at hf
    rw [layG, cut_skip (b ++ (z ++ layG g (i + 1) D)) (g i) P f out (hg i) (by omega)]
    obtain ⟨f', hf'⟩ : ∃ q, f - (g i).length = q + 1 := ⟨f - (g i).length - 1, by omega⟩
    have e1 : P ++ (g i ++ (b ++ (z ++ layG g (i + 1) D))) = (P ++ g i) ++ (b ++ (z ++ layG g (i + 1) D)) := by simp
    have e2 : P.length + (g i).length = (P ++ g i).length := by simp
    have hT2 : Tok b t (z ++ layG g (i + 1) D) := tok_any hT _ fun hw => by
      obtain ⟨-, w2, -⟩ := tok_word hT hw
      refine sf_app hz fun ez => ?_
      subst ez
      exact sf_lay g hg D hV' (i + 1) w2
    rw [hf', e1, e2, cutF, if_pos (by simp; omega), lB_at, lB_app0 b _ h0, if_neg (by rw [hbk]; simp), List.drop_left, hT2.1]
    simp only
    rw [if_neg (by omega)]
    have e3 : (P ++ g i) ++ (b ++ (z ++ layG g (i + 1) D)) = ((P ++ g i) ++ b) ++ (z ++ layG g (i + 1) D) := by simp
    have e4 : (P ++ g i).length + b.length = ((P ++ g i) ++ b).length := by simp; omega
    rw [e3, e4, cut_skip (layG g (i + 1) D) z _ f' _ hz (by omega)]
    have e5 : ((P ++ g i) ++ b) ++ (z ++ layG g (i + 1) D) = (((P ++ g i) ++ b) ++ z) ++ layG g (i + 1) D := by simp
    have e6 : ((P ++ g i) ++ b).length + z.length = (((P ++ g i) ++ b) ++ z).length := by simp; omega
    rw [e5, e6, cut_layG g hg D hV' (i + 1) _ _ _ (by omega)]
    rw [List.append_assoc, tkG, atT]
    simp only [List.length_append, List.singleton_append]
theorem cut_gaps (g : Nat → List UInt8) (hg : ∀ i, allB (g i)) (D : TD) (hV : VD D) : cutA (layG g 0 D) = (some (tkG g 0 0 D), 0) := by
  have h := cut_layG g hg D hV 0 [] ((layG g 0 D).length + 1) [] (by omega)
  simp only [List.nil_append, List.length_nil] at h
  exact h
theorem cut_parts (l : List UInt8) (TS : List Tk) (p : Nat) (h : cutA l = (some TS, p)) : ∃ z D, allB z ∧ l = z ++ lay0 D ∧ VD D ∧ TS = tks z.length D := by
  obtain ⟨z, D, h1, h2, h3, h4⟩ := cut_lay l _ _ _ TS p h (Nat.zero_le _)
  exact ⟨z, D, h1, by simpa using h2, h3, by simpa using h4⟩
end Go.Proofs.YtalnbddkhojjbaaGreatDoor
namespace Go.Proofs.YtalnbddkhojjbaaGreatDoor
open Go.RowKit

theorem lay0_app : ∀ (D D' : TD), lay0 (D ++ D') = lay0 D ++ lay0 D'
  | [], _ => rfl
  | (b, z, t) :: D, D' => by rw [List.cons_append, lay0, lay0, lay0_app D D']; simp
theorem tks_len : ∀ (D : TD) (k : Nat), (tks k D).length = D.length
  | [], _ => rfl
  | (b, z, t) :: D, k => by rw [tks, List.length_cons, tks_len D, List.length_cons]
structure AtI (l : List UInt8) (TS : List Tk) (D : TD) (g : Nat → List UInt8) (i at_ : Nat) (b z : List UInt8) (t : Tk) : Prop where
  tok : TS[i]? = some (atT t at_)
  here : (l.drop at_).take (b.length + z.length) = b ++ z
  fits : at_ + (b.length + z.length) ≤ l.length
  pos : 0 < b.length
  one : cutA (b ++ z) = (some [atT t 0], 0)
  next : ∀ t', TS[i + 1]? = some t' → t'.at_ = ((at_ + (b.length + z.length) : Nat) : Int)
  last : i + 1 = TS.length → at_ + (b.length + z.length) = l.length
  grow : layG g 0 (D.take (i + 1)) = layG g 0 (D.take i) ++ (g i ++ (b ++ z))
  new : (tkG g 0 0 D)[i]? = some (atT t ((layG g 0 (D.take i)).length + (g i).length))
end Go.Proofs.YtalnbddkhojjbaaGreatDoor
