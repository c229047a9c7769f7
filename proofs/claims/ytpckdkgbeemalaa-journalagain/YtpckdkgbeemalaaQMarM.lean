import Derived.Test.YtpckdkgbeemalaaQBitM
import Derived.Test.YtpckdkgbeemalaaQNum
namespace Go.Proofs.Ytpckdkgbeemalaa

/-! Marks, by definition -/
def atW (l : List Wr) (i : Nat) : Int := (l.getD i wrZ).1
def dtW (l : List Wr) (i : Nat) : Sc := (l.getD i wrZ).2
/-- The i-th write of a batch: may it be written to, and does it rise? -/
def okW (n : Int) (l : List Wr) (i : Nat) : Bool := tgtB n (atW l i) && (decide (i = 0) || decide (atW l (i - 1) < atW l i))
def allW (n : Int) (l : List Wr) : Nat → Bool
  | 0 => true
  | k + 1 => allW n l k && okW n l k
theorem allW_iff (n : Int) (l : List Wr) : ∀ k, allW n l k = true ↔ ∀ i, i < k → okW n l i = true
  | 0 => by simp [allW]
  | k + 1 => by
    rw [allW, Bool.and_eq_true, allW_iff n l k]
    constructor
    · rintro ⟨h1, h2⟩ i hi
      by_cases e : i = k
      · subst e; exact h2
      · exact h1 i (by omega)
    · intro h
      exact ⟨fun i hi => h i (by omega), h k (by omega)⟩
theorem allW_false {n : Int} {l : List Wr} {k m : Nat} (h : okW n l k = false) (hk : k < m) : allW n l m = false := by
  cases hc : allW n l m with
  | false => rfl
  | true => have := (allW_iff n l m).1 hc k hk; rw [h] at this; cases this
def lenB (k : Nat) : Bool := decide (1 ≤ k ∧ k ≤ 8)
def batB (n : Int) (l : List Wr) : Bool := lenB l.length && allW n l l.length
theorem tgt_le {n a : Int} (h : tgtB n a = true) : 0 ≤ a ∧ a < n := by
  unfold tgtB at h
  simp only [Bool.and_eq_true, decide_eq_true_eq] at h
  exact h.1
theorem bat_at {n : Int} {l : List Wr} (h : batB n l = true) (i : Nat) (hi : i < l.length) : 0 ≤ atW l i ∧ atW l i < n := by
  unfold batB at h
  rw [Bool.and_eq_true] at h
  have := (allW_iff n l _).1 h.2 i hi
  unfold okW at this
  rw [Bool.and_eq_true] at this
  exact tgt_le this.1
theorem bat_len {n : Int} {l : List Wr} (h : batB n l = true) : 1 ≤ l.length ∧ l.length ≤ 8 := by
  unfold batB lenB at h
  simp only [Bool.and_eq_true, decide_eq_true_eq] at h
  exact h.1
def mHead (k : Nat) : Sc := upd (upd (upd secZ 0 74) 1 77) 2 (UInt8.ofNat k)
def mTg (l : List Wr) : Nat → Sc
  | 0 => mHead l.length
  | i + 1 => upd (upd (mTg l i) (4 + 2 * i) (UInt8.ofNat ((atW l i).toNat % 256))) (5 + 2 * i) (UInt8.ofNat ((atW l i).toNat / 256))
def allU8 (l : List Wr) : Nat → List UInt8
  | 0 => []
  | i + 1 => allU8 l i ++ kS (dtW l i)
def mSum (l : List Wr) : BitVec 32 := sumL (allU8 l l.length)
def marB (l : List Wr) : Sc := putN (mTg l l.length) 20 (mSum l).toNat 4
def marS (l : List Wr) : Sc := sealS (marB l)
def mPutS (l : List Wr) (n : Int) : Sc := bif geoOk n && batB n l then marS l else secZ
def mPutE (l : List Wr) (n : Int) : Int := bif geoOk n then (bif batB n l then 0 else 24) else 22
/-- What a sector tells, with the journal's sectors. -/
def stW (s : Sc) (j : List Sc) (i : Nat) : Wr := ((numN s (4 + 2 * i) 2 : Nat), if i < j.length then j.getD i secZ else secZ)
def stL (s : Sc) (j : List Sc) : Nat → List Wr
  | 0 => []
  | k + 1 => stL s j k ++ [stW s j k]
def stN8 (s : Sc) : Nat := min (s 2).toNat 8
def stA (s : Sc) (j : List Sc) : List Wr := stL s j (stN8 s)
def mComm (s : Sc) (j : List Sc) (n : Int) : Bool := geoOk n && (!secEq s secZ && (batB n (stA s j) && secEq (marS (stA s j)) s))
def mStK (s : Sc) (j : List Sc) (n : Int) : Int := bif geoOk n then (bif secEq s secZ then 1 else bif mComm s j n then 2 else 3) else 3
def mStL (s : Sc) (j : List Sc) (n : Int) : List Wr := bif mComm s j n then stA s j else []
@[simp] theorem stL_len (s : Sc) (j : List Sc) : ∀ k, (stL s j k).length = k
  | 0 => rfl
  | k + 1 => by rw [stL, List.length_append, stL_len s j k]; rfl
theorem stL_get (s : Sc) (j : List Sc) : ∀ k i, i < k → (stL s j k)[i]? = some (stW s j i)
  | 0, i, h => by omega
  | k + 1, i, h => by
    rw [stL]
    by_cases e : i < k
    · rw [List.getElem?_append_left (by simpa using e)]; exact stL_get s j k i e
    · have : i = k := by omega
      subst this
      rw [List.getElem?_append_right (by simp)]
      simp
theorem stN8_le (s : Sc) : stN8 s ≤ 8 := by unfold stN8; omega
theorem atW_get {l : List Wr} {i : Nat} {x : Wr} (h : l[i]? = some x) : atW l i = x.1 ∧ dtW l i = x.2 := by
  unfold atW dtW
  rw [List.getD_eq_getElem?_getD, h]
  exact ⟨rfl, rfl⟩
theorem mTg_ge (l : List Wr) : ∀ k j, 4 + 2 * k ≤ j → mTg l k j = mHead l.length j
  | 0, j, _ => rfl
  | k + 1, j, h => by
    rw [mTg]
    unfold upd
    rw [if_neg (by omega), if_neg (by omega)]
    exact mTg_ge l k j (by omega)
theorem mTg_lt (l : List Wr) : ∀ k j, j < 4 → mTg l k j = mHead l.length j
  | 0, j, _ => rfl
  | k + 1, j, h => by
    rw [mTg]
    unfold upd
    rw [if_neg (by omega), if_neg (by omega)]
    exact mTg_lt l k j h
theorem mTg_at (l : List Wr) : ∀ k i, i < k → mTg l k (4 + 2 * i) = UInt8.ofNat ((atW l i).toNat % 256) ∧ mTg l k (5 + 2 * i) = UInt8.ofNat ((atW l i).toNat / 256)
  | 0, i, h => by omega
  | k + 1, i, h => by
    rw [mTg]
    by_cases e : i = k
    · subst e
      unfold upd
      rw [if_neg (by omega), if_pos rfl, if_pos rfl]
      exact ⟨rfl, rfl⟩
    · obtain ⟨h1, h2⟩ := mTg_at l k i (by omega)
      unfold upd
      rw [if_neg (by omega), if_neg (by omega), if_neg (by omega), if_neg (by omega)]
      exact ⟨h1, h2⟩
theorem marS_low (l : List Wr) (j : Nat) (h : j < 20) : marS l j = mTg l l.length j := by
  unfold marS marB
  rw [sealS_low _ _ (by omega)]
  unfold putN
  rw [if_neg (by omega)]
theorem marS_0 (l : List Wr) : marS l 0 = 74 := by
  rw [marS_low l 0 (by omega), mTg_lt _ _ _ (by omega)]
  rfl
theorem marS_2 (l : List Wr) : marS l 2 = UInt8.ofNat l.length := by
  rw [marS_low l 2 (by omega), mTg_lt _ _ _ (by omega)]
  rfl
theorem marS_sum (l : List Wr) (i : Nat) (h : i < 4) : marS l (20 + i) = UInt8.ofNat ((mSum l).toNat / 256 ^ i) := by
  unfold marS marB
  rw [sealS_low _ _ (by omega)]
  unfold putN
  rw [if_pos (by omega), show 20 + i - 20 = i by omega]
theorem marS_ne (l : List Wr) : secEq (marS l) secZ = false := by
  rw [secEq_dec, decide_eq_false_iff_not]
  intro h
  have := kS_at h 0 (by omega)
  rw [marS_0] at this
  exact absurd this (by decide)
theorem marS_num {n : Int} {l : List Wr} (hn : n ≤ 1024) (h : batB n l = true) (i : Nat) (hi : i < l.length) : numN (marS l) (4 + 2 * i) 2 = (atW l i).toNat := by
  have hl := bat_len h
  have ha := bat_at h i hi
  obtain ⟨h1, h2⟩ := mTg_at l l.length i hi
  have e : numN (marS l) (4 + 2 * i) 2 = (marS l (4 + 2 * i)).toNat + (marS l (4 + 2 * i + 1)).toNat * 256 := by simp [numN]
  rw [e, marS_low _ _ (by omega), show 4 + 2 * i + 1 = 5 + 2 * i by omega, marS_low _ _ (by omega), h1, h2]
  simp
  omega
/-- The same writes, as they lie in memory. -/
def eqW (l m : List Wr) : Prop := l.length = m.length ∧ ∀ i, i < l.length → atW l i = atW m i ∧ kS (dtW l i) = kS (dtW m i)
theorem eqW.refl (l : List Wr) : eqW l l := ⟨rfl, fun _ _ => ⟨rfl, rfl⟩⟩
theorem eqW.symm {l m : List Wr} (h : eqW l m) : eqW m l := ⟨h.1.symm, fun i hi => ⟨(h.2 i (by rw [h.1]; exact hi)).1.symm, (h.2 i (by rw [h.1]; exact hi)).2.symm⟩⟩
theorem allW_congr {n : Int} {l m : List Wr} (h : eqW l m) : ∀ k, k ≤ l.length → allW n l k = allW n m k
  | 0, _ => rfl
  | k + 1, hk => by
    rw [allW, allW, allW_congr h k (by omega)]
    congr 1
    unfold okW
    rw [(h.2 k (by omega)).1]
    by_cases e : k = 0
    · simp [e]
    · rw [(h.2 (k - 1) (by omega)).1]
theorem bat_congr {n : Int} {l m : List Wr} (h : eqW l m) : batB n l = batB n m := by
  unfold batB
  rw [allW_congr h l.length (Nat.le_refl _), h.1]
theorem allU8_congr {l m : List Wr} (h : eqW l m) : ∀ k, k ≤ l.length → allU8 l k = allU8 m k
  | 0, _ => rfl
  | k + 1, hk => by rw [allU8, allU8, allU8_congr h k (by omega), (h.2 k (by omega)).2]
theorem mTg_congr {l m : List Wr} (h : eqW l m) : ∀ k, k ≤ l.length → mTg l k = mTg m k
  | 0, _ => by rw [mTg, mTg, h.1]
  | k + 1, hk => by rw [mTg, mTg, mTg_congr h k (by omega), (h.2 k (by omega)).1]
theorem marS_congr {l m : List Wr} (h : eqW l m) : marS l = marS m := by
  unfold marS marB mSum
  rw [mTg_congr h l.length (Nat.le_refl _), allU8_congr h l.length (Nat.le_refl _), h.1]
/-- The mark of a batch tells it. -/
theorem stA_mark {n : Int} {l : List Wr} (hn : n ≤ 1024) (h : batB n l = true) (j : List Sc) (hj : ∀ i, i < l.length → i < j.length ∧ kS (j.getD i secZ) = kS (dtW l i)) : eqW (stA (marS l) j) l := by
  have hl := bat_len h
  have h8 : stN8 (marS l) = l.length := by
    unfold stN8
    rw [marS_2]
    have : (UInt8.ofNat l.length).toNat = l.length := by simp; omega
    rw [this]; omega
  unfold stA
  rw [h8]
  refine ⟨by simp, fun i hi => ?_⟩
  rw [stL_len] at hi
  obtain ⟨e1, e2⟩ := atW_get (stL_get (marS l) j l.length i hi)
  rw [e1, e2]
  unfold stW
  have ha := bat_at h i hi
  refine ⟨?_, ?_⟩
  · show ((numN (marS l) (4 + 2 * i) 2 : Nat) : Int) = atW l i
    rw [marS_num hn h i hi]; omega
  · show kS (if i < j.length then j.getD i secZ else secZ) = _
    rw [if_pos (hj i hi).1]; exact (hj i hi).2
theorem comm_mark {n : Int} {l : List Wr} (hg : geoOk n = true) (hn : n ≤ 1024) (h : batB n l = true) (j : List Sc) (hj : ∀ i, i < l.length → i < j.length ∧ kS (j.getD i secZ) = kS (dtW l i)) : mComm (marS l) j n = true := by
  have he := stA_mark hn h j hj
  unfold mComm
  rw [hg, marS_ne, bat_congr he, h, marS_congr he, secEq_dec]
  simp
theorem marS_sl (l : List Wr) : isSl (marS l) = true := isSl_seal _
theorem comm_sl {s : Sc} {j : List Sc} {n : Int} (h : mComm s j n = true) : isSl s = true := by
  unfold mComm at h
  simp only [Bool.and_eq_true] at h
  have h2 := h.2.2.2
  rw [secEq_dec, decide_eq_true_iff] at h2
  rw [← isSl_congr h2]
  exact marS_sl _
/-- Bits turned in the mark. -/
theorem turn_mark {l : List Wr} (P : Nat → Bool) (a : Nat) (hP : ∀ i, P i = true → a + i < 512) (ha : anyP P 32 = true) (j : List Sc) (n : Int) : mComm (turnS (marS l) P a 32) j n = false := by
  cases hc : mComm (turnS (marS l) P a 32) j n with
  | false => rfl
  | true =>
    have h1 := comm_sl hc
    have h2 := turn_sealed (marB l) P a hP
    rw [ha] at h2
    unfold isSl at h1
    have h3 : secEq (sealS (turnS (marS l) P a 32)) (turnS (marS l) P a 32) = false := h2
    rw [h3] at h1
    cases h1
theorem allU8_len (l : List Wr) : ∀ k, (allU8 l k).length = 64 * k
  | 0 => rfl
  | k + 1 => by rw [allU8, List.length_append, allU8_len l k]; simp [kS]; omega
theorem allU8_get (l : List Wr) : ∀ k i r, i < k → r < 64 → (allU8 l k)[64 * i + r]? = some (dtW l i r)
  | 0, i, r, h, _ => by omega
  | k + 1, i, r, h, hr => by
    rw [allU8]
    by_cases e : i < k
    · rw [List.getElem?_append_left (by rw [allU8_len]; omega)]
      exact allU8_get l k i r e hr
    · have : i = k := by omega
      subst this
      rw [List.getElem?_append_right (by rw [allU8_len]; omega), allU8_len, show 64 * i + r - 64 * i = r by omega]
      exact kS_get _ _ hr
theorem bitAt_all (l : List Wr) (k q : Nat) (hq : q < 8 * (64 * k)) : bitAt (allU8 l k) q = fbit (dtW l (q / 512)) (q % 512) := by
  unfold bitAt fbit
  have h1 : q / 8 = 64 * (q / 512) + q / 8 % 64 := by omega
  rw [h1, allU8_get l k (q / 512) (q / 8 % 64) (by omega) (by omega)]
  have h2 : q % 512 / 8 = q / 8 % 64 := by omega
  have h3 : q % 512 % 8 = q % 8 := by omega
  rw [h2, h3]; rfl
/-- Bits turned in one of the sectors: another sum. -/
theorem turn_sum9 {l m : List Wr} (k : Nat) (hk : k < l.length) (hl : l.length = m.length) (P : Nat → Bool) (a : Nat) (hP : ∀ i, P i = true → a + i < 512) (ha : anyP P 32 = true)
    (hm : ∀ i, i < l.length → ∀ q, q < 512 → fbit (dtW m i) q = if i = k then fbit (turnS (dtW l k) P a 32) q else fbit (dtW l i) q) : mSum l ≠ mSum m := by
  unfold mSum
  rw [← hl]
  refine sumL_differ _ _ (512 * k + a) (by rw [allU8_len, allU8_len]) (fun q hq hd => ?_) ?_
  · rw [allU8_len] at hq
    rw [bitAt_all l _ q (by omega), bitAt_all m _ q (by omega), hm (q / 512) (by omega) (q % 512) (by omega)] at hd
    by_cases e : q / 512 = k
    · rw [if_pos e, fbit_turn, e] at hd
      by_cases h : a ≤ q % 512 ∧ q % 512 < a + 32
      · omega
      · rw [decide_eq_false h] at hd; simp at hd
    · rw [if_neg e] at hd
      exact absurd rfl hd
  · obtain ⟨i, hi, hPi⟩ := (anyP_iff P 32).1 ha
    have h1 := hP i hPi
    refine ⟨512 * k + a + i, by rw [allU8_len]; omega, ?_⟩
    rw [bitAt_all l _ _ (by omega), bitAt_all m _ _ (by omega), hm _ (by omega) _ (by omega), if_pos (by omega), fbit_turn]
    have e1 : (512 * k + a + i) / 512 = k := by omega
    have e2 : (512 * k + a + i) % 512 = a + i := by omega
    rw [e1, e2]
    have h2 : a ≤ a + i ∧ a + i < a + 32 := by omega
    have h3 : a + i - a = i := by omega
    rw [decide_eq_true h2, h3, hPi]
    simp
theorem sum_of_mark {l m : List Wr} (h : kS (marS l) = kS (marS m)) : mSum l = mSum m := by
  have e : ∀ i, i < 4 → UInt8.ofNat ((mSum l).toNat / 256 ^ i) = UInt8.ofNat ((mSum m).toNat / 256 ^ i) := fun i hi => by
    rw [← marS_sum l i hi, ← marS_sum m i hi]
    exact kS_at h (20 + i) (by omega)
  have q : ∀ i, i < 4 → (mSum l).toNat / 256 ^ i % 256 = (mSum m).toNat / 256 ^ i % 256 := fun i hi => by
    have := congrArg UInt8.toNat (e i hi)
    simpa using this
  have q0 := q 0 (by omega)
  have q1 := q 1 (by omega)
  have q2 := q 2 (by omega)
  have q3 := q 3 (by omega)
  have l1 := (mSum l).isLt
  have l2 := (mSum m).isLt
  simp only [Nat.pow_zero, Nat.pow_one, Nat.div_one, show (256 : Nat) ^ 2 = 65536 from rfl, show (256 : Nat) ^ 3 = 16777216 from rfl] at q0 q1 q2 q3
  exact BitVec.eq_of_toNat_eq (by omega)
end Go.Proofs.Ytpckdkgbeemalaa
