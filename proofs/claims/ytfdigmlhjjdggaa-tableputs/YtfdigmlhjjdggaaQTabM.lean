import Derived.Test.YtfdigmlhjjdggaaQBitM
import Derived.Test.YtfdigmlhjjdggaaQNamM
import Derived.Test.YtfdigmlhjjdggaaQDig
namespace Go.Proofs.Ytfdigmlhjjdggaa

/-! A tag's, a snapshot's, counts' sectors, as plain mathematics -/
def tagB (l : List UInt8) (k : Nat → UInt8) : Sc := fun j =>
  if j = 0 then 84 else if j = 1 then UInt8.ofNat l.length else if j < 26 then lB l (j - 2) else if j < 58 then k (j - 26) else 0
def tagS (l : List UInt8) (k : Nat → UInt8) : Sc := sealS (tagB l k)
def ptS (l : List UInt8) (k : Nat → UInt8) : Sc := bif isN l then tagS l k else secZ
def ptE (l : List UInt8) : Int := bif isN l then 0 else 36
def tgN (s : Sc) : Nat := if 24 < (s 1).toNat then 24 else (s 1).toNat
def tgL (s : Sc) : List UInt8 := subL s 2 (tgN s)
def tgK (s : Sc) : Nat → UInt8 := fun i => s (26 + i)
def tgR (s : Sc) : Bool := !secEq s secZ && (isN (tgL s) && secEq (tagS (tgL s) (tgK s)) s)
def gtL (s : Sc) : List UInt8 := bif tgR s then tgL s else []
def gtD (s : Sc) : Nat → UInt8 := bif tgR s then tgK s else dg_secZ
def gtK (s : Sc) : Int := bif secEq s secZ then 1 else bif tgR s then 2 else 3
def snB (a b : Nat) (k : Nat → UInt8) : Sc := fun j =>
  if j = 0 then 83 else if 4 ≤ j ∧ j < 8 then UInt8.ofNat (a / 256 ^ (j - 4)) else if 8 ≤ j ∧ j < 12 then UInt8.ofNat (b / 256 ^ (j - 8)) else if 12 ≤ j ∧ j < 44 then k (j - 12) else 0
def snS (a b : Nat) (k : Nat → UInt8) : Sc := sealS (snB a b k)
def psS (a b : Nat) (k : Nat → UInt8) : Sc := bif a == 0 then secZ else snS a b k
def psE (a : Nat) : Int := bif a == 0 then 1 else 0
def snK (s : Sc) : Nat → UInt8 := fun i => s (12 + i)
def snR (s : Sc) : Bool := !secEq s secZ && (!(numN s 4 4 == 0) && secEq (snS (numN s 4 4) (numN s 8 4) (snK s)) s)
def gsA (s : Sc) : Nat := bif snR s then numN s 4 4 else 0
def gsB (s : Sc) : Nat := bif snR s then numN s 8 4 else 0
def gsD (s : Sc) : Nat → UInt8 := bif snR s then snK s else dg_secZ
def gsK (s : Sc) : Int := bif secEq s secZ then 1 else bif snR s then 2 else 3
def cnB (l : List Nat) : Sc := fun j => if j < 60 then UInt8.ofNat ((l[j / 4]?.getD 0) / 256 ^ (j % 4)) else 0
def cnS (l : List Nat) : Sc := sealS (cnB l)
def pcS (l : List Nat) : Sc := bif decide (l.length ≤ 15) then cnS l else secZ
def pcE (l : List Nat) : Int := bif decide (l.length ≤ 15) then 0 else 2
def cnN (n : Int) : Nat := if n < 0 then 0 else if 15 < n then 15 else n.toNat
def cnL (s : Sc) (n : Nat) : List Nat := (List.range n).map fun i => numN s (4 * i) 4
def gcB (s : Sc) (n : Int) : Bool := secEq (cnS (cnL s (cnN n))) s
def gcL (s : Sc) (n : Int) : List Nat := bif gcB s n then cnL s (cnN n) else []
theorem cnN_le (n : Int) : cnN n ≤ 15 := by unfold cnN; split; · omega
                                            split <;> omega
theorem cnL_len (s : Sc) (n : Nat) : (cnL s n).length = n := by simp [cnL]
theorem cnL_get (s : Sc) (n i : Nat) (h : i < n) : (cnL s n)[i]? = some (numN s (4 * i) 4) := by simp [cnL, h]
theorem cnL_succ (s : Sc) (n : Nat) : cnL s (n + 1) = cnL s n ++ [numN s (4 * n) 4] := by simp [cnL, List.range_succ]
theorem secEq_iff17 {s t : Sc} : secEq s t = true ↔ kS s = kS t := by rw [secEq_dec, decide_eq_true_iff]
theorem tagS_low (l : List UInt8) (k : Nat → UInt8) (j : Nat) (h : j < 60) : tagS l k j = tagB l k j := sealS_low _ _ h
theorem snS_low (a b : Nat) (k : Nat → UInt8) (j : Nat) (h : j < 60) : snS a b k j = snB a b k j := sealS_low _ _ h
theorem cnS_low (l : List Nat) (j : Nat) (h : j < 60) : cnS l j = cnB l j := sealS_low _ _ h
/-- No sealed sector is all zeros. -/
theorem zero_sum : secSum secZ ≠ 0#32 := by decide +kernel
theorem sl_ne {s : Sc} (h : isSl s = true) : secEq s secZ = false := by
  rw [secEq_dec, decide_eq_false_iff_not]
  intro hz
  rw [isSl_congr hz, isSl_iff] at h
  have e : ∀ i, i < 4 → UInt8.ofNat ((secSum secZ).toNat / 256 ^ i) = 0 := fun i hi => by
    have h9 := kS_at h (60 + i) (by omega)
    unfold sealS putN at h9
    rw [if_pos (by omega), show 60 + i - 60 = i by omega] at h9
    exact h9
  apply zero_sum
  have hl := (secSum secZ).isLt
  have e0 := congrArg UInt8.toNat (e 0 (by omega))
  have e1 := congrArg UInt8.toNat (e 1 (by omega))
  have e2 := congrArg UInt8.toNat (e 2 (by omega))
  have e3 := congrArg UInt8.toNat (e 3 (by omega))
  simp only [UInt8.toNat_ofNat', UInt8.toNat_ofNat, Nat.reducePow] at e0 e1 e2 e3
  apply BitVec.eq_of_toNat_eq
  simp only [BitVec.toNat_ofNat]
  omega
theorem tagS_sl (l : List UInt8) (k : Nat → UInt8) : isSl (tagS l k) = true := isSl_seal _
theorem snS_sl (a b : Nat) (k : Nat → UInt8) : isSl (snS a b k) = true := isSl_seal _
theorem cnS_sl (l : List Nat) : isSl (cnS l) = true := isSl_seal _
theorem tagB_congr {l : List UInt8} {k k' : Nat → UInt8} (h : ∀ i, i < 32 → k i = k' i) (j : Nat) : tagB l k j = tagB l k' j := by
  unfold tagB
  (repeat' split) <;> first | rfl | exact h _ (by omega)
theorem tagS_congr {l : List UInt8} {k k' : Nat → UInt8} (h : ∀ i, i < 32 → k i = k' i) : tagS l k = tagS l k' := by
  unfold tagS
  rw [show tagB l k = tagB l k' from funext (tagB_congr h)]
theorem snS_congr {a b : Nat} {k k' : Nat → UInt8} (h : ∀ i, i < 32 → k i = k' i) : snS a b k = snS a b k' := by
  unfold snS
  rw [show snB a b k = snB a b k' from funext fun j => by
    unfold snB
    (repeat' split) <;> first | rfl | exact h _ (by omega)]
/-- A tag there and back. -/
theorem tag_back {l : List UInt8} {k : Nat → UInt8} (h : isN l = true) : tgL (tagS l k) = l ∧ (∀ i, i < 32 → tgK (tagS l k) i = k i) ∧ tgR (tagS l k) = true := by
  obtain ⟨h1, h2⟩ := isN_len h
  have e1 : tgN (tagS l k) = l.length := by
    unfold tgN
    rw [tagS_low _ _ 1 (by omega)]
    have : (tagB l k 1).toNat = l.length := by
      unfold tagB
      rw [if_neg (by omega), if_pos rfl, UInt8.toNat_ofNat']; omega
    rw [this, if_neg (by omega)]
  have e2 : tgL (tagS l k) = l := by
    unfold tgL
    rw [e1]
    apply List.ext_getElem
    · simp
    · intro i a b
      rw [subL_get, tagS_low _ _ _ (by omega)]
      unfold tagB
      rw [if_neg (by omega), if_neg (by omega), if_pos (by omega), show 2 + i - 2 = i by omega]
      unfold lB
      rw [List.getElem?_eq_getElem b]; rfl
  have e3 : ∀ i, i < 32 → tgK (tagS l k) i = k i := fun i hi => by
    unfold tgK
    rw [tagS_low _ _ _ (by omega)]
    unfold tagB
    rw [if_neg (by omega), if_neg (by omega), if_neg (by omega), if_pos (by omega), show 26 + i - 26 = i by omega]
  refine ⟨e2, e3, ?_⟩
  unfold tgR
  rw [sl_ne (tagS_sl l k), e2, h, tagS_congr e3, secEq_iff17.2 rfl]; rfl
theorem num4 (s : Sc) (a : Nat) : numN s a 4 = (s a).toNat + (s (a + 1)).toNat * 256 + (s (a + 2)).toNat * 65536 + (s (a + 3)).toNat * 16777216 := by
  simp [numN]
theorem bytes4 (v : Nat) (h : v < 4294967296) : (UInt8.ofNat (v / 256 ^ 0)).toNat + (UInt8.ofNat (v / 256 ^ 1)).toNat * 256 + (UInt8.ofNat (v / 256 ^ 2)).toNat * 65536 + (UInt8.ofNat (v / 256 ^ 3)).toNat * 16777216 = v := by
  simp only [UInt8.toNat_ofNat', Nat.reducePow]
  omega
theorem snap_back {a b : Nat} {k : Nat → UInt8} (ha : a ≠ 0) (ha4 : a < 4294967296) (hb4 : b < 4294967296) : numN (snS a b k) 4 4 = a ∧ numN (snS a b k) 8 4 = b ∧ (∀ i, i < 32 → snK (snS a b k) i = k i) ∧ snR (snS a b k) = true := by
  have q : ∀ j, j < 4 → snS a b k (4 + j) = UInt8.ofNat (a / 256 ^ j) := fun j hj => by
    rw [snS_low _ _ _ _ (by omega)]
    unfold snB
    rw [if_neg (by omega), if_pos (by omega), show 4 + j - 4 = j by omega]
  have r : ∀ j, j < 4 → snS a b k (8 + j) = UInt8.ofNat (b / 256 ^ j) := fun j hj => by
    rw [snS_low _ _ _ _ (by omega)]
    unfold snB
    rw [if_neg (by omega), if_neg (by omega), if_pos (by omega), show 8 + j - 8 = j by omega]
  have e1 : numN (snS a b k) 4 4 = a := by
    rw [num4, show (4 : Nat) = 4 + 0 from rfl, q 0 (by omega), q 1 (by omega), q 2 (by omega), q 3 (by omega), bytes4 a ha4]
  have e2 : numN (snS a b k) 8 4 = b := by
    rw [num4, show (8 : Nat) = 8 + 0 from rfl, r 0 (by omega), r 1 (by omega), r 2 (by omega), r 3 (by omega), bytes4 b hb4]
  have e3 : ∀ i, i < 32 → snK (snS a b k) i = k i := fun i hi => by
    unfold snK
    rw [snS_low _ _ _ _ (by omega)]
    unfold snB
    rw [if_neg (by omega), if_neg (by omega), if_neg (by omega), if_pos (by omega), show 12 + i - 12 = i by omega]
  refine ⟨e1, e2, e3, ?_⟩
  unfold snR
  rw [sl_ne (snS_sl a b k), e1, e2, snS_congr e3, secEq_iff17.2 rfl, beq_eq_false_iff_ne.2 ha]; rfl
theorem cnt_get {l : List Nat} (h : ∀ (i : Nat) (v : Nat), l[i]? = some v → v < 4294967296) (i : Nat) (hi : i < 15) : numN (cnS l) (4 * i) 4 = l[i]?.getD 0 := by
  have hv : l[i]?.getD 0 < 4294967296 := by
    cases hg : l[i]? with
    | none => simp
    | some v => exact h i v hg
  have q : ∀ j, j < 4 → cnS l (4 * i + j) = UInt8.ofNat ((l[i]?.getD 0) / 256 ^ j) := fun j hj => by
    rw [cnS_low _ _ (by omega)]
    unfold cnB
    rw [if_pos (by omega), show (4 * i + j) / 4 = i by omega, show (4 * i + j) % 4 = j by omega]
  rw [num4]
  have q0 := q 0 (by omega)
  rw [Nat.add_zero] at q0
  rw [q0, q 1 (by omega), q 2 (by omega), q 3 (by omega), bytes4 _ hv]
theorem cnt_back {l : List Nat} (h : ∀ (i : Nat) (v : Nat), l[i]? = some v → v < 4294967296) (hl : l.length ≤ 15) : gcB (cnS l) (l.length : Int) = true ∧ gcL (cnS l) (l.length : Int) = l := by
  have hn : cnN (l.length : Int) = l.length := by unfold cnN; rw [if_neg (by omega), if_neg (by omega)]; omega
  have e : cnL (cnS l) l.length = l := by
    apply List.ext_getElem
    · rw [cnL_len]
    · intro i a b
      have h9 := cnt_get h i (by omega)
      rw [List.getElem?_eq_getElem b] at h9
      have h8 := cnL_get (cnS l) l.length i b
      rw [List.getElem?_eq_getElem a] at h8
      rw [Option.some.inj h8, h9]; rfl
  have hb : gcB (cnS l) (l.length : Int) = true := by
    unfold gcB
    rw [hn, e, secEq_iff17.2 rfl]
  refine ⟨hb, ?_⟩
  unfold gcL
  rw [hb, hn, e]; rfl
theorem tgR_sl {s : Sc} (h : tgR s = true) : isSl s = true ∧ s 0 = 84 := by
  unfold tgR at h
  simp only [Bool.and_eq_true] at h
  have h2 := secEq_iff17.1 h.2.2
  refine ⟨by rw [← isSl_congr h2]; exact tagS_sl _ _, ?_⟩
  rw [← kS_at h2 0 (by omega), tagS_low _ _ 0 (by omega)]; rfl
theorem snR_sl {s : Sc} (h : snR s = true) : isSl s = true ∧ s 0 = 83 := by
  unfold snR at h
  simp only [Bool.and_eq_true] at h
  have h2 := secEq_iff17.1 h.2.2
  refine ⟨by rw [← isSl_congr h2]; exact snS_sl _ _ _, ?_⟩
  rw [← kS_at h2 0 (by omega), snS_low _ _ _ 0 (by omega)]; rfl
theorem gcB_sl {s : Sc} {n : Int} (h : gcB s n = true) : isSl s = true := by
  unfold gcB at h
  rw [← isSl_congr (secEq_iff17.1 h)]; exact cnS_sl _
end Go.Proofs.Ytfdigmlhjjdggaa
