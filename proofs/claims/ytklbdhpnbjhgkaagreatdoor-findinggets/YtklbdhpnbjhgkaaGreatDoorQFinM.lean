import Derived.Test.YtklbdhpnbjhgkaaGreatDoorQNum
import Derived.Test.YtklbdhpnbjhgkaaGreatDoorQDigM
import Derived.Test.YtklbdhpnbjhgkaaGreatDoorQCrcM
namespace Go.Proofs.YtklbdhpnbjhgkaaGreatDoor

/-! Findings in order, a report as bytes: plain mathematics. -/
abbrev Fd := Int × Int
structure Rp where
  st : Int
  fs : List Fd
  ds : List (Nat → UInt8)
  dr : List Int
abbrev RdT (α : Type) := List UInt8 → Nat → Except (Nat × Nat) (α × Nat)
def okK (v : Nat) : Bool := decide (1 ≤ v ∧ v ≤ 19)
def okA (v : Nat) : Bool := decide (v ≤ 1023)
def okS (v : Nat) : Bool := decide (v ≤ 127)
def okAny (_ : Nat) : Bool := true
def rdN (n : Nat) (ok : Nat → Bool) : RdT Nat := fun b i =>
  if b.length < i + n then .error (i, 10) else bif ok (numN (lB b) i n) then .ok (numN (lB b) i n, i + n) else .error (i, 13)
def rdF : RdT Fd := fun b i => match rdN 1 okK b i with
  | .error e => .error e
  | .ok (k, j) => match rdN 2 okA b j with
    | .error e => .error e
    | .ok (a, j') => .ok (((k : Int), (a : Int)), j')
def dgAt (b : List UInt8) (i : Nat) : Nat → UInt8 := fun k => if k < 32 then lB b (i + k) else 0
def rdD : RdT (Nat → UInt8) := fun b i => if b.length < i + 32 then .error (i, 10) else .ok (dgAt b i, i + 32)
def rdS : RdT Int := fun b i => match rdN 2 okS b i with
  | .error e => .error e
  | .ok (v, j) => .ok ((v : Int), j)
def ltF (a b : Fd) : Bool := decide (a.1 < b.1 ∨ (a.1 = b.1 ∧ a.2 < b.2))
def ltD (a b : Nat → UInt8) : Bool := decide (dnum a 32 < dnum b 32)
def ltI (a b : Int) : Bool := decide (a < b)
def behO {α : Type} (lt : α → α → Bool) : Option α → α → Bool
  | some u, v => lt u v
  | none, _ => true
def rdL {α : Type} (one : RdT α) (lt : α → α → Bool) : Nat → List α → RdT (List α)
  | 0, l, _, i => .ok (l, i)
  | n + 1, l, b, i => match one b i with
    | .error e => .error e
    | .ok (v, j) => bif behO lt l.getLast? v then rdL one lt n (l ++ [v]) b j else .error (i, 11)
def rdC {α : Type} (one : RdT α) (lt : α → α → Bool) : RdT (List α) := fun b i => match rdN 2 okAny b i with
  | .error e => .error e
  | .ok (n, j) => rdL one lt n [] b j
def okSt (v : Int) : Bool := decide (v = 1 ∨ v = 2)
def headB : List UInt8 := [65, 82, 1]
def rdH (b : List UInt8) : Except (Nat × Nat) Int :=
  if b.length < 4 then .error (0, 10) else if b.take 3 = headB then (bif okSt ((lB b 3).toNat : Int) then .ok ((lB b 3).toNat : Int) else .error (3, 1)) else .error (0, 11)
def rdR (b : List UInt8) : Except (Nat × Nat) (Rp × Nat) := match rdH b with
  | .error e => .error e
  | .ok s => match rdC rdF ltF b 4 with
    | .error e => .error e
    | .ok (fs, i1) => match rdC rdD ltD b i1 with
      | .error e => .error e
      | .ok (ds, i2) => match rdC rdS ltI b i2 with
        | .error e => .error e
        | .ok (dr, i3) => .ok (⟨s, fs, ds, dr⟩, i3)
def rdE (b : List UInt8) (i : Nat) : Option (Nat × Nat) :=
  if b.length < i + 4 then some (i, 10) else if numN (lB b) i 4 = (sumL (b.take i)).toNat then (if i + 4 < b.length then some (i + 4, 14) else none) else some (i, 12)
def getM (b : List UInt8) : Except (Nat × Nat) Rp := match rdR b with
  | .error e => .error e
  | .ok (r, i) => match rdE b i with
    | some e => .error e
    | none => .ok r

def two (n : Nat) : List UInt8 := [UInt8.ofNat n, UInt8.ofNat (n / 256)]
def fB (f : Fd) : List UInt8 := UInt8.ofNat f.1.toNat :: two f.2.toNat
def dB (d : Nat → UInt8) : List UInt8 := (List.range 32).map d
def sB (v : Int) : List UInt8 := two v.toNat
def le4 (x : Nat) : List UInt8 := [UInt8.ofNat x, UInt8.ofNat (x / 256), UInt8.ofNat (x / 65536), UInt8.ofNat (x / 16777216)]
def bodyM (r : Rp) : List UInt8 := [65, 82, 1, UInt8.ofNat r.st.toNat] ++ (two r.fs.length ++ (r.fs.flatMap fB ++ (two r.ds.length ++ (r.ds.flatMap dB ++ (two r.dr.length ++ r.dr.flatMap sB)))))
def bytesM (r : Rp) : List UInt8 := bodyM r ++ le4 (sumL (bodyM r)).toNat
def chkL {α : Type} (ok : α → Bool) (lt : α → α → Bool) : Option α → List α → Nat
  | _, [] => 0
  | p, v :: r => bif ok v then (bif behO lt p v then chkL ok lt (some v) r else 11) else 13
def okF (f : Fd) : Bool := decide (1 ≤ f.1 ∧ f.1 ≤ 19 ∧ 0 ≤ f.2 ∧ f.2 ≤ 1023)
def okD (_ : Nat → UInt8) : Bool := true
def okI (v : Int) : Bool := decide (0 ≤ v ∧ v ≤ 127)
def longM (r : Rp) : Bool := decide (65535 < r.fs.length ∨ 65535 < r.ds.length ∨ 65535 < r.dr.length)
def chk3 (r : Rp) : Nat :=
  if chkL okF ltF none r.fs ≠ 0 then chkL okF ltF none r.fs else if chkL okD ltD none r.ds ≠ 0 then chkL okD ltD none r.ds else chkL okI ltI none r.dr
def checkM (r : Rp) : Nat := bif okSt r.st then (bif longM r then 2 else chk3 r) else 1
def putM (r : Rp) : List UInt8 := if checkM r = 0 then bytesM r else []

/-! Sorting -/
def insF : List Fd → Fd → List Fd
  | [], v => [v]
  | u :: r, v => bif ltF u v then u :: insF r v else bif decide (u = v) then u :: r else v :: u :: r
def sortM (l : List Fd) : List Fd := l.foldl insF []
theorem ltF_trans {a b c : Fd} (h : ltF a b = true) (k : ltF b c = true) : ltF a c = true := by
  unfold ltF at *; simp only [decide_eq_true_eq] at *; omega
theorem ltF_irr (a : Fd) : ltF a a = false := by unfold ltF; simp
theorem ltF_tri (a b : Fd) : ltF a b = true ∨ a = b ∨ ltF b a = true := by
  obtain ⟨a1, a2⟩ := a
  obtain ⟨b1, b2⟩ := b
  unfold ltF; simp only [decide_eq_true_eq, Prod.mk.injEq]; omega
abbrev RisF (l : List Fd) : Prop := l.Pairwise (fun a b => ltF a b = true)
theorem insF_mem (v x : Fd) : ∀ l : List Fd, x ∈ insF l v ↔ x = v ∨ x ∈ l
  | [] => by simp [insF]
  | u :: r => by
    unfold insF
    cases h : ltF u v
    · by_cases e : u = v
      · subst e; simp
      · simp [e]
    · simp only [cond_true, List.mem_cons, insF_mem v x r]
      constructor
      · rintro (h | h | h) <;> simp [h]
      · rintro (h | h | h) <;> simp [h]
theorem insF_ris (v : Fd) : ∀ l : List Fd, RisF l → RisF (insF l v)
  | [], _ => by simp [insF]
  | u :: r, h => by
    rw [RisF, List.pairwise_cons] at h
    unfold insF
    cases hl : ltF u v
    · by_cases e : u = v
      · subst e; simp only [decide_true, cond_false, cond_true]; exact List.pairwise_cons.2 h
      · simp only [e, decide_false, cond_false]
        have huv : ltF v u = true := by
          rcases ltF_tri u v with a | a | a
          · rw [hl] at a; cases a
          · exact absurd a e
          · exact a
        refine List.pairwise_cons.2 ⟨fun x hx => ?_, List.pairwise_cons.2 h⟩
        rcases List.mem_cons.1 hx with rfl | hx
        · exact huv
        · exact ltF_trans huv (h.1 x hx)
    · simp only [cond_true]
      refine List.pairwise_cons.2 ⟨fun x hx => ?_, insF_ris v r h.2⟩
      rcases (insF_mem v x r).1 hx with rfl | hx
      · exact hl
      · exact h.1 x hx
theorem fold_ris : ∀ (l acc : List Fd), RisF acc → RisF (l.foldl insF acc)
  | [], _, h => h
  | v :: r, acc, h => fold_ris r (insF acc v) (insF_ris v acc h)
theorem fold_mem (x : Fd) : ∀ (l acc : List Fd), x ∈ l.foldl insF acc ↔ x ∈ l ∨ x ∈ acc
  | [], acc => by simp
  | v :: r, acc => by
    rw [List.foldl_cons, fold_mem x r, insF_mem, List.mem_cons]
    constructor
    · rintro (h | h | h) <;> simp [h]
    · rintro ((h | h) | h) <;> simp [h]
theorem sortM_ris (l : List Fd) : RisF (sortM l) := fold_ris l [] List.Pairwise.nil
theorem sortM_mem (l : List Fd) (x : Fd) : x ∈ sortM l ↔ x ∈ l := by rw [sortM, fold_mem]; simp
/-- Two rising lists with the same members are the same. -/
theorem ris_unique : ∀ (l m : List Fd), RisF l → RisF m → (∀ x, x ∈ l ↔ x ∈ m) → l = m
  | [], [], _, _, _ => rfl
  | [], y :: m, _, _, h => by have := (h y).2 (by simp); cases this
  | x :: l, [], _, _, h => by have := (h x).1 (by simp); cases this
  | x :: l, y :: m, hl, hm, h => by
    have hl0 := hl; have hm0 := hm
    rw [RisF, List.pairwise_cons] at hl hm
    have no : ∀ a b : Fd, ltF a b = true → ltF b a = true → False := fun a b h1 h2 => by
      have := ltF_trans h1 h2; rw [ltF_irr] at this; cases this
    have hxy : x = y := by
      rcases List.mem_cons.1 ((h x).1 (by simp)) with e | e
      · exact e
      · rcases List.mem_cons.1 ((h y).2 (by simp)) with e' | e'
        · exact e'.symm
        · exact (no _ _ (hm.1 x e) (hl.1 y e')).elim
    subst hxy
    rw [ris_unique l m hl.2 hm.2 fun z => ?_]
    constructor
    · intro hz
      rcases List.mem_cons.1 ((h z).1 (by simp [hz])) with e | e
      · subst e; exact (no _ _ (hl.1 z hz) (hl.1 z hz)).elim
      · exact e
    · intro hz
      rcases List.mem_cons.1 ((h z).2 (by simp [hz])) with e | e
      · subst e; exact (no _ _ (hm.1 z hz) (hm.1 z hz)).elim
      · exact e
end Go.Proofs.YtklbdhpnbjhgkaaGreatDoor
namespace Go.Proofs.YtklbdhpnbjhgkaaGreatDoor

/-! There and back -/
def At (b : List UInt8) (i : Nat) (l : List UInt8) : Prop := i + l.length ≤ b.length ∧ ∀ k, k < l.length → lB b (i + k) = lB l k
theorem lB_right (l m : List UInt8) (k : Nat) : lB (l ++ m) (l.length + k) = lB m k := by
  unfold lB; rw [List.getElem?_append_right (by omega), show l.length + k - l.length = k by omega]
theorem lB_take (b : List UInt8) (k i : Nat) (h : i < k) : lB (b.take k) i = lB b i := by
  unfold lB; rw [List.getElem?_take_of_lt h]
theorem At.app {b : List UInt8} {i : Nat} {l m : List UInt8} : At b i (l ++ m) ↔ At b i l ∧ At b (i + l.length) m := by
  unfold At
  constructor
  · rintro ⟨h1, h2⟩
    rw [List.length_append] at h1
    refine ⟨⟨by omega, fun k hk => ?_⟩, ⟨by omega, fun k hk => ?_⟩⟩
    · rw [h2 k (by rw [List.length_append]; omega), lB_app _ _ _ hk]
    · rw [Nat.add_assoc, h2 (l.length + k) (by rw [List.length_append]; omega), lB_right]
  · rintro ⟨⟨h1, h2⟩, h3, h4⟩
    refine ⟨by rw [List.length_append]; omega, fun k hk => ?_⟩
    rw [List.length_append] at hk
    rcases Nat.lt_or_ge k l.length with h | h
    · rw [h2 k h, lB_app _ _ _ h]
    · obtain ⟨t, rfl⟩ : ∃ t, k = l.length + t := ⟨k - l.length, by omega⟩
      rw [lB_right, ← h4 t (by omega), Nat.add_assoc]
theorem At.nil (b : List UInt8) (i : Nat) (h : i ≤ b.length) : At b i [] := ⟨by simpa using h, fun k hk => by simp at hk⟩
theorem At.take {b : List UInt8} {i : Nat} {l : List UInt8} (h : At b i l) (k : Nat) (hk : i + l.length ≤ k) : At (b.take k) i l :=
  ⟨by rw [List.length_take]; have := h.1; omega, fun j hj => by rw [lB_take _ _ _ (by omega)]; exact h.2 j hj⟩
theorem At.more {b : List UInt8} {i : Nat} {l : List UInt8} (h : At b i l) (c : List UInt8) : At (b ++ c) i l :=
  ⟨by rw [List.length_append]; have := h.1; omega, fun j hj => by rw [lB_app _ _ _ (by have := h.1; omega)]; exact h.2 j hj⟩
theorem eq_of_lB {l m : List UInt8} (hl : l.length = m.length) (h : ∀ k, k < l.length → lB l k = lB m k) : l = m := by
  apply List.ext_getElem hl
  intro i h1 h2
  have := h i h1
  unfold lB at this
  rw [List.getElem?_eq_getElem h1, List.getElem?_eq_getElem h2] at this
  exact this
theorem At.all {b l : List UInt8} (h : At b 0 l) (hl : l.length = b.length) : b = l :=
  eq_of_lB hl.symm fun k hk => by have := h.2 k (by omega); rwa [Nat.zero_add] at this
theorem At.self (l : List UInt8) : At l 0 l := ⟨by omega, fun k _ => by rw [Nat.zero_add]⟩
theorem At.front {b l : List UInt8} (h : At b 0 l) : b.take l.length = l := by
  have := (h.take l.length (by omega)).all (by rw [List.length_take]; have := h.1; omega)
  exact this
/-! Numbers -/
theorem num1 (s : Nat → UInt8) (a : Nat) : numN s a 1 = (s a).toNat := by simp [numN]
theorem num2 (s : Nat → UInt8) (a : Nat) : numN s a 2 = (s a).toNat + (s (a + 1)).toNat * 256 := by simp [numN]
theorem num4 (s : Nat → UInt8) (a : Nat) : numN s a 4 = (s a).toNat + (s (a + 1)).toNat * 256 + (s (a + 2)).toNat * 65536 + (s (a + 3)).toNat * 16777216 := by simp [numN]
theorem u8_of (n : Nat) (x : UInt8) (h : n % 256 = x.toNat) : UInt8.ofNat n = x := by
  apply UInt8.toNat_inj.1
  rw [UInt8.toNat_ofNat']; exact h
theorem two_len (n : Nat) : (two n).length = 2 := rfl
theorem two_at {b : List UInt8} {i n : Nat} (hn : n < 65536) : At b i (two n) ↔ i + 2 ≤ b.length ∧ numN (lB b) i 2 = n := by
  rw [num2]
  have h1 := (lB b i).toNat_lt
  have h2 := (lB b (i + 1)).toNat_lt
  constructor
  · rintro ⟨h, k⟩
    have k0 := k 0 (by rw [two_len]; omega)
    have k1 := k 1 (by rw [two_len]; omega)
    refine ⟨h, ?_⟩
    rw [Nat.add_zero] at k0
    rw [k0, k1]
    show (UInt8.ofNat n).toNat + (UInt8.ofNat (n / 256)).toNat * 256 = n
    rw [UInt8.toNat_ofNat', UInt8.toNat_ofNat']; omega
  · rintro ⟨h, k⟩
    refine ⟨h, fun j hj => ?_⟩
    rw [two_len] at hj
    rcases (by omega : j = 0 ∨ j = 1) with rfl | rfl
    · rw [Nat.add_zero]; exact (u8_of n _ (by omega)).symm
    · exact (u8_of (n / 256) _ (by omega)).symm
theorem le4_len (n : Nat) : (le4 n).length = 4 := rfl
theorem le4_at {b : List UInt8} {i n : Nat} (hn : n < 4294967296) : At b i (le4 n) ↔ i + 4 ≤ b.length ∧ numN (lB b) i 4 = n := by
  rw [num4]
  have h1 := (lB b i).toNat_lt
  have h2 := (lB b (i + 1)).toNat_lt
  have h3 := (lB b (i + 2)).toNat_lt
  have h4 := (lB b (i + 3)).toNat_lt
  constructor
  · rintro ⟨h, k⟩
    have k0 := k 0 (by rw [le4_len]; omega)
    have k1 := k 1 (by rw [le4_len]; omega)
    have k2 := k 2 (by rw [le4_len]; omega)
    have k3 := k 3 (by rw [le4_len]; omega)
    refine ⟨h, ?_⟩
    rw [Nat.add_zero] at k0
    rw [k0, k1, k2, k3]
    show (UInt8.ofNat n).toNat + (UInt8.ofNat (n / 256)).toNat * 256 + (UInt8.ofNat (n / 65536)).toNat * 65536 + (UInt8.ofNat (n / 16777216)).toNat * 16777216 = n
    rw [UInt8.toNat_ofNat', UInt8.toNat_ofNat', UInt8.toNat_ofNat', UInt8.toNat_ofNat']; omega
  · rintro ⟨h, k⟩
    refine ⟨h, fun j hj => ?_⟩
    rw [le4_len] at hj
    rcases (by omega : j = 0 ∨ j = 1 ∨ j = 2 ∨ j = 3) with rfl | rfl | rfl | rfl
    · rw [Nat.add_zero]; exact (u8_of n _ (by omega)).symm
    · exact (u8_of (n / 256) _ (by omega)).symm
    · exact (u8_of (n / 65536) _ (by omega)).symm
    · exact (u8_of (n / 16777216) _ (by omega)).symm
theorem one_at {b : List UInt8} {i n : Nat} (hn : n < 256) : At b i [UInt8.ofNat n] ↔ i + 1 ≤ b.length ∧ numN (lB b) i 1 = n := by
  rw [num1]
  have h1 := (lB b i).toNat_lt
  constructor
  · rintro ⟨h, k⟩
    have k0 := k 0 (by simp)
    refine ⟨h, ?_⟩
    rw [Nat.add_zero] at k0
    rw [k0]
    show (UInt8.ofNat n).toNat = n
    rw [UInt8.toNat_ofNat']; omega
  · rintro ⟨h, k⟩
    refine ⟨h, fun j hj => ?_⟩
    obtain rfl : j = 0 := by simpa using hj
    rw [Nat.add_zero]; exact (u8_of n _ (by omega)).symm
/-! One thing read and written -/
structure Good {α : Type} (rd : RdT α) (enc : α → List UInt8) (ok : α → Bool) (C : α → Prop) : Prop where
  get : ∀ b i v j, rd b i = .ok (v, j) → ok v = true ∧ C v ∧ j = i + (enc v).length ∧ At b i (enc v)
  put : ∀ b i v, ok v = true → C v → At b i (enc v) → rd b i = .ok (v, i + (enc v).length)
  short : ∀ b i v j k, rd b i = .ok (v, j) → i ≤ k → k < j → ∃ a, a ≤ k ∧ rd (b.take k) i = .error (a, 10)
theorem rdN_ok {n : Nat} {ok : Nat → Bool} {b : List UInt8} {i v j : Nat} (h : rdN n ok b i = .ok (v, j)) : i + n ≤ b.length ∧ numN (lB b) i n = v ∧ ok v = true ∧ j = i + n := by
  unfold rdN at h
  by_cases hl : b.length < i + n
  · rw [if_pos hl] at h; cases h
  · rw [if_neg hl] at h
    cases ho : ok (numN (lB b) i n)
    · rw [ho] at h; cases h
    · rw [ho, cond_true] at h
      simp only [Except.ok.injEq, Prod.mk.injEq] at h
      obtain ⟨rfl, rfl⟩ := h
      exact ⟨by omega, rfl, ho, rfl⟩
theorem rdN_yes {n : Nat} {ok : Nat → Bool} {b : List UInt8} {i v : Nat} (hl : i + n ≤ b.length) (hv : numN (lB b) i n = v) (ho : ok v = true) : rdN n ok b i = .ok (v, i + n) := by
  unfold rdN
  rw [if_neg (by omega), hv, ho, cond_true]
theorem rdN_short {n : Nat} {ok : Nat → Bool} {b : List UInt8} {i k : Nat} (hk : k < i + n) : rdN n ok (b.take k) i = .error (i, 10) := by
  unfold rdN
  rw [if_pos (by rw [List.length_take]; omega)]
theorem goodS : Good rdS sB okI (fun _ => True) where
  get b i v j h := by
    unfold rdS at h
    cases hn : rdN 2 okS b i with
    | error e => rw [hn] at h; cases h
    | ok x =>
      obtain ⟨x, j'⟩ := x
      rw [hn] at h
      simp only [Except.ok.injEq, Prod.mk.injEq] at h
      obtain ⟨rfl, rfl⟩ := h
      obtain ⟨h1, h2, h3, h4⟩ := rdN_ok hn
      unfold okS at h3
      simp only [decide_eq_true_eq] at h3
      refine ⟨by unfold okI; simp; omega, trivial, h4, ?_⟩
      unfold sB
      rw [Int.toNat_natCast]
      exact (two_at (by omega)).2 ⟨h1, h2⟩
  put b i v h _ ha := by
    unfold okI at h
    simp only [decide_eq_true_eq] at h
    obtain ⟨h1, h2⟩ := (two_at (by omega)).1 ha
    unfold rdS
    rw [rdN_yes h1 h2 (by unfold okS; simp; omega)]
    show Except.ok ((v.toNat : Int), i + 2) = Except.ok (v, i + 2)
    rw [Int.toNat_of_nonneg h.1]
  short b i v j k h hi hk := by
    unfold rdS at h
    cases hn : rdN 2 okS b i with
    | error e => rw [hn] at h; cases h
    | ok x =>
      obtain ⟨x, j'⟩ := x
      rw [hn] at h
      simp only [Except.ok.injEq, Prod.mk.injEq] at h
      obtain ⟨rfl, rfl⟩ := h
      obtain ⟨h1, h2, h3, h4⟩ := rdN_ok hn
      refine ⟨i, hi, ?_⟩
      unfold rdS
      rw [rdN_short (by omega)]
def CanD (d : Nat → UInt8) : Prop := ∀ k, 32 ≤ k → d k = 0
theorem dB_len (d : Nat → UInt8) : (dB d).length = 32 := by simp [dB]
theorem dB_lB (d : Nat → UInt8) (k : Nat) (h : k < 32) : lB (dB d) k = d k := by simp [dB, lB, h]
theorem goodD : Good rdD dB okD CanD where
  get b i v j h := by
    unfold rdD at h
    by_cases hl : b.length < i + 32
    · rw [if_pos hl] at h; cases h
    · rw [if_neg hl] at h
      simp only [Except.ok.injEq, Prod.mk.injEq] at h
      obtain ⟨rfl, rfl⟩ := h
      refine ⟨rfl, fun k hk => by unfold dgAt; rw [if_neg (by omega)], by rw [dB_len], ?_⟩
      refine ⟨by rw [dB_len]; omega, fun k hk => ?_⟩
      rw [dB_len] at hk
      rw [dB_lB _ _ hk]; unfold dgAt; rw [if_pos hk]
  put b i v _ hc ha := by
    obtain ⟨h1, h2⟩ := ha
    rw [dB_len] at h1 h2
    unfold rdD
    rw [if_neg (by omega), dB_len]
    have : dgAt b i = v := by
      funext k
      unfold dgAt
      by_cases hk : k < 32
      · rw [if_pos hk, h2 k hk, dB_lB _ _ hk]
      · rw [if_neg hk, hc k (by omega)]
    rw [this]
  short b i v j k h hi hk := by
    unfold rdD at h
    by_cases hl : b.length < i + 32
    · rw [if_pos hl] at h; cases h
    · rw [if_neg hl] at h
      simp only [Except.ok.injEq, Prod.mk.injEq] at h
      obtain ⟨rfl, rfl⟩ := h
      refine ⟨i, hi, ?_⟩
      unfold rdD
      rw [if_pos (by rw [List.length_take]; omega)]
theorem rdF_ok {b : List UInt8} {i : Nat} {v : Fd} {j : Nat} (h : rdF b i = .ok (v, j)) : ∃ k a : Nat, v = ((k : Int), (a : Int)) ∧ rdN 1 okK b i = .ok (k, i + 1) ∧ rdN 2 okA b (i + 1) = .ok (a, i + 3) ∧ j = i + 3 := by
  unfold rdF at h
  cases hn : rdN 1 okK b i with
  | error e => rw [hn] at h; cases h
  | ok x =>
    obtain ⟨x, j1⟩ := x
    rw [hn] at h
    obtain ⟨-, -, -, rfl⟩ := rdN_ok hn
    dsimp only at h
    cases hm : rdN 2 okA b (i + 1) with
    | error e => rw [hm] at h; cases h
    | ok y =>
      obtain ⟨y, j2⟩ := y
      rw [hm] at h
      obtain ⟨-, -, -, rfl⟩ := rdN_ok hm
      simp only [Except.ok.injEq, Prod.mk.injEq] at h
      obtain ⟨rfl, rfl⟩ := h
      exact ⟨x, y, rfl, rfl, rfl, rfl⟩
theorem fB_len (f : Fd) : (fB f).length = 3 := rfl
theorem fB_app (f : Fd) : fB f = [UInt8.ofNat f.1.toNat] ++ two f.2.toNat := rfl
theorem goodF : Good rdF fB okF (fun _ => True) where
  get b i v j h := by
    obtain ⟨k, a, rfl, h1, h2, rfl⟩ := rdF_ok h
    obtain ⟨p1, p2, p3, -⟩ := rdN_ok h1
    obtain ⟨q1, q2, q3, -⟩ := rdN_ok h2
    unfold okK at p3
    unfold okA at q3
    simp only [decide_eq_true_eq] at p3 q3
    refine ⟨by unfold okF; simp; omega, trivial, rfl, ?_⟩
    rw [fB_app, At.app]
    exact ⟨(one_at (by simp; omega)).2 ⟨p1, by simpa using p2⟩, (two_at (by simp; omega)).2 ⟨q1, by simpa using q2⟩⟩
  put b i v h _ ha := by
    obtain ⟨x, y⟩ := v
    unfold okF at h
    simp only [decide_eq_true_eq] at h
    rw [fB_app, At.app] at ha
    obtain ⟨h1, h2⟩ := (one_at (by simp only; omega)).1 ha.1
    obtain ⟨h3, h4⟩ := (two_at (by simp only; omega)).1 ha.2
    simp only [List.length_cons, List.length_nil, Nat.zero_add] at h1 h2 h3 h4
    unfold rdF
    rw [rdN_yes h1 h2 (by unfold okK; simp; omega)]
    dsimp only
    rw [rdN_yes h3 h4 (by unfold okA; simp; omega)]
    show Except.ok (((x.toNat : Int), (y.toNat : Int)), i + 1 + 2) = Except.ok ((x, y), i + 3)
    rw [Int.toNat_of_nonneg (by omega), Int.toNat_of_nonneg (by omega)]
  short b i v j k h hi hk := by
    obtain ⟨x, y, rfl, h1, h2, rfl⟩ := rdF_ok h
    obtain ⟨p1, p2, p3, -⟩ := rdN_ok h1
    by_cases h0 : k < i + 1
    · exact ⟨i, hi, by unfold rdF; rw [rdN_short h0]⟩
    · refine ⟨i + 1, by omega, ?_⟩
      unfold rdF
      rw [rdN_yes (v := x) (by rw [List.length_take]; omega) (by rw [← p2]; exact numN_congr _ _ _ _ fun t ht => lB_take _ _ _ (by omega)) p3]
      dsimp only
      rw [rdN_short (by omega)]
/-! Lists -/
theorem last_app {α : Type} (l : List α) (v : α) : (l ++ [v]).getLast? = some v := by simp
section
variable {α : Type} {rd : RdT α} {enc : α → List UInt8} {ok : α → Bool} {C : α → Prop} {lt : α → α → Bool}
theorem rdL_get (G : Good rd enc ok C) (b : List UInt8) : ∀ (n : Nat) (acc l : List α) (i j : Nat), i ≤ b.length → rdL rd lt n acc b i = .ok (l, j) →
    ∃ m, l = acc ++ m ∧ m.length = n ∧ chkL ok lt acc.getLast? m = 0 ∧ (∀ v ∈ m, C v) ∧ j = i + (m.flatMap enc).length ∧ At b i (m.flatMap enc)
  | 0, acc, l, i, j, hi, h => by
    simp only [rdL, Except.ok.injEq, Prod.mk.injEq] at h
    obtain ⟨rfl, rfl⟩ := h
    exact ⟨[], by simp, rfl, rfl, by simp, by simp, At.nil _ _ hi⟩
  | n + 1, acc, l, i, j, hi, h => by
    unfold rdL at h
    cases h1 : rd b i with
    | error e => rw [h1] at h; cases h
    | ok x =>
      obtain ⟨v, j'⟩ := x
      rw [h1] at h
      dsimp only at h
      obtain ⟨g1, g2, g3, g4⟩ := G.get b i v j' h1
      cases hb : behO lt acc.getLast? v
      · rw [hb] at h; cases h
      · rw [hb, cond_true] at h
        have := g4.1
        obtain ⟨m, rfl, k2, k3, k4, k5, k6⟩ := rdL_get G b n (acc ++ [v]) l j' j (by omega) h
        rw [last_app] at k3
        subst g3
        refine ⟨v :: m, by simp, by simp [k2], by rw [chkL, g1, hb, cond_true, cond_true, k3], ?_, ?_, ?_⟩
        · intro x hx
          rcases List.mem_cons.1 hx with rfl | hx
          · exact g2
          · exact k4 x hx
        · rw [k5, List.flatMap_cons, List.length_append]; omega
        · rw [List.flatMap_cons, At.app]; exact ⟨g4, k6⟩
def encC (enc : α → List UInt8) (l : List α) : List UInt8 := two l.length ++ l.flatMap enc
theorem rdC_get (G : Good rd enc ok C) {b : List UInt8} {i j : Nat} {l : List α} (h : rdC rd lt b i = .ok (l, j)) : l.length ≤ 65535 ∧ chkL ok lt none l = 0 ∧ (∀ v ∈ l, C v) ∧ j = i + (encC enc l).length ∧ At b i (encC enc l) := by
  unfold rdC at h
  cases h1 : rdN 2 okAny b i with
  | error e => rw [h1] at h; cases h
  | ok x =>
    obtain ⟨n, j'⟩ := x
    rw [h1] at h
    dsimp only at h
    obtain ⟨p1, p2, -, rfl⟩ := rdN_ok h1
    have hn : n < 65536 := by rw [← p2]; exact numN_lt _ _ 2
    obtain ⟨m, rfl, k2, k3, k4, k5, k6⟩ := rdL_get G b n [] l (i + 2) j p1 h
    subst k2
    unfold encC
    refine ⟨by omega, k3, k4, by rw [k5, List.length_append, two_len]; omega, ?_⟩
    rw [At.app]
    exact ⟨(two_at hn).2 ⟨p1, p2⟩, k6⟩
end
/-! The whole -/
def RpC (r : Rp) : Prop := ∀ d ∈ r.ds, CanD d
def headM (r : Rp) : List UInt8 := [65, 82, 1, UInt8.ofNat r.st.toNat]
theorem bodyM_parts (r : Rp) : bodyM r = headM r ++ (encC fB r.fs ++ (encC dB r.ds ++ encC sB r.dr)) := by
  unfold bodyM headM encC; simp
theorem checkM_zero (r : Rp) : checkM r = 0 ↔ okSt r.st = true ∧ (r.fs.length ≤ 65535 ∧ r.ds.length ≤ 65535 ∧ r.dr.length ≤ 65535) ∧ chkL okF ltF none r.fs = 0 ∧ chkL okD ltD none r.ds = 0 ∧ chkL okI ltI none r.dr = 0 := by
  unfold checkM longM chk3
  cases okSt r.st
  · simp
  · by_cases h : 65535 < r.fs.length ∨ 65535 < r.ds.length ∨ 65535 < r.dr.length
    · simp [h]; omega
    · simp only [h, decide_false, cond_true, cond_false]
      have h' : r.fs.length ≤ 65535 ∧ r.ds.length ≤ 65535 ∧ r.dr.length ≤ 65535 := by omega
      by_cases h1 : chkL okF ltF none r.fs = 0
      · by_cases h2 : chkL okD ltD none r.ds = 0
        · simp [h1, h2, h']
        · simp [h1, h2]
      · simp [h1]
theorem rdH_ok {b : List UInt8} {s : Int} (h : rdH b = .ok s) : okSt s = true ∧ At b 0 [65, 82, 1, UInt8.ofNat s.toNat] := by
  unfold rdH at h
  by_cases h4 : b.length < 4
  · rw [if_pos h4] at h; cases h
  · rw [if_neg h4] at h
    by_cases h3 : b.take 3 = headB
    · rw [if_pos h3] at h
      cases ho : okSt ((lB b 3).toNat : Int)
      · rw [ho] at h; cases h
      · rw [ho, cond_true] at h
        simp only [Except.ok.injEq] at h
        subst h
        refine ⟨ho, ?_⟩
        have e : [65, 82, 1, UInt8.ofNat ((lB b 3).toNat : Int).toNat] = headB ++ [lB b 3] := by
          rw [Int.toNat_natCast, UInt8.ofNat_toNat]; rfl
        rw [e, At.app]
        constructor
        · refine ⟨by show 0 + 3 ≤ _; omega, fun k hk => ?_⟩
          rw [← h3, Nat.zero_add, lB_take]
          exact hk
        · refine ⟨by show 0 + 3 + 1 ≤ _; omega, fun k hk => ?_⟩
          obtain rfl : k = 0 := by simpa using hk
          rfl
    · rw [if_neg h3] at h; cases h
theorem rdR_split {b : List UInt8} {r : Rp} {j : Nat} (h : rdR b = .ok (r, j)) : ∃ i1 i2, rdH b = .ok r.st ∧ rdC rdF ltF b 4 = .ok (r.fs, i1) ∧ rdC rdD ltD b i1 = .ok (r.ds, i2) ∧ rdC rdS ltI b i2 = .ok (r.dr, j) := by
  unfold rdR at h
  cases h0 : rdH b with
  | error e => rw [h0] at h; cases h
  | ok s =>
    rw [h0] at h
    dsimp only at h
    cases h1 : rdC rdF ltF b 4 with
    | error e => rw [h1] at h; cases h
    | ok x =>
      obtain ⟨fs, i1⟩ := x
      rw [h1] at h
      dsimp only at h
      cases h2 : rdC rdD ltD b i1 with
      | error e => rw [h2] at h; cases h
      | ok x =>
        obtain ⟨ds, i2⟩ := x
        rw [h2] at h
        dsimp only at h
        cases h3 : rdC rdS ltI b i2 with
        | error e => rw [h3] at h; cases h
        | ok x =>
          obtain ⟨dr, i3⟩ := x
          rw [h3] at h
          simp only [Except.ok.injEq, Prod.mk.injEq] at h
          obtain ⟨rfl, rfl⟩ := h
          exact ⟨i1, i2, rfl, rfl, h2, h3⟩
theorem rdR_get {b : List UInt8} {r : Rp} {j : Nat} (h : rdR b = .ok (r, j)) : RpC r ∧ checkM r = 0 ∧ j = (bodyM r).length ∧ At b 0 (bodyM r) := by
  obtain ⟨i1, i2, h0, h1, h2, h3⟩ := rdR_split h
  obtain ⟨a0, b0⟩ := rdH_ok h0
  obtain ⟨a1, b1, c1, d1, e1⟩ := rdC_get goodF h1
  obtain ⟨a2, b2, c2, d2, e2⟩ := rdC_get goodD h2
  obtain ⟨a3, b3, c3, d3, e3⟩ := rdC_get goodS h3
  subst d1
  subst d2
  refine ⟨c2, (checkM_zero r).2 ⟨a0, ⟨a1, a2, a3⟩, b1, b2, b3⟩, ?_, ?_⟩
  · rw [bodyM_parts, d3]
    simp only [List.length_append]
    have : (headM r).length = 4 := rfl
    omega
  · rw [bodyM_parts, At.app, At.app, At.app]
    refine ⟨b0, ?_, ?_, ?_⟩
    · exact e1
    · exact e2
    · exact e3
theorem sum_lt (l : List UInt8) : (sumL l).toNat < 4294967296 := (sumL l).isLt
/-- Put of what Get answered is the bytes. -/
theorem getM_ok {b : List UInt8} {r : Rp} (h : getM b = .ok r) : RpC r ∧ checkM r = 0 ∧ b = bytesM r := by
  unfold getM at h
  cases h1 : rdR b with
  | error e => rw [h1] at h; cases h
  | ok x =>
    obtain ⟨r', i⟩ := x
    rw [h1] at h
    dsimp only at h
    obtain ⟨c1, c2, rfl, c4⟩ := rdR_get h1
    unfold rdE at h
    by_cases k1 : b.length < (bodyM r').length + 4
    · rw [if_pos k1] at h; cases h
    · rw [if_neg k1, c4.front] at h
      by_cases k2 : numN (lB b) (bodyM r').length 4 = (sumL (bodyM r')).toNat
      · rw [if_pos k2] at h
        by_cases k3 : (bodyM r').length + 4 < b.length
        · rw [if_pos k3] at h; cases h
        · rw [if_neg k3] at h
          simp only [Except.ok.injEq] at h
          subst h
          refine ⟨c1, c2, ?_⟩
          have : At b 0 (bytesM r') := by
            unfold bytesM
            rw [At.app, Nat.zero_add]
            exact ⟨c4, (le4_at (sum_lt _)).2 ⟨by omega, k2⟩⟩
          exact this.all (by unfold bytesM; rw [List.length_append, le4_len]; omega)
      · rw [if_neg k2] at h; cases h
end Go.Proofs.YtklbdhpnbjhgkaaGreatDoor
