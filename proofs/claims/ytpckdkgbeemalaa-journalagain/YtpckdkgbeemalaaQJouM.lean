import Derived.Test.YtpckdkgbeemalaaQDst
import Derived.Test.YtpckdkgbeemalaaQMarM
namespace Go.Proofs.Ytpckdkgbeemalaa
open Go.RowKit

/-! The journal by definition, over a device's states; a batch is done whole, wherever it stops. -/
/-- Some writes and a flush. -/
def jpR (st : DSt) : List Wr → Int
  | [] => flRes st
  | x :: r => if wrRes st x.1 = 0 then jpR (wrSt st x.1 x.2) r else wrRes st x.1
def jpS (st : DSt) : List Wr → DSt
  | [] => flSt st
  | x :: r => if wrRes st x.1 = 0 then jpS (wrSt st x.1 x.2) r else wrSt st x.1 x.2
def seqR (st : DSt) : List (List Wr) → Int
  | [] => 0
  | l :: r => if jpR st l = 0 then seqR (jpS st l) r else jpR st l
def seqS (st : DSt) : List (List Wr) → DSt
  | [] => st
  | l :: r => if jpR st l = 0 then seqS (jpS st l) r else jpS st l
def dnI (st : DSt) : Int := (st.last.length : Int)
def jlW (l : List Wr) : List Wr := (List.range l.length).map fun i => (((3 + i : Nat) : Int), dtW l i)
def clrL : List Wr := [(2, secZ)]
def doL (l : List Wr) (n : Int) : List (List Wr) := [jlW l, [(2, mPutS l n)], l, clrL]
def doR (st : DSt) (l : List Wr) : Int := if mPutE l (dnI st) = 0 then seqR st (doL l (dnI st)) else mPutE l (dnI st)
def doS (st : DSt) (l : List Wr) : DSt := if mPutE l (dnI st) = 0 then seqS st (doL l (dnI st)) else st
def rd9 (st : DSt) : DSt := { st with rd := st.rd + 9 }
/-- What a disk's mark tells. -/
def dK (L : List Sc) : Int := mStK ((L[2]?).getD secZ) ((L.drop 3).take 8) (L.length : Int)
def dW (L : List Sc) : List Wr := mStL ((L[2]?).getD secZ) ((L.drop 3).take 8) (L.length : Int)
def rpK (st : DSt) : Int := dK (over st.last st.pend)
def rpL (st : DSt) : List Wr := dW (over st.last st.pend)
def rpLs (st : DSt) : List (List Wr) := if rpK st = 2 then [rpL st, clrL] else if rpK st = 3 then [clrL] else []
def repE (st : DSt) : Int := if st.down then 21 else seqR (rd9 st) (rpLs st)
def repK (st : DSt) : Int := if repE st = 0 then rpK st else 0
def repS (st : DSt) : DSt := if st.down then st else seqS (rd9 st) (rpLs st)
/-! Acts one behind the other -/
abbrev JAc := Option Wr
def acR (st : DSt) : JAc → Int
  | some x => wrRes st x.1
  | none => flRes st
def acS (st : DSt) : JAc → DSt
  | some x => wrSt st x.1 x.2
  | none => flSt st
def runR (st : DSt) : List JAc → Int
  | [] => 0
  | a :: r => if acR st a = 0 then runR (acS st a) r else acR st a
def runS (st : DSt) : List JAc → DSt
  | [] => st
  | a :: r => if acR st a = 0 then runS (acS st a) r else acS st a
def acL (l : List Wr) : List JAc := l.map some ++ [none]
theorem runA_app (a b : List JAc) : ∀ st, runR st (a ++ b) = (if runR st a = 0 then runR (runS st a) b else runR st a) ∧ runS st (a ++ b) = (if runR st a = 0 then runS (runS st a) b else runS st a) := by
  induction a with
  | nil => intro st; simp [runR, runS]
  | cons x r ih =>
    intro st
    simp only [List.cons_append, runR, runS]
    by_cases h : acR st x = 0
    · simp only [h, if_true]; exact ih _
    · simp only [h, if_false]; exact ⟨trivial, trivial⟩
theorem put_run (l : List Wr) : ∀ st, jpR st l = runR st (acL l) ∧ jpS st l = runS st (acL l) := by
  induction l with
  | nil =>
    intro st
    simp only [acL, List.map_nil, List.nil_append, jpR, jpS, runR, runS, acR, acS]
    by_cases h : flRes st = 0 <;> simp [h]
  | cons x r ih =>
    intro st
    have : acL (x :: r) = some x :: acL r := rfl
    rw [this]
    simp only [jpR, jpS, runR, runS, acR, acS]
    by_cases h : wrRes st x.1 = 0
    · simp only [h, if_true]; exact ih _
    · simp only [h, if_false]; exact ⟨trivial, trivial⟩
def acLs (ls : List (List Wr)) : List JAc := (ls.map acL).flatten
theorem seq_run (ls : List (List Wr)) : ∀ st, seqR st ls = runR st (acLs ls) ∧ seqS st ls = runS st (acLs ls) := by
  induction ls with
  | nil => intro st; exact ⟨rfl, rfl⟩
  | cons l r ih =>
    intro st
    have e : acLs (l :: r) = acL l ++ acLs r := rfl
    obtain ⟨h1, h2⟩ := put_run l st
    obtain ⟨h3, h4⟩ := runA_app (acL l) (acLs r) st
    rw [e, h3, h4]
    simp only [seqR, seqS, h1, h2]
    by_cases h : runR st (acL l) = 0
    · simp only [h, if_true]; exact ih _
    · simp only [h, if_false]; exact ⟨trivial, trivial⟩
/-- What acts that are done leave. -/
def effA (q : List Sc × List Wr) : JAc → List Sc × List Wr
  | some x => (q.1, q.2 ++ [x])
  | none => (over q.1 q.2, [])
def eff (q : List Sc × List Wr) (az : List JAc) : List Sc × List Wr := az.foldl effA q
def inA (n : Nat) (az : List JAc) : Prop := ∀ x, some x ∈ az → 0 ≤ x.1 ∧ x.1 < (n : Int)
/-- How many acts are done. -/
def mA (st : DSt) (az : List JAc) : Nat := if st.left < 0 then az.length else min st.left.toNat az.length
theorem eff_len (az : List JAc) : ∀ q, (eff q az).1.length = q.1.length := by
  induction az with
  | nil => intro q; rfl
  | cons a r ih =>
    intro q
    show (eff (effA q a) r).1.length = _
    rw [ih]
    cases a with
    | some x => rfl
    | none => exact over_len _ _
theorem run_spec (az : List JAc) : ∀ st, st.down = false → inA st.last.length az →
    runR st az = (if mA st az = az.length then 0 else 21) ∧ (runS st az).last = (eff (st.last, st.pend) (az.take (mA st az))).1 ∧ (runS st az).pend = (eff (st.last, st.pend) (az.take (mA st az))).2 ∧
    (runS st az).wt + (runS st az).fl = st.wt + st.fl + mA st az ∧ (runS st az).down = decide (mA st az ≠ az.length) ∧ (runS st az).rd = st.rd ∧ (st.left < 0 → (runS st az).left = st.left) := by
  induction az with
  | nil =>
    intro st hd _
    have : mA st [] = 0 := by unfold mA; simp
    rw [this]
    simp [runR, runS, eff, hd]
  | cons a r ih =>
    intro st hd hin
    by_cases h0 : st.left = 0
    · have hm : mA st (a :: r) = 0 := by unfold mA; simp [h0]
      have hb : mayB st = false := by unfold mayB; simp [h0]
      have hS : mayS st = { st with down := true } := by unfold mayS; rw [if_pos h0]
      have e1 : acR st a = 21 := by
        cases a with
        | some x =>
          have ht : thereB st x.1 = true := by unfold thereB; simp; exact hin x (by simp)
          show wrRes st x.1 = 21
          unfold wrRes; simp [hd, ht, hb]
        | none => show flRes st = 21; unfold flRes; simp [hd, hb]
      have e2 : acS st a = { st with down := true } := by
        cases a with
        | some x =>
          have ht : thereB st x.1 = true := by unfold thereB; simp; exact hin x (by simp)
          show wrSt st x.1 x.2 = _
          unfold wrSt; simp [hd, ht, hb, hS]
        | none => show flSt st = _; unfold flSt; simp [hd, hb, hS]
      rw [hm]
      simp only [runR, runS, e1, e2]
      simp [eff, h0]
    · have hb : mayB st = true := by unfold mayB; simp [h0]
      have hsame := mayS_same st
      have hlf : (mayS st).left = if 0 < st.left then st.left - 1 else st.left := by
        unfold mayS; rw [if_neg h0]; split <;> rfl
      have hdn : (mayS st).down = false := by unfold mayS; rw [if_neg h0]; split <;> exact hd
      have e1 : acR st a = 0 := by
        cases a with
        | some x =>
          have ht : thereB st x.1 = true := by unfold thereB; simp; exact hin x (by simp)
          show wrRes st x.1 = 0
          unfold wrRes; simp [hd, ht, hb]
        | none => show flRes st = 0; unfold flRes; simp [hd, hb]
      obtain ⟨st', hst, k1, k2, k3, k4, k5, k6⟩ : ∃ st', acS st a = st' ∧ st'.down = false ∧ (st'.last, st'.pend) = effA (st.last, st.pend) a ∧ st'.wt + st'.fl = st.wt + st.fl + 1 ∧ st'.left = (if 0 < st.left then st.left - 1 else st.left) ∧ st'.rd = st.rd ∧ st'.last.length = st.last.length := by
        cases a with
        | some x =>
          have ht : thereB st x.1 = true := by unfold thereB; simp; exact hin x (by simp)
          refine ⟨_, rfl, ?_⟩
          show (wrSt st x.1 x.2).down = false ∧ _
          have : acS st (some x) = { mayS st with pend := st.pend ++ [(x.1, x.2)], wt := st.wt + 1 } := by
            show wrSt st x.1 x.2 = _
            unfold wrSt; simp [hd, ht, hb]
          rw [this]
          have hw : wrSt st x.1 x.2 = { mayS st with pend := st.pend ++ [(x.1, x.2)], wt := st.wt + 1 } := this
          rw [hw]
          refine ⟨hdn, ?_, ?_, hlf, hsame.2.2.1, ?_⟩
          · simp only [effA, hsame.1]
          · simp only [hsame.2.2.2.2]; omega
          · simp only [hsame.1]
        | none =>
          refine ⟨_, rfl, ?_⟩
          have : acS st none = { mayS st with last := over st.last st.pend, pend := [], fl := st.fl + 1 } := by
            show flSt st = _
            unfold flSt; simp [hd, hb]
          rw [this]
          refine ⟨hdn, rfl, ?_, hlf, hsame.2.2.1, ?_⟩
          · simp only [hsame.2.2.2.1]; omega
          · simp only [over_len]
      obtain ⟨i1, i2, i3, i4, i5, i6, i7⟩ := ih st' k1 (fun x hx => by rw [k6]; exact hin x (by simp [hx]))
      have hm : mA st (a :: r) = mA st' r + 1 := by
        unfold mA
        by_cases hn : st.left < 0
        · have k4' : st'.left = st.left := by rw [k4, if_neg (by omega)]
          rw [k4', if_pos hn, if_pos hn]; rfl
        · have k4' : st'.left = st.left - 1 := by rw [k4, if_pos (by omega)]
          rw [k4', if_neg hn, if_neg (by omega), List.length_cons]; omega
      simp only [runR, runS, e1, if_true, hst]
      rw [hm]
      simp only [List.take_succ_cons, List.length_cons]
      have hf : eff (st.last, st.pend) (a :: r.take (mA st' r)) = eff (st'.last, st'.pend) (r.take (mA st' r)) := by
        show eff (effA _ a) _ = _
        rw [← k2]
      rw [hf]
      refine ⟨?_, i2, i3, by omega, ?_, by omega, fun hn => ?_⟩
      · rw [i1]; simp
      · rw [i5]; simp
      · rw [i7 (by rw [k4, if_neg (by omega)]; exact hn), k4, if_neg (by omega)]
end Go.Proofs.Ytpckdkgbeemalaa
namespace Go.Proofs.Ytpckdkgbeemalaa
open Go.RowKit

/-! What is written over a disk, sector by sector -/
def lw (i : Nat) : List Wr → Option Sc
  | [] => none
  | x :: r => match lw i r with | some s => some s | none => if x.1.toNat = i then some x.2 else none
theorem lw_cons (i : Nat) (x : Wr) (r : List Wr) : lw i (x :: r) = match lw i r with | some s => some s | none => if x.1.toNat = i then some x.2 else none := rfl
theorem lw_none {i : Nat} : ∀ {p : List Wr}, lw i p = none ↔ ∀ x ∈ p, x.1.toNat ≠ i
  | [] => by simp [lw]
  | x :: r => by
    have ih := lw_none (i := i) (p := r)
    unfold lw
    cases h : lw i r with
    | some s =>
      simp only [reduceCtorEq, List.mem_cons, false_iff]
      intro hx
      rw [ih.2 (fun y hy => hx y (.inr hy))] at h; cases h
    | none =>
      have := ih.1 h
      by_cases hx : x.1.toNat = i
      · simp [hx]
      · simp only [hx, if_false, true_iff, List.mem_cons]
        rintro y (rfl | hy)
        · exact hx
        · exact this y hy
theorem over_cons (l : List Sc) (x : Wr) (r : List Wr) : over l (x :: r) = over (l.set x.1.toNat x.2) r := rfl
theorem over_get (p : List Wr) : ∀ (l : List Sc) (i : Nat), (over l p)[i]? = match lw i p with | some s => if i < l.length then some s else none | none => l[i]? := by
  induction p with
  | nil => intro l i; rfl
  | cons x r ih =>
    intro l i
    rw [over_cons, ih, List.length_set, lw_cons]
    cases h : lw i r with
    | some s => rfl
    | none =>
      simp only []
      rw [List.getElem?_set]
      by_cases hx : x.1.toNat = i
      · simp only [hx, if_true]
      · simp only [hx, if_false]
theorem over_other {l : List Sc} {p : List Wr} {i : Nat} (h : ∀ x ∈ p, x.1.toNat ≠ i) : (over l p)[i]? = l[i]? := by
  rw [over_get, lw_none.2 h]
theorem over_at {l m : List Sc} {p : List Wr} {i : Nat} (h : l[i]? = m[i]?) (hl : l.length = m.length) : (over l p)[i]? = (over m p)[i]? := by
  rw [over_get, over_get, hl, h]
theorem over_sub {l : List Sc} {q p : List Wr} (h : ∀ x ∈ q, ∃ y ∈ p, y.1.toNat = x.1.toNat) : over (over l q) p = over l p := by
  apply List.ext_getElem?
  intro i
  rw [over_get p (over l q), over_get p l, over_len]
  cases hp : lw i p with
  | some s => rfl
  | none =>
    simp only []
    exact over_other fun x hx e => by
      obtain ⟨y, hy, he⟩ := h x hx
      exact lw_none.1 hp y hy (he.trans e)
theorem over_one (l : List Sc) (a : Int) (s : Sc) : over l [(a, s)] = l.set a.toNat s := rfl
theorem over_app (l : List Sc) (p q : List Wr) : over l (p ++ q) = over (over l p) q := by unfold over; rw [List.foldl_append]
theorem pick_mem : ∀ (p : List Wr) (b : List Bool), ∀ x ∈ pickL p b, x ∈ p
  | [], _, x, h => by simp [pickL] at h
  | y :: p, [], x, h => by simp [pickL] at h
  | y :: p, b :: bs, x, h => by
    unfold pickL at h
    split at h
    · rcases List.mem_cons.1 h with rfl | h
      · simp
      · exact List.mem_cons_of_mem _ (pick_mem p bs x h)
    · exact List.mem_cons_of_mem _ (pick_mem p bs x h)
/-! Acts that are done -/
theorem eff_app (q : List Sc × List Wr) (a b : List JAc) : eff q (a ++ b) = eff (eff q a) b := by unfold eff; rw [List.foldl_append]
theorem eff_map (l : List Wr) : ∀ q : List Sc × List Wr, eff q (l.map some) = (q.1, q.2 ++ l) := by
  induction l with
  | nil => intro q; simp [eff]
  | cons x r ih =>
    intro q
    show eff (effA q (some x)) (r.map some) = _
    rw [ih]
    simp [effA]
theorem eff_acL (q : List Sc × List Wr) (l : List Wr) : eff q (acL l) = (over q.1 (q.2 ++ l), []) := by
  unfold acL
  rw [eff_app, eff_map]; rfl
theorem acL_len (l : List Wr) : (acL l).length = l.length + 1 := by simp [acL]
theorem acL_take {l : List Wr} {m : Nat} (h : m ≤ l.length) : (acL l).take m = (l.take m).map some := by
  unfold acL
  rw [List.take_append_of_le_length (by simpa using h), List.map_take]
/-- Acts of several lists, up to the m-th. -/
theorem take_acLs (l : List Wr) (ls : List (List Wr)) (m : Nat) (q : List Sc × List Wr) :
    (m ≤ l.length ∧ eff q ((acLs (l :: ls)).take m) = (q.1, q.2 ++ l.take m)) ∨ (l.length < m ∧ eff q ((acLs (l :: ls)).take m) = eff (over q.1 (q.2 ++ l), []) ((acLs ls).take (m - (l.length + 1)))) := by
  have e : acLs (l :: ls) = acL l ++ acLs ls := rfl
  by_cases h : m ≤ l.length
  · refine .inl ⟨h, ?_⟩
    rw [e, List.take_append_of_le_length (by rw [acL_len]; omega), acL_take h, eff_map]
  · refine .inr ⟨by omega, ?_⟩
    rw [e, List.take_append, acL_len, List.take_of_length_le (by rw [acL_len]; omega), eff_app, eff_acL]
theorem acLs_len : ∀ ls : List (List Wr), (acLs ls).length = (ls.map fun l => l.length + 1).sum
  | [] => rfl
  | l :: r => by
    have e : acLs (l :: r) = acL l ++ acLs r := rfl
    rw [e, List.length_append, acL_len, acLs_len r]; rfl
theorem mem_acLs {x : Wr} : ∀ {ls : List (List Wr)}, some x ∈ acLs ls → ∃ l ∈ ls, x ∈ l
  | [], h => by simp [acLs] at h
  | l :: r, h => by
    have e : acLs (l :: r) = acL l ++ acLs r := rfl
    rw [e, List.mem_append] at h
    rcases h with h | h
    · unfold acL at h
      simp at h
      exact ⟨l, by simp, h⟩
    · obtain ⟨m, hm, hx⟩ := mem_acLs h
      exact ⟨m, by simp [hm], hx⟩
/-! A replay that is not stopped -/
def repD (L : List Sc) : List Sc := if dK L = 2 then (over L (dW L)).set 2 secZ else if dK L = 3 then L.set 2 secZ else L
theorem geo_of {n : Nat} (h0 : 64 ≤ n) (h1 : n ≤ 1024) : geoOk (n : Int) = true := by
  unfold geoOk; simp; omega
theorem dK_two {L : List Sc} (h : dK L = 2) : batB (L.length : Int) (dW L) = true := by
  unfold dK mStK at h
  unfold dW mStL
  cases hg : geoOk (L.length : Int)
  · rw [hg] at h; simp at h
  · rw [hg] at h
    cases hz : secEq ((L[2]?).getD secZ) secZ
    · rw [hz] at h
      cases hc : mComm ((L[2]?).getD secZ) ((L.drop 3).take 8) (L.length : Int)
      · rw [hc] at h; simp at h
      · simp only [cond_true]
        unfold mComm at hc
        simp only [Bool.and_eq_true] at hc
        exact hc.2.2.1
    · rw [hz] at h; simp at h
theorem dK_range {L : List Sc} (h0 : 64 ≤ L.length) (h1 : L.length ≤ 1024) : dK L = 1 ∨ dK L = 2 ∨ dK L = 3 := by
  unfold dK mStK
  rw [geo_of h0 h1]
  cases secEq ((L[2]?).getD secZ) secZ
  · cases mComm ((L[2]?).getD secZ) ((L.drop 3).take 8) (L.length : Int) <;> simp
  · simp
theorem rpLs_in {st : DSt} (hp : st.pend = []) (h0 : 64 ≤ st.last.length) : inA st.last.length (acLs (rpLs st)) := fun x hx => by
  obtain ⟨l, hl, hxl⟩ := mem_acLs hx
  have he : over st.last st.pend = st.last := by rw [hp]; rfl
  have hclr : x ∈ clrL → 0 ≤ x.1 ∧ x.1 < (st.last.length : Int) := fun h => by
    simp [clrL] at h; subst h; simp; omega
  unfold rpLs rpK rpL at hl
  rw [he] at hl
  by_cases h2 : dK st.last = 2
  · rw [if_pos h2] at hl
    rcases List.mem_cons.1 hl with rfl | hl
    · obtain ⟨i, hi, rfl⟩ := List.mem_iff_getElem.1 hxl
      have := bat_at (dK_two h2) i hi
      rw [(atW_get (List.getElem?_eq_getElem hi)).1] at this
      exact this
    · simp at hl; subst hl; exact hclr hxl
  · rw [if_neg h2] at hl
    by_cases h3 : dK st.last = 3
    · rw [if_pos h3] at hl; simp at hl; subst hl; exact hclr hxl
    · rw [if_neg h3] at hl; simp at hl
theorem eff_rpLs {L : List Sc} {st : DSt} (hp : over st.last st.pend = L) : eff (L, []) (acLs (rpLs st)) = (repD L, []) := by
  unfold rpLs rpK rpL repD
  rw [hp]
  by_cases h2 : dK L = 2
  · rw [if_pos h2, if_pos h2]
    have e : acLs [dW L, clrL] = acL (dW L) ++ acL clrL := by simp [acLs]
    rw [e, eff_app, eff_acL, eff_acL]; rfl
  · rw [if_neg h2, if_neg h2]
    by_cases h3 : dK L = 3
    · rw [if_pos h3, if_pos h3]
      have e : acLs [clrL] = acL clrL := by simp [acLs]
      rw [e, eff_acL]; rfl
    · rw [if_neg h3, if_neg h3]; rfl
/-- One that no stop meets. -/
theorem rep_whole {st : DSt} (hd : st.down = false) (hp : st.pend = []) (hl : st.left < 0) (h0 : 64 ≤ st.last.length) :
    repE st = 0 ∧ repK st = dK st.last ∧ (repS st).last = repD st.last ∧ (repS st).pend = [] ∧ (repS st).down = false ∧ (repS st).left = st.left ∧ (repS st).rd = st.rd + 9 ∧ (repS st).wt + (repS st).fl = st.wt + st.fl + (acLs (rpLs st)).length := by
  have he : over st.last st.pend = st.last := by rw [hp]; rfl
  have hm : mA (rd9 st) (acLs (rpLs st)) = (acLs (rpLs st)).length := by
    unfold mA; rw [if_pos (show (rd9 st).left < 0 from hl)]
  obtain ⟨i1, i2, i3, i4, i5, i6, i7⟩ := run_spec (acLs (rpLs st)) (rd9 st) hd (rpLs_in hp h0)
  rw [hm] at i1 i2 i3 i4 i5
  obtain ⟨s1, s2⟩ := seq_run (rpLs st) (rd9 st)
  have hef : eff ((rd9 st).last, (rd9 st).pend) ((acLs (rpLs st)).take (acLs (rpLs st)).length) = (repD st.last, []) := by
    rw [List.take_length]
    have e9 : ((rd9 st).last, (rd9 st).pend) = (st.last, []) := by show (st.last, st.pend) = _; rw [hp]
    rw [e9]
    exact eff_rpLs he
  rw [hef] at i2 i3
  have hE : repE st = 0 := by unfold repE; rw [hd, s1, i1]; simp
  have hS : repS st = runS (rd9 st) (acLs (rpLs st)) := by unfold repS; rw [hd, s2]; simp
  refine ⟨hE, ?_, ?_⟩
  · unfold repK; rw [if_pos hE]; unfold rpK; rw [he]
  · rw [hS]
    exact ⟨i2, i3, by rw [i5]; simp, i7 hl, i6, i4⟩
end Go.Proofs.Ytpckdkgbeemalaa
namespace Go.Proofs.Ytpckdkgbeemalaa
open Go.RowKit

/-! P10.4: whole or not at all -/
def butN (L : List Sc) : Nat → List Sc
  | 0 => L
  | k + 1 => (butN L k).set (2 + k) secZ
@[simp] theorem butN_len (L : List Sc) : ∀ k, (butN L k).length = L.length
  | 0 => rfl
  | k + 1 => by rw [butN, List.length_set, butN_len L k]
theorem butN_get (L : List Sc) (i : Nat) : ∀ k, (butN L k)[i]? = if 2 ≤ i ∧ i < 2 + k then (if i < L.length then some secZ else none) else L[i]?
  | 0 => by rw [if_neg (by omega)]; rfl
  | k + 1 => by
    rw [butN, List.getElem?_set, butN_len, butN_get L i k]
    by_cases h : 2 + k = i
    · subst h; simp
    · rw [if_neg h]
      by_cases h2 : 2 ≤ i ∧ i < 2 + k
      · rw [if_pos h2, if_pos (show 2 ≤ i ∧ i < 2 + (k + 1) by omega)]
      · rw [if_neg h2, if_neg (show ¬ (2 ≤ i ∧ i < 2 + (k + 1)) by omega)]
def butL (L : List Sc) : List Sc := butN L 9
theorem butL_eq {L M : List Sc} (hl : L.length = M.length) (h : ∀ i, ¬ (2 ≤ i ∧ i < 11) → L[i]? = M[i]?) : butL L = butL M := by
  unfold butL
  apply List.ext_getElem?
  intro i
  rw [butN_get, butN_get, hl]
  by_cases h2 : 2 ≤ i ∧ i < 2 + 9
  · rw [if_pos h2, if_pos h2]
  · rw [if_neg h2, if_neg h2]; exact h i h2
/-- Where a batch writes. -/
theorem bat_pos {n : Int} {l : List Wr} (h : batB n l = true) : ∀ x ∈ l, (0 ≤ x.1 ∧ x.1 < n) ∧ ¬ (2 ≤ x.1.toNat ∧ x.1.toNat < 11) := fun x hx => by
  obtain ⟨i, hi, rfl⟩ := List.mem_iff_getElem.1 hx
  have hb := bat_at h i hi
  have ha := (atW_get (List.getElem?_eq_getElem hi)).1
  unfold batB at h
  rw [Bool.and_eq_true] at h
  have hok := (allW_iff n l l.length).1 h.2 i hi
  unfold okW at hok
  rw [Bool.and_eq_true] at hok
  have ht := hok.1
  rw [ha] at ht hb
  unfold tgtB at ht
  simp at ht
  exact ⟨hb, by omega⟩
theorem jlW_mem {l : List Wr} {x : Wr} (h : x ∈ jlW l) : ∃ i, i < l.length ∧ x = (((3 + i : Nat) : Int), dtW l i) := by
  unfold jlW at h
  rw [List.mem_map] at h
  obtain ⟨i, hi, rfl⟩ := h
  exact ⟨i, by simpa using hi, rfl⟩
theorem jlW_len (l : List Wr) : (jlW l).length = l.length := by simp [jlW]
/-- What the journal's sectors hold behind the batch's first flush. -/
theorem jl_get (L : List Sc) (l : List Wr) (h8 : l.length ≤ 8) (hL : 64 ≤ L.length) (i : Nat) (hi : i < l.length) : (over L (jlW l))[3 + i]? = some (dtW l i) := by
  have key : ∀ k, k ≤ l.length → ∀ i, i < k → (over L ((List.range k).map fun i => (((3 + i : Nat) : Int), dtW l i)))[3 + i]? = some (dtW l i) := by
    intro k
    induction k with
    | zero => intro _ i hi; omega
    | succ k ih =>
      intro hk i hi
      rw [List.range_succ, List.map_append, over_app]
      show (over _ [(((3 + k : Nat) : Int), dtW l k)])[3 + i]? = _
      rw [over_one, Int.toNat_natCast, List.getElem?_set, over_len]
      by_cases e : k = i
      · subst e; rw [if_pos rfl, if_pos (by omega)]
      · rw [if_neg (by omega)]; exact ih (by omega) i (by omega)
  exact key l.length (Nat.le_refl _) i hi
theorem l_eta {l : List Wr} {i : Nat} (hi : i < l.length) : l[i] = (atW l i, dtW l i) := by
  have := atW_get (List.getElem?_eq_getElem hi)
  rw [this.1, this.2]
/-- A disk with a batch's mark and its sectors tells the batch. -/
theorem disk_comm {L : List Sc} {l : List Wr} (h0 : 64 ≤ L.length) (h1 : L.length ≤ 1024) (hb : batB (L.length : Int) l = true) (h2 : L[2]? = some (marS l)) (hj : ∀ i, i < l.length → L[3 + i]? = some (dtW l i)) : dK L = 2 ∧ dW L = l := by
  have hl := bat_len hb
  have hjl : ((L.drop 3).take 8).length = 8 := by simp; omega
  have hjg : ∀ i, i < l.length → i < ((L.drop 3).take 8).length ∧ ((L.drop 3).take 8).getD i secZ = dtW l i := fun i hi => by
    refine ⟨by omega, ?_⟩
    rw [List.getD_eq_getElem?_getD, List.getElem?_take, if_pos (by omega), List.getElem?_drop, hj i hi]; rfl
  have hc : mComm (marS l) ((L.drop 3).take 8) (L.length : Int) = true := comm_mark (geo_of h0 h1) (by omega) hb _ (fun i hi => ⟨(hjg i hi).1, by rw [(hjg i hi).2]⟩)
  have he := stA_mark (by omega) hb ((L.drop 3).take 8) (fun i hi => ⟨(hjg i hi).1, by rw [(hjg i hi).2]⟩)
  have h8 : stN8 (marS l) = l.length := by
    have := he.1
    unfold stA at this
    rwa [stL_len] at this
  have hst : stA (marS l) ((L.drop 3).take 8) = l := by
    apply List.ext_getElem
    · exact he.1
    · intro i hi hi'
      have q1 : (stA (marS l) ((L.drop 3).take 8))[i]? = some (stW (marS l) ((L.drop 3).take 8) i) := by unfold stA; rw [h8]; exact stL_get _ _ _ _ hi'
      have q2 := (List.getElem?_eq_some_iff.1 q1).2
      rw [q2, l_eta hi']
      unfold stW
      rw [if_pos (hjg i hi').1, (hjg i hi').2, marS_num (by omega) hb i hi']
      have := bat_at hb i hi'
      rw [Int.toNat_of_nonneg this.1]
  unfold dK dW
  rw [h2]
  simp only [Option.getD_some]
  unfold mStK mStL
  rw [geo_of h0 h1, marS_ne, hc, hst]
  exact ⟨rfl, rfl⟩
theorem disk_empty {L : List Sc} {s : Sc} (h0 : 64 ≤ L.length) (h1 : L.length ≤ 1024) (h2 : L[2]? = some s) (hz : secEq s secZ = true) : dK L = 1 := by
  unfold dK mStK
  rw [geo_of h0 h1, h2]
  simp only [Option.getD_some, hz]
  rfl
/-! The cases -/
section
variable {first : List Sc} {l : List Wr}
/-- Nothing of the batch. -/
theorem case_none (h0 : 64 ≤ first.length) (h1 : first.length ≤ 1024) (h2 : first[2]? = some secZ) {q : List Wr} (hq : ∀ x ∈ q, x ∈ jlW l) (h8 : l.length ≤ 8) :
    dK (over first q) = 1 ∧ butL (repD (over first q)) = butL first ∧ (repD (over first q))[2]? = some secZ := by
  have hpos : ∀ x ∈ q, 3 ≤ x.1.toNat ∧ x.1.toNat < 11 := fun x hx => by
    obtain ⟨i, hi, rfl⟩ := jlW_mem (hq x hx)
    simp only [Int.toNat_natCast]; omega
  have e2 : (over first q)[2]? = some secZ := by
    rw [over_other fun x hx => by have := hpos x hx; omega]; exact h2
  have hk : dK (over first q) = 1 := disk_empty (by rw [over_len]; exact h0) (by rw [over_len]; exact h1) e2 (by rw [secEq_iff]; intro _ _; rfl)
  have hr : repD (over first q) = over first q := by unfold repD; rw [if_neg (by omega), if_neg (by omega)]
  rw [hr]
  exact ⟨hk, butL_eq (over_len _ _) fun i hi => over_other fun x hx => by have := hpos x hx; omega, e2⟩
/-- What stands on the disk once the mark lasts. -/
def bse (first : List Sc) (l : List Wr) : List Sc := (over first (jlW l)).set 2 (marS l)
theorem bse_len : (bse first l).length = first.length := by unfold bse; rw [List.length_set, over_len]
theorem bse_two (h0 : 64 ≤ first.length) : (bse first l)[2]? = some (marS l) := by
  unfold bse
  rw [List.getElem?_set_self (by rw [over_len]; omega)]
theorem bse_jl (h0 : 64 ≤ first.length) (h8 : l.length ≤ 8) (i : Nat) (hi : i < l.length) : (bse first l)[3 + i]? = some (dtW l i) := by
  unfold bse
  rw [List.getElem?_set_ne (by omega)]
  exact jl_get first l h8 h0 i hi
theorem bse_out (i : Nat) (hi : ¬ (2 ≤ i ∧ i < 11)) (h8 : l.length ≤ 8) : (bse first l)[i]? = first[i]? := by
  unfold bse
  rw [List.getElem?_set_ne (by omega)]
  exact over_other fun x hx => by
    obtain ⟨k, hk, rfl⟩ := jlW_mem hx
    simp only [Int.toNat_natCast]; omega
theorem all_but (hb : batB (first.length : Int) l = true) (s : Sc) : butL ((over (bse first l) l).set 2 s) = over (butL first) l := by
  have h8 := (bat_len hb).2
  have hp := bat_pos hb
  apply List.ext_getElem?
  intro i
  unfold butL
  rw [butN_get, List.length_set, over_len, bse_len]
  by_cases h2 : 2 ≤ i ∧ i < 2 + 9
  · rw [if_pos h2, over_other fun x hx e => (hp x hx).2 (by omega), butN_get, if_pos h2]
  · rw [if_neg h2, List.getElem?_set_ne (by omega)]
    apply over_at
    · rw [bse_out i h2 h8, butN_get, if_neg h2]
    · rw [bse_len, butN_len]
/-- The mark lasts; some of the batch's writes may. -/
theorem case_comm (h0 : 64 ≤ first.length) (h1 : first.length ≤ 1024) (hb : batB (first.length : Int) l = true) {q : List Wr} (hq : ∀ x ∈ q, x ∈ l) :
    dK (over (bse first l) q) = 2 ∧ repD (over (bse first l) q) = (over (bse first l) l).set 2 secZ := by
  have h8 := (bat_len hb).2
  have hp := bat_pos hb
  have hl : (over (bse first l) q).length = first.length := by rw [over_len, bse_len]
  obtain ⟨hk, hw⟩ := disk_comm (L := over (bse first l) q) (l := l) (by omega) (by omega) (by rw [hl]; exact hb)
    (by rw [over_other fun x hx e => (hp x (hq x hx)).2 (by omega)]; exact bse_two h0)
    (fun i hi => by rw [over_other fun x hx e => (hp x (hq x hx)).2 (by omega)]; exact bse_jl h0 h8 i hi)
  refine ⟨hk, ?_⟩
  unfold repD
  rw [if_pos hk, hw, over_sub fun x hx => ⟨x, hq x hx, rfl⟩]
theorem case_done (h0 : 64 ≤ first.length) (h1 : first.length ≤ 1024) : dK ((over (bse first l) l).set 2 secZ) = 1 ∧ repD ((over (bse first l) l).set 2 secZ) = (over (bse first l) l).set 2 secZ := by
  have hl : ((over (bse first l) l).set 2 secZ).length = first.length := by rw [List.length_set, over_len, bse_len]
  have hk : dK ((over (bse first l) l).set 2 secZ) = 1 := disk_empty (s := secZ) (by omega) (by omega) (List.getElem?_set_self (by rw [over_len, bse_len]; omega)) (by rw [secEq_iff]; intro _ _; rfl)
  exact ⟨hk, by unfold repD; rw [if_neg (by omega), if_neg (by omega)]⟩
theorem set_two (h0 : 64 ≤ first.length) (s : Sc) : ((over (bse first l) l).set 2 s)[2]? = some s := List.getElem?_set_self (by rw [over_len, bse_len]; omega)
/-- Wherever a batch's acts end, whatever lasts: none of it, or all. -/
theorem cut_any (h0 : 64 ≤ first.length) (h1 : first.length ≤ 1024) (h2 : first[2]? = some secZ) (hb : batB (first.length : Int) l = true) (m : Nat) (bs : List Bool) (D : List Sc × List Wr) (L : List Sc)
    (hD : D = eff (first, []) ((acLs [jlW l, [(2, marS l)], l, clrL]).take m)) (hL : L = over D.1 (pickL D.2 bs)) :
    (dK L = 1 ∨ dK L = 2) ∧ (repD L)[2]? = some secZ ∧ (butL (repD L) = butL first ∨ butL (repD L) = over (butL first) l) ∧ (l.length + 3 ≤ m → butL (repD L) = over (butL first) l) := by
  have h8 := (bat_len hb).2
  subst hL
  have fin : ∀ L, (dK L = 1 ∨ dK L = 2) → repD L = (over (bse first l) l).set 2 secZ → (dK L = 1 ∨ dK L = 2) ∧ (repD L)[2]? = some secZ ∧ (butL (repD L) = butL first ∨ butL (repD L) = over (butL first) l) ∧ (l.length + 3 ≤ m → butL (repD L) = over (butL first) l) := fun L hk hr => by
    rw [hr]
    exact ⟨hk, set_two h0 _, .inr (all_but hb _), fun _ => all_but hb _⟩
  rcases take_acLs (jlW l) [[(2, marS l)], l, clrL] m (first, []) with ⟨hm, he⟩ | ⟨hm, he⟩
  · rw [jlW_len] at hm
    rw [hD, he, List.nil_append]
    obtain ⟨c1, c2, c3⟩ := case_none (l := l) h0 h1 h2 (q := pickL ((jlW l).take m) bs) (fun x hx => List.mem_of_mem_take (pick_mem _ _ x hx)) h8
    exact ⟨.inl c1, c3, .inl c2, fun h => by omega⟩
  rw [jlW_len] at hm he
  rw [List.nil_append] at he
  rcases take_acLs [(2, marS l)] [l, clrL] (m - (l.length + 1)) (over first (jlW l), []) with ⟨hm2, he2⟩ | ⟨hm2, he2⟩
  · simp only [List.length_cons, List.length_nil] at hm2
    rw [hD, he, he2, List.nil_append]
    rcases Nat.eq_zero_or_pos (m - (l.length + 1)) with e | e
    · rw [e, List.take_zero]
      obtain ⟨c1, c2, c3⟩ := case_none (l := l) h0 h1 h2 (q := jlW l) (fun x hx => hx) h8
      exact ⟨.inl c1, c3, .inl c2, fun h => by omega⟩
    · rw [List.take_of_length_le (by simp; omega)]
      show _ ∧ _ ∧ _ ∧ _
      cases bs with
      | nil =>
        obtain ⟨c1, c2, c3⟩ := case_none (l := l) h0 h1 h2 (q := jlW l) (fun x hx => hx) h8
        exact ⟨.inl c1, c3, .inl c2, fun h => by omega⟩
      | cons b r =>
        cases b
        · obtain ⟨c1, c2, c3⟩ := case_none (l := l) h0 h1 h2 (q := jlW l) (fun x hx => hx) h8
          have e9 : pickL [((2 : Int), marS l)] (false :: r) = [] := by cases r <;> rfl
          simp only [e9]
          exact ⟨.inl c1, c3, .inl c2, fun h => by omega⟩
        · have e9 : pickL [((2 : Int), marS l)] (true :: r) = [(2, marS l)] := by cases r <;> rfl
          simp only [e9]
          have c := case_comm h0 h1 hb (q := []) (fun x hx => by simp at hx)
          exact fin _ (.inr c.1) c.2
  simp only [List.length_cons, List.length_nil] at hm2 he2
  rw [List.nil_append] at he2
  have e3 : over (over first (jlW l)) [((2 : Int), marS l)] = bse first l := rfl
  rw [e3] at he2
  rcases take_acLs l [clrL] (m - (l.length + 1) - (0 + 1 + 1)) (bse first l, []) with ⟨hm3, he3⟩ | ⟨hm3, he3⟩
  · rw [hD, he, he2, he3, List.nil_append]
    have c := case_comm h0 h1 hb (q := pickL (l.take (m - (l.length + 1) - (0 + 1 + 1))) bs) (fun x hx => List.mem_of_mem_take (pick_mem _ _ x hx))
    exact fin _ (.inr c.1) c.2
  rw [List.nil_append] at he3
  rcases take_acLs clrL [] (m - (l.length + 1) - (0 + 1 + 1) - (l.length + 1)) (over (bse first l) l, []) with ⟨hm4, he4⟩ | ⟨hm4, he4⟩
  · rw [hD, he, he2, he3, he4, List.nil_append]
    have hc2 := case_comm h0 h1 hb (q := l) (fun x hx => hx)
    rcases Nat.eq_zero_or_pos (m - (l.length + 1) - (0 + 1 + 1) - (l.length + 1)) with e | e
    · rw [e, List.take_zero]
      exact fin _ (.inr hc2.1) hc2.2
    · rw [List.take_of_length_le (by simp [clrL]; omega)]
      cases bs with
      | nil => exact fin _ (.inr hc2.1) hc2.2
      | cons b r =>
        cases b
        · have e9 : pickL clrL (false :: r) = [] := by cases r <;> rfl
          simp only [e9]
          exact fin _ (.inr hc2.1) hc2.2
        · have e9 : pickL clrL (true :: r) = clrL := by cases r <;> rfl
          simp only [e9]
          have c := case_done (first := first) (l := l) h0 h1
          exact fin _ (.inl c.1) c.2
  · rw [hD, he, he2, he3, he4]
    have e9 : eff (over (over (bse first l) l, ([] : List Wr)).1 ((over (bse first l) l, ([] : List Wr)).2 ++ clrL), []) ((acLs []).take (m - (l.length + 1) - (0 + 1 + 1) - (l.length + 1) - (clrL.length + 1))) = ((over (bse first l) l).set 2 secZ, []) := by
      simp [acLs, eff]; rfl
    rw [e9]
    have c := case_done (first := first) (l := l) h0 h1
    exact fin _ (.inl c.1) c.2
end
end Go.Proofs.Ytpckdkgbeemalaa
namespace Go.Proofs.Ytpckdkgbeemalaa
open Go.RowKit

/-! P10.4 as the law asks it; P10.5, P10.6 -/
theorem mPut_bat {n : Nat} (h0 : 64 ≤ n) (h1 : n ≤ 1024) (l : List Wr) : (mPutE l (n : Int) = 0 ∧ mPutS l (n : Int) = marS l ∧ batB (n : Int) l = true) ∨ (mPutE l (n : Int) = 24 ∧ batB (n : Int) l = false) := by
  unfold mPutE mPutS
  rw [geo_of h0 h1]
  cases batB (n : Int) l
  · exact .inr ⟨rfl, rfl⟩
  · exact .inl ⟨rfl, rfl, rfl⟩
theorem doL_in {n : Nat} {l : List Wr} (h0 : 64 ≤ n) (hb : batB (n : Int) l = true) (s : Sc) : inA n (acLs [jlW l, [(2, s)], l, clrL]) := fun x hx => by
  have h8 := (bat_len hb).2
  obtain ⟨q, hq, hxq⟩ := mem_acLs hx
  simp only [List.mem_cons, List.not_mem_nil, or_false] at hq
  rcases hq with rfl | rfl | rfl | rfl
  · obtain ⟨i, hi, rfl⟩ := jlW_mem hxq
    simp only; omega
  · simp at hxq; subst hxq; simp; omega
  · exact (bat_pos hb x hxq).1
  · simp [clrL] at hxq; subst hxq; simp; omega
theorem whole_all (first : List Sc) (l : List Wr) (K : Int) (bs : List Bool) (h0 : 64 ≤ first.length) (h1 : first.length ≤ 1024) (h2 : first[2]? = some secZ) (hE : mPutE l (first.length : Int) = 0) :
    (doS (stSt (newS first) K) l).pend.length ≤ 8 ∧ (doS (stSt (newS first) K) l).rd = 0 ∧ (doS (stSt (newS first) K) l).wt + (doS (stSt (newS first) K) l).fl ≤ 22 ∧ repE (reSt (doS (stSt (newS first) K) l) bs) = 0 ∧ (repK (reSt (doS (stSt (newS first) K) l) bs) = 1 ∨ repK (reSt (doS (stSt (newS first) K) l) bs) = 2) ∧ (repS (reSt (doS (stSt (newS first) K) l) bs)).pend = [] ∧
    (repS (reSt (doS (stSt (newS first) K) l) bs)).last[2]? = some secZ ∧ (repS (reSt (doS (stSt (newS first) K) l) bs)).last.length = first.length ∧
    (butL (repS (reSt (doS (stSt (newS first) K) l) bs)).last = butL first ∨ butL (repS (reSt (doS (stSt (newS first) K) l) bs)).last = over (butL first) l) ∧
    ((doR (stSt (newS first) K) l = 0 ∨ l.length + 3 ≤ (doS (stSt (newS first) K) l).wt + (doS (stSt (newS first) K) l).fl) → butL (repS (reSt (doS (stSt (newS first) K) l) bs)).last = over (butL first) l) := by
  obtain ⟨hS, hb⟩ : mPutS l (first.length : Int) = marS l ∧ batB (first.length : Int) l = true := by
    rcases mPut_bat h0 h1 l with ⟨-, h⟩ | ⟨h, -⟩
    · exact h
    · omega
  have hE' := hE
  obtain ⟨st0, hst0⟩ : ∃ s, stSt (newS first) K = s := ⟨_, rfl⟩
  have a1 : st0.last = first := by rw [← hst0]; rfl
  have a2 : st0.pend = [] := by rw [← hst0]; rfl
  have a3 : st0.down = false := by rw [← hst0]; rfl
  have a4 : st0.wt + st0.fl = 0 := by rw [← hst0]; rfl
  have a5 : st0.rd = 0 := by rw [← hst0]; rfl
  rw [hst0]
  have hn : dnI st0 = (first.length : Int) := by unfold dnI; rw [a1]
  obtain ⟨az, haz⟩ : ∃ a, acLs [jlW l, [(2, marS l)], l, clrL] = a := ⟨_, rfl⟩
  have hlen : az.length = 2 * l.length + 6 := by
    rw [← haz, acLs_len]; simp [jlW_len, clrL]; omega
  have hD : doS st0 l = runS st0 az ∧ doR st0 l = runR st0 az := by
    unfold doS doR doL
    rw [hn, if_pos hE', if_pos hE', hS, (seq_run _ _).1, (seq_run _ _).2, haz]
    exact ⟨rfl, rfl⟩
  have hin : inA st0.last.length az := by rw [a1, ← haz]; exact doL_in h0 hb _
  obtain ⟨i1, i2, i3, i4, -, i6, -⟩ := run_spec az st0 a3 hin
  rw [a1, a2] at i2 i3
  rw [hD.1, hD.2]
  obtain ⟨D, hDe⟩ : ∃ D, eff (first, []) (az.take (mA st0 az)) = D := ⟨_, rfl⟩
  rw [hDe] at i2 i3
  have hDl : D.1.length = first.length := by rw [← hDe, eff_len]
  have hp8 : D.2.length ≤ 8 := by
    rw [← hDe, ← haz]
    have h8 := bat_len hb
    rcases take_acLs (jlW l) [[(2, marS l)], l, clrL] (mA st0 az) (first, []) with ⟨hm, he⟩ | ⟨hm, he⟩
    · rw [haz] at he ⊢
      rw [he]; simp [jlW_len]; omega
    rcases take_acLs [(2, marS l)] [l, clrL] (mA st0 az - ((jlW l).length + 1)) (over first ([] ++ jlW l), []) with ⟨hm2, he2⟩ | ⟨hm2, he2⟩
    · rw [haz] at he ⊢
      rw [he, he2]; simp; omega
    rcases take_acLs l [clrL] (mA st0 az - ((jlW l).length + 1) - ([((2 : Int), marS l)].length + 1)) (over (over first ([] ++ jlW l)) ([] ++ [((2 : Int), marS l)]), []) with ⟨hm3, he3⟩ | ⟨hm3, he3⟩
    · rw [haz] at he ⊢
      rw [he, he2, he3]; simp; omega
    rcases take_acLs clrL [] (mA st0 az - ((jlW l).length + 1) - ([((2 : Int), marS l)].length + 1) - (l.length + 1)) (over (over (over first ([] ++ jlW l)) ([] ++ [((2 : Int), marS l)])) ([] ++ l), []) with ⟨hm4, he4⟩ | ⟨hm4, he4⟩
    · rw [haz] at he ⊢
      rw [he, he2, he3, he4]; simp [clrL]; omega
    · rw [haz] at he ⊢
      rw [he, he2, he3, he4]; simp [acLs, eff]
  obtain ⟨st2, hst2⟩ : ∃ s, reSt (runS st0 az) bs = s := ⟨_, rfl⟩
  have b1 : st2.last = over D.1 (pickL D.2 bs) := by rw [← hst2]; show over (runS st0 az).last (pickL (runS st0 az).pend bs) = _; rw [i2, i3]
  have b2 : st2.pend = [] := by rw [← hst2]; rfl
  have b3 : st2.down = false := by rw [← hst2]; rfl
  have b4 : st2.left < 0 := by rw [← hst2]; show (-1 : Int) < 0; omega
  have b5 : st2.last.length = first.length := by rw [b1, over_len, hDl]
  rw [hst2]
  obtain ⟨r1, r2, r3, r4, -⟩ := rep_whole b3 b2 b4 (by omega)
  obtain ⟨c1, c2, c3, c4⟩ := cut_any h0 h1 h2 hb (mA st0 az) bs D st2.last (by rw [← hDe, haz]) b1
  have hrl : (repD st2.last).length = first.length := by
    unfold repD
    split
    · rw [List.length_set, over_len, b5]
    · split
      · rw [List.length_set, b5]
      · exact b5
  rw [r2, r3]
  have hmle : mA st0 az ≤ 22 := by
    have h9 : mA st0 az ≤ az.length := by unfold mA; split <;> omega
    have := (bat_len hb).2
    omega
  refine ⟨by rw [i3]; exact hp8, by rw [i6, a5], by rw [i4]; omega, r1, c1, r4, c2, hrl, c3, fun h => c4 ?_⟩
  rw [i4, a4, Nat.zero_add] at h
  rcases h with h | h
  · rw [i1] at h
    by_cases e : mA st0 az = az.length
    · omega
    · rw [if_neg e] at h; omega
  · exact h
/-! Again -/
theorem dK_congr {L M : List Sc} (hl : L.length = M.length) (h : ∀ i, 2 ≤ i → i < 11 → L[i]? = M[i]?) : dK L = dK M ∧ dW L = dW M := by
  have e1 : L[2]? = M[2]? := h 2 (by omega) (by omega)
  have e2 : (L.drop 3).take 8 = (M.drop 3).take 8 := by
    apply List.ext_getElem?
    intro i
    rw [List.getElem?_take, List.getElem?_take]
    split
    · rw [List.getElem?_drop, List.getElem?_drop]; exact h (3 + i) (by omega) (by omega)
    · rfl
  unfold dK dW
  rw [e1, e2, hl]
  exact ⟨rfl, rfl⟩
theorem dK_set {L : List Sc} (h0 : 64 ≤ L.length) (h1 : L.length ≤ 1024) : dK (L.set 2 secZ) = 1 := disk_empty (s := secZ) (by rw [List.length_set]; exact h0) (by rw [List.length_set]; exact h1) (List.getElem?_set_self (by omega)) (by rw [secEq_iff]; intro _ _; rfl)
theorem repD_one {L : List Sc} (h : dK L = 1) : repD L = L := by unfold repD; rw [if_neg (by omega), if_neg (by omega)]
theorem repD_len (L : List Sc) : (repD L).length = L.length := by
  unfold repD
  split
  · rw [List.length_set, over_len]
  · split
    · rw [List.length_set]
    · rfl
theorem repD_empty {L : List Sc} (h0 : 64 ≤ L.length) (h1 : L.length ≤ 1024) : dK (repD L) = 1 := by
  rcases dK_range h0 h1 with h | h | h
  · rw [repD_one h]; exact h
  · unfold repD; rw [if_pos h]; exact dK_set (by rw [over_len]; exact h0) (by rw [over_len]; exact h1)
  · unfold repD; rw [if_neg (by omega), if_pos h]; exact dK_set h0 h1
theorem dK_one {L : List Sc} (h0 : 64 ≤ L.length) (h1 : L.length ≤ 1024) (h : dK L = 1) : secEq ((L[2]?).getD secZ) secZ = true := by
  unfold dK mStK at h
  rw [geo_of h0 h1] at h
  cases hz : secEq ((L[2]?).getD secZ) secZ
  · rw [hz] at h
    cases hc : mComm ((L[2]?).getD secZ) ((L.drop 3).take 8) (L.length : Int) <;> rw [hc] at h <;> simp at h
  · rfl
/-- Wherever a replay's acts end, whatever lasts: the next one does the same. -/
theorem cut_again {L : List Sc} (h0 : 64 ≤ L.length) (h1 : L.length ≤ 1024) {st : DSt} (hp : over st.last st.pend = L) (m : Nat) (bs : List Bool) (D : List Sc × List Wr) (hD : D = eff (L, []) ((acLs (rpLs st)).take m)) :
    repD (over D.1 (pickL D.2 bs)) = repD L ∧ D.2.length ≤ 8 := by
  have hclr : ∀ (M : List Sc), 64 ≤ M.length → M.length ≤ 1024 → ∀ k, ∃ q : List Wr, (q = [] ∨ q = clrL) ∧ over (eff (M, []) ((acLs [clrL]).take k)).1 (pickL (eff (M, []) ((acLs [clrL]).take k)).2 bs) = over M q ∧ (eff (M, []) ((acLs [clrL]).take k)).2.length ≤ 8 := by
    intro M _ _ k
    rcases take_acLs clrL [] k (M, []) with ⟨hk, he⟩ | ⟨hk, he⟩
    · rw [he, List.nil_append]
      rcases Nat.eq_zero_or_pos k with e | e
      · rw [e, List.take_zero]
        exact ⟨[], .inl rfl, by cases bs <;> rfl, by simp⟩
      · rw [List.take_of_length_le (by simp [clrL]; omega)]
        cases bs with
        | nil => exact ⟨[], .inl rfl, rfl, by simp [clrL]⟩
        | cons b r =>
          cases b
          · exact ⟨[], .inl rfl, by have e9 : pickL clrL (false :: r) = [] := by cases r <;> rfl
                                    simp only [e9], by simp [clrL]⟩
          · exact ⟨clrL, .inr rfl, by have e9 : pickL clrL (true :: r) = clrL := by cases r <;> rfl
                                      simp only [e9], by simp [clrL]⟩
    · rw [he]
      have e9 : eff (over (M, ([] : List Wr)).1 ((M, ([] : List Wr)).2 ++ clrL), []) ((acLs []).take (k - (clrL.length + 1))) = (over M clrL, []) := by simp [acLs, eff]
      rw [e9]
      exact ⟨clrL, .inr rfl, by cases bs <;> rfl, by simp⟩
  have hc9 : ∀ M : List Sc, over M clrL = M.set 2 secZ := fun M => rfl
  subst hD
  rcases dK_range h0 h1 with h | h | h
  · have e : rpLs st = [] := by unfold rpLs rpK; rw [hp, if_neg (by omega), if_neg (by omega)]
    rw [e]
    have e9 : eff (L, []) ((acLs []).take m) = (L, []) := by simp [acLs, eff]
    rw [e9]
    exact ⟨by cases bs <;> rfl, by simp⟩
  · have e : rpLs st = [dW L, clrL] := by unfold rpLs rpK rpL; rw [hp, if_pos h]
    have hb := dK_two h
    have hpos := bat_pos hb
    have h8 := (bat_len hb).2
    have hR : repD L = (over L (dW L)).set 2 secZ := by unfold repD; rw [if_pos h]
    have hsub : ∀ q : List Wr, (∀ x ∈ q, x ∈ dW L) → repD (over L q) = repD L := fun q hq => by
      obtain ⟨k1, k2⟩ := dK_congr (L := over L q) (M := L) (over_len _ _) (fun i hi hi' => over_other fun x hx e => (hpos x (hq x hx)).2 (by omega))
      rw [hR]
      unfold repD
      rw [k1, if_pos h, k2, over_sub fun x hx => ⟨x, hq x hx, rfl⟩]
    rw [e]
    rcases take_acLs (dW L) [clrL] m (L, []) with ⟨hm, he⟩ | ⟨hm, he⟩
    · rw [he, List.nil_append]
      exact ⟨hsub _ fun x hx => List.mem_of_mem_take (pick_mem _ _ x hx), by simp only [List.length_take]; omega⟩
    · rw [he, List.nil_append]
      have hl9 : (over L (dW L)).length = L.length := over_len _ _
      obtain ⟨q, hq, k1, k2⟩ := hclr (over L (dW L)) (by omega) (by omega) (m - ((dW L).length + 1))
      refine ⟨?_, k2⟩
      rw [k1]
      rcases hq with rfl | rfl
      · exact hsub (dW L) fun x hx => hx
      · rw [hc9, repD_one (dK_set (by omega) (by omega)), hR]
  · have e : rpLs st = [clrL] := by unfold rpLs rpK; rw [hp, if_neg (by omega), if_pos h]
    rw [e]
    obtain ⟨q, hq, k1, k2⟩ := hclr L h0 h1 m
    refine ⟨?_, k2⟩
    rw [k1]
    have hR : repD L = L.set 2 secZ := by unfold repD; rw [if_neg (by omega), if_pos h]
    rcases hq with rfl | rfl
    · rfl
    · rw [hc9, repD_one (dK_set h0 h1), hR]
/-- A replay with a stop, and a restart: the next replay does the same; how many acts were done. -/
theorem again_step (st : DSt) (k : Int) (bs : List Bool) (hd : st.down = false) (hp : st.pend = []) (h0 : 64 ≤ st.last.length) (h1 : st.last.length ≤ 1024) :
    (repS (stSt st k)).pend.length ≤ 8 ∧ (reSt (repS (stSt st k)) bs).pend = [] ∧ (reSt (repS (stSt st k)) bs).down = false ∧ (reSt (repS (stSt st k)) bs).left < 0 ∧ (reSt (repS (stSt st k)) bs).last.length = st.last.length ∧ repD (reSt (repS (stSt st k)) bs).last = repD st.last ∧
    (reSt (repS (stSt st k)) bs).rd = st.rd + 9 ∧ (reSt (repS (stSt st k)) bs).wt + (reSt (repS (stSt st k)) bs).fl ≤ st.wt + st.fl + 11 := by
  obtain ⟨s0, hs0⟩ : ∃ s, stSt st k = s := ⟨_, rfl⟩
  have a1 : s0.last = st.last := by rw [← hs0]; rfl
  have a2 : s0.pend = [] := by rw [← hs0]; exact hp
  have a3 : s0.down = false := by rw [← hs0]; exact hd
  have a4 : s0.wt + s0.fl = st.wt + st.fl := by rw [← hs0]; rfl
  have a5 : s0.rd = st.rd := by rw [← hs0]; rfl
  have he : over s0.last s0.pend = st.last := by rw [a1, a2]; rfl
  rw [hs0]
  have hS : repS s0 = runS (rd9 s0) (acLs (rpLs s0)) := by unfold repS; rw [a3, (seq_run _ _).2]; simp
  obtain ⟨-, i2, i3, i4, -, i6, -⟩ := run_spec (acLs (rpLs s0)) (rd9 s0) a3 (rpLs_in a2 (show 64 ≤ s0.last.length by rw [a1]; exact h0))
  obtain ⟨m, hm⟩ : ∃ m, mA (rd9 s0) (acLs (rpLs s0)) = m := ⟨_, rfl⟩
  have hml : m ≤ 11 := by
    have : m ≤ (acLs (rpLs s0)).length := by rw [← hm]; unfold mA; split <;> omega
    have hln : (acLs (rpLs s0)).length ≤ 11 := by
      unfold rpLs rpK rpL
      rw [he]
      by_cases h2 : dK st.last = 2
      · rw [if_pos h2, acLs_len]
        have := (bat_len (dK_two h2)).2
        simp [clrL]; omega
      · rw [if_neg h2]
        split
        · rw [acLs_len]; simp [clrL]
        · simp [acLs]
    omega
  rw [hm] at i2 i3 i4
  have e9 : ((rd9 s0).last, (rd9 s0).pend) = (st.last, []) := by show (s0.last, s0.pend) = _; rw [a1, a2]
  rw [e9] at i2 i3
  obtain ⟨D, hD⟩ : ∃ D, eff (st.last, []) ((acLs (rpLs s0)).take m) = D := ⟨_, rfl⟩
  obtain ⟨k1, k2⟩ := cut_again h0 h1 he m bs D hD.symm
  rw [hD] at i2 i3
  have hDl : D.1.length = st.last.length := by rw [← hD, eff_len]
  rw [hS]
  refine ⟨by rw [i3]; exact k2, rfl, rfl, by show (-1 : Int) < 0; omega, ?_, ?_, ?_, ?_⟩
  · show (over (runS (rd9 s0) (acLs (rpLs s0))).last _).length = _
    rw [over_len, i2, hDl]
  · show repD (over (runS (rd9 s0) (acLs (rpLs s0))).last (pickL (runS (rd9 s0) (acLs (rpLs s0))).pend bs)) = _
    rw [i2, i3]; exact k1
  · show (runS (rd9 s0) (acLs (rpLs s0))).rd = _
    rw [i6]; show s0.rd + 9 = _; rw [a5]
  · show (runS (rd9 s0) (acLs (rpLs s0))).wt + (runS (rd9 s0) (acLs (rpLs s0))).fl ≤ _
    rw [i4]
    show s0.wt + s0.fl + m ≤ _
    omega
/-- A replay of a disk whose mark is empty only reads. -/
theorem rep_reads {st : DSt} (hd : st.down = false) (hp : st.pend = []) (h : dK st.last = 1) : repE st = 0 ∧ repK st = 1 ∧ repS st = rd9 st := by
  have he : over st.last st.pend = st.last := by rw [hp]; rfl
  have e : rpLs st = [] := by unfold rpLs rpK; rw [he, if_neg (by omega), if_neg (by omega)]
  have h1 : repE st = 0 := by unfold repE; rw [hd, e]; rfl
  refine ⟨h1, ?_, ?_⟩
  · unfold repK rpK; rw [if_pos h1, he]; exact h
  · unfold repS; rw [hd, e]; rfl
end Go.Proofs.Ytpckdkgbeemalaa
namespace Go.Proofs.Ytpckdkgbeemalaa
open Go.RowKit

/-! What known asks of the journal -/
def s7k : Sc := upd secZ 0 7
def s8k : Sc := upd secZ 0 8
def l2k : List Wr := [(20, s7k), (21, s8k)]
def st0k : DSt := newS (List.replicate 64 secZ)
theorem kn_put : mPutE l2k 64 = 0 := by decide
theorem kn_do : doR st0k l2k = 0 := by decide +kernel
theorem kn_acts : (doS st0k l2k).rd = 0 ∧ (doS st0k l2k).wt = 6 ∧ (doS st0k l2k).fl = 4 := by decide +kernel
theorem kn_pend : (doS st0k l2k).pend = [] := by rfl
theorem kn_up : (doS st0k l2k).down = false ∧ (doS st0k l2k).left = -1 := by decide +kernel
theorem kn_len : (doS st0k l2k).last.length = 64 := by decide +kernel
theorem kn_20 : (doS st0k l2k).last[20]? = some s7k := by rfl
theorem kn_4 : (doS st0k l2k).last[4]? = some s8k := by rfl
theorem kn_2 : (doS st0k l2k).last[2]? = some secZ := by rfl
theorem kn_rep : repE (doS st0k l2k) = 0 ∧ repK (doS st0k l2k) = 1 := by
  have h := rep_reads (st := doS st0k l2k) kn_up.1 kn_pend (disk_empty (by rw [kn_len]; omega) (by rw [kn_len]; omega) kn_2 (by rw [secEq_iff]; intro _ _; rfl))
  exact ⟨h.1, h.2.1⟩
end Go.Proofs.Ytpckdkgbeemalaa
