import Derived.Test.YtpckdkgbeemalaaQJb4
import Derived.Test.YtpckdkgbeemalaaQJou2
namespace Go.Proofs.Ytpckdkgbeemalaa
open Go.RowKit

/-! journal.read: nine sectors from the mark on -/
def rdL (ov : List Sc) (i : Nat) : List Sc := (ov.drop 2).take i ++ List.replicate (9 - i) secZ
theorem rdL_len (ov : List Sc) (h : 64 ≤ ov.length) (i : Nat) (hi : i ≤ 9) : (rdL ov i).length = 9 := by
  unfold rdL
  rw [List.length_append, List.length_take, List.length_drop, List.length_replicate]; omega
theorem rdL_step (ov : List Sc) (h : 64 ≤ ov.length) (i : Nat) (hi : i < 9) (s : Sc) (hs : (ov[2 + i]?).getD secZ = s) : (rdL ov i).set i s = rdL ov (i + 1) := by
  apply List.ext_getElem?
  intro j
  have hl := rdL_len ov h i (by omega)
  have hd : ∀ t, t ≤ 9 → ((ov.drop 2).take t).length = t := fun t ht => by rw [List.length_take, List.length_drop]; omega
  by_cases hj : j = i
  · subst hj
    rw [List.getElem?_set_self (by omega)]
    unfold rdL
    rw [List.getElem?_append_left (by rw [hd _ (by omega)]; omega), List.getElem?_take_of_lt (by omega), List.getElem?_drop, ← hs, List.getElem?_eq_getElem (by omega)]
    rfl
  · rw [List.getElem?_set_ne (fun e => hj e.symm)]
    unfold rdL
    by_cases hlt : j < i
    · rw [List.getElem?_append_left (by rw [hd _ (by omega)]; omega), List.getElem?_append_left (by rw [hd _ (by omega)]; omega), List.getElem?_take_of_lt (by omega), List.getElem?_take_of_lt (by omega)]
    · rw [List.getElem?_append_right (by rw [hd _ (by omega)]; omega), List.getElem?_append_right (by rw [hd _ (by omega)]; omega), hd _ (by omega), hd _ (by omega)]
      by_cases h9 : j < 9
      · rw [List.getElem?_replicate_of_lt (by omega), List.getElem?_replicate_of_lt (by omega)]
      · rw [List.getElem?_eq_none (by simp; omega), List.getElem?_eq_none (by simp; omega)]
def rdI (st : DSt) (i : Nat) : DSt := { st with rd := st.rd + i }
theorem rd_at (st : DSt) (h : StOk st) (hd : st.down = false) (i : Nat) (hi : i < 9) : rdRes (rdI st i) ((2 : Int) + i) = 0 ∧ rdSt (rdI st i) ((2 : Int) + i) = rdI st (i + 1) ∧ rdSec (rdI st i) ((2 : Int) + i) = ((over st.last st.pend)[2 + i]?).getD secZ := by
  have h64 := h.lo
  have ht : thereB (rdI st i) ((2 : Int) + i) = true := by unfold thereB rdI; simp; omega
  have h0 : rdRes (rdI st i) ((2 : Int) + i) = 0 := by unfold rdRes; rw [ht]; simp [rdI, hd]
  refine ⟨h0, ?_, ?_⟩
  · unfold rdSt; rw [if_pos h0]; rfl
  · unfold rdSec; rw [if_pos h0, show ((2 : Int) + i).toNat = 2 + i by omega]; rfl
theorem Keep.two10 {F G : List Nat} {w w1 w2 : World} (h : Keep F w w1) (k : Keep G w1 w2) (hG : ∀ q ∈ G, q ∈ F ∨ w.heap.size ≤ q) : Keep F w w2 :=
  ⟨k.os.trans h.os, k.tape.trans h.tape, k.output.trans h.output, Nat.le_trans h.size k.size, fun i hi hn => (k.block i (Nat.lt_of_lt_of_le hi h.size) (fun hm => (hG i hm).elim hn (fun h9 => by omega))).trans (h.block i hi hn)⟩
/-- What a read leaves. -/
def RdPost (w : World) (d : Value) (F R : List Nat) (st : DSt) (e : Ending) (w' : World) : Prop := ∃ g, e = .returned (.tuple #[.slice (some ⟨g, 0, none⟩) 9 9, .int .i64 0]) ∧ OwnK secE w' w.heap.size (.slice (some ⟨g, 0, none⟩) 9 9) ((((over st.last st.pend)[2]?).getD secZ) :: ((over st.last st.pend).drop 3).take 8) ∧ DPost w d F R (rd9 st) w'
theorem rdL_end (ov : List Sc) (h : 64 ≤ ov.length) : rdL ov 9 = ((ov[2]?).getD secZ) :: (ov.drop 3).take 8 := by
  unfold rdL
  rw [Nat.sub_self, List.replicate_zero, List.append_nil, List.drop_eq_getElem_cons (by omega), List.take_succ_cons, List.getElem?_eq_getElem (by omega)]
  rfl
set_option linter.unusedSimpArgs false in
set_option maxRecDepth 100000 in
set_option maxHeartbeats 2000000 in
theorem jRead (w : World) (d : Value) (st : DSt) (F R : List Nat) (h : DevIs w d st F R) (hs : StSm st) (hd : st.down = false) :
    Calls Try.prog 26 #[d, .int .i64 2, .int .i64 9] w fun e w' => RdPost w d F R st e w' := by
  have hok := dvOk.ok h
  have hov : 64 ≤ (over st.last st.pend).length := by rw [over_len]; exact hok.lo
  have hrl := dvOk.lt h
  have hmk : (mkS10 (.int .i64 9) (.int .i64 9)).run Try.prog w = .ok (.value (.slice (some ⟨w.heap.size, 0, none⟩) 9 9)) (w.alloc (.cells (flK secE (List.replicate 9 secZ)).toArray 44)) := run_mkS10 w 9 (by omega)
  have hO0 := OwnK.lit secE_ok w (List.replicate 9 secZ) (by rw [List.length_replicate]; unfold maxLen; omega)
  rw [List.length_replicate] at hO0
  have hO1 : OwnK secE (w.alloc (.cells (flK secE (List.replicate 9 secZ)).toArray 44)) w.heap.size (.slice (some ⟨w.heap.size, 0, none⟩) 9 9) (rdL (over st.last st.pend) 0) := hO0
  clear hO0
  generalize (flK secE (List.replicate 9 secZ)).toArray = Z9 at hmk hO1
  have b0 := below_alloc w (.cells Z9 44)
  have hg9 : w.heap.size < (w.alloc (.cells Z9 44)).heap.size := by simp
  have H0 : Hid (∃ F1 R1, DevIs (w.alloc (.cells Z9 44)) d (rdI st 0) F1 R1 ∧ (∀ q ∈ F1, q ∈ F ∨ w.heap.size ≤ q) ∧ (∀ q ∈ R1, q ∈ R ∨ w.heap.size ≤ q) ∧ Keep F w (w.alloc (.cells Z9 44)) ∧ w.heap.size ∉ R1 ∧ OwnK secE (w.alloc (.cells Z9 44)) w.heap.size (.slice (some ⟨w.heap.size, 0, none⟩) 9 9) (rdL (over st.last st.pend) 0)) := ⟨F, R, devLater h b0, fun _ h => .inl h, fun _ h => .inl h, Keep.of_below b0, fun hm => by have := hrl _ hm; omega, hO1⟩
  obtain ⟨a, rfl⟩ := dvOk.ptr h
  clear hO1 b0 h hrl
  go_enter Try.func26, Try.ntmps26
  go_upto_region 2 with fail
  generalize w.alloc (.cells Z9 44) = X at H0 hg9 ⊢
  clear hmk
  obtain ⟨B, hB⟩ : ∃ q, w.heap.size = q := ⟨_, rfl⟩
  rw [hB] at H0 hg9
  simp only [hB]
  have HB : Hid (w.heap.size = B) := hB
  clear hB
  go_wp2_with fail
  go_loopw [16] (fun iv wr => ∃ k : Nat, k ≤ 9 ∧ iv = .int .i64 k ∧ B < wr.heap.size ∧ Hid (∃ F1 R1, DevIs wr (.pointer (some a)) (rdI st k) F1 R1 ∧ (∀ q ∈ F1, q ∈ F ∨ B ≤ q) ∧ (∀ q ∈ R1, q ∈ R ∨ B ≤ q) ∧ Keep F w wr ∧ B ∉ R1 ∧ OwnK secE wr B (.slice (some ⟨B, 0, none⟩) 9 9) (rdL (over st.last st.pend) k))) (fun iv _ => 9 - (intOf iv).toNat)
  case atStart => exact ⟨0, by omega, rfl, hg9, H0⟩
  case round =>
    clear H0 hg9
    obtain ⟨k, hk, rfl, hBs, HI⟩ := hrel
    obtain ⟨F1, R1, i1, i2, i3, i4, i5, i6⟩ := HI.out
    clear HI
    by_cases hlt : k < 9
    · obtain ⟨e1, e2, e3⟩ := rd_at st hok hd k hlt
      have hR := devRead wr _ (rdI st k) F1 R1 ((2 : Int) + k) i1 (by show st.pend.length ≤ _; have := hs.pend; omega) (by show st.rd + k < _; have := hs.rd; omega)
      rw [e1, e2, e3] at hR
      have hst9 := rdL_step (over st.last st.pend) hov k hlt _ rfl
      obtain ⟨s, hsv⟩ : ∃ q, ((over st.last st.pend)[2 + k]?).getD secZ = q := ⟨_, rfl⟩
      rw [hsv] at hR hst9
      have hk0 : (0 : Int) ≤ (k : Int) := by omega
      have hk1 : (k : Int) < 9 := by omega
      have HSUB := dvOk.sub i1
      have HI1 : Hid ((∀ q ∈ F1, q ∈ F ∨ B ≤ q) ∧ (∀ q ∈ R1, q ∈ R ∨ B ≤ q) ∧ Keep F w wr) := ⟨i2, i3, i4⟩
      clear e1 e2 e3 hsv i1 i2 i3 i4
      go_wp2_with fail
      refine hR.mono ?_
      rintro e w2 ⟨rfl, F2, R2, a1, a2, a3, a4⟩
      have hB2 : B ∉ R2 := fun hm => by
        rcases a3 B hm with h | h
        · exact i5 h
        · omega
      have hO2 := i6.keeps a4 (fun q hq => by
        have : q = B := by simp [Value.ownBlock] at hq; omega
        subst this
        exact fun hm => i5 (HSUB _ hm))
      have hBs2 : B < w2.heap.size := by have := a4.size; omega
      have b3 := below_alloc w2 (.cells (secA s) 44)
      obtain ⟨rok, rat⟩ := ScR.new w2 s 44
      have hO3 := hO2.keep b3
      have hst := secStore_mid hO3 k s hlt
      have hO4 := secPut hO3 k s hlt
      rw [hst9] at hO4
      have hK4 : Keep [B] (w2.alloc (.cells (secA s) 44)) ((w2.alloc (.cells (secA s) 44)).setCells B (k * 64) (secA s).toList) := Keep.of_grown (grown_setC _ _ _ _) (fun q hq => by cases hq; simp)
      have hD4 := dvOk.keeps (devLater a1 b3) hK4 (fun q hq hm => by simp only [List.mem_singleton] at hm; subst hm; exact hB2 hq)
      have HN : Hid (∃ F1 R1, DevIs ((w2.alloc (.cells (secA s) 44)).setCells B (k * 64) (secA s).toList) (.pointer (some a)) (rdI st (k + 1)) F1 R1 ∧ (∀ q ∈ F1, q ∈ F ∨ B ≤ q) ∧ (∀ q ∈ R1, q ∈ R ∨ B ≤ q) ∧ Keep F w ((w2.alloc (.cells (secA s) 44)).setCells B (k * 64) (secA s).toList) ∧ B ∉ R1 ∧ OwnK secE ((w2.alloc (.cells (secA s) 44)).setCells B (k * 64) (secA s).toList) B (.slice (some ⟨B, 0, none⟩) 9 9) (rdL (over st.last st.pend) (k + 1))) := by
        obtain ⟨i2, i3, i4⟩ := HI1.out
        have hsz := HB.out
        refine ⟨F2, R2, hD4, fun q hq => ?_, fun q hq => ?_, ?_, hB2, hO4⟩
        · rcases a2 q hq with h | h
          · exact i2 q h
          · right; omega
        · rcases a3 q hq with h | h
          · exact i3 q h
          · right; omega
        · refine (i4.two10 a4 (fun q hq => ?_)).two10 ((Keep.of_below (F := [B]) b3).trans hK4) (fun q hq => ?_)
          · rcases i2 q hq with h | h
            · exact .inl h
            · right; omega
          · simp only [List.mem_singleton] at hq; subst hq; right; omega
      have hBs4 : B < ((w2.alloc (.cells (secA s) 44)).setCells B (k * 64) (secA s).toList).heap.size := by have := hK4.size; have := b3.size; omega
      clear hR a1 a2 a3 a4 hO2 b3 hO3 hO4 hK4 hD4 i5 i6 HSUB HI1 hst9 hB2
      generalize hW4 : (w2.alloc (.cells (secA s) 44)).setCells B (k * 64) (secA s).toList = W4 at hst HN hBs4
      go_wp2_with fail
      go_roundw
      case rel => exact ⟨k + 1, by omega, by go_num, hBs4, HN⟩
      case measure => simp [intOf]; omega
    · obtain rfl : k = 9 := by omega
      have HP : Hid (RdPost w (.pointer (some a)) F R st (.returned (.tuple #[.slice (some ⟨B, 0, none⟩) 9 9, .int .i64 0])) wr) := by
        rw [rdL_end _ hov] at i6
        have hsz := HB.out
        exact ⟨B, rfl, by rw [hsz]; exact i6, F1, R1, i1, by rw [hsz]; exact i2, by rw [hsz]; exact i3, i4⟩
      clear i1 i2 i3 i4 i5 i6
      go_wp2_with fail
      go_ret2
      exact HP.out
end Go.Proofs.Ytpckdkgbeemalaa
