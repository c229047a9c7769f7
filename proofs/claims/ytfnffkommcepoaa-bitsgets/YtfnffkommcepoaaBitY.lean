
import Derived.Test.YtfnffkommcepoaaBitN
import Derived.Test.YtfnffkommcepoaaRng
namespace Go.Proofs.Ytfnffkommcepoaa
open Go.RowKit Go.Shelf
attribute [local go_sem] Oper.semAt_some

/-! bits.taken, bits.ones: what they hand back, and how it goes -/
/-- The numbers below k, of those below m, at which f is true, rising. -/
def hitL (f : Nat → Bool) (m : Nat) : Nat → List {i : Nat // i < m ∧ f i = true}
  | 0 => []
  | k + 1 => hitL f m k ++ (if h : k < m ∧ f k = true then [⟨k, h⟩] else [])
theorem hitL_yes (f : Nat → Bool) (m k : Nat) (h : k < m ∧ f k = true) : hitL f m (k + 1) = hitL f m k ++ [⟨k, h⟩] := by rw [hitL, dif_pos h]
theorem hitL_no (f : Nat → Bool) (m k : Nat) (h : ¬ (k < m ∧ f k = true)) : hitL f m (k + 1) = hitL f m k := by rw [hitL, dif_neg h, List.append_nil]
theorem hitL_len (f : Nat → Bool) (m : Nat) : ∀ k, (hitL f m k).length ≤ k
  | 0 => by simp [hitL]
  | k + 1 => by
    have := hitL_len f m k
    by_cases h : k < m ∧ f k = true
    · rw [hitL_yes f m k h]; simp; omega
    · rw [hitL_no f m k h]; omega
theorem hitL_mem (f : Nat → Bool) (m : Nat) : ∀ k (x : {i : Nat // i < m ∧ f i = true}), x.1 < k → x ∈ hitL f m k
  | 0, x, h => by omega
  | k + 1, x, h => by
    by_cases e : x.1 = k
    · have hk : k < m ∧ f k = true := by rw [← e]; exact x.2
      rw [hitL_yes f m k hk]
      refine List.mem_append.2 (.inr ?_)
      simp only [List.mem_singleton]
      exact Subtype.ext e
    · have := hitL_mem f m k x (by omega)
      rw [hitL]
      exact List.mem_append.2 (.inl this)
theorem taken_it (x : Option Addr) (n c : Nat) (w : World) :
    Calls Try.prog 17 #[.slice x n c] w fun e w' => e = .returned (.func (.func 27) #[] #[.pointer (some ⟨w.heap.size, 0, none⟩)]) ∧ w' = w.alloc (.cells #[.slice x n c] 22) := by
  go_enter Try.func17, Try.ntmps17
  go_wp2
  go_ret
  exact ⟨rfl, rfl⟩
theorem ones_it (s : Sc) (w : World) :
    Calls Try.prog 20 #[.agg (secA s)] w fun e w' => e = .returned (.func (.func 30) #[] #[.pointer (some ⟨w.heap.size, 0, none⟩)]) ∧ w' = w.alloc (.cells (secA s) 29) := by
  go_enter Try.func20, Try.ntmps20
  go_wp2
  go_ret
  exact ⟨rfl, rfl⟩
abbrev Hit (f : Nat → Bool) (m : Nat) := {i : Nat // i < m ∧ f i = true}
set_option maxRecDepth 100000 in
set_option maxHeartbeats 2000000 in
theorem taken_rounds (l Bs : Nat) (b : List Bool) (x : Option Addr) (c : Nat) (J Jx : List (Hit (bAt b) b.length) → World → Prop) (hlen : b.length ≤ 1024)
    (hY : ∀ pre z W, J pre W → pre.length < b.length → YieldAt Fence.wide (9 - 1) Try.prog l #[.int .i64 (z.1 : Int)] W fun e W' =>
      (e = .returned (.bool true) ∧ J (pre ++ [z]) W' ∧ (IsG W (.slice x b.length c) (bV b) → IsG W' (.slice x b.length c) (bV b))) ∨ (e = .returned (.bool false) ∧ Jx (pre ++ [z]) W'))
    (W : World) (hc : W.cell? ⟨Bs, 0, none⟩ = some (.slice x b.length c)) (hb : IsG W (.slice x b.length c) (bV b)) (h0 : J [] W) :
    CallsIn Fence.wide 9 Try.prog 27 #[.func (.yield l) #[] #[], .pointer (some ⟨Bs, 0, none⟩)] W fun e W' => (∃ v, e = .returned v) ∧
      ((∃ ys, ys = hitL (bAt b) b.length b.length ∧ J ys W') ∨ (∃ pre, True ∧ Jx pre W')) := by
  refine callsIn_of_wp Try.func27 rfl trivial ?_ rfl
  simp only [Try.ntmps27, List.size_toArray, List.length_cons, List.length_nil, Nat.reduceAdd, Nat.reduceSub, Array.replicate_succ, Array.replicate_zero, List.push_toArray, List.append_toArray, List.nil_append, List.cons_append]
  gi_wp2
  gi_loopw [7] (fun iv wr => ∃ k : Nat, k ≤ b.length ∧ iv = .int .i64 k ∧ J (hitL (bAt b) b.length k) wr ∧ IsG wr (.slice x b.length c) (bV b)) (fun iv _ => b.length - (intOf iv).toNat)
  case atStart => exact ⟨0, Nat.zero_le _, rfl, h0, hb⟩
  case round =>
    obtain ⟨k, hk, rfl, hJs, hbr⟩ := hrel
    by_cases hlt : k < b.length
    · have hbr0 := hbr
      obtain ⟨bb, o, rfl, hbb, hcell⟩ := hbr.spot k (by rw [bV_len]; exact hlt)
      have hcx := hcell k _ (bV_get b k hlt)
      clear hcell
      by_cases ht : bAt b k = true
      · rw [ht] at hcx
        obtain ⟨fn, tmps, assign, body, hy, hR⟩ := hY _ ⟨k, hlt, ht⟩ wr hJs (by have := hitL_len (bAt b) b.length k; omega)
        dsimp only at hy
        gi_wp2
        refine hR.mono ?_
        rintro e W3 (⟨rfl, hJ3, hk3⟩ | ⟨rfl, hJx3⟩)
        · gi_wp2
          go_roundw
          case rel => exact ⟨k + 1, by omega, by simp, by rw [hitL_yes _ _ k ⟨hlt, ht⟩]; exact hJ3, hk3 hbr0⟩
          case measure => simp [intOf]; omega
        · gi_wp2
          refine bodyPost_ret (results_none rfl _ _ _) rfl ?_
          exact ⟨⟨_, rfl⟩, .inr ⟨_, trivial, hJx3⟩⟩
      · rw [Bool.not_eq_true] at ht
        rw [ht] at hcx
        gi_wp2
        refine ⟨fun _ h => (by cases h), ?_⟩
        gi_wp2
        go_roundw
        case rel => exact ⟨k + 1, by omega, by simp, by rw [hitL_no _ _ k (by simp [ht])]; exact hJs, hbr0⟩
        case measure => simp [intOf]; omega
    · obtain rfl : k = b.length := by omega
      gi_wp2
      go_end0
      exact ⟨⟨_, rfl⟩, .inl ⟨_, rfl, hJs⟩⟩
theorem and1_fbit (s : Sc) (i : Nat) (_h : i < 480) : bits .and .u8 (((s (i / 8)).toNat : Int) / (2 : Int) ^ (i % 8)) 1 = bif fbit s i then 1 else 0 := by
  have h : ∀ x : Fin 256, bits .and .u8 ((x.val : Nat) : Int) 1 = ((x.val % 2 : Nat) : Int) := by decide +kernel
  have e1 : (((s (i / 8)).toNat : Nat) : Int) / (2 : Int) ^ (i % 8) = (((s (i / 8)).toNat / 2 ^ (i % 8) : Nat) : Int) := by simp
  have h2 : (s (i / 8)).toNat / 2 ^ (i % 8) < 256 := Nat.lt_of_le_of_lt (Nat.div_le_self _ _) (s (i / 8)).toNat_lt
  rw [e1, h ⟨_, h2⟩]
  unfold fbit
  rw [Nat.testBit_eq_decide_div_mod_eq]
  rcases Nat.mod_two_eq_zero_or_one ((s (i / 8)).toNat / 2 ^ (i % 8)) with h3 | h3 <;> simp [h3]
set_option maxRecDepth 100000 in
set_option maxHeartbeats 2000000 in
theorem ones_rounds (l Bs : Nat) (s : Sc) (J Jx : List (Hit (fbit s) 480) → World → Prop)
    (hY : ∀ pre z W, J pre W → pre.length < 480 → YieldAt Fence.wide (9 - 1) Try.prog l #[.int .i64 (z.1 : Int)] W fun e W' =>
      (e = .returned (.bool true) ∧ J (pre ++ [z]) W' ∧ (ScR W Bs s → ScR W' Bs s)) ∨ (e = .returned (.bool false) ∧ Jx (pre ++ [z]) W'))
    (W : World) (hb : ScR W Bs s) (h0 : J [] W) :
    CallsIn Fence.wide 9 Try.prog 30 #[.func (.yield l) #[] #[], .pointer (some ⟨Bs, 0, none⟩)] W fun e W' => (∃ v, e = .returned v) ∧
      ((∃ ys, ys = hitL (fbit s) 480 480 ∧ J ys W') ∨ (∃ pre, True ∧ Jx pre W')) := by
  refine callsIn_of_wp Try.func30 rfl trivial ?_ rfl
  simp only [Try.ntmps30, List.size_toArray, List.length_cons, List.length_nil, Nat.reduceAdd, Nat.reduceSub, Array.replicate_succ, Array.replicate_zero, List.push_toArray, List.append_toArray, List.nil_append, List.cons_append]
  gi_wp2
  gi_loopw [4] (fun iv wr => ∃ k : Nat, k ≤ 480 ∧ iv = .int .i64 k ∧ J (hitL (fbit s) 480 k) wr ∧ ScR wr Bs s) (fun iv _ => 480 - (intOf iv).toNat)
  case atStart => exact ⟨0, Nat.zero_le _, rfl, h0, hb⟩
  case round =>
    obtain ⟨k, hk, rfl, hJs, hbr⟩ := hrel
    by_cases hlt : k < 480
    · have hcx := hbr.cell (k / 8) (by omega)
      have hF := and1_fbit s k hlt
      by_cases ht : fbit s k = true
      · rw [ht] at hF
        obtain ⟨fn, tmps, assign, body, hy, hR⟩ := hY _ ⟨k, hlt, ht⟩ wr hJs (by have := hitL_len (fbit s) 480 k; omega)
        dsimp only at hy
        dsimp only [cond_true] at hF
        gi_wp2
        refine hR.mono ?_
        rintro e W3 (⟨rfl, hJ3, hk3⟩ | ⟨rfl, hJx3⟩)
        · gi_wp2
          go_roundw
          case rel => exact ⟨k + 1, by omega, by simp, by rw [hitL_yes _ _ k ⟨hlt, ht⟩]; exact hJ3, hk3 hbr⟩
          case measure => simp [intOf]; omega
        · gi_wp2
          refine bodyPost_ret (results_none rfl _ _ _) rfl ?_
          exact ⟨⟨_, rfl⟩, .inr ⟨_, trivial, hJx3⟩⟩
      · rw [Bool.not_eq_true] at ht
        rw [ht] at hF
        dsimp only [cond_false] at hF
        gi_wp2
        refine ⟨fun _ h => (by cases h), ?_⟩
        gi_wp2
        go_roundw
        case rel => exact ⟨k + 1, by omega, by simp, by rw [hitL_no _ _ k (by simp [ht])]; exact hJs, hbr⟩
        case measure => simp [intOf]; omega
    · obtain rfl : k = 480 := by omega
      gi_wp2
      go_end0
      exact ⟨⟨_, rfl⟩, .inl ⟨_, rfl, hJs⟩⟩
theorem taken_stops (w : World) (Bs : Nat) (b : List Bool) (x : Option Addr) (c : Nat) (hlen : b.length ≤ 1024) (hBs : Bs < w.heap.size) (hc : w.cell? ⟨Bs, 0, none⟩ = some (.slice x b.length c)) (hb : IsG w (.slice x b.length c) (bV b)) :
    SeqStopsK Fence.wide 9 Try.prog 27 #[.pointer (some ⟨Bs, 0, none⟩)] (fun z : Hit (bAt b) b.length => #[.int .i64 (z.1 : Int)]) (fun W W' => IsG W (.slice x b.length c) (bV b) → IsG W' (.slice x b.length c) (bV b)) (fun ys => ys = hitL (bAt b) b.length b.length) (fun _ => True) b.length w :=
  fun l J Jx W hW _ _ hY h0 => taken_rounds l Bs b x c J Jx hlen hY W ((hW.cell (p := ⟨Bs, 0, none⟩) hBs).trans hc) (hb.kept hW) h0
theorem ones_stops (w : World) (Bs : Nat) (s : Sc) (hb : ScR w Bs s) :
    SeqStopsK Fence.wide 9 Try.prog 30 #[.pointer (some ⟨Bs, 0, none⟩)] (fun z : Hit (fbit s) 480 => #[.int .i64 (z.1 : Int)]) (fun W W' => ScR W Bs s → ScR W' Bs s) (fun ys => ys = hitL (fbit s) 480 480) (fun _ => True) 480 w :=
  fun l J Jx W hW _ _ hY h0 => ones_rounds l Bs s J Jx hY W (hb.kept hW) h0
end Go.Proofs.Ytfnffkommcepoaa
