
import Derived.Test.YtmdhgadmfcmecaaBurA
import Derived.Test.YtmdhgadmfcmecaaRelt
import Derived.WalkSpells
import Derived.BigQuiet
import Derived.Deep.QuietTactic
namespace Go.Proofs.Ytmdhgadmfcmecaa
open Go.RowKit

theorem below_drewN {B : Nat} {W X : World} (h : Below B W X) (n : Nat) : Below B W (X.drewN n) := ⟨h.os, h.tape, h.output, h.size, h.block⟩
@[go_sem] theorem rowOk_drewN (w : World) (n k : Nat) : rowOk (w.drewN k) n = rowOk w n := rfl
@[go_sem] theorem rowAt_drewN (w : World) (n k : Nat) : rowAt (w.drewN k) n = rowAt w n := rfl
theorem and_bit (pat i : Nat) (h : pat < 4294967296) : bits .and .u32 ((pat : Int) / (2 : Int) ^ i) 1 = bif pat.testBit i then 1 else 0 := by
  have e1 : (pat : Int) / (2 : Int) ^ i = ((pat / 2 ^ i : Nat) : Int) := by simp
  have h2 : pat / 2 ^ i < 4294967296 := Nat.lt_of_le_of_lt (Nat.div_le_self _ _) h
  have e := u32_and_nat (pat / 2 ^ i) 1 h2 (by omega)
  rw [show ((1 : Nat) : Int) = 1 from rfl] at e
  rw [e1, e, Nat.and_one_is_mod, Nat.testBit_eq_decide_div_mod_eq]
  rcases Nat.mod_two_eq_zero_or_one (pat / 2 ^ i) with h3 | h3 <;> simp [h3]
theorem Row.frozen {w : World} {g : Nat} {s : Nat → UInt8} (h : Row w g s) (i : Nat) : w.frozen? ⟨g, i, none⟩ = false := by
  obtain ⟨t, hg, _⟩ := row_of_ok h.1
  simp [World.frozen?, hg]
theorem oneAt_int (q : Nat) : (2 : Int) ^ (q % 8) % 256 = ((oneAt q).toNat : Int) := by
  unfold oneAt
  rw [UInt8.toNat_ofNat']
  simp
theorem xor8' (a b : UInt8) : bits .xor .u8 (a.toNat : Int) (b.toNat : Int) = ((a ^^^ b).toNat : Int) := by
  rw [u8_xor_nat _ _ a.toNat_lt b.toNat_lt, UInt8.toNat_xor]
/-- Which bits of a sector are turned. -/
def P1 (bit : Int) (pat : Nat) (i : Nat) : Bool := decide (0 ≤ bit ∧ bit + i ≤ 511) && pat.testBit i
/-- Which bits of a slice are turned. -/
def P2 (bit : Int) (pat n : Nat) (i : Nat) : Bool := decide (0 ≤ bit ∧ bit < 8 * (n : Int) - i) && pat.testBit i
theorem subL_of (l : List UInt8) : subL (fun i : Nat => l[i]?.getD 0) 0 l.length = l := by
  apply List.ext_getElem
  · simp
  · intro i h1 h2
    rw [subL_get]; simp [h2]
theorem IsB.sub_cell {w : World} {g o n c : Nat} {f : Nat → UInt8} (h : IsB w (.slice (some ⟨g, o, none⟩) n c) (subL f 0 n)) (j : Nat) (hj : j < n) : w.cell? ⟨g, o + j, none⟩ = some (.int .u8 ((f j).toNat : Int)) := by
  rcases h with ⟨h, _⟩ | ⟨y, d, he, hc⟩
  · cases h
  · simp only [Value.slice.injEq, Option.some.injEq] at he
    obtain ⟨rfl, _, rfl⟩ := he
    have h1 := hc j (by simpa using hj)
    rw [addr_add] at h1
    rw [subL_get, Nat.zero_add] at h1
    exact h1
theorem frozen_setCell (w : World) (a b : Addr) (v : Value) : (w.setCell a v).frozen? b = w.frozen? b := World.frozen?_setCell w a b v
theorem OwnB.soft {w : World} {base : Nat} {v : Value} {l : List UInt8} (h : OwnB w base v l) (g n c : Nat) (e : v = .slice (some ⟨g, 0, none⟩) n c) (j : Nat) : w.frozen? ⟨g, j, none⟩ = false := by
  subst e
  obtain ⟨_, ⟨h0, _⟩ | ⟨g', cap, cur, he, hb, hg, hle, hm, hs, ht⟩⟩ := h
  · cases h0
  · simp only [Value.slice.injEq, Option.some.injEq, Addr.mk.injEq, and_true] at he
    obtain ⟨rfl, _, rfl⟩ := he
    exact frozen_of_row w g j cur _ hg
set_option linter.unusedSimpArgs false in
set_option maxRecDepth 100000 in
set_option maxHeartbeats 800000 in
theorem lawBursts_any (xb : Option Addr) (cb : Nat) (l : List UInt8) (bit : Int) (pat : Nat) (s : Nat → UInt8) (w : World) (hb : IsB w (.slice xb l.length cb) l) (h0 : -9223372036854775808 ≤ bit) (h1 : bit ≤ 9223372036854775807) (hp : pat < 4294967296) (hl : l.length ≤ 140737488351232) :
    Calls Try.prog 5 #[.slice xb l.length cb, .agg #[.int .i64 bit, .int .u32 (pat : Int)], .agg (secA s)] w fun e w' => e = .returned (.bool true) ∧ Below w.heap.size w w' := by
  go_enter Try.func5, Try.ntmps5
  go_wp2_with fail
  go_quiet (fail)
  go_wp2_with fail
  refine (known_any _).mono ?_
  rintro e w1 ⟨rfl, hw1⟩
  have hB0 : Below w.heap.size w w1 := (below_drewN (((Below.refl _ _).alloc (Nat.le_refl _) _).alloc (by simp) _) nq).trans (hw1.mono (by simp; omega))
  obtain ⟨r1, r2⟩ : Row w1 (w.heap.size + 1) s := keepRow hw1 (by simp) (by go_simp) (by go_simp)
  have hsz : w.heap.size + 1 < w1.heap.size := lt_of_rowOk r1
  clear hw1
  go_wp2_with fail
  refine (seal_any _ _).mono ?_
  rintro e w2 ⟨rfl, hw2⟩
  have hB2 : Below w.heap.size w w2 := hB0.trans (hw2.mono hB0.size)
  clear hw2 hB0 r1 r2 hsz
  go_wp2_with fail
  generalize hT : sealS s = T
  have HT : Hid (sealS s = T) := hT
  clear hT
  have R0 : Row ((w2.alloc (.cells (secA T) 33)).alloc (.cells (secA T) 33)) (w2.heap.size + 1) T := by
    have := Row.new (w2.alloc (.cells (secA T) 33)) T 33
    simpa using this
  have HB3 : Below w.heap.size w ((w2.alloc (.cells (secA T) 33)).alloc (.cells (secA T) 33)) := (hB2.alloc hB2.size _).alloc (by have := hB2.size; simp; omega) _
  have hg : w.heap.size ≤ w2.heap.size + 1 := by have := hB2.size; omega
  generalize w2.heap.size + 1 = g at R0 hg ⊢
  generalize (w2.alloc (.cells (secA T) 33)).alloc (.cells (secA T) 33) = W3 at R0 HB3 ⊢
  clear hB2
  go_loopw [11, 12] (fun t i wr => ∃ k : Nat, k ≤ 32 ∧ i = .int .i64 k ∧ t = .bool (anyP (P1 bit pat) k) ∧ Row wr g (turnS T (P1 bit pat) bit.toNat k) ∧ Below w.heap.size w wr) (fun _ i _ => 32 - (intOf i).toNat)
  case atStart => exact ⟨0, by omega, rfl, rfl, R0, HB3⟩
  case round =>
    obtain ⟨k, hk, rfl, rfl, hR, hB⟩ := hrel
    clear R0 HB3
    by_cases hk32 : k < 32
    · have hstep : ∀ b, P1 bit pat k = b → anyP (P1 bit pat) (k + 1) = (bif b then true else anyP (P1 bit pat) k) ∧ turnS T (P1 bit pat) bit.toNat (k + 1) = (bif b then flip (turnS T (P1 bit pat) bit.toNat k) (bit.toNat + k) else turnS T (P1 bit pat) bit.toNat k) := fun b hb => by
        rw [anyP, turnS, hb]; exact ⟨rfl, rfl⟩
      have ha := and_bit pat k hp
      rcases (by omega : bit < 0 ∨ 511 < bit ∨ (0 ≤ bit ∧ bit ≤ 511)) with hb0 | hb0 | ⟨hb0, hb1⟩
      · obtain ⟨s1, s2⟩ := hstep false (by unfold P1; rw [decide_eq_false (by omega)]; rfl)
        simp only [cond_false] at s1 s2
        have HR : Hid (Row wr g (turnS T (P1 bit pat) bit.toNat (k + 1))) := by show Row _ _ _; rw [s2]; exact hR
        clear hstep s2 hR
        go_wp2
        go_roundw
        case rel => exact ⟨k + 1, by omega, by go_num, by rw [s1], HR.out, hB⟩
        case measure => simp [intOf]; omega
      · obtain ⟨s1, s2⟩ := hstep false (by unfold P1; rw [decide_eq_false (by omega)]; rfl)
        simp only [cond_false] at s1 s2
        have HR : Hid (Row wr g (turnS T (P1 bit pat) bit.toNat (k + 1))) := by show Row _ _ _; rw [s2]; exact hR
        clear hstep s2 hR
        go_wp2
        go_roundw
        case rel => exact ⟨k + 1, by omega, by go_num, by rw [s1], HR.out, hB⟩
        case measure => simp [intOf]; omega
      · have hbk : (-9223372036854775808 : Int) ≤ bit + (k : Int) := by omega
        have hbk2 : bit + (k : Int) < 9223372036854775808 := by omega
        have hk0 : (0 : Int) ≤ (k : Int) := by omega
        cases hbt : pat.testBit k
        · rw [hbt, cond_false] at ha
          obtain ⟨s1, s2⟩ := hstep false (by unfold P1; rw [hbt, Bool.and_false])
          simp only [cond_false] at s1 s2
          have HR : Hid (Row wr g (turnS T (P1 bit pat) bit.toNat (k + 1))) := by show Row _ _ _; rw [s2]; exact hR
          clear hstep s2 hR
          go_wp2
          go_roundw
          case rel => exact ⟨k + 1, by omega, by go_num, by rw [s1], HR.out, hB⟩
          case measure => simp [intOf]; omega
        · rw [hbt, cond_true] at ha
          by_cases hb2 : 511 < bit + (k : Int)
          · obtain ⟨s1, s2⟩ := hstep false (by unfold P1; rw [decide_eq_false (by omega)]; rfl)
            simp only [cond_false] at s1 s2
            have HR : Hid (Row wr g (turnS T (P1 bit pat) bit.toNat (k + 1))) := by show Row _ _ _; rw [s2]; exact hR
            clear hstep s2 hR
            go_wp2
            go_roundw
            case rel => exact ⟨k + 1, by omega, by go_num, by rw [s1], HR.out, hB⟩
            case measure => simp [intOf]; omega
          · obtain ⟨s1, s2⟩ := hstep true (by unfold P1; rw [decide_eq_true (by omega), hbt]; rfl)
            simp only [cond_true] at s1 s2
            go_upto_region 12 with fail
            obtain ⟨q, hq⟩ : ∃ q : Nat, bit + (k : Int) = (q : Int) := ⟨(bit + (k : Int)).toNat, by omega⟩
            have hq2 : bit.toNat + k = q := by omega
            rw [hq2] at s2
            rw [hq]
            have hq511 : q ≤ 511 := by omega
            have hj : q / 8 < 64 := by omega
            have hcell := hR.cell (q / 8) hj
            have hj0 : (0 : Int) ≤ (q : Int) := by omega
            generalize turnS T (P1 bit pat) bit.toNat k = U at *
            have hfz := hR.frozen (q / 8)
            obtain ⟨b', hb'⟩ : ∃ b', b' = U (q / 8) ^^^ oneAt q := ⟨_, rfl⟩
            have hx : bits .xor .u8 ((U (q / 8)).toNat : Int) ((2 : Int) ^ (q % 8) % 256) = (b'.toNat : Int) := by rw [oneAt_int, hb', xor8']
            have HR : Hid (Row (wr.setCell ⟨g, q / 8, none⟩ (.int .u8 (b'.toNat : Int))) g (turnS T (P1 bit pat) bit.toNat (k + 1))) := by
              show Row _ _ _
              rw [s2]; unfold flip; rw [← hb']; exact hR.set (q / 8) b' _ hj rfl
            have HB : Hid (Below w.heap.size w (wr.setCell ⟨g, q / 8, none⟩ (.int .u8 (b'.toNat : Int)))) := hB.setCell hg _
            clear hstep s2 hR hB hb' ha
            go_wp2
            go_roundw
            case rel => exact ⟨k + 1, by omega, by go_num, by rw [s1], HR.out, HB.out⟩
            case measure => simp [intOf]; omega
    · obtain rfl : k = 32 := by omega
      obtain ⟨r1, r2⟩ := hR
      have HS : Hid (secEq (sealS (turnS T (P1 bit pat) bit.toNat 32)) (turnS T (P1 bit pat) bit.toNat 32) = !(anyP (P1 bit pat) 32)) := by
        show _ = _
        rw [← HT.out]
        exact turn_sealed s (P1 bit pat) bit.toNat fun i hi => by
          unfold P1 at hi
          rw [Bool.and_eq_true, decide_eq_true_eq] at hi
          omega
      generalize turnS T (P1 bit pat) bit.toNat 32 = U at r2 HS
      generalize anyP (P1 bit pat) 32 = A at HS ⊢
      go_wp2_with fail
      refine (sealed_any _ _).mono ?_
      rintro e w4 ⟨rfl, hw4⟩
      rw [HS.out]
      have hB4 : Below w.heap.size w w4 := hB.trans (hw4.mono hB.size)
      have IB4 := hb.kept hB4
      obtain ⟨v', w5, hr, hO, hB5, hs5⟩ := run_app_fresh w4 w.heap.size xb cb l 22 IB4 (by omega) hB4.size
      clear hw4 hB HS r1 r2
      have hA1 : (A == !A) = false := by cases A <;> rfl
      have hA2 : decide (A = !A) = false := by cases A <;> rfl
      go_wp2_with (at_builtin; refine wpL_app rfl _ _ rfl v' w5 (by exact hr) ?_)
      have hform : l ≠ [] → ∃ g c, v' = .slice (some ⟨g, 0, none⟩) l.length c ∧ w.heap.size ≤ g := fun h => by obtain ⟨g, c, e, h1, _⟩ := hO.form h; exact ⟨g, c, e, h1⟩
      have hI0 : IsB w5 v' (subL (fun i : Nat => l[i]?.getD 0) 0 l.length) := by rw [subL_of]; exact hO.isB
      have hF0 : ∀ g n c, v' = .slice (some ⟨g, 0, none⟩) n c → ∀ j, w5.frozen? ⟨g, j, none⟩ = false := fun g n c e j => hO.soft g n c e j
      have hB6 : Below w.heap.size w w5 := hB4.trans hB5
      have hf0l : Hid (subL (fun i : Nat => l[i]?.getD 0) 0 l.length = l) := subL_of l
      generalize (fun i : Nat => l[i]?.getD 0) = f0 at hI0 hf0l
      clear hO hr hB4 hB5 hs5 IB4 hA1 hA2
      go_loopw [11, 15] (fun t i wr => ∃ k : Nat, k ≤ 32 ∧ i = .int .i64 k ∧ t = .bool (anyP (P2 bit pat l.length) k) ∧ IsB wr v' (subL (turnS f0 (P2 bit pat l.length) bit.toNat k) 0 l.length) ∧ (∀ g n c, v' = .slice (some ⟨g, 0, none⟩) n c → ∀ j, wr.frozen? ⟨g, j, none⟩ = false) ∧ Below w.heap.size w wr) (fun _ i _ => 32 - (intOf i).toNat)
      case atStart => exact ⟨0, by omega, rfl, rfl, hI0, hF0, hB6⟩
      case round =>
        obtain ⟨k, hk, rfl, rfl, hR, hFz, hB⟩ := hrel
        clear hI0 hF0 hB6
        by_cases hk32 : k < 32
        · have hstep : ∀ b, P2 bit pat l.length k = b → anyP (P2 bit pat l.length) (k + 1) = (bif b then true else anyP (P2 bit pat l.length) k) ∧ turnS f0 (P2 bit pat l.length) bit.toNat (k + 1) = (bif b then flip (turnS f0 (P2 bit pat l.length) bit.toNat k) (bit.toNat + k) else turnS f0 (P2 bit pat l.length) bit.toNat k) := fun b hb => by
            rw [anyP, turnS, hb]; exact ⟨rfl, rfl⟩
          have ha := and_bit pat k hp
          have hk0 : (0 : Int) ≤ (k : Int) := by omega
          have hl8 : (8 : Int) * (l.length : Int) ≤ 1125899906809856 := by omega
          have hl9 : (0 : Int) ≤ (8 : Int) * (l.length : Int) := by omega
          rcases (by omega : bit < 0 ∨ (0 ≤ bit ∧ 8 * (l.length : Int) - k ≤ bit) ∨ (0 ≤ bit ∧ bit < 8 * (l.length : Int) - k)) with hb0 | ⟨hb0, hb1⟩ | ⟨hb0, hb1⟩
          · obtain ⟨s1, s2⟩ := hstep false (by unfold P2; rw [decide_eq_false (by omega)]; rfl)
            simp only [cond_false] at s1 s2
            have HR : Hid (IsB wr v' (subL (turnS f0 (P2 bit pat l.length) bit.toNat (k + 1)) 0 l.length)) := by show IsB _ _ _; rw [s2]; exact hR
            clear hstep s2 hR
            go_wp2
            go_roundw
            case rel => exact ⟨k + 1, by omega, by go_num, by rw [s1], HR.out, hFz, hB⟩
            case measure => simp [intOf]; omega
          · obtain ⟨s1, s2⟩ := hstep false (by unfold P2; rw [decide_eq_false (by omega)]; rfl)
            simp only [cond_false] at s1 s2
            have HR : Hid (IsB wr v' (subL (turnS f0 (P2 bit pat l.length) bit.toNat (k + 1)) 0 l.length)) := by show IsB _ _ _; rw [s2]; exact hR
            clear hstep s2 hR
            go_wp2
            go_roundw
            case rel => exact ⟨k + 1, by omega, by go_num, by rw [s1], HR.out, hFz, hB⟩
            case measure => simp [intOf]; omega
          · cases hbt : pat.testBit k
            · rw [hbt, cond_false] at ha
              obtain ⟨s1, s2⟩ := hstep false (by unfold P2; rw [hbt, Bool.and_false])
              simp only [cond_false] at s1 s2
              have HR : Hid (IsB wr v' (subL (turnS f0 (P2 bit pat l.length) bit.toNat (k + 1)) 0 l.length)) := by show IsB _ _ _; rw [s2]; exact hR
              clear hstep s2 hR
              go_wp2
              go_roundw
              case rel => exact ⟨k + 1, by omega, by go_num, by rw [s1], HR.out, hFz, hB⟩
              case measure => simp [intOf]; omega
            · rw [hbt, cond_true] at ha
              obtain ⟨s1, s2⟩ := hstep true (by unfold P2; rw [decide_eq_true (by omega), hbt]; rfl)
              simp only [cond_true] at s1 s2
              have hln : l ≠ [] := by rintro rfl; simp at hb1; omega
              obtain ⟨g2, c2, rfl, hg2⟩ := hform hln
              go_upto_region 24 with fail
              obtain ⟨q, hq⟩ : ∃ q : Nat, bit + (k : Int) = (q : Int) := ⟨(bit + (k : Int)).toNat, by omega⟩
              have hq2 : bit.toNat + k = q := by omega
              rw [hq2] at s2
              rw [hq]
              have hj : q / 8 < l.length := by omega
              have hcell := hR.sub_cell (q / 8) hj
              rw [Nat.zero_add] at hcell
              have hj0 : (0 : Int) ≤ (q : Int) := by omega
              have hj1 : (q : Int) / 8 < (l.length : Int) := by omega
              generalize turnS f0 (P2 bit pat l.length) bit.toNat k = U at *
              have hfz := hFz g2 _ c2 rfl (q / 8)
              obtain ⟨b', hb'⟩ : ∃ b', b' = U (q / 8) ^^^ oneAt q := ⟨_, rfl⟩
              have hx : bits .xor .u8 ((U (q / 8)).toNat : Int) ((2 : Int) ^ (q % 8) % 256) = (b'.toNat : Int) := by rw [oneAt_int, hb', xor8']
              have HR : Hid (IsB (wr.setCell ⟨g2, q / 8, none⟩ (.int .u8 (b'.toNat : Int))) (.slice (some ⟨g2, 0, none⟩) l.length c2) (subL (turnS f0 (P2 bit pat l.length) bit.toNat (k + 1)) 0 l.length)) := by
                show IsB _ _ _
                rw [s2]; unfold flip; rw [← hb']
                have := hR.set (q / 8) b' _ hj rfl
                rw [Nat.zero_add] at this
                exact this
              have HB : Hid (Below w.heap.size w (wr.setCell ⟨g2, q / 8, none⟩ (.int .u8 (b'.toNat : Int)))) := hB.setCell hg2 _
              have HF : Hid (∀ g n c, Value.slice (some ⟨g2, 0, none⟩) l.length c2 = .slice (some ⟨g, 0, none⟩) n c → ∀ j, (wr.setCell ⟨g2, q / 8, none⟩ (.int .u8 (b'.toNat : Int))).frozen? ⟨g, j, none⟩ = false) := fun g n c e j => by
                rw [frozen_setCell]; exact hFz g n c e j
              clear hstep s2 hR hB hb' ha hFz hform
              go_wp2
              go_roundw
              case rel => exact ⟨k + 1, by omega, by go_num, by rw [s1], HR.out, HF.out, HB.out⟩
              case measure => simp [intOf]; omega
        · obtain rfl : k = 32 := by omega
          have IB := hb.kept hB
          have hcmp : (anyP (P2 bit pat l.length) 32 = true ∧ ((sumL l).toNat : Int) ≠ ((sumL (subL (turnS f0 (P2 bit pat l.length) bit.toNat 32) 0 l.length)).toNat : Int)) ∨ (anyP (P2 bit pat l.length) 32 = false ∧ sumL (subL (turnS f0 (P2 bit pat l.length) bit.toNat 32) 0 l.length) = sumL l) := by
            cases hA : anyP (P2 bit pat l.length) 32
            · refine .inr ⟨rfl, ?_⟩
              rw [turnS_none _ _ _ _ hA, hf0l.out]
            · refine .inl ⟨rfl, fun e => ?_⟩
              have := turn_sum f0 (P2 bit pat l.length) bit.toNat l.length (fun i hi => by
                unfold P2 at hi
                rw [Bool.and_eq_true, decide_eq_true_eq] at hi
                omega) hA
              rw [hf0l.out] at this
              exact this (BitVec.eq_of_toNat_eq (by omega))
          have hlC : (subL (turnS f0 (P2 bit pat l.length) bit.toNat 32) 0 l.length).length = l.length := by simp
          generalize subL (turnS f0 (P2 bit pat l.length) bit.toNat 32) 0 l.length = C at hR hcmp hlC
          obtain ⟨xc, cc, rfl⟩ := hR.len
          have hCl : C.length ≤ maxLen := by unfold maxLen; omega
          clear hFz hform hf0l hlC
          have hS1 := sum_one (.slice xb l.length cb) l (wr.alloc (.cells #[.slice xb l.length cb] 22)) ⟨wr.heap.size, 0, none⟩ 1 (by unfold maxLen; omega) (by go_simp) (IB.kept (below_alloc _ _))
          have hS2 := sum_one (.slice xc C.length cc) C ((wr.alloc (.cells #[.slice xb l.length cb] 22)).alloc (.cells #[.slice xc C.length cc] 22)) ⟨wr.heap.size + 1, 0, none⟩ 1 hCl (by go_simp) ((hR.kept (below_alloc _ _)).kept (below_alloc _ _))
          have HB : Hid (Below w.heap.size w ((wr.alloc (.cells #[.slice xb l.length cb] 22)).alloc (.cells #[.slice xc C.length cc] 22))) := (hB.alloc hB.size _).alloc (by have := hB.size; simp; omega) _
          have H1 := hS1
          have H2 := hS2
          clear hS1 hS2 IB hR hB hb hCl
          rcases hcmp with ⟨hA, hne⟩ | ⟨hA, hne⟩
          · rw [hA]
            generalize (sumL l).toNat = S1 at H1 hne
            generalize (sumL C).toNat = S2 at H2 hne
            have hbne : ((S1 : Int) != (S2 : Int)) = true := by simp only [bne_iff_ne, ne_eq]; exact hne
            go_wp2_with fail
            refine H1.mono ?_
            rintro e w7 ⟨rfl, rfl⟩
            go_wp2_with fail
            refine H2.mono ?_
            rintro e w8 ⟨rfl, rfl⟩
            go_wp2
            go_ret
            exact ⟨by first | rfl | (show Ending.returned (Value.bool ((S1 : Int) != (S2 : Int))) = _; rw [hbne]), HB.out⟩
          · rw [hA]
            rw [hne] at H2
            generalize (sumL l).toNat = S1 at H1 H2
            go_wp2_with fail
            refine H1.mono ?_
            rintro e w7 ⟨rfl, rfl⟩
            go_wp2_with fail
            refine H2.mono ?_
            rintro e w8 ⟨rfl, rfl⟩
            go_wp2
            go_ret
            exact ⟨rfl, HB.out⟩
end Go.Proofs.Ytmdhgadmfcmecaa
