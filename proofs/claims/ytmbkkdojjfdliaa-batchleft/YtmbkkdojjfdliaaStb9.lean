
import Derived.Test.YtmbkkdojjfdliaaStb8
namespace Go.Proofs.Ytmbkkdojjfdliaa
open Go.RowKit

/-! symMerge, stable, slices.SortStableFunc -/
theorem symOk : ∀ f, SymOk f
  | 0 => fun w B g n c a m b P A D S h ha hm hb hA1 hD1 hA hD hn hf => by omega
  | f + 1 => fun w B g n c a m b P A D S h ha hm hb hA1 hD1 hA hD hn hf => by
    by_cases h1 : A.length = 1
    · obtain ⟨x, rfl⟩ := List.length_eq_one_iff.1 h1
      exact symL26 w B g n c a m b P D S x (by simpa using h) ha (by simpa using hm) hb hD hn
    · by_cases h2 : D.length = 1
      · obtain ⟨z, rfl⟩ := List.length_eq_one_iff.1 h2
        exact symR26 w B g n c a m b P A S z (by simpa using h) ha hm (by simpa using hb) hA (by omega) hn
      · by_cases h3 : (a + b) / 2 < m
        · exact symG26a f (symOk f) w B g n c a m b _ P A D S h ha hm hb (by omega) (by omega) hA hD hn hf rfl h3
        · exact symG26b f (symOk f) w B g n c a m b _ P A D S h ha hm hb (by omega) (by omega) hA hD hn hf rfl (by omega)
set_option linter.unusedSimpArgs false in
set_option maxRecDepth 100000 in
theorem stable0 (w : World) (x : Option Addr) (c : Nat) : Calls Try.prog 28 #[.slice x 0 c, .int .i64 0, cmV] w fun e w' => (∃ u, e = .returned u) ∧ Below w.heap.size w w' := by
  go_enter Try.func28, Try.ntmps28
  go_wp2_with fail
  go_loopw [7, 8] (fun av bv wr => av = .int .i64 0 ∧ bv = .int .i64 20 ∧ Below w.heap.size w wr) (fun _ _ _ => 0)
  case atStart => exact ⟨rfl, rfl, Below.refl _ _⟩
  case round =>
    obtain ⟨rfl, rfl, hB⟩ := hrel
    have hS := insertion0 wr (.slice x 0 c) 0 (by omega)
    go_wp2_with fail
    refine hS.mono ?_
    rintro e w2 ⟨⟨u, rfl⟩, hB2⟩
    clear hS
    have hB3 := hB.trans (hB2.mono hB.size)
    clear hB hB2
    go_wp2_with fail
    go_loopw [6] (fun av wr => av = .int .i64 20 ∧ Below w.heap.size w wr) (fun _ _ => 0)
    case atStart => exact ⟨rfl, hB3⟩
    case round =>
      clear hB3
      obtain ⟨rfl, hB4⟩ := hrel
      go_wp2
      go_end0
      exact ⟨⟨_, rfl⟩, hB4⟩
theorem wMul (a p : Nat) (h : 2 * a = p) (hp : p ≤ 1125899906842624) : IntKind.i64.wrap (2 * (a : Int)) = (p : Int) ∧ IntKind.i64.wrap ((a : Int) * 2) = (p : Int) := by
  constructor <;> (rw [IntKind.wrap_i64]; omega)
theorem runs0 {c : Nat} {R : List Wr} (h : Runs c R) : Srd (R.take c) := by have := h 0; simpa using this
theorem runs1 {c : Nat} {R : List Wr} (h : Runs c R) : Srd ((R.drop c).take c) := by have := h 1; simpa using this
theorem runs2 {c : Nat} {R : List Wr} (h : Runs c R) : Runs c (R.drop (2 * c)) := h.drop 2
set_option linter.unusedSimpArgs false in
set_option maxHeartbeats 8000000 in
set_option maxRecDepth 100000 in
theorem stable26 (w : World) (B g n c : Nat) (l : List Wr) (h : OwnK wrE w B (.slice (some ⟨g, 0, none⟩) n c) l) (hn : n ≤ 140737488355328) :
    Calls Try.prog 28 #[.slice (some ⟨g, 0, none⟩) n c, .int .i64 (n : Int), cmV] w fun e w' => (∃ u, e = .returned u) ∧ ∃ M, Srd M ∧ Sim l M ∧ OwnK wrE w' B (.slice (some ⟨g, 0, none⟩) n c) M ∧ Keep [g] w w' := by
  go_enter Try.func28, Try.ntmps28
  go_wp2_with fail
  go_loopw [7, 8] (fun av bv wr => ∃ (k a b : Nat) (D R : List Wr), av = .int .i64 (a : Int) ∧ bv = .int .i64 (b : Int) ∧ a + 20 = b ∧ D.length = a ∧ a = k * 20 ∧ Runs 20 D ∧ Sim l (D ++ R) ∧ OwnK wrE wr B (.slice (some ⟨g, 0, none⟩) n c) (D ++ R) ∧ Keep [g] w wr) (fun av _ _ => n - (intOf av).toNat)
  case atStart => exact ⟨0, 0, 20, [], l, rfl, rfl, rfl, rfl, rfl, Runs.nil _, Sim.refl _, by simpa using h, Keep.refl _ _⟩
  case round =>
    clear h
    obtain ⟨k, a, b, D, R, rfl, rfl, hab, hD, hak, hr, hs, hO, hK⟩ := hrel
    have hlen := own_len hO
    rw [List.length_append] at hlen
    by_cases hle : b ≤ n
    · have hc : (b : Int) ≤ (n : Int) := by omega
      obtain ⟨R1, R2, rfl, hR1⟩ := split_at R 20 (by omega)
      have hS := insertion26 wr B g n c a b D R1 R2 hO hD (by omega) hn
      obtain ⟨b2, hb2⟩ : ∃ q, b + 20 = q := ⟨_, rfl⟩
      have wb : IntKind.i64.wrap ((b : Int) + 20) = (b2 : Int) := by rw [IntKind.wrap_i64]; omega
      have HH : Hid (D.length = a ∧ a = k * 20 ∧ a + 20 = b ∧ b + 20 = b2 ∧ b ≤ n ∧ Runs 20 D ∧ Sim l (D ++ (R1 ++ R2)) ∧ D.length + (R1 ++ R2).length = n ∧ R1.length = 20) := ⟨hD, hak, hab, hb2, hle, hr, hs, hlen, hR1⟩
      have KK : Hid _ := hK
      clear hD hak hab hb2 hle hr hs hlen hR1 hK hO
      go_wp2_with fail
      refine hS.mono ?_
      rintro e w2 ⟨⟨u, rfl⟩, M, hM1, hM2, hO2, hK2⟩
      clear hS
      have HM : Hid (Srd M ∧ Sim R1 M ∧ OwnK wrE w2 B (.slice (some ⟨g, 0, none⟩) n c) (D ++ (M ++ R2)) ∧ Keep [g] w w2) := ⟨hM1, hM2, hO2, KK.out.trans hK2⟩
      clear hM1 hM2 hO2 hK2 KK
      go_wp2
      go_roundw
      case rel =>
        obtain ⟨q1, q2, q3, q4, q5, q6, q7, q8, q9⟩ := HH.out
        obtain ⟨p1, p2, p3, p4⟩ := HM.out
        have hlM := own_len p3
        simp only [List.length_append] at hlM q8
        exact ⟨k + 1, b, b2, D ++ M, R2, rfl, rfl, q4, by rw [List.length_append]; omega, by omega, Runs.app (t := k) (by omega) q6 p1 (by omega), q7.trans (by simpa using (Sim.refl D).app (p2.app (Sim.refl R2))), by simpa using p3, p4⟩
      case measure => have := HH.out; simp [intOf]; omega
    · have hc : ¬ (b : Int) ≤ (n : Int) := by omega
      have hS := insertion26 wr B g n c a n D R [] (by simpa using hO) hD (by omega) hn
      have HH : Hid (D.length = a ∧ a = k * 20 ∧ a + 20 = b ∧ n < b ∧ Runs 20 D ∧ Sim l (D ++ R) ∧ D.length + R.length = n) := ⟨hD, hak, hab, by omega, hr, hs, hlen⟩
      have KK : Hid _ := hK
      clear hD hak hab hle hr hs hlen hK hO
      go_wp2_with fail
      refine hS.mono ?_
      rintro e w2 ⟨⟨u, rfl⟩, M, hM1, hM2, hO2, hK2⟩
      clear hS
      rw [List.append_nil] at hO2
      have HM : Hid (Runs 20 (D ++ M) ∧ Sim l (D ++ M) ∧ OwnK wrE w2 B (.slice (some ⟨g, 0, none⟩) n c) (D ++ M) ∧ Keep [g] w w2) := by
        obtain ⟨q1, q2, q3, q4, q5, q6, q7⟩ := HH.out
        have hlM := own_len hO2
        rw [List.length_append] at hlM
        exact ⟨Runs.app (t := k) (by omega) q5 hM1 (by omega), q6.trans ((Sim.refl D).app hM2), hO2, KK.out.trans hK2⟩
      clear hM1 hM2 hO2 hK2 KK HH
      go_wp2_with fail
      go_loopw [6] (fun sv wr => ∃ (s : Nat) (L : List Wr), sv = .int .i64 (s : Int) ∧ 20 ≤ s ∧ s ≤ 2 * n + 20 ∧ Runs s L ∧ Sim l L ∧ OwnK wrE wr B (.slice (some ⟨g, 0, none⟩) n c) L ∧ Keep [g] w wr) (fun sv _ => n - (intOf sv).toNat)
      case atStart => exact ⟨20, D ++ M, rfl, by omega, by omega, HM.out.1, HM.out.2.1, HM.out.2.2.1, HM.out.2.2.2⟩
      case round =>
        clear HM hc
        obtain ⟨s, L, rfl, hs20, hsn, hr, hs, hO, hK⟩ := hrel
        by_cases hlt : s < n
        · have hc1 : (s : Int) < (n : Int) := by omega
          obtain ⟨d, hd⟩ : ∃ d, 2 * s = d := ⟨_, rfl⟩
          obtain ⟨wm1, wm2⟩ := wMul s d hd (by omega)
          have HD : Hid (2 * s = d ∧ 20 ≤ s ∧ s < n ∧ Runs s L ∧ Sim l L) := ⟨hd, hs20, hlt, hr, hs⟩
          clear hs20 hsn hr hs hlt hd
          go_wp2_with fail
          go_loopw [7, 8] (fun av bv wr => ∃ (t a b : Nat) (D R : List Wr), av = .int .i64 (a : Int) ∧ bv = .int .i64 (b : Int) ∧ a + d = b ∧ D.length = a ∧ a = t * d ∧ Runs d D ∧ Runs s R ∧ Sim l (D ++ R) ∧ OwnK wrE wr B (.slice (some ⟨g, 0, none⟩) n c) (D ++ R) ∧ Keep [g] w wr) (fun av _ _ => n - (intOf av).toNat)
          case atStart => exact ⟨0, 0, d, [], L, rfl, rfl, by omega, rfl, by omega, Runs.nil _, HD.out.2.2.2.1, HD.out.2.2.2.2, by simpa using hO, hK⟩
          case round =>
            clear hO hK
            obtain ⟨t, a, b, D, R, rfl, rfl, hab, hD, hak, hrd, hr, hs, hO, hK⟩ := hrel
            have hlen := own_len hO
            rw [List.length_append] at hlen
            obtain ⟨d1, d2, d3, -, -⟩ := HD.out
            obtain ⟨m, hm⟩ : ∃ m, a + s = m := ⟨_, rfl⟩
            have wm := wAdd a s m hm (by omega)
            by_cases hle : b ≤ n
            · have hc2 : (b : Int) ≤ (n : Int) := by omega
              obtain ⟨b2, hb2⟩ : ∃ q, b + d = q := ⟨_, rfl⟩
              have wb := wAdd b d b2 hb2 (by omega)
              obtain ⟨R1, R4, rfl, hR1⟩ := split_at R s (by omega)
              rw [List.length_append] at hlen
              obtain ⟨R2, R3, rfl, hR2⟩ := split_at R4 s (by omega)
              rw [List.length_append] at hlen
              have e1 : Srd R1 := by have := runs0 hr; rwa [List.take_left' hR1] at this
              have e2 : Srd R2 := by have := runs1 hr; rwa [List.drop_left' hR1, List.take_left' hR2] at this
              have e3 : Runs s R3 := by
                have := runs2 hr
                rwa [← List.append_assoc, List.drop_left' (by rw [List.length_append]; omega)] at this
              have hS := symOk _ wr B g n c a m b D R1 R2 R3 hO hD (by omega) (by omega) (by omega) (by omega) e1 e2 hn (Nat.le_refl _)
              have HH : Hid (D.length = a ∧ a = t * d ∧ a + d = b ∧ b + d = b2 ∧ b ≤ n ∧ Runs d D ∧ Runs s R3 ∧ Sim l (D ++ (R1 ++ (R2 ++ R3))) ∧ D.length + (R1.length + (R2.length + R3.length)) = n ∧ R1.length = s ∧ R2.length = s ∧ 2 * s = d ∧ 0 < d) := ⟨hD, hak, hab, hb2, hle, hrd, e3, hs, hlen, hR1, hR2, d1, by omega⟩
              have KK : Hid _ := hK
              clear hD hak hab hb2 hle hrd hr hs hlen hR1 hR2 hK hO e1 e2 e3 hm d1 d2 d3
              go_wp2_with fail
              refine hS.mono ?_
              rintro e w3 ⟨⟨u, rfl⟩, M, hM1, hM2, hO2, hK2⟩
              clear hS
              have HM : Hid (Srd M ∧ Sim (R1 ++ R2) M ∧ OwnK wrE w3 B (.slice (some ⟨g, 0, none⟩) n c) (D ++ (M ++ R3)) ∧ Keep [g] w w3) := ⟨hM1, hM2, hO2, KK.out.trans hK2⟩
              clear hM1 hM2 hO2 hK2 KK
              go_wp2
              go_roundw
              case rel =>
                obtain ⟨q1, q2, q3, q4, q5, q6, q7, q8, q9, q10, q11, q12, q13⟩ := HH.out
                obtain ⟨p1, p2, p3, p4⟩ := HM.out
                have hlM := own_len p3
                simp only [List.length_append] at hlM
                exact ⟨t + 1, b, b2, D ++ M, R3, rfl, rfl, q4, by rw [List.length_append]; omega, by rw [Nat.add_mul]; omega, Runs.app (t := t) (by omega) q6 p1 (by omega), q7, q8.trans (by simpa using (Sim.refl D).app (p2.app (Sim.refl R3))), by simpa using p3, p4⟩
              case measure => have := HH.out; simp [intOf]; omega
            · have hc2 : ¬ (b : Int) ≤ (n : Int) := by omega
              by_cases hmn : m < n
              · have hc3 : (m : Int) < (n : Int) := by omega
                obtain ⟨R1, R2, rfl, hR1⟩ := split_at R s (by omega)
                rw [List.length_append] at hlen
                have e1 : Srd R1 := by have := runs0 hr; rwa [List.take_left' hR1] at this
                have e2 : Srd R2 := by have := runs1 hr; rwa [List.drop_left' hR1, List.take_of_length_le (by omega)] at this
                have hS := symOk _ wr B g n c a m n D R1 R2 [] (by simpa using hO) hD (by omega) (by omega) (by omega) (by omega) e1 e2 hn (Nat.le_refl _)
                have HH : Hid (D.length = a ∧ a = t * d ∧ n < a + d ∧ Runs d D ∧ Sim l (D ++ (R1 ++ R2)) ∧ D.length + (R1.length + R2.length) = n ∧ 2 * s = d ∧ s < n ∧ 20 ≤ s) := ⟨hD, hak, by omega, hrd, hs, hlen, d1, d3, d2⟩
                have KK : Hid _ := hK
                clear hD hak hab hle hrd hr hs hlen hR1 hK hO e1 e2 hm d1 d2 d3 hmn
                go_wp2_with fail
                refine hS.mono ?_
                rintro e w3 ⟨⟨u, rfl⟩, M, hM1, hM2, hO2, hK2⟩
                clear hS
                rw [List.append_nil] at hO2
                have HM : Hid (Srd M ∧ Sim (R1 ++ R2) M ∧ OwnK wrE w3 B (.slice (some ⟨g, 0, none⟩) n c) (D ++ M) ∧ Keep [g] w w3) := ⟨hM1, hM2, hO2, KK.out.trans hK2⟩
                clear hM1 hM2 hO2 hK2 KK
                go_wp2
                go_roundw
                case rel =>
                  obtain ⟨q1, q2, q3, q4, q5, q6, q7, q8, q9⟩ := HH.out
                  obtain ⟨p1, p2, p3, p4⟩ := HM.out
                  have hlM := own_len p3
                  simp only [List.length_append] at hlM
                  exact ⟨d, D ++ M, rfl, by omega, by omega, Runs.app (t := t) (by omega) q4 p1 (by omega), q5.trans ((Sim.refl D).app p2), p3, p4⟩
                case measure => have := HH.out; simp [intOf]; omega
              · have hc3 : ¬ (m : Int) < (n : Int) := by omega
                have HH : Hid (20 ≤ d ∧ d ≤ 2 * n + 20 ∧ Runs d (D ++ R) ∧ Sim l (D ++ R) ∧ OwnK wrE wr B (.slice (some ⟨g, 0, none⟩) n c) (D ++ R) ∧ Keep [g] w wr ∧ s < n ∧ 2 * s = d ∧ 20 ≤ s) := ⟨by omega, by omega, Runs.app (t := t) (by omega) hrd (hr.all (by omega)) (by omega), hs, hO, hK, d3, d1, d2⟩
                clear hD hak hab hle hrd hr hs hlen hK hO hm d1 d2 d3 hmn
                go_wp2
                go_roundw
                case rel =>
                  obtain ⟨q1, q2, q3, q4, q5, q6, q7, q8, q9⟩ := HH.out
                  exact ⟨d, D ++ R, rfl, q1, q2, q3, q4, q5, q6⟩
                case measure => have := HH.out; simp [intOf]; omega
        · have hc1 : ¬ (s : Int) < (n : Int) := by omega
          have HH : Hid (Srd L ∧ Sim l L ∧ OwnK wrE wr B (.slice (some ⟨g, 0, none⟩) n c) L ∧ Keep [g] w wr) := ⟨hr.all (by rw [own_len hO]; omega), hs, hO, hK⟩
          clear hs20 hsn hr hs hO hK hlt
          go_wp2
          go_end0
          exact ⟨⟨_, rfl⟩, L, HH.out.1, HH.out.2.1, HH.out.2.2.1, HH.out.2.2.2⟩
set_option linter.unusedSimpArgs false in
theorem sort26 (w : World) (B g n c : Nat) (l : List Wr) (h : OwnK wrE w B (.slice (some ⟨g, 0, none⟩) n c) l) (hn : n ≤ 140737488355328) :
    Calls Try.prog 22 #[.slice (some ⟨g, 0, none⟩) n c, cmV] w fun e w' => (∃ u, e = .returned u) ∧ ∃ M, Srd M ∧ Sim l M ∧ OwnK wrE w' B (.slice (some ⟨g, 0, none⟩) n c) M ∧ Keep [g] w w' := by
  have hS := stable26 w B g n c l h hn
  go_enter Try.func22, Try.ntmps22
  go_wp2_with fail
  refine hS.mono ?_
  rintro e w3 ⟨⟨u, rfl⟩, M, hM1, hM2, hO2, hK2⟩
  go_wp2
  go_end0
  exact ⟨⟨_, rfl⟩, M, hM1, hM2, hO2, hK2⟩
set_option linter.unusedSimpArgs false in
theorem sort0 (w : World) (x : Option Addr) (c : Nat) : Calls Try.prog 22 #[.slice x 0 c, cmV] w fun e w' => (∃ u, e = .returned u) ∧ Below w.heap.size w w' := by
  have hS := stable0 w x c
  go_enter Try.func22, Try.ntmps22
  go_wp2_with fail
  refine hS.mono ?_
  rintro e w3 ⟨⟨u, rfl⟩, hB⟩
  go_wp2
  go_end0
  exact ⟨⟨_, rfl⟩, hB⟩
end Go.Proofs.Ytmbkkdojjfdliaa
