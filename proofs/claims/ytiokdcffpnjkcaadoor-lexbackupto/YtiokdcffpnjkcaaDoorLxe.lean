
import Derived.Test.YtiokdcffpnjkcaaDoorLxt
namespace Go.Proofs.YtiokdcffpnjkcaaDoor
open Go.RowKit

/-! lex.numbered, lex.escaped -/
set_option linter.unusedSimpArgs false in
set_option maxRecDepth 100000 in
set_option maxHeartbeats 4000000 in
theorem validRune_any (v : Nat) (hv : v < 65536) (w : World) : Calls Tryd.prog 48 #[.int .i32 (v : Int)] w fun e w' => e = .returned (.bool (!decide (55296 ≤ v ∧ v ≤ 57343))) ∧ w' = w := by
  rcases (by omega : v < 55296 ∨ (55296 ≤ v ∧ v ≤ 57343) ∨ 57343 < v) with h | h | h
  · rw [decide_eq_false (by omega)]
    have c1 : (0 : Int) ≤ (v : Int) := by omega
    have c2 : (v : Int) < 55296 := by omega
    clear h hv
    go_enter Tryd.func48, Tryd.ntmps48
    go_wp2
    go_ret
    exact ⟨rfl, rfl⟩
  · rw [decide_eq_true h]
    have c1 : (0 : Int) ≤ (v : Int) := by omega
    have c2 : ¬ (v : Int) < 55296 := by omega
    have c3 : ¬ (57343 : Int) < (v : Int) := by omega
    clear h hv
    go_enter Tryd.func48, Tryd.ntmps48
    go_wp2
    go_ret
    exact ⟨rfl, rfl⟩
  · rw [decide_eq_false (by omega)]
    have c1 : (0 : Int) ≤ (v : Int) := by omega
    have c2 : ¬ (v : Int) < 55296 := by omega
    have c3 : (57343 : Int) < (v : Int) := by omega
    have c4 : (v : Int) ≤ 1114111 := by omega
    clear h hv
    go_enter Tryd.func48, Tryd.ntmps48
    go_wp2
    go_ret
    exact ⟨rfl, rfl⟩
theorem uH_lt (l : List UInt8) : ∀ k v, uH l k = some v → v < 16 ^ k
  | 0, v, h => by
    simp only [uH, Option.some.injEq] at h
    omega
  | k + 1, v, h => by
    cases h1 : uH l k with
    | none => rw [uH, h1] at h; cases h
    | some u =>
      rw [uH_go l k u h1] at h
      have hu := uH_lt l k u h1
      have hr := hexV_range (lB l k)
      split at h
      · cases h
      · simp only [Option.some.injEq] at h
        rw [Nat.pow_succ]
        omega
theorem hx_uH (l x : List UInt8) : ∀ k, (∀ j, j < k → lB x j = lB l (2 + j)) → hx l k = uH x k
  | 0, _ => rfl
  | k + 1, h => by
    rw [hx, uH, hx_uH l x k (fun j hj => h j (by omega)), h k (by omega)]
    rfl
/-- The number of the four digits of an escape. -/
def hx_ (l : List UInt8) : Option Nat := hx l 4
/-- What lex.escaped leaves. -/
def EsxP (r : List UInt8 × Nat) (w : World) (e : Ending) (w' : World) : Prop := (∃ v n : Nat, e = .returned (.tuple #[.int .i32 (v : Int), .int .i64 (n : Int)]) ∧ r.2 = n ∧ (n ≠ 0 → vR v ∧ r.1 = enc v)) ∧ Below w.heap.size w w'
theorem EsxP.no {l : List UInt8} {w w' : World} (h : (escS l).2 = 0) (hb : Below w.heap.size w w') : EsxP (escS l) w (.returned (.tuple #[.int .i32 0, .int .i64 0])) w' := ⟨⟨0, 0, rfl, h, fun h => absurd rfl h⟩, hb⟩
set_option linter.unusedSimpArgs false in
set_option maxRecDepth 100000 in
set_option maxHeartbeats 4000000 in
theorem numbered_any (s : ByteArray) (w : World) (hV : Vx w) (hmax : s.size ≤ 140737488355328) (h117 : lB (lS s) 1 = 117) : Calls Tryd.prog 44 #[.string s] w fun e w' => EsxP (escU (lS s)) w e w' := by
  have hls := lS_len s
  by_cases h6 : s.size < 6
  · have i6 : (s.size : Int) < 6 := by omega
    have HP : Hid (EsxP (escU (lS s)) w (.returned (.tuple #[.int .i32 0, .int .i64 0])) w) := ⟨⟨0, 0, rfl, by unfold escU; rw [if_pos (.inl (by omega))], fun h => absurd rfl h⟩, Below.refl _ _⟩
    go_enter Tryd.func44, Tryd.ntmps44
    go_wp2
    go_ret2
    exact HP.out
  have i6 : ¬ (s.size : Int) < 6 := by omega
  have hq : ∀ W, (sCut (.string s) (.int .i64 2) (.int .i64 6)).run Tryd.prog W = .ok (.value (.string (s.extract 2 6))) W := fun W => run_sCut W s 2 6 (by omega) (by omega)
  have hx : lS (s.extract 2 6) = ((lS s).drop 2).take 4 := by rw [lS_cut]
  have hz : (s.extract 2 6).size = 4 := by rw [← lS_len, hx, List.length_take, List.length_drop]; omega
  have kp := pU16 (s.extract 2 6) w hV hz
  have hu : uH (lS (s.extract 2 6)) 4 = hx_ (lS s) := by
    unfold hx_
    refine (hx_uH _ _ 4 fun j hj => ?_).symm
    rw [hx]
    unfold lB
    rw [List.getElem?_take, if_pos hj, List.getElem?_drop]
  rw [hu] at kp
  have hE : escU (lS s) = match hx_ (lS s) with | none => ([], 0) | some v => if 55296 ≤ v ∧ v ≤ 57343 then ([], 0) else (enc v, 6) := by
    unfold escU hx_
    rw [if_neg (by rintro (h | h); omega; exact h h117)]
    rfl
  have hlt : ∀ v, hx_ (lS s) = some v → v < 65536 := fun v h => by
    rw [← hu] at h
    have := uH_lt _ 4 v h
    omega
  generalize hx_ (lS s) = r at kp hE hlt
  clear hu hx hz
  generalize s.extract 2 6 = S6 at hq kp
  go_enter Tryd.func44, Tryd.ntmps44
  go_wp2_with fail
  refine kp.mono ?_
  rintro e w1 ⟨hb, ⟨v, rfl, rfl⟩ | ⟨rfl, x, t, p, rfl⟩⟩
  · have hv := hlt v rfl
    have kv := fun W => validRune_any v hv W
    simp only at hE
    clear hlt kp
    by_cases hs : 55296 ≤ v ∧ v ≤ 57343
    · rw [if_pos hs] at hE
      rw [decide_eq_true hs] at kv
      have HP : Hid (EsxP (escU (lS s)) w (.returned (.tuple #[.int .i32 0, .int .i64 0])) w1) := by
        rw [hE]
        exact ⟨⟨0, 0, rfl, rfl, fun h => absurd rfl h⟩, hb⟩
      clear hE hs hb
      go_wp2_with fail
      refine (kv _).mono ?_
      rintro e w' ⟨rfl, rfl⟩
      go_wp2
      go_ret2
      exact HP.out
    · rw [if_neg hs] at hE
      rw [decide_eq_false hs] at kv
      have HP : Hid (EsxP (escU (lS s)) w (.returned (.tuple #[.int .i32 (v : Int), .int .i64 6])) w1) := by
        rw [hE]
        exact ⟨⟨v, 6, rfl, rfl, fun _ => ⟨⟨by omega, hs⟩, rfl⟩⟩, hb⟩
      clear hE hs hb
      go_wp2_with fail
      refine (kv _).mono ?_
      rintro e w' ⟨rfl, rfl⟩
      go_wp2
      go_ret2
      exact HP.out
  · have HP : Hid (EsxP (escU (lS s)) w (.returned (.tuple #[.int .i32 0, .int .i64 0])) w1) := by
      rw [hE]
      exact ⟨⟨0, 0, rfl, rfl, fun h => absurd rfl h⟩, hb⟩
    clear hE hlt kp hb
    go_wp2
    go_ret2
    exact HP.out
set_option linter.unusedSimpArgs false in
set_option maxRecDepth 100000 in
set_option maxHeartbeats 4000000 in
theorem escaped_any (s : ByteArray) (w : World) (hV : Vx w) (hmax : s.size ≤ 140737488355328) : Calls Tryd.prog 39 #[.string s] w fun e w' => EsxP (escS (lS s)) w e w' := by
  have hls := lS_len s
  by_cases h2 : s.size < 2
  · have i2 : (s.size : Int) < 2 := by omega
    have HP : Hid (EsxP (escS (lS s)) w (.returned (.tuple #[.int .i32 0, .int .i64 0])) w) := EsxP.no (by unfold escS escU; rw [if_neg (by omega), if_pos (.inl (by omega))]) (Below.refl _ _)
    go_enter Tryd.func39, Tryd.ntmps39
    go_wp2
    go_ret2
    exact HP.out
  have i2 : ¬ (s.size : Int) < 2 := by omega
  have hat : ∀ W, (sAt (.string s) (.int .i64 1)).run Tryd.prog W = .ok (.value (.int .u8 ((lB (lS s) 1).toNat : Int))) W := fun W => run_sAt W s 1 (by omega)
  have hE : escS (lS s) = match escAt (lB (lS s) 1) 8 0 with | some i => ([lB escMeans i], 2) | none => escU (lS s) := by
    unfold escS
    rw [if_pos (by omega)]
    rfl
  have kn := fun h => numbered_any s w hV hmax h
  have hU : lB (lS s) 1 ≠ 117 → escU (lS s) = ([], 0) := fun h => by unfold escU; rw [if_pos (.inr h)]
  generalize escU (lS s) = U at hE kn hU
  generalize escS (lS s) = R at hE ⊢
  generalize lB (lS s) 1 = c at hat hE kn hU
  clear hls h2
  by_cases hc : c = 34
  · have c0 : ((c.toNat : Int) == 34) = true := by rw [hc]; rfl
    have c1 : ((c.toNat : Int) == 92) = false := by rw [hc]; rfl
    have c2 : ((c.toNat : Int) == 47) = false := by rw [hc]; rfl
    have c3 : ((c.toNat : Int) == 98) = false := by rw [hc]; rfl
    have c4 : ((c.toNat : Int) == 102) = false := by rw [hc]; rfl
    have c5 : ((c.toNat : Int) == 110) = false := by rw [hc]; rfl
    have c6 : ((c.toNat : Int) == 114) = false := by rw [hc]; rfl
    have c7 : ((c.toNat : Int) == 116) = false := by rw [hc]; rfl
    have c8 : ((c.toNat : Int) == 117) = false := by rw [hc]; rfl
    have HP : Hid (EsxP R w (.returned (.tuple #[.int .i32 (c.toNat : Int), .int .i64 2])) w) := by
      rw [hE, hc]
      exact ⟨⟨34, 2, rfl, rfl, fun _ => ⟨⟨by omega, by omega⟩, rfl⟩⟩, Below.refl _ _⟩
    clear hE kn hU hc
    have hc8 : c.toNat < 256 := c.toNat_lt
    go_enter Tryd.func39, Tryd.ntmps39
    go_wp2
    go_ret2
    exact HP.out
  have n34 := hc
  clear hc
  by_cases hc : c = 92
  · have c0 : ((c.toNat : Int) == 34) = false := by rw [hc]; rfl
    have c1 : ((c.toNat : Int) == 92) = true := by rw [hc]; rfl
    have c2 : ((c.toNat : Int) == 47) = false := by rw [hc]; rfl
    have c3 : ((c.toNat : Int) == 98) = false := by rw [hc]; rfl
    have c4 : ((c.toNat : Int) == 102) = false := by rw [hc]; rfl
    have c5 : ((c.toNat : Int) == 110) = false := by rw [hc]; rfl
    have c6 : ((c.toNat : Int) == 114) = false := by rw [hc]; rfl
    have c7 : ((c.toNat : Int) == 116) = false := by rw [hc]; rfl
    have c8 : ((c.toNat : Int) == 117) = false := by rw [hc]; rfl
    have HP : Hid (EsxP R w (.returned (.tuple #[.int .i32 (c.toNat : Int), .int .i64 2])) w) := by
      rw [hE, hc]
      exact ⟨⟨92, 2, rfl, rfl, fun _ => ⟨⟨by omega, by omega⟩, rfl⟩⟩, Below.refl _ _⟩
    clear hE kn hU hc
    have hc8 : c.toNat < 256 := c.toNat_lt
    go_enter Tryd.func39, Tryd.ntmps39
    go_wp2
    go_ret2
    exact HP.out
  have n92 := hc
  clear hc
  by_cases hc : c = 47
  · have c0 : ((c.toNat : Int) == 34) = false := by rw [hc]; rfl
    have c1 : ((c.toNat : Int) == 92) = false := by rw [hc]; rfl
    have c2 : ((c.toNat : Int) == 47) = true := by rw [hc]; rfl
    have c3 : ((c.toNat : Int) == 98) = false := by rw [hc]; rfl
    have c4 : ((c.toNat : Int) == 102) = false := by rw [hc]; rfl
    have c5 : ((c.toNat : Int) == 110) = false := by rw [hc]; rfl
    have c6 : ((c.toNat : Int) == 114) = false := by rw [hc]; rfl
    have c7 : ((c.toNat : Int) == 116) = false := by rw [hc]; rfl
    have c8 : ((c.toNat : Int) == 117) = false := by rw [hc]; rfl
    have HP : Hid (EsxP R w (.returned (.tuple #[.int .i32 (c.toNat : Int), .int .i64 2])) w) := by
      rw [hE, hc]
      exact ⟨⟨47, 2, rfl, rfl, fun _ => ⟨⟨by omega, by omega⟩, rfl⟩⟩, Below.refl _ _⟩
    clear hE kn hU hc
    have hc8 : c.toNat < 256 := c.toNat_lt
    go_enter Tryd.func39, Tryd.ntmps39
    go_wp2
    go_ret2
    exact HP.out
  have n47 := hc
  clear hc
  by_cases hc : c = 98
  · have c0 : ((c.toNat : Int) == 34) = false := by rw [hc]; rfl
    have c1 : ((c.toNat : Int) == 92) = false := by rw [hc]; rfl
    have c2 : ((c.toNat : Int) == 47) = false := by rw [hc]; rfl
    have c3 : ((c.toNat : Int) == 98) = true := by rw [hc]; rfl
    have c4 : ((c.toNat : Int) == 102) = false := by rw [hc]; rfl
    have c5 : ((c.toNat : Int) == 110) = false := by rw [hc]; rfl
    have c6 : ((c.toNat : Int) == 114) = false := by rw [hc]; rfl
    have c7 : ((c.toNat : Int) == 116) = false := by rw [hc]; rfl
    have c8 : ((c.toNat : Int) == 117) = false := by rw [hc]; rfl
    have HP : Hid (EsxP R w (.returned (.tuple #[.int .i32 8, .int .i64 2])) w) := by
      rw [hE, hc]
      exact ⟨⟨8, 2, rfl, rfl, fun _ => ⟨⟨by omega, by omega⟩, rfl⟩⟩, Below.refl _ _⟩
    clear hE kn hU hc
    have hc8 : c.toNat < 256 := c.toNat_lt
    go_enter Tryd.func39, Tryd.ntmps39
    go_wp2
    go_ret2
    exact HP.out
  have n98 := hc
  clear hc
  by_cases hc : c = 102
  · have c0 : ((c.toNat : Int) == 34) = false := by rw [hc]; rfl
    have c1 : ((c.toNat : Int) == 92) = false := by rw [hc]; rfl
    have c2 : ((c.toNat : Int) == 47) = false := by rw [hc]; rfl
    have c3 : ((c.toNat : Int) == 98) = false := by rw [hc]; rfl
    have c4 : ((c.toNat : Int) == 102) = true := by rw [hc]; rfl
    have c5 : ((c.toNat : Int) == 110) = false := by rw [hc]; rfl
    have c6 : ((c.toNat : Int) == 114) = false := by rw [hc]; rfl
    have c7 : ((c.toNat : Int) == 116) = false := by rw [hc]; rfl
    have c8 : ((c.toNat : Int) == 117) = false := by rw [hc]; rfl
    have HP : Hid (EsxP R w (.returned (.tuple #[.int .i32 12, .int .i64 2])) w) := by
      rw [hE, hc]
      exact ⟨⟨12, 2, rfl, rfl, fun _ => ⟨⟨by omega, by omega⟩, rfl⟩⟩, Below.refl _ _⟩
    clear hE kn hU hc
    have hc8 : c.toNat < 256 := c.toNat_lt
    go_enter Tryd.func39, Tryd.ntmps39
    go_wp2
    go_ret2
    exact HP.out
  have n102 := hc
  clear hc
  by_cases hc : c = 110
  · have c0 : ((c.toNat : Int) == 34) = false := by rw [hc]; rfl
    have c1 : ((c.toNat : Int) == 92) = false := by rw [hc]; rfl
    have c2 : ((c.toNat : Int) == 47) = false := by rw [hc]; rfl
    have c3 : ((c.toNat : Int) == 98) = false := by rw [hc]; rfl
    have c4 : ((c.toNat : Int) == 102) = false := by rw [hc]; rfl
    have c5 : ((c.toNat : Int) == 110) = true := by rw [hc]; rfl
    have c6 : ((c.toNat : Int) == 114) = false := by rw [hc]; rfl
    have c7 : ((c.toNat : Int) == 116) = false := by rw [hc]; rfl
    have c8 : ((c.toNat : Int) == 117) = false := by rw [hc]; rfl
    have HP : Hid (EsxP R w (.returned (.tuple #[.int .i32 10, .int .i64 2])) w) := by
      rw [hE, hc]
      exact ⟨⟨10, 2, rfl, rfl, fun _ => ⟨⟨by omega, by omega⟩, rfl⟩⟩, Below.refl _ _⟩
    clear hE kn hU hc
    have hc8 : c.toNat < 256 := c.toNat_lt
    go_enter Tryd.func39, Tryd.ntmps39
    go_wp2
    go_ret2
    exact HP.out
  have n110 := hc
  clear hc
  by_cases hc : c = 114
  · have c0 : ((c.toNat : Int) == 34) = false := by rw [hc]; rfl
    have c1 : ((c.toNat : Int) == 92) = false := by rw [hc]; rfl
    have c2 : ((c.toNat : Int) == 47) = false := by rw [hc]; rfl
    have c3 : ((c.toNat : Int) == 98) = false := by rw [hc]; rfl
    have c4 : ((c.toNat : Int) == 102) = false := by rw [hc]; rfl
    have c5 : ((c.toNat : Int) == 110) = false := by rw [hc]; rfl
    have c6 : ((c.toNat : Int) == 114) = true := by rw [hc]; rfl
    have c7 : ((c.toNat : Int) == 116) = false := by rw [hc]; rfl
    have c8 : ((c.toNat : Int) == 117) = false := by rw [hc]; rfl
    have HP : Hid (EsxP R w (.returned (.tuple #[.int .i32 13, .int .i64 2])) w) := by
      rw [hE, hc]
      exact ⟨⟨13, 2, rfl, rfl, fun _ => ⟨⟨by omega, by omega⟩, rfl⟩⟩, Below.refl _ _⟩
    clear hE kn hU hc
    have hc8 : c.toNat < 256 := c.toNat_lt
    go_enter Tryd.func39, Tryd.ntmps39
    go_wp2
    go_ret2
    exact HP.out
  have n114 := hc
  clear hc
  by_cases hc : c = 116
  · have c0 : ((c.toNat : Int) == 34) = false := by rw [hc]; rfl
    have c1 : ((c.toNat : Int) == 92) = false := by rw [hc]; rfl
    have c2 : ((c.toNat : Int) == 47) = false := by rw [hc]; rfl
    have c3 : ((c.toNat : Int) == 98) = false := by rw [hc]; rfl
    have c4 : ((c.toNat : Int) == 102) = false := by rw [hc]; rfl
    have c5 : ((c.toNat : Int) == 110) = false := by rw [hc]; rfl
    have c6 : ((c.toNat : Int) == 114) = false := by rw [hc]; rfl
    have c7 : ((c.toNat : Int) == 116) = true := by rw [hc]; rfl
    have c8 : ((c.toNat : Int) == 117) = false := by rw [hc]; rfl
    have HP : Hid (EsxP R w (.returned (.tuple #[.int .i32 9, .int .i64 2])) w) := by
      rw [hE, hc]
      exact ⟨⟨9, 2, rfl, rfl, fun _ => ⟨⟨by omega, by omega⟩, rfl⟩⟩, Below.refl _ _⟩
    clear hE kn hU hc
    have hc8 : c.toNat < 256 := c.toNat_lt
    go_enter Tryd.func39, Tryd.ntmps39
    go_wp2
    go_ret2
    exact HP.out
  have n116 := hc
  clear hc
  have hA : escAt c 8 0 = none := by
    simp [escAt, escSigns, lB, n34, n92, n47, n98, n102, n110, n114, n116]
  rw [hA] at hE
  simp only at hE
  by_cases hc : c = 117
  · have c0 : ((c.toNat : Int) == 34) = false := by rw [hc]; rfl
    have c1 : ((c.toNat : Int) == 92) = false := by rw [hc]; rfl
    have c2 : ((c.toNat : Int) == 47) = false := by rw [hc]; rfl
    have c3 : ((c.toNat : Int) == 98) = false := by rw [hc]; rfl
    have c4 : ((c.toNat : Int) == 102) = false := by rw [hc]; rfl
    have c5 : ((c.toNat : Int) == 110) = false := by rw [hc]; rfl
    have c6 : ((c.toNat : Int) == 114) = false := by rw [hc]; rfl
    have c7 : ((c.toNat : Int) == 116) = false := by rw [hc]; rfl
    have c8 : ((c.toNat : Int) == 117) = true := by rw [hc]; rfl
    have k := kn hc
    rw [← hE] at k
    clear hE kn hU hc hA
    go_enter Tryd.func39, Tryd.ntmps39
    go_wp2_with fail
    refine k.mono ?_
    rintro e w1 ⟨⟨v, n, rfl, h1, h2⟩, hb⟩
    have HP : Hid (EsxP R w (.returned (.tuple #[.int .i32 (v : Int), .int .i64 (n : Int)])) w1) := ⟨⟨v, n, rfl, h1, h2⟩, hb⟩
    clear h1 h2 hb k
    go_wp2
    go_ret2
    exact HP.out
  have n117 := hc
  have c0 : ((c.toNat : Int) == 34) = false := beq_eq_false_iff_ne.2 fun e => n34 (UInt8.toNat_inj.1 (by show c.toNat = 34; omega))
  have c1 : ((c.toNat : Int) == 92) = false := beq_eq_false_iff_ne.2 fun e => n92 (UInt8.toNat_inj.1 (by show c.toNat = 92; omega))
  have c2 : ((c.toNat : Int) == 47) = false := beq_eq_false_iff_ne.2 fun e => n47 (UInt8.toNat_inj.1 (by show c.toNat = 47; omega))
  have c3 : ((c.toNat : Int) == 98) = false := beq_eq_false_iff_ne.2 fun e => n98 (UInt8.toNat_inj.1 (by show c.toNat = 98; omega))
  have c4 : ((c.toNat : Int) == 102) = false := beq_eq_false_iff_ne.2 fun e => n102 (UInt8.toNat_inj.1 (by show c.toNat = 102; omega))
  have c5 : ((c.toNat : Int) == 110) = false := beq_eq_false_iff_ne.2 fun e => n110 (UInt8.toNat_inj.1 (by show c.toNat = 110; omega))
  have c6 : ((c.toNat : Int) == 114) = false := beq_eq_false_iff_ne.2 fun e => n114 (UInt8.toNat_inj.1 (by show c.toNat = 114; omega))
  have c7 : ((c.toNat : Int) == 116) = false := beq_eq_false_iff_ne.2 fun e => n116 (UInt8.toNat_inj.1 (by show c.toNat = 116; omega))
  have c8 : ((c.toNat : Int) == 117) = false := beq_eq_false_iff_ne.2 fun e => n117 (UInt8.toNat_inj.1 (by show c.toNat = 117; omega))
  have HP : Hid (EsxP R w (.returned (.tuple #[.int .i32 0, .int .i64 0])) w) := by
    rw [hE, hU n117]
    exact ⟨⟨0, 0, rfl, rfl, fun h => absurd rfl h⟩, Below.refl _ _⟩
  clear hE kn hU hc hA n34 n92 n47 n98 n102 n110 n114 n116 n117
  go_enter Tryd.func39, Tryd.ntmps39
  go_wp2
  go_ret2
  exact HP.out
end Go.Proofs.YtiokdcffpnjkcaaDoor
