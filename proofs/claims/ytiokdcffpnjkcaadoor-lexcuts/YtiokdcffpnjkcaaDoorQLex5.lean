import Derived.Test.YtiokdcffpnjkcaaDoorQLex4
namespace Go.Proofs.YtiokdcffpnjkcaaDoor
open Go.RowKit

/-! assayref14.escape -/
def bdH : Nat → Nat
  | 0 => 1
  | k + 1 => 16 * bdH k
theorem bdH_le (k : Nat) (h : k ≤ 4) : bdH k ≤ 65536 := by
  rcases (by omega : k = 0 ∨ k = 1 ∨ k = 2 ∨ k = 3 ∨ k = 4) with rfl | rfl | rfl | rfl | rfl <;> decide
theorem hx_none (l : List UInt8) (k : Nat) : ∀ n, k ≤ n → hx l k = none → hx l n = none := by
  intro n
  induction n with
  | zero => intro h h1; obtain rfl : k = 0 := by omega
            exact h1
  | succ n ih =>
    intro h h1
    rcases Nat.lt_or_ge k (n + 1) with h2 | h2
    · rw [hx, ih (by omega) h1]
    · obtain rfl : k = n + 1 := by omega
      exact h1
def escR (l : List UInt8) : Option Nat → List UInt8 × Nat
  | some i => ([lB escMeans i], 2)
  | none => escU l
theorem esc_R (l : List UInt8) (h : 1 < l.length) : escS l = escR l (escAt (lB l 1) 8 0) := by
  unfold escS
  rw [if_pos h]
  cases escAt (lB l 1) 8 0 <;> rfl
def escV : Option Nat → List UInt8 × Nat
  | none => ([], 0)
  | some v => if 55296 ≤ v ∧ v ≤ 57343 then ([], 0) else (enc v, 6)
theorem esc_V (l : List UInt8) (h : ¬ (l.length < 6 ∨ lB l 1 ≠ 117)) : escU l = escV (hx l 4) := by
  unfold escU
  rw [if_neg h]
  cases hx l 4 <;> rfl
/-- A string and a number. -/
def StnP (r : List UInt8 × Nat) (w : World) (e : Ending) (w' : World) : Prop := (∃ S n, e = .returned (.tuple #[.string S, .int .i64 ((n : Nat) : Int)]) ∧ lS S = r.1 ∧ n = r.2) ∧ Below w.heap.size w w'
def EscP (l : List UInt8) (w : World) (e : Ending) (w' : World) : Prop := (∃ S, e = .returned (.tuple #[.string S, .int .i64 (((escS l).2 : Nat) : Int)]) ∧ lS S = (escS l).1) ∧ Below w.heap.size w w'
set_option linter.unusedSimpArgs false in
set_option maxRecDepth 100000 in
set_option maxHeartbeats 8000000 in
theorem refEscape_any (s : ByteArray) (w : World) (h63 : s.size ≤ 9223372036854775807) : Calls Tryd.prog 42 #[.string s] w fun e w' => (∃ S, e = .returned (.tuple #[.string S, .int .i64 (((escS (lS s)).2 : Nat) : Int)]) ∧ lS S = (escS (lS s)).1) ∧ Below w.heap.size w w' := by
  have hls := lS_len s
  obtain ⟨l, hl⟩ : ∃ q, lS s = q := ⟨_, rfl⟩
  rw [hl] at hls ⊢
  obtain ⟨p, hp⟩ : ∃ q, s.size = q := ⟨_, rfl⟩
  rw [hp] at hls h63
  have HNO : Hid (∀ w', escS l = ([], 0) → Below w.heap.size w w' → (∃ S, Ending.returned (.tuple #[.string ⟨#[]⟩, .int .i64 0]) = .returned (.tuple #[.string S, .int .i64 (((escS l).2 : Nat) : Int)]) ∧ lS S = (escS l).1) ∧ Below w.heap.size w w') := fun w' h hb => ⟨⟨_, by rw [h]; rfl, by rw [h]; rfl⟩, hb⟩
  obtain ⟨b1, hb1⟩ : ∃ q, lB l 1 = q := ⟨_, rfl⟩
  obtain ⟨SG, hSG⟩ : ∃ q, ByteArray.mk #[34, 92, 47, 98, 102, 110, 114, 116] = q := ⟨_, rfl⟩
  obtain ⟨SM, hSM⟩ : ∃ q, ByteArray.mk #[34, 92, 47, 8, 12, 10, 13, 9] = q := ⟨_, rfl⟩
  have zg : SG.size = 8 := by rw [← hSG]; rfl
  have zm : SM.size = 8 := by rw [← hSM]; rfl
  have HLG : Hid (lS SG = escSigns) := by show _ = _; rw [← hSG]; rfl
  have HLM : Hid (lS SM = escMeans) := by show _ = _; rw [← hSM]; rfl
  have HSG : Hid _ := hSG
  have HSM : Hid _ := hSM
  clear hSG hSM
  go_enter Tryd.func42, Tryd.ntmps42
  go_upto_region 3 with fail
  rw [HSG.out, HSM.out]
  clear HSG HSM
  by_cases hp1 : 1 < p
  · have j1 : (1 : Int) < (p : Int) := by omega
    obtain ⟨RQ, hRQ⟩ : ∃ q, escAt b1 8 0 = q := ⟨_, rfl⟩
    have HE : Hid (escS l = escR l RQ) := by show _ = _; rw [esc_R l (by omega), hb1, hRQ]
    have HR0 : Hid (escAt b1 (8 - 0) 0 = RQ) := hRQ
    clear hRQ
    go_wp2_with fail
    go_loopw [6] (fun iv wr => ∃ k : Nat, k ≤ 8 ∧ iv = .int .i64 k ∧ Hid (escAt b1 (8 - k) k = RQ) ∧ Below w.heap.size w wr) (fun iv _ => 8 - (intOf iv).toNat)
    case atStart => exact ⟨0, by omega, rfl, HR0, Below.refl _ _⟩
    case round =>
      clear HR0
      obtain ⟨k, hk, rfl, HR, hB⟩ := hrel
      by_cases hlt : k < 8
      · have i0 : (0 : Int) ≤ (k : Int) := by omega
        have i1 : (k : Int) < 8 := by omega
        have hat1 : ∀ W, (sAt (.string s) (.int .i64 1)).run Tryd.prog W = .ok (.value (.int .u8 (b1.toNat : Int))) W := fun W => by
          have := run_sAt W s 1 (by omega)
          rw [hl, hb1] at this; exact this
        obtain ⟨r, hr⟩ : ∃ q, lB escSigns k = q := ⟨_, rfl⟩
        have hatk : ∀ W, (sAt (.string SG) (.int .i64 (k : Int))).run Tryd.prog W = .ok (.value (.int .u8 (r.toNat : Int))) W := fun W => by
          have := run_sAt W SG k (by omega)
          rw [HLG.out, hr] at this; exact this
        have HR2 : Hid ((if b1 = r then some k else escAt b1 (8 - (k + 1)) (k + 1)) = RQ) := by
          show _ = RQ
          rw [← HR.out, show 8 - k = (8 - (k + 1)) + 1 by omega, ← hr]; rfl
        clear HR hr
        by_cases he : b1 = r
        · have f0 : ((b1.toNat : Int) == (r.toNat : Int)) = true := by rw [he]; simp
          have hcut : ∀ W, (sCut (.string SM) (.int .i64 (k : Int)) (.int .i64 ((k : Int) + 1))).run Tryd.prog W = .ok (.value (.string (SM.extract k (k + 1)))) W := fun W => by
            have := run_sCut W SM k (k + 1) (by omega) (by omega)
            rw [← this]; rfl
          have HP : Hid (escS l = (lS (SM.extract k (k + 1)), 2)) := by
            have h9 := HR2.out
            rw [if_pos he] at h9
            show _ = _
            rw [HE.out, ← h9, lS_one SM k (by omega), HLM.out]; rfl
          clear HR2 he HE
          generalize SM.extract k (k + 1) = S1 at hcut HP
          go_upto_region 6 with fail
          refine wp_relies [Fx (.string s), Fx (.int .u8 (b1.toNat : Int)), Fx (.string SG), Fx (.int .i64 (k : Int)), Fx (.int .u8 (r.toNat : Int)), Fx (.bool true)] (by kernel_rfl) (by kernel_rfl) ?_ ?_ ?_
          · repeat' (first | exact all_nil | apply all_cons)
            all_goals intro v y y' hv hb
            all_goals first | exact Fx_mono _ _ _ _ hv hb
          · refine ⟨?_, ?_, ?_, ?_, ?_, ?_, trivial⟩
            all_goals
              intro ρ y9 hp ρc ρg ρf ho hd
              have o0 : ρ (.tmp 0) = .string s := ho 0 rfl
              have o4 : ρ (.tmp 4) = .string SG := ho 4 rfl
              have o6 : ρ (.tmp 6) = .int .i64 (k : Int) := ho 6 rfl
              clear ho
              simp only [depsR, depR, slotR, Fx, List.getElem?_cons_succ, List.getElem?_cons_zero, Region.binds, forall_const] at hd
              simp only [guardR]
              go_split_ands
            · go_simp
            · have hq := hat1 y9
              go_simp
            · go_simp
            · go_simp
            · have hq := hatk y9
              go_simp
            · go_simp
          · intro vs X1 hp9 hw
            simp only [owed, Fx] at hw
            obtain ⟨e0, e1, e2, e3, e4, e5, -⟩ := hw
            simp only [List.length_cons, List.length_nil, List.take_succ_cons, List.take_nil, List.drop_succ_cons, List.drop_nil, asg, List.cons_append, List.nil_append, e0, e1, e2, e3, e4, e5]
            clear e0 e1 e2 e3 e4 e5
            clear hat1 hatk
            go_wp2
            go_ret2
            exact ⟨⟨_, by rw [HP.out]; rfl, by rw [HP.out]⟩, hB.trans (hp9.mono hB.size)⟩
        · have f0 : ((b1.toNat : Int) == (r.toNat : Int)) = false := beq_eq_false_iff_ne.2 (fun e => he (UInt8.toNat_inj.1 (by omega)))
          have HR3 : Hid (escAt b1 (8 - (k + 1)) (k + 1) = RQ) := by
            have h9 := HR2.out
            rw [if_neg he] at h9; exact h9
          clear HR2 he
          go_upto_region 6 with fail
          refine wp_relies [Fx (.string s), Fx (.int .u8 (b1.toNat : Int)), Fx (.string SG), Fx (.int .i64 (k : Int)), Fx (.int .u8 (r.toNat : Int)), Fx (.bool false)] (by kernel_rfl) (by kernel_rfl) ?_ ?_ ?_
          · repeat' (first | exact all_nil | apply all_cons)
            all_goals intro v y y' hv hb
            all_goals first | exact Fx_mono _ _ _ _ hv hb
          · refine ⟨?_, ?_, ?_, ?_, ?_, ?_, trivial⟩
            all_goals
              intro ρ y9 hp ρc ρg ρf ho hd
              have o0 : ρ (.tmp 0) = .string s := ho 0 rfl
              have o4 : ρ (.tmp 4) = .string SG := ho 4 rfl
              have o6 : ρ (.tmp 6) = .int .i64 (k : Int) := ho 6 rfl
              clear ho
              simp only [depsR, depR, slotR, Fx, List.getElem?_cons_succ, List.getElem?_cons_zero, Region.binds, forall_const] at hd
              simp only [guardR]
              go_split_ands
            · go_simp
            · have hq := hat1 y9
              go_simp
            · go_simp
            · go_simp
            · have hq := hatk y9
              go_simp
            · go_simp
          · intro vs X1 hp9 hw
            simp only [owed, Fx] at hw
            obtain ⟨e0, e1, e2, e3, e4, e5, -⟩ := hw
            simp only [List.length_cons, List.length_nil, List.take_succ_cons, List.take_nil, List.drop_succ_cons, List.drop_nil, asg, List.cons_append, List.nil_append, e0, e1, e2, e3, e4, e5]
            clear e0 e1 e2 e3 e4 e5
            clear hat1 hatk
            go_wp2
            go_roundw
            case rel => first | exact ⟨k + 1, by omega, by go_num, HR3, hB.trans (hp9.mono hB.size)⟩ | ((repeat apply Exists.intro); refine ⟨⟨k + 1, by omega, ?_, HR3, hB.trans (hp9.mono hB.size)⟩, rfl⟩; go_num)
            case measure => simp [intOf]; omega
      · obtain rfl : k = 8 := by omega
        have HU : Hid (escS l = escU l) := by
          have h9 : none = RQ := HR.out
          show _ = _
          rw [HE.out, ← h9]; rfl
        clear HR HE hlt
        by_cases h6 : p < 6
        · have z0 : (p : Int) < 6 := by omega
          have HP : Hid _ := HNO.out wr (by rw [HU.out]; unfold escU; rw [if_pos (.inl (by omega))]) hB
          clear HU
          go_wp2
          go_ret2
          exact HP.out
        have z0 : ¬ (p : Int) < 6 := by omega
        have hat1 : ∀ W, (sAt (.string s) (.int .i64 1)).run Tryd.prog W = .ok (.value (.int .u8 (b1.toNat : Int))) W := fun W => by
          have := run_sAt W s 1 (by omega)
          rw [hl, hb1] at this; exact this
        by_cases hu : b1 = 117
        · have f0 : ((b1.toNat : Int) != 117) = false := by rw [hu]; rfl
          have HU2 : Hid (escS l = escV (hx l 4)) := by
            show escS l = _
            rw [HU.out, esc_V l (by rw [hb1]; rintro (h | h); omega; exact h hu)]
          clear HU hu
          go_wp2_with fail
          clear hat1 f0
          go_loopw [7, 8] (fun vv iv wz => ∃ k v : Nat, (2 ≤ k ∧ k ≤ 6) ∧ vv = .int .i64 v ∧ iv = .int .i64 k ∧ v < bdH (k - 2) ∧ Hid (hx l (k - 2) = some v) ∧ Below w.heap.size w wz) (fun _ iv _ => 6 - (intOf iv).toNat)
          case atStart => exact ⟨2, 0, by omega, rfl, rfl, by decide, rfl, hB⟩
          case round =>
            clear hB
            obtain ⟨k, v, ⟨hk1, hk2⟩, rfl, rfl, hvb, HV, hB⟩ := hrel
            have hbd := bdH_le (k - 2) (by omega)
            by_cases hlt : k < 6
            · have q0 : (0 : Int) ≤ (k : Int) := by omega
              have q1 : (k : Int) < 6 := by omega
              have q2 : (k : Int) < (p : Int) := by omega
              obtain ⟨b, hb⟩ : ∃ q, lB l k = q := ⟨_, rfl⟩
              have hD := refDigit14_any b
              have hr := hexV_range b
              have HX : Hid (hx l (k + 1 - 2) = if hexV b < 0 then none else some (16 * v + (hexV b).toNat)) := by
                show hx l (k + 1 - 2) = _
                rw [show k + 1 - 2 = (k - 2) + 1 by omega, hx, show hx l (k - 2) = some v from HV.out, show 2 + (k - 2) = k by omega, hb]
              have HBD : Hid (bdH (k + 1 - 2) = 16 * bdH (k - 2)) := by show _ = _; rw [show k + 1 - 2 = (k - 2) + 1 by omega]; rfl
              obtain ⟨d, hd⟩ : ∃ q, hexV b = q := ⟨_, rfl⟩
              simp only [hd] at hD
              rw [hd] at hr HX
              clear HV hd
              go_wp2_with fail
              refine (hD _).mono ?_
              rintro e w1 ⟨rfl, hb9⟩
              have hB1 := hB.trans (hb9.mono hB.size)
              clear hD hB hb9
              by_cases hneg : d < 0
              · have HN : Hid (hx l 4 = none) := by
                  have h0 : hx l (k + 1 - 2) = none := by rw [HX.out, if_pos hneg]
                  exact hx_none l (k + 1 - 2) 4 (by omega) h0
                have HP : Hid _ := HNO.out w1 (by rw [HU2.out, HN.out]; rfl) hB1
                clear HX HBD HN HU2
                go_wp2
                go_ret2
                exact HP.out
              · obtain ⟨m, rfl⟩ : ∃ m : Nat, d = (m : Int) := ⟨d.toNat, by omega⟩
                obtain ⟨v1, hv1⟩ : ∃ q, 16 * v + m = q := ⟨_, rfl⟩
                have y2 : (16 : Int) * (v : Int) + (m : Int) = (v1 : Int) := by omega
                have HV2 : Hid (hx l (k + 1 - 2) = some v1) := by show _ = _; rw [HX.out, if_neg hneg, Int.toNat_natCast, hv1]
                have HB2 : Hid (v1 < bdH (k + 1 - 2)) := by show _ < _; rw [HBD.out]; omega
                have wv1 : IntKind.i64.wrap (v1 : Int) = (v1 : Int) := by rw [IntKind.wrap_i64]; omega
                clear HX HBD hv1
                go_wp2
                go_roundw
                case rel => first | exact ⟨k + 1, v1, by omega, by first | rfl | go_num, by go_num, HB2.out, HV2, hB1⟩ | ((repeat apply Exists.intro); refine ⟨⟨k + 1, v1, by omega, ?_, ?_, HB2.out, HV2, hB1⟩, rfl⟩ <;> first | rfl | go_num)
                case measure => simp [intOf]; omega
            · obtain rfl : k = 6 := by omega
              have HU3 : Hid (escS l = if 55296 ≤ v ∧ v ≤ 57343 then ([], 0) else (enc v, 6)) := by show _ = _; rw [HU2.out, show hx l 4 = some v from HV.out]; rfl
              have hv16 : v < 65536 := hvb
              clear HV HU2 hvb
              by_cases hs : 55296 ≤ v ∧ v ≤ 57343
              · have y2 : (55296 : Int) ≤ (v : Int) := by omega
                have y3 : (v : Int) ≤ 57343 := by omega
                have HP : Hid _ := HNO.out wr (by rw [HU3.out, if_pos hs]) hB
                clear HU3 hs
                go_wp2
                go_ret2
                exact HP.out
              · have hE := refEnc_any v (by omega)
                have HU4 : Hid (escS l = (enc v, 6)) := by show _ = _; rw [HU3.out, if_neg hs]
                by_cases hs1 : 55296 ≤ v
                · have y2 : (55296 : Int) ≤ (v : Int) := by omega
                  have y3 : ¬ (v : Int) ≤ 57343 := by omega
                  clear HU3 hs
                  go_wp2_with fail
                  refine (hE _).mono ?_
                  rintro e w1 ⟨rfl, hb9⟩
                  have hB1 := hB.trans (hb9.mono hB.size)
                  clear hE
                  go_wp2
                  go_ret2
                  exact ⟨⟨_, by rw [HU4.out]; rfl, by rw [HU4.out, lS_mk]⟩, hB1⟩
                · have y2 : ¬ (55296 : Int) ≤ (v : Int) := by omega
                  clear HU3 hs
                  go_wp2_with fail
                  refine (hE _).mono ?_
                  rintro e w1 ⟨rfl, hb9⟩
                  have hB1 := hB.trans (hb9.mono hB.size)
                  clear hE
                  go_wp2
                  go_ret2
                  exact ⟨⟨_, by rw [HU4.out]; rfl, by rw [HU4.out, lS_mk]⟩, hB1⟩
        · have f0 : ((b1.toNat : Int) != 117) = true := bne_iff_ne.2 (fun e => hu (UInt8.toNat_inj.1 (by show b1.toNat = 117; omega)))
          have HP : Hid _ := HNO.out wr (by rw [HU.out]; unfold escU; rw [if_pos (.inr (by rw [hb1]; exact hu))]) hB
          clear HU
          go_wp2
          go_ret2
          exact HP.out
  · have j1 : ¬ (1 : Int) < (p : Int) := by omega
    have HU : Hid (escS l = escU l) := by show _ = _; unfold escS; rw [if_neg (by omega)]
    have z0 : (p : Int) < 6 := by omega
    have HP : Hid _ := HNO.out w (by rw [HU.out]; unfold escU; rw [if_pos (.inl (by omega))]) (Below.refl _ _)
    clear HU
    go_wp2_with fail
    go_loopw [6] (fun iv wr => iv = .int .i64 0 ∧ wr = w) (fun _ _ => 0)
    case atStart => exact ⟨rfl, rfl⟩
    case round =>
      obtain ⟨rfl, rfl⟩ := hrel
      go_wp2
      go_ret2
      exact HP.out
end Go.Proofs.YtiokdcffpnjkcaaDoor
