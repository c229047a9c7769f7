
import Derived.Test.YtfnffkommcepoaaBit2
import Derived.Test.YtfnffkommcepoaaRelt
import Derived.Test.YtfnffkommcepoaaGenA
namespace Go.Proofs.Ytfnffkommcepoaa
open Go.RowKit

/-! assayref07.Put -/
theorem turnS_stay (s : Sc) (P : Nat → Bool) (bit : Nat) : ∀ j i, i ≤ j → (∀ t, i ≤ t → t < j → P t = false) → turnS s P bit j = turnS s P bit i
  | 0, i, h, _ => by
    obtain rfl : i = 0 := by omega
    rfl
  | j + 1, i, h, hf => by
    by_cases e : i = j + 1
    · rw [e]
    · rw [turnS, hf j (by omega) (by omega), cond_false]
      exact turnS_stay s P bit j i (by omega) fun t h1 h2 => hf t h1 (by omega)
theorem add_bit_all : ∀ a : Fin 256, ∀ r : Fin 8, a.val.testBit r.val = false → (a.val + 2 ^ r.val) % 256 = a.val ^^^ 2 ^ r.val := by decide +kernel
theorem add_bit (a : UInt8) (i : Nat) (h : a.toNat.testBit (i % 8) = false) : (a.toNat + 2 ^ (i % 8)) % 256 = (a ^^^ oneAt i).toNat := by
  have h1 := add_bit_all ⟨a.toNat, a.toNat_lt⟩ ⟨i % 8, by omega⟩ h
  have h2 : (oneAt i).toNat = 2 ^ (i % 8) := by
    unfold oneAt
    have : ∀ r : Fin 8, (UInt8.ofNat (2 ^ r.val)).toNat = 2 ^ r.val := by decide
    exact this ⟨i % 8, by omega⟩
  rw [UInt8.toNat_xor, h2]
  exact h1
def bV (b : List Bool) : List Value := b.map Value.bool
theorem bV_len (b : List Bool) : (bV b).length = b.length := by simp [bV]
theorem bV_get (b : List Bool) (j : Nat) (h : j < b.length) : (bV b)[j]? = some (.bool (bAt b j)) := by
  simp [bV, bAt, h]
set_option linter.unusedSimpArgs false in
set_option maxRecDepth 100000 in
set_option maxHeartbeats 800000 in
theorem refPut_any (b : List Bool) (x : Option Addr) (n c : Nat) (w : World) (hn : b.length = n) (hl : n ≤ 140737488355328) (hb : IsG w (.slice x n c) (bV b)) :
    Calls Try.prog 11 #[.slice x n c] w fun e w' => ∃ y c', e = .returned (.slice y (manyN n) c') ∧ OwnK secE w' w.heap.size (.slice y (manyN n) c') (putL b) ∧ Below w.heap.size w w' := by
  have hmn := manyN_le n
  have hmi := manyI_nat n
  go_enter Try.func11, Try.ntmps11
  go_wp2_with fail
  go_loopw [3, 4] (fun v j wr => ∃ (k : Nat) (y : Option Addr) (c' : Nat), k ≤ manyN n ∧ j = .int .i64 k ∧ v = .slice y k c' ∧ OwnK secE wr w.heap.size (.slice y k c') ((putL b).take k) ∧ Below w.heap.size w wr) (fun _ j _ => manyN n - (intOf j).toNat)
  case atStart => exact ⟨0, none, 0, by omega, rfl, rfl, by rw [List.take_zero]; exact OwnK.nil _ _ _, Below.refl _ _⟩
  case round =>
    obtain ⟨k, y, c', hk, rfl, rfl, hO, hB⟩ := hrel
    have hk3 : (k : Int) ≤ 3 := by omega
    go_wp2_with fail
    go_at_call 21
    refine (refMany_any _ _ (by omega) (by omega)).mono ?_
    rintro e wo ⟨rfl, rfl⟩
    rw [hmi]
    by_cases hlt : k < manyN n
    · have hlt' : (k : Int) < ((manyN n : Nat) : Int) := by omega
      go_upto_region 6 with fail
      have hS0 := ScR.new wo secZ 29
      have hB0 : Below wo.heap.size wo (wo.alloc (.cells (secA secZ) 29)) := below_alloc _ _
      obtain ⟨gs, hgs⟩ : ∃ g, wo.heap.size = g := ⟨_, rfl⟩
      have hgw : w.heap.size ≤ gs := by have := hB.size; omega
      simp only [hgs]
      rw [hgs] at hS0
      have hB0' : Below gs wo (wo.alloc (.cells (secA secZ) 29)) := by rw [← hgs]; exact hB0
      clear hB0
      generalize wo.alloc (.cells (secA secZ) 29) = X at hS0 hB0' ⊢
      clear hlt'
      go_wp2_with fail
      go_loopw [6] (fun v wq => ∃ i : Nat, i ≤ 480 ∧ v = .int .i64 i ∧ ScR wq gs (turnS secZ (fun i => bAt b (k * 480 + i)) 0 i) ∧ Below gs wo wq) (fun v _ => 480 - (intOf v).toNat)
      case atStart => exact ⟨0, by omega, rfl, hS0, hB0'⟩
      case round =>
        clear hS0 hB0' X
        obtain ⟨i, hi, rfl, hS, hBq⟩ := hrel
        have hBr : Below wo.heap.size wo wr := hBq.mono (by omega)
        have hi9 : (i : Int) ≤ 480 := by omega
        by_cases h480 : i < 480
        · have h480' : (i : Int) < 480 := by omega
          by_cases hin : k * 480 + i < n
          · have hin' : (k : Int) * 480 + (i : Int) < (n : Int) := by omega
            have hgb := (hb.kept hB).kept hBr
            obtain ⟨b0, o0, rfl, hb0, hcb⟩ := hgb.spot (k * 480 + i) (by rw [bV_len]; omega)
            have hcb1 := hcb (k * 480 + i) _ (bV_get b _ (by omega))
            cases hbit : bAt b (k * 480 + i)
            · rw [hbit] at hcb1
              have HS : Hid (ScR wr gs (turnS secZ (fun i => bAt b (k * 480 + i)) 0 (i + 1))) := by
                show ScR _ _ _
                rw [turnS, hbit]; exact hS
              clear hS hgb hcb
              go_wp2
              go_roundw
              case rel => exact ⟨i + 1, by omega, by go_num, HS.out, hBq⟩
              case measure => simp [intOf]; omega
            · rw [hbit] at hcb1
              have hca := hS.cell (i / 8) (by omega)
              have hfz := hS.frozen (i / 8)
              obtain ⟨A, hA⟩ : ∃ A, turnS secZ (fun i => bAt b (k * 480 + i)) 0 i (i / 8) = A := ⟨_, rfl⟩
              rw [hA] at hca
              have hbz : A.toNat.testBit (i % 8) = false := by
                have h1 := fbit_turn secZ (fun i => bAt b (k * 480 + i)) 0 i i
                rw [fbit_z] at h1
                unfold fbit at h1
                rw [hA] at h1
                rw [h1]; simp
              obtain ⟨B, hBd⟩ : ∃ B, A ^^^ oneAt i = B := ⟨_, rfl⟩
              have HT : Hid (turnS secZ (fun i => bAt b (k * 480 + i)) 0 (i + 1) = upd (turnS secZ (fun i => bAt b (k * 480 + i)) 0 i) (i / 8) B) := by
                show _ = _
                rw [turnS, hbit, cond_true, flip, Nat.zero_add, hA, hBd]
              have HS0 : Hid (ScR wr gs (turnS secZ (fun i => bAt b (k * 480 + i)) 0 i)) := hS
              have HB0 : Hid (Below gs wo wr) := hBq
              have hab := add_bit A i hbz
              have hA8 := A.toNat_lt
              rw [hBd] at hab
              obtain ⟨c, hcd⟩ : ∃ c, B.toNat = c := ⟨_, rfl⟩
              rw [hcd] at hab
              generalize A.toNat = a at hca hab hA8 hbz
              clear hS hgb hcb hBq
              have hp8 : 2 ^ (i % 8) < 256 := by
                have : ∀ r : Fin 8, 2 ^ r.val < 256 := by decide
                exact this ⟨i % 8, by omega⟩
              obtain ⟨p, hp⟩ : ∃ p : Nat, 2 ^ (i % 8) = p := ⟨_, rfl⟩
              have hpI : (2 : Int) ^ (i % 8) = (p : Int) := by rw [← hp]; simp
              rw [hp] at hab hp8
              have HP : Hid (((1 : Int) * 2 ^ (i % 8)) % 256 = (p : Int)) := by show _ = _; rw [hpI]; omega
              have HC : Hid (((a : Int) + (p : Int)) % 256 = (c : Int)) := by show _ = _; omega
              have hi8 : i / 8 < 64 := by omega
              clear hp hab hA hbz hBd
              go_upto_region 10 with fail
              clear hcb1 hbit
              have F1 : Hid (IntKind.i64.wrap ((i : Int) / 8) = (i : Int) / 8) := by show _ = _; rw [IntKind.wrap_i64]; omega
              have F2 : Hid ((i : Int).tmod 8 = (i : Int) % 8) := by show _ = _; rw [Int.tmod_eq_emod_of_nonneg (by omega)]
              have F3 : Hid (IntKind.u8.wrap (2 ^ ((i : Int) % 8).toNat) = (p : Int)) := by
                show _ = _
                rw [show ((i : Int) % 8).toNat = i % 8 by omega, hpI, IntKind.wrap_u8]; omega
              have F4 : Hid (IntKind.u8.wrap ((a : Int) + (p : Int)) = (c : Int)) := by show _ = _; rw [IntKind.wrap_u8]; exact HC.out
              have F5 : Hid ((0 : Int) ≤ (i : Int) / 8 ∧ (i : Int) / 8 < 64 ∧ ((i : Int) / 8).toNat = i / 8) := by show _ ∧ _; omega
              clear HP HC
              refine wp_reliesT [Fx (.int .i64 ((i : Int))), Fx (.int .i64 ((i : Int) / 8)), Fx (.int .i64 ((i : Int))), Fx (.int .i64 ((i : Int) / 8)), Fx (.pointer (some ⟨gs, i / 8, none⟩)), Fx (.int .u8 (a : Int)), Fx (.int .i64 ((i : Int))), Fx (.int .i64 ((i : Int) % 8)), Fx (.int .u8 (p : Int)), Fx (.int .u8 (c : Int)), Fx (.pointer (some ⟨gs, i / 8, none⟩))] (by kernel_rfl) (by kernel_rfl) ?_ ?_ ?_
              · repeat' (first | exact all_nil | apply all_cons)
                all_goals intro v y y' hv hb
                all_goals first | exact Fx_mono _ _ _ _ hv hb
              · refine ⟨?_, ?_, ?_, ?_, ?_, ?_, ?_, ?_, ?_, ?_, ?_, trivial⟩
                all_goals
                  intro ρ x hp ρc ρg ρf ho hd
                  have o5 : ρ (.tmp 5) = .pointer (some ⟨gs, 0, none⟩) := ho 5 rfl
                  have o6 : ρ (.tmp 6) = .int .i64 ((i : Int)) := ho 6 rfl
                  clear ho
                  have c1 := cell_later hp hca
                  have hi0 := hi8
                  simp only [depsR, depR, slotR, Fx, List.getElem?_cons_succ, List.getElem?_cons_zero, Region.binds, forall_const] at hd
                  simp only [guardR]
                  go_split_ands
                · go_simp
                · have hq := F1.out
                  go_simp
                · go_simp
                · have hq := F1.out
                  go_simp
                · obtain ⟨q1, q2, q3⟩ := F5.out
                  go_simp
                · go_simp
                · go_simp
                · have hq := F2.out
                  go_simp
                · have hq := F3.out
                  go_simp
                · have hq := F4.out
                  go_simp
                · obtain ⟨q1, q2, q3⟩ := F5.out
                  go_simp
              · intro vs x1 hp hw
                simp only [owed, Fx] at hw
                obtain ⟨e0, e1, e2, e3, e4, e5, e6, e7, e8, e9, e10, -⟩ := hw
                simp only [List.length_cons, List.length_nil, List.take_succ_cons, List.take_zero, List.drop_succ_cons, List.drop_zero, asg, List.cons_append, List.nil_append, e0, e1, e2, e3, e4, e5, e6, e7, e8, e9, e10]
                clear e0 e1 e2 e3 e4 e5 e6 e7 e8 e9 e10
                have hS1 := ScR.kept HS0.out hp
                have hca1 := cell_later hp hca
                have hfz1 := hS1.frozen (i / 8)
                have HS : Hid (ScR (x1.setCell ⟨gs, i / 8, none⟩ (.int .u8 (c : Int))) gs (turnS secZ (fun i => bAt b (k * 480 + i)) 0 (i + 1))) := by
                  show ScR _ _ _
                  rw [HT.out, ← hcd]
                  exact hS1.set (i / 8) B (by omega)
                have HBq : Hid (Below gs wo (x1.setCell ⟨gs, i / 8, none⟩ (.int .u8 (c : Int)))) := by
                  have h1 : Below gs wr x1 := hp.mono (by have := ScR.lt HS0.out; omega)
                  have h2 : Below gs wo x1 := HB0.out.trans h1
                  exact h2.setCell (p := ⟨gs, i / 8, none⟩) (Nat.le_refl _) _
                clear hS1 hca hp HT HS0 HB0 hcd F1 F2 F3 F4 F5 hfz hBr
                go_wp2
                go_roundw
                case rel => exact ⟨i + 1, by omega, by go_num, HS.out, HBq.out⟩
                case measure => simp [intOf]; omega
          · have hin' : ¬ (k : Int) * 480 + (i : Int) < (n : Int) := by omega
            have hS' : ScR wr gs (rawS b k) := by
              unfold rawS
              rw [turnS_stay secZ (fun i => bAt b (k * 480 + i)) 0 480 i hi (fun t h1 _ => by simp only [bAt]; rw [List.getElem?_eq_none (by omega)]; rfl)]
              exact hS
            clear hS
            have hl4 : w.heap.size ≤ gs := hgw
            have h1k : k < manyN b.length := by rw [hn]; exact hlt
            have hS2 := hS'
            obtain ⟨r0, q0⟩ := hS2
            go_wp2_with fail
            go_at_call 22
            refine (refSum7_any (rawS b k) _).mono ?_
            rintro e w1 ⟨rfl, hb1⟩
            have hR1 := hS'.kept hb1
            have hBw := hBq.trans (hb1.mono (by have := hS'.lt; omega))
            have hR3 : RowC (w1.alloc (.cells (bA4 (sumB (rawS b k))) 54)) w1.heap.size (bA4 (sumB (rawS b k))) := RowC.new _ _ _
            have H1 : Hid (ScR (w1.alloc (.cells (bA4 (sumB (rawS b k))) 54)) gs (rawS b k)) := hR1.kept (below_alloc _ _)
            have HB : Hid (Below gs wo (w1.alloc (.cells (bA4 (sumB (rawS b k))) 54))) := hBw.alloc (by have := hR1.lt; omega) _
            have hn13 : gs ≠ w1.heap.size := by have := hR1.lt; omega
            clear hR1 hBw hb1 hS' hBq hBr r0 q0
            go_upto_region 12 with fail
            generalize w1.alloc (.cells (bA4 (sumB (rawS b k))) 54) = X at H1 hR3 HB ⊢
            generalize w1.heap.size = g3 at hR3 hn13 ⊢
            go_wp2_with fail
            go_loopw [8] (fun v wq => ∃ j : Nat, j ≤ 4 ∧ v = .int .i64 j ∧ ScR wq gs (sealU (rawS b k) j) ∧ RowC wq g3 (bA4 (sumB (rawS b k))) ∧ Below gs wo wq) (fun v _ => 4 - (intOf v).toNat)
            case atStart => exact ⟨0, by omega, rfl, H1.out, hR3, HB.out⟩
            case round =>
              clear H1 hR3 HB X
              obtain ⟨j, hj, rfl, h1, h3, hBj⟩ := hrel
              by_cases hj4 : j < 4
              · have hc3 := h3.cell j
                rw [bA4_get _ j hj4] at hc3
                have hc1 := h1.cell (60 + j) (by omega)
                have hf1 := h1.frozen (60 + j)
                have HR : Hid (ScR (wr.setCell ⟨gs, 60 + j, none⟩ (.int .u8 ((sumB (rawS b k) j).toNat : Int))) gs (sealU (rawS b k) (j + 1))) := h1.set (60 + j) (sumB (rawS b k) j) (by omega)
                have HQ : Hid (RowC (wr.setCell ⟨gs, 60 + j, none⟩ (.int .u8 ((sumB (rawS b k) j).toNat : Int))) g3 (bA4 (sumB (rawS b k)))) := h3.set_ne _ _ hn13
                have HB : Hid _ := hBj.setCell (p := ⟨gs, 60 + j, none⟩) (Nat.le_refl _) (.int .u8 ((sumB (rawS b k) j).toNat : Int))
                have hk1 : (j : Int) < 4 := by omega
                clear h1 h3 hBj
                generalize (sumB (rawS b k) j).toNat = vn at *
                generalize (sealU (rawS b k) j (60 + j)).toNat = old at hc1
                go_wp2
                go_roundw
                case rel => exact ⟨j + 1, by omega, by go_num, HR.out, HQ.out, HB.out⟩
                case measure => simp [intOf]; omega
              · obtain rfl : j = 4 := by omega
                rw [sealU_all] at h1
                have hX2 : Below wo.heap.size wo (wr.alloc (.cells (secA (putS b k)) 29)) := (hBj.mono (by omega)).alloc (by have := h1.lt; omega) _
                have hlen : ((putL b).take k).length = k := by rw [List.length_take, putL_len]; omega
                have hdig : (putL b).take (k + 1) = (putL b).take k ++ [putS b k] := by rw [List.take_add_one, putL_get b k h1k]; rfl
                obtain ⟨g, c2, w', hr, hO2, -, hO3, -⟩ := run_app1K secE_ok (wr.alloc (.cells (secA (putS b k)) 29)) w.heap.size wr.heap.size (.slice y k c') ((putL b).take k) (putS b k) 24 (hO.keep hX2) (newSc wr (putS b k)) (by simp) (by rw [hlen]; show (k + 1) * 64 ≤ _; omega) (by rw [hlen]; unfold maxLen; omega) (by have := hX2.size; have := hB.size; omega)
                rw [hlen] at hr hO2
                rw [← hdig] at hO2
                have HO : Hid _ := hO2
                have HB2 : Hid (Below w.heap.size w w') := (hB.trans (hX2.mono hB.size)).trans ((hO.keep hX2).below hO3 (by have := hX2.size; have := hB.size; omega))
                have h1' : ScR wr gs (putS b k) := h1
                obtain ⟨r1, q1⟩ := h1'
                clear hO hB hX2 hO2 hO3 h3 hBj h1 hlen hdig
                go_wp2_with (at_builtin; refine wpL_appT 24 rfl _ _ rfl _ w' (by exact hr) ?_)
                go_roundw
                case rel => exact ⟨k + 1, _, _, by omega, by go_num, rfl, HO.out, HB2.out⟩
                case measure => simp [intOf]; omega
        · obtain rfl : i = 480 := by omega
          have hS' : ScR wr gs (rawS b k) := hS
          clear hS
          have hl4 : w.heap.size ≤ gs := hgw
          have h1k : k < manyN b.length := by rw [hn]; exact hlt
          have hS2 := hS'
          obtain ⟨r0, q0⟩ := hS2
          go_wp2_with fail
          go_at_call 22
          refine (refSum7_any (rawS b k) _).mono ?_
          rintro e w1 ⟨rfl, hb1⟩
          have hR1 := hS'.kept hb1
          have hBw := hBq.trans (hb1.mono (by have := hS'.lt; omega))
          have hR3 : RowC (w1.alloc (.cells (bA4 (sumB (rawS b k))) 54)) w1.heap.size (bA4 (sumB (rawS b k))) := RowC.new _ _ _
          have H1 : Hid (ScR (w1.alloc (.cells (bA4 (sumB (rawS b k))) 54)) gs (rawS b k)) := hR1.kept (below_alloc _ _)
          have HB : Hid (Below gs wo (w1.alloc (.cells (bA4 (sumB (rawS b k))) 54))) := hBw.alloc (by have := hR1.lt; omega) _
          have hn13 : gs ≠ w1.heap.size := by have := hR1.lt; omega
          clear hR1 hBw hb1 hS' hBq hBr r0 q0
          go_upto_region 12 with fail
          generalize w1.alloc (.cells (bA4 (sumB (rawS b k))) 54) = X at H1 hR3 HB ⊢
          generalize w1.heap.size = g3 at hR3 hn13 ⊢
          go_wp2_with fail
          go_loopw [8] (fun v wq => ∃ j : Nat, j ≤ 4 ∧ v = .int .i64 j ∧ ScR wq gs (sealU (rawS b k) j) ∧ RowC wq g3 (bA4 (sumB (rawS b k))) ∧ Below gs wo wq) (fun v _ => 4 - (intOf v).toNat)
          case atStart => exact ⟨0, by omega, rfl, H1.out, hR3, HB.out⟩
          case round =>
            clear H1 hR3 HB X
            obtain ⟨j, hj, rfl, h1, h3, hBj⟩ := hrel
            by_cases hj4 : j < 4
            · have hc3 := h3.cell j
              rw [bA4_get _ j hj4] at hc3
              have hc1 := h1.cell (60 + j) (by omega)
              have hf1 := h1.frozen (60 + j)
              have HR : Hid (ScR (wr.setCell ⟨gs, 60 + j, none⟩ (.int .u8 ((sumB (rawS b k) j).toNat : Int))) gs (sealU (rawS b k) (j + 1))) := h1.set (60 + j) (sumB (rawS b k) j) (by omega)
              have HQ : Hid (RowC (wr.setCell ⟨gs, 60 + j, none⟩ (.int .u8 ((sumB (rawS b k) j).toNat : Int))) g3 (bA4 (sumB (rawS b k)))) := h3.set_ne _ _ hn13
              have HB : Hid _ := hBj.setCell (p := ⟨gs, 60 + j, none⟩) (Nat.le_refl _) (.int .u8 ((sumB (rawS b k) j).toNat : Int))
              have hk1 : (j : Int) < 4 := by omega
              clear h1 h3 hBj
              generalize (sumB (rawS b k) j).toNat = vn at *
              generalize (sealU (rawS b k) j (60 + j)).toNat = old at hc1
              go_wp2
              go_roundw
              case rel => exact ⟨j + 1, by omega, by go_num, HR.out, HQ.out, HB.out⟩
              case measure => simp [intOf]; omega
            · obtain rfl : j = 4 := by omega
              rw [sealU_all] at h1
              have hX2 : Below wo.heap.size wo (wr.alloc (.cells (secA (putS b k)) 29)) := (hBj.mono (by omega)).alloc (by have := h1.lt; omega) _
              have hlen : ((putL b).take k).length = k := by rw [List.length_take, putL_len]; omega
              have hdig : (putL b).take (k + 1) = (putL b).take k ++ [putS b k] := by rw [List.take_add_one, putL_get b k h1k]; rfl
              obtain ⟨g, c2, w', hr, hO2, -, hO3, -⟩ := run_app1K secE_ok (wr.alloc (.cells (secA (putS b k)) 29)) w.heap.size wr.heap.size (.slice y k c') ((putL b).take k) (putS b k) 24 (hO.keep hX2) (newSc wr (putS b k)) (by simp) (by rw [hlen]; show (k + 1) * 64 ≤ _; omega) (by rw [hlen]; unfold maxLen; omega) (by have := hX2.size; have := hB.size; omega)
              rw [hlen] at hr hO2
              rw [← hdig] at hO2
              have HO : Hid _ := hO2
              have HB2 : Hid (Below w.heap.size w w') := (hB.trans (hX2.mono hB.size)).trans ((hO.keep hX2).below hO3 (by have := hX2.size; have := hB.size; omega))
              have h1' : ScR wr gs (putS b k) := h1
              obtain ⟨r1, q1⟩ := h1'
              clear hO hB hX2 hO2 hO3 h3 hBj h1 hlen hdig
              go_wp2_with (at_builtin; refine wpL_appT 24 rfl _ _ rfl _ w' (by exact hr) ?_)
              go_roundw
              case rel => exact ⟨k + 1, _, _, by omega, by go_num, rfl, HO.out, HB2.out⟩
              case measure => simp [intOf]; omega
    · obtain rfl : k = manyN n := by omega
      have hlt' : ¬ (((manyN n : Nat) : Int) < ((manyN n : Nat) : Int)) := by omega
      rw [List.take_of_length_le (by rw [putL_len, hn]; exact Nat.le_refl _)] at hO
      go_wp2
      go_ret
      exact ⟨y, c', rfl, hO, hB⟩
end Go.Proofs.Ytfnffkommcepoaa
