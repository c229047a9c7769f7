import Derived.Test.YtpckdkgbeemalaaQMar1
import Derived.Test.YtpckdkgbeemalaaQNum
namespace Go.Proofs.Ytpckdkgbeemalaa
open Go.RowKit

/-! assayref09.State -/
theorem layC_wr (x : Wr) (d : Sc) : layC (wrA x) 1 (secA d) = wrA (x.1, d) := by
  unfold layC
  rw [wrA_list, secA_size]
  have h1 : (Value.int .i64 x.1 :: (secA x.2).toList).take 1 = [.int .i64 x.1] := rfl
  have h2 : (Value.int .i64 x.1 :: (secA x.2).toList).drop (1 + 64) = [] := List.drop_of_length_le (by simp)
  rw [h1, h2, List.append_nil]
  have h3 := wrA_list (x.1, d)
  rw [show [Value.int .i64 x.1] ++ (secA d).toList = (wrA (x.1, d)).toList by rw [h3]; rfl]
theorem rg_row9 {w : World} {g : Nat} {x : Wr} (h : RowC w g (wrA x)) : rgOk w g 0 65 = true ∧ rg w g 0 65 = wrA x := by
  have := rg_of (w := w) (b := g) (o := 0) (k := 65) (cs := (wrA x).toList) (fun j v hv => by
    rw [Nat.zero_add, h.cell j]
    rwa [Array.getElem?_toList] at hv) (by rw [Array.length_toList, wrA_size])
  rwa [Array.toArray_toList] at this
theorem secA_all9 (d : Sc) : (secA d).all (·.oneCell') = true := by
  rw [Array.all_eq_true_iff_forall_mem]
  intro v hv
  obtain ⟨i, hi, rfl⟩ := Array.getElem_of_mem hv
  rw [secA_getElem]; rfl
theorem size_sec9 : (Try.prog.info? 44).map (·.size) = some 64 := wrPlaces.2
theorem secStore9 {w : World} {g : Nat} {x : Wr} (h : RowC w g (wrA x)) (d : Sc) : (secStore (.pointer (some ⟨g, 1, none⟩)) (.agg (secA d))).run Try.prog w = .ok .skip (w.setRow g (wrA (x.1, d))) := by
  have := run_bigStore 44 64 size_sec9 w g 1 (secA d) h.1 (secA_size d) (by rw [h.2, wrA_size]; omega) (secA_all9 d)
  rw [h.2, layC_wr] at this
  exact this
theorem num16 (s : Sc) (k : Nat) (hk : k < 8) : numI s ((4 + 2 * k : Nat) : Int) 2 = numN s (4 + 2 * k) 2 := by
  unfold numI
  rw [if_pos (by unfold inB; simp; omega), Int.toNat_natCast]
  rfl
theorem tmp2_bodyPost9 {fn : Func} {R : Ending → World → Prop} {a : Act} {w : World} (p q : Nat) (hres : fn.results = #[.tmp p, .tmp q]) (hd : a.defers = []) (h : R (.returned (.tuple #[a.tmps.getD p undef, a.tmps.getD q undef])) w) : bodyPost Try.prog fn R .ret a w := by
  refine bodyPost_ret (v := .tuple #[a.tmps.getD p undef, a.tmps.getD q undef]) ?_ hd h
  simp [results, hres]
theorem stQ {s : Sc} {j : List Sc} {n : Int} (hg : geoOk n = true) (hz : secEq s secZ = false) : mStK s j n = (if mPutE (stA s j) n = 0 ∧ secEq (mPutS (stA s j) n) s = true then 2 else 3) ∧ mStL s j n = (if mPutE (stA s j) n = 0 ∧ secEq (mPutS (stA s j) n) s = true then stA s j else []) := by
  unfold mStK mStL mPutE mPutS mComm
  rw [hg, hz]
  cases batB n (stA s j)
  · simp
  · simp only [Bool.and_self, cond_true, Bool.not_false, Bool.true_and, cond_false]
    cases secEq (marS (stA s j)) s <;> simp
set_option linter.unusedSimpArgs false in
set_option maxRecDepth 100000 in
set_option maxHeartbeats 4000000 in
theorem rState9_any (s : Sc) (j : List Sc) (x : Option Addr) (L c : Nat) (n : Int) (w : World) (hL : j.length = L) (_hL9 : L ≤ 2199023255552) (hj : IsK secE w (.slice x L c) j) (hn : i64w n) :
    Calls Try.prog 65 #[.agg (secA s), .slice x L c, .int .i64 n] w fun r w' => ∃ y c', r = .returned (.tuple #[.int .i64 (mStK s j n), .slice y (mStL s j n).length c']) ∧ OwnK wrE w' w.heap.size (.slice y (mStL s j n).length c') (mStL s j n) ∧ Below w.heap.size w w' := by
  have hB : Below w.heap.size w (w.alloc (.cells (secA s) 44)) := below_alloc w _
  have q3 : ScR (w.alloc (.cells (secA s) 44)) w.heap.size s := ScR.new w s 44
  obtain ⟨K, hK⟩ : ∃ k, mStK s j n = k := ⟨_, rfl⟩
  obtain ⟨M, hM⟩ : ∃ k, mStL s j n = k := ⟨_, rfl⟩
  have HK : Hid (mStK s j n = K) := hK
  have HM : Hid (mStL s j n = M) := hM
  rw [hK, hM]
  clear hK hM
  by_cases h : 64 ≤ n ∧ n ≤ 1024
  · have hg : geoOk n = true := by unfold geoOk; simp [h]
    have hO := fun w => rof_yes n w h.1 h.2
    generalize geoF n = f at hO
    go_enter Try.func65, Try.ntmps65
    go_upto_region 1 with fail
    obtain ⟨g3, hg3⟩ : ∃ g, w.heap.size = g := ⟨_, rfl⟩
    rw [hg3] at q3
    simp only [hg3]
    generalize w.alloc (.cells (secA s) 44) = X at hB q3 ⊢
    go_wp2_with fail
    go_at_call 31
    refine (hO _).mono ?_
    rintro r w1 ⟨rfl, hb1⟩
    clear hO
    have q3b := (q3.kept hb1).kept (below_alloc w1 (.cells (gA f) 83))
    replace hB := hB.trans (hb1.mono hB.size)
    replace hB := hB.alloc hB.size (.cells (gA f) 83)
    clear hb1 q3
    go_upto_region 2 with fail
    generalize w1.alloc (.cells (gA f) 83) = Y at q3b hB ⊢
    have q3c := q3b
    obtain ⟨r3, k3⟩ := q3c
    cases hz : secEq s secZ
    · go_upto_region 6 with fail
      obtain ⟨N0, hN0⟩ : ∃ q, Y.heap.size = q := ⟨_, rfl⟩
      have hN0w : w.heap.size ≤ N0 := by rw [← hN0]; exact hB.size
      have hg3N : g3 < N0 := by rw [← hN0]; exact q3b.lt
      clear r3 k3
      have HBY : Hid _ := hB
      have HQ3 : Hid _ := q3b
      have hc2 : (s 2).toNat < 256 := (s 2).toNat_lt
      go_wp2_with fail
      go_loopw [10, 11] (fun bv iv wr => ∃ k : Nat, k ≤ stN8 s ∧ iv = .int .i64 k ∧ OwnK wrE wr N0 bv (stL s j k) ∧ Below N0 Y wr) (fun _ iv _ => 8 - (intOf iv).toNat)
      case atStart => exact ⟨0, by omega, rfl, OwnK.nil _ _ _, Below.refl _ _⟩
      case round =>
        clear hB q3b
        obtain ⟨k, hk, rfl, hO, hBr⟩ := hrel
        have hszr : N0 ≤ wr.heap.size := by have := hBr.size; omega
        have q3r : ScR wr g3 s := ScR.below9 HQ3.out hBr hg3N
        have hBw : Below w.heap.size w wr := HBY.out.trans (hBr.mono hN0w)
        have c2 := q3r.cell 2 (by omega)
        by_cases hlt : k < stN8 s
        · have hk8 : k < 8 := by have := stN8_le s; omega
          have hks : k < (s 2).toNat := by unfold stN8 at hlt; omega
          have hk8' : (k : Int) < 8 := by omega
          have hks' : (k : Int) < ((s 2).toNat : Int) := by omega
          have hcv : IntKind.i64.wrap ((s 2).toNat : Int) = ((s 2).toNat : Int) := by rw [IntKind.wrap_i64]; omega
          have m1 : IntKind.i64.wrap (2 * (k : Int)) = ((2 * k : Nat) : Int) := by rw [IntKind.wrap_i64]; omega
          have m2 : IntKind.i64.wrap (4 + ((2 * k : Nat) : Int)) = ((4 + 2 * k : Nat) : Int) := by rw [IntKind.wrap_i64]; omega
          have hu := ru16_any s ((4 + 2 * k : Nat) : Int) wr (by omega) (by omega)
          rw [num16 s k hk8] at hu
          obtain ⟨A, hA⟩ : ∃ A, numN s (4 + 2 * k) 2 = A := ⟨_, rfl⟩
          have hAl : A < 65536 := by rw [← hA]; exact numN_lt s _ 2
          rw [hA] at hu
          obtain ⟨j0, hj0⟩ : ∃ q, 2 * k = q := ⟨_, rfl⟩
          rw [hj0] at m1 m2 hu
          obtain ⟨j1, hj1⟩ : ∃ q, 4 + j0 = q := ⟨_, rfl⟩
          rw [hj1] at m2 hu
          have hcA : IntKind.i64.wrap (A : Int) = (A : Int) := by rw [IntKind.wrap_i64]; omega
          obtain ⟨r3, k3⟩ := q3r
          go_wp2_with fail
          go_at_call 82
          refine hu.mono ?_
          rintro e w2 ⟨rfl, hb2⟩
          have hA2 := below_alloc w2 (.cells (wrA ((A : Int), secZ)) 54)
          have q12 := RowC.new w2 (wrA ((A : Int), secZ)) 54
          have hO2 := (hO.keep hb2).keep hA2
          have hB2 : Below N0 Y (w2.alloc (.cells (wrA ((A : Int), secZ)) 54)) := (hBr.trans (hb2.mono hszr)).trans (hA2.mono (by have := hb2.size; omega))
          have hs2 : N0 ≤ w2.heap.size := by have := hb2.size; omega
          have hown := fun q hq => (World.ownsRow.lt (hO.keep hb2) q hq).2
          clear hu r3 k3 hO hBr hA2 hb2 c2
          go_upto_region 11 with fail
          generalize w2.alloc (.cells (wrA ((A : Int), secZ)) 54) = V at q12 hO2 hB2 ⊢
          generalize w2.heap.size = g12 at q12 hs2 hown ⊢
          clear hBw
          have hBw : Below w.heap.size w V := HBY.out.trans (hB2.mono hN0w)
          obtain ⟨D, hD⟩ : ∃ D, (if k < j.length then j.getD k secZ else secZ) = D := ⟨_, rfl⟩
          have hW : stW s j k = ((A : Int), D) := by unfold stW; rw [hA, hD]
          have hszV : g12 < V.heap.size := q12.lt
          clear m1 m2 hcv hcA hks' hk8' hj0 hj1
          by_cases hkj : k < L
          · have hkj' : (k : Int) < (L : Int) := by omega
            have hk0 : (0 : Int) ≤ (k : Int) := by omega
            obtain ⟨bj, oj, rfl, hbj, hrj⟩ := (hj.kept hBw).at k D (by rw [← hD, if_pos (by omega), List.getD_eq_getElem?_getD, List.getElem?_eq_getElem (by omega)]; rfl)
            obtain ⟨okj, rgj⟩ := rg_of hrj (secE_ok.len _)
            rw [secE_arr] at rgj
            rw [secE_k] at okj rgj
            have hst := secStore9 q12 D
            have q13 := q12.setRow (wrA ((A : Int), D))
            have hK13 : Below N0 V (V.setRow g12 (wrA ((A : Int), D))) := by
              have hs9 : (V.setRow g12 (wrA ((A : Int), D))).heap.size = V.heap.size := by unfold World.setRow; simp
              exact ⟨rfl, rfl, rfl, by omega, fun q hq => setRow_other V g12 q _ (by omega)⟩
            have hO3 := OwnK.keeps hO2 (F := [g12]) (w' := V.setRow g12 (wrA ((A : Int), D))) ⟨rfl, rfl, rfl, by unfold World.setRow; simp, fun q _ hq => setRow_other V g12 q _ (by simpa using hq)⟩ (fun q hq hm => by
              have := hown q hq
              simp only [List.mem_singleton] at hm; omega)
            have hB3 := hB2.trans hK13
            clear hO2 hB2 hK13 hrj
            go_upto_region 13 with fail
            generalize V.setRow g12 (wrA ((A : Int), D)) = Z at hst q13 hO3 hB3 ⊢
            clear hst q12 okj rgj
            obtain ⟨ok12, rg12⟩ := rg_row9 q13
            have hA4 := below_alloc Z (.cells (wrA ((A : Int), D)) 54)
            have hsz4 : N0 ≤ Z.heap.size := by have := hB3.size; omega
            have hnew : (Z.alloc (.cells (wrA ((A : Int), D)) 54)).rangeAt Z.heap.size 0 (wrE.enc ((A : Int), D)) := fun i u hu => by
              rw [Nat.zero_add, cell_of_row _ _ i _ _ _ (heap_alloc_last Z _)]
              rw [wrE_enc, Array.getElem?_toList] at hu; exact hu
            obtain ⟨g5, c5, w5, hr5, o1, -, o3, -⟩ := run_app1K wrE_ok (Z.alloc (.cells (wrA ((A : Int), D)) 54)) N0 Z.heap.size _ (stL s j k) ((A : Int), D) 23 (hO3.keep hA4) hnew (by simp) (by rw [stL_len]; show (k + 1) * 72 ≤ _; omega) (by rw [stL_len]; unfold maxLen; omega) (by simp; omega)
            have hTS : wrE.S = 23 := rfl
            rw [hTS, stL_len] at hr5
            have o2 : OwnK wrE w5 N0 (.slice (some ⟨g5, 0, none⟩) (k + 1) c5) (stL s j (k + 1)) := by rw [stL_len] at o1; rw [stL, hW]; exact o1
            have hB5 : Below N0 Y w5 := (hB3.trans (hA4.mono hsz4)).trans ((hO3.keep hA4).below o3 (by simp; omega))
            have HO5 : Hid _ := o2
            have HB5 : Hid _ := hB5
            clear o1 o2 o3 hB5 hO3 hB3 hnew hA4 q13 hW hD
            go_wp2_with (at_builtin; refine wpL_appT 23 rfl _ _ rfl _ w5 (by exact hr5) ?_)
            go_roundw
            case rel => exact ⟨k + 1, by omega, by go_num, HO5.out, HB5.out⟩
            case measure => simp [intOf]; omega
          · have hkj' : ¬ (k : Int) < (L : Int) := by omega
            obtain rfl : D = secZ := by rw [← hD, if_neg (by omega)]
            have q13 := q12
            have hO3 := hO2
            have hB3 := hB2
            clear hO2 hB2 q12
            go_upto_region 13 with fail
            obtain ⟨Z, rfl⟩ : ∃ Z, Z = V := ⟨_, rfl⟩
            obtain ⟨ok12, rg12⟩ := rg_row9 q13
            have hA4 := below_alloc Z (.cells (wrA ((A : Int), secZ)) 54)
            have hsz4 : N0 ≤ Z.heap.size := by have := hB3.size; omega
            have hnew : (Z.alloc (.cells (wrA ((A : Int), secZ)) 54)).rangeAt Z.heap.size 0 (wrE.enc ((A : Int), secZ)) := fun i u hu => by
              rw [Nat.zero_add, cell_of_row _ _ i _ _ _ (heap_alloc_last Z _)]
              rw [wrE_enc, Array.getElem?_toList] at hu; exact hu
            obtain ⟨g5, c5, w5, hr5, o1, -, o3, -⟩ := run_app1K wrE_ok (Z.alloc (.cells (wrA ((A : Int), secZ)) 54)) N0 Z.heap.size _ (stL s j k) ((A : Int), secZ) 23 (hO3.keep hA4) hnew (by simp) (by rw [stL_len]; show (k + 1) * 72 ≤ _; omega) (by rw [stL_len]; unfold maxLen; omega) (by simp; omega)
            have hTS : wrE.S = 23 := rfl
            rw [hTS, stL_len] at hr5
            have o2 : OwnK wrE w5 N0 (.slice (some ⟨g5, 0, none⟩) (k + 1) c5) (stL s j (k + 1)) := by rw [stL_len] at o1; rw [stL, hW]; exact o1
            have hB5 : Below N0 Y w5 := (hB3.trans (hA4.mono hsz4)).trans ((hO3.keep hA4).below o3 (by simp; omega))
            have HO5 : Hid _ := o2
            have HB5 : Hid _ := hB5
            clear o1 o2 o3 hB5 hO3 hB3 hnew hA4 q13 hW hD
            go_wp2_with (at_builtin; refine wpL_appT 23 rfl _ _ rfl _ w5 (by exact hr5) ?_)
            go_roundw
            case rel => exact ⟨k + 1, by omega, by go_num, HO5.out, HB5.out⟩
            case measure => simp [intOf]; omega
        · obtain rfl : k = stN8 s := by omega
          have hk8 := stN8_le s
          have hcond : ¬ ((stN8 s : Int) < ((s 2).toNat : Int) ∧ (stN8 s : Int) < 8) := by unfold stN8; omega
          have hcv : IntKind.i64.wrap ((s 2).toNat : Int) = ((s 2).toNat : Int) := by rw [IntKind.wrap_i64]; omega
          have hLen : (stA s j).length = stN8 s := by unfold stA; simp
          change OwnK wrE wr N0 _ (stA s j) at hO
          obtain ⟨ya, ca, rfl⟩ := (hO.isK wrE_ok).len
          rw [hLen] at hO ⊢
          have hWB : WrB (stA s j) := fun i hi => by
            rw [hLen] at hi
            obtain ⟨e1, -⟩ := atW_get (stL_get s j (stN8 s) i hi)
            have e2 : atW (stA s j) i = (stW s j i).1 := e1
            rw [e2]
            unfold stW
            have := numN_lt s (4 + 2 * i) 2
            simp only
            omega
          have hput := rPut9_any (stA s j) ya (stN8 s) ca n wr hLen (by omega) (hO.isK wrE_ok) hWB hn.1 hn.2
          obtain ⟨k8, hk8e⟩ : ∃ q, stN8 s = q := ⟨_, rfl⟩
          rw [hk8e] at hO hput hcond ⊢
          obtain ⟨PS, hPS⟩ : ∃ q, mPutS (stA s j) n = q := ⟨_, rfl⟩
          obtain ⟨PE, hPE⟩ : ∃ q, mPutE (stA s j) n = q := ⟨_, rfl⟩
          rw [hPS, hPE] at hput
          have HO : Hid _ := hO
          have HBr : Hid _ := hBr
          have HL9 : Hid (k8 = (stA s j).length) := hk8e ▸ hLen.symm
          clear hO hk hlt
          have hsplit : (¬ (k8 : Int) < ((s 2).toNat : Int) ∧ ¬ k8 < (s 2).toNat) ∨ (((k8 : Int) < ((s 2).toNat : Int) ∧ k8 < (s 2).toNat) ∧ ¬ (k8 : Int) < 8 ∧ ¬ k8 < 8) := by omega
          have hQ := stQ (s := s) (j := j) hg hz
          rw [hPS, hPE, HK.out, HM.out] at hQ
          clear hPS hPE hcond hWB hLen hk8e
          obtain ⟨r3, k3⟩ := q3r
          rcases hsplit with ⟨hs1, hs1n⟩ | ⟨⟨hs1, hs1n⟩, hs2, hs2n⟩
          all_goals
            go_upto_region 14 with fail
            go_wp2_with fail
            go_at_call 16
            refine hput.mono ?_
            rintro e w6 ⟨rfl, hb6⟩
            have hA6 := below_alloc w6 (.cells (secA PS) 44)
            have q13 := ScR.new w6 PS 44
            have q3s := ((show ScR wr g3 s from ⟨r3, k3⟩).kept hb6).kept hA6
            have hO6 := (OwnK.keep HO.out hb6).keep hA6
            have hB6 : Below w.heap.size w (w6.alloc (.cells (secA PS) 44)) := (hBw.trans (hb6.mono hBw.size)).trans (hA6.mono (by have := hb6.size; have := hBw.size; omega))
            clear hput r3 k3 hA6 hb6 c2
            go_upto_region 15 with fail
            generalize w6.alloc (.cells (secA PS) 44) = V at q13 q3s hO6 hB6 ⊢
            generalize w6.heap.size = g13 at q13 ⊢
            have HO6 : Hid _ := hO6
            have HB6 : Hid _ := hB6
            have HQ : Hid _ := hQ
            clear hO6 hB6 hQ
            obtain ⟨r3, k3⟩ := q3s
            obtain ⟨r13, k13⟩ := q13
            by_cases he : PE = 0
            · subst he
              cases hse : secEq PS s
              · go_wp2_with fail
                obtain ⟨rfl, rfl⟩ := HQ.out
                rw [hse]
                exact tmp2_bodyPost9 6 7 rfl rfl ⟨none, 0, rfl, OwnK.nil _ _ _, by first | exact HB6.out | exact hg3 ▸ HB6.out⟩
              · go_wp2_with fail
                obtain ⟨rfl, rfl⟩ := HQ.out
                rw [hse]
                rw [if_pos ⟨trivial, rfl⟩, if_pos ⟨trivial, rfl⟩, ← HL9.out]
                exact tmp2_bodyPost9 6 7 rfl rfl ⟨ya, ca, rfl, OwnK.le HO6.out (by first | exact hN0w | exact hg3 ▸ hN0w), by first | exact HB6.out | exact hg3 ▸ HB6.out⟩
            · go_wp2_with fail
              obtain ⟨rfl, rfl⟩ := HQ.out
              rw [if_neg (fun c => he c.1), if_neg (fun c => he c.1)]
              exact tmp2_bodyPost9 6 7 rfl rfl ⟨none, 0, rfl, OwnK.nil _ _ _, by first | exact HB6.out | exact hg3 ▸ HB6.out⟩
    · have HB6 : Hid _ := hB
      go_wp2_with fail
      have e1 := HK.out
      have e2 := HM.out
      rw [mStK, hg, hz] at e1
      rw [mStL, mComm, hg, hz] at e2
      subst e1 e2
      exact tmp2_bodyPost9 6 7 rfl rfl ⟨none, 0, rfl, OwnK.nil _ _ _, by first | exact HB6.out | exact hg3 ▸ HB6.out⟩
  · have hg : geoOk n = false := by unfold geoOk; simpa using h
    have hO := fun w => rof_no n w h hn.1 hn.2
    go_enter Try.func65, Try.ntmps65
    go_upto_region 1 with fail
    generalize w.alloc (.cells (secA s) 44) = X at hB q3 ⊢
    go_wp2_with fail
    go_at_call 31
    refine (hO _).mono ?_
    rintro r w1 ⟨rfl, hb1⟩
    have HB6 : Hid _ := (hB.trans (hb1.mono hB.size)).alloc (by have := hb1.size; have := hB.size; omega) (.cells (gA fun _ => 0) 83)
    go_wp2_with fail
    have e1 := HK.out
    have e2 := HM.out
    rw [mStK, hg] at e1
    rw [mStL, mComm, hg] at e2
    subst e1 e2
    exact tmp2_bodyPost9 6 7 rfl rfl ⟨none, 0, rfl, OwnK.nil _ _ _, by first | exact HB6.out | exact hg3 ▸ HB6.out⟩
end Go.Proofs.Ytpckdkgbeemalaa
