
import Derived.Test.YtfnffkommcepoaaBitN
namespace Go.Proofs.Ytfnffkommcepoaa
open Go.RowKit

/-! BitsTold -/
theorem IsG.cut {w : World} {a : Addr} {n c m : Nat} {xs : List Value} (h : IsG w (.slice (some a) n c) xs) (hm : m ≤ n) : IsG w (.slice (some a) m c) (xs.take m) := by
  rcases h with ⟨h, _⟩ | ⟨x, d, he, hc⟩
  · cases h
  · simp only [Value.slice.injEq, Option.some.injEq] at he
    obtain ⟨rfl, rfl, rfl⟩ := he
    refine .inr ⟨a, c, by rw [List.length_take, Nat.min_eq_left hm], fun i hi => ?_⟩
    rw [List.length_take] at hi
    rw [List.getElem_take]
    exact hc i (by omega)
theorem bV_take (b : List Bool) (n : Nat) : (bV b).take n = bV (b.take n) := by simp [bV, List.map_take]
theorem IsG.some' {w : World} {x : Option Addr} {n c : Nat} {xs : List Value} (h : IsG w (.slice x n c) xs) (hn : 0 < n) : ∃ a, x = some a := by
  rcases h with ⟨h, _⟩ | ⟨a, d, he, _⟩
  · simp only [Value.slice.injEq] at h; omega
  · simp only [Value.slice.injEq] at he; exact ⟨a, he.1⟩
theorem many_big : manyN 1100 = 0 := by decide
set_option maxRecDepth 100000 in
set_option maxHeartbeats 400000 in
theorem told_big (hP : PutOk) (hG : GetOk) (b : List Bool) (x : Option Addr) (n c : Nat) (at' : Int) (mask : Nat) (w : World) (hn : b.length = n) (hnc : n ≤ c) (hcm : c ≤ maxLen) (hb : IsG w (.slice x n c) (bV b)) (hbig : 1100 < n) :
    Calls Try.prog 3 #[.slice x n c, .int .i64 at', .int .u32 (mask : Int)] w fun e w' => e = .returned (.bool true) ∧ Below w.heap.size w w' := by
  obtain ⟨a, rfl⟩ := hb.some' (by omega)
  have hcut := hb.cut (m := 1100) (by omega)
  rw [bV_take] at hcut
  have hput := hP (b.take 1100) (some a) 1100 c w (by rw [List.length_take]; omega) (by omega) hcm (by omega) hcut
  rw [many_big] at hput
  have hbig' : (1100 : Int) < (n : Int) := by omega
  have hc' : 1100 ≤ c := by omega
  go_enter Try.func3, Try.ntmps3
  clear hb hcut
  go_wp2_with fail
  go_at_call 7
  refine hput.mono ?_
  rintro e w1 ⟨y, c', rfl, -, hB1⟩
  clear hput
  go_wp2_with fail
  go_at_call 8
  refine (known7_any hP hG _).mono ?_
  rintro e w2 ⟨rfl, hB2⟩
  have HB := hB1.trans (hB2.mono hB1.size)
  clear hB1 hB2
  go_wp2
  go_ret
  exact ⟨rfl, HB⟩
set_option maxRecDepth 100000 in
set_option maxHeartbeats 400000 in
theorem told_none (hP : PutOk) (hG : GetOk) (b : List Bool) (x : Option Addr) (n c : Nat) (at' : Int) (mask : Nat) (w : World) (hn : b.length = n) (hnc : n ≤ c) (hcm : c ≤ maxLen) (hb : IsG w (.slice x n c) (bV b)) (hbig : ¬ 1100 < n) (hz : manyN n = 0 ∨ (manyN n ≠ 0 ∧ mask = 0)) :
    Calls Try.prog 3 #[.slice x n c, .int .i64 at', .int .u32 (mask : Int)] w fun e w' => e = .returned (.bool true) ∧ Below w.heap.size w w' := by
  have hput := hP b x n c w hn hnc hcm (by omega) hb
  have hbig' : ¬ (1100 : Int) < (n : Int) := by omega
  go_enter Try.func3, Try.ntmps3
  clear hb
  go_wp2_with fail
  go_at_call 7
  refine hput.mono ?_
  rintro e w1 ⟨y, c', rfl, -, hB1⟩
  clear hput
  rcases hz with hz | ⟨hz, rfl⟩
  · rw [hz]
    go_wp2_with fail
    go_at_call 8
    refine (known7_any hP hG _).mono ?_
    rintro e w2 ⟨rfl, hB2⟩
    have HB := hB1.trans (hB2.mono hB1.size)
    clear hB1 hB2
    go_wp2
    go_ret
    exact ⟨rfl, HB⟩
  · have hz' : ¬ ((manyN n : Nat) : Int) = 0 := by omega
    go_wp2_with fail
    go_at_call 8
    refine (known7_any hP hG _).mono ?_
    rintro e w2 ⟨rfl, hB2⟩
    have HB := hB1.trans (hB2.mono hB1.size)
    clear hB1 hB2
    go_wp2
    go_ret
    exact ⟨rfl, HB⟩
set_option maxRecDepth 100000 in
set_option maxHeartbeats 800000 in
theorem told_main (hP : PutOk) (hG : GetOk) (b : List Bool) (x : Option Addr) (n c : Nat) (at' : Int) (mask : Nat) (w : World) (hn : b.length = n) (hnc : n ≤ c) (hcm : c ≤ maxLen) (hb : IsG w (.slice x n c) (bV b)) (hbig : ¬ 1100 < n) (hm : manyN n ≠ 0) (hz : mask ≠ 0)
    (_h0 : -9223372036854775808 ≤ at') (_h1 : at' ≤ 9223372036854775807) (hmk : mask < 4294967296) :
    Calls Try.prog 3 #[.slice x n c, .int .i64 at', .int .u32 (mask : Int)] w fun e w' => e = .returned (.bool true) ∧ Below w.heap.size w w' := by
  have hput := hP b x n c w hn hnc hcm (by omega) hb
  have hbig' : ¬ (1100 : Int) < (n : Int) := by omega
  have hm3 := manyN_le n
  obtain ⟨M, hM⟩ : ∃ M, manyN n = M := ⟨_, rfl⟩
  rw [hM] at hput hm hm3
  have hm' : ¬ (M : Int) = 0 := by omega
  have hz' : ((mask : Int) == 0) = false := by simp; omega
  have hm2 : ((M : Int) == 0) = false := by simp; omega
  obtain ⟨U, hU⟩ : ∃ U : Nat, IntKind.u64.wrap at' = (U : Int) := ⟨(IntKind.u64.wrap at').toNat, by rw [IntKind.wrap_u64]; omega⟩
  have hUl : U < 18446744073709551616 := by rw [IntKind.wrap_u64] at hU; omega
  go_enter Try.func3, Try.ntmps3
  go_wp2_with fail
  go_at_call 7
  refine hput.mono ?_
  rintro e w1 ⟨y, c', rfl, hO, hB1⟩
  clear hput
  obtain ⟨k, hk⟩ : ∃ k : Nat, U % M = k := ⟨_, rfl⟩
  obtain ⟨fr, hfr⟩ : ∃ fr : Nat, U / M % 480 = fr := ⟨_, rfl⟩
  have hkM : k < M := by rw [← hk]; exact Nat.mod_lt _ (by omega)
  have hf480 : fr < 480 := by rw [← hfr]; exact Nat.mod_lt _ (by omega)
  have HK1 : Hid (_ = _) := k_fact U M k (by omega) hk
  have HF1 : Hid (_ = _) := fr_fact U M fr hUl hfr
  clear hk hfr
  go_upto_region 8 with fail
  have hk1 := HK1.out
  have hf1 := HF1.out
  simp only [hk1, hf1]
  clear hk1 hf1 hU hUl HK1 HF1
  obtain ⟨gl, rfl, -⟩ := hO.form (by rw [putL_len, hn, hM]; omega)
  have hglw : w.heap.size ≤ gl := by obtain ⟨_, _, h2, _⟩ := hO.heap; exact h2
  have hkm : k < manyN b.length := by rw [hn, hM]; exact hkM
  obtain ⟨P, hPd⟩ : ∃ P : Nat → Bool, P = fun j => mask.testBit j && decide (fr + j < 512) := ⟨_, rfl⟩
  have HPd : Hid (P = fun j => mask.testBit j && decide (fr + j < 512)) := hPd
  clear hPd
  have hgb := hb.kept hB1
  go_wp2_with fail
  go_loopw [10, 11] (fun t v wr => ∃ i : Nat, i ≤ 32 ∧ v = .int .i64 i ∧ t = .bool (anyP P i) ∧ OwnK secE wr w.heap.size (.slice (some ⟨gl, 0, none⟩) M c') ((putL b).set k (turnS (putS b k) P fr i)) ∧ Below w.heap.size w wr) (fun _ v _ => 32 - (intOf v).toNat)
  case atStart => exact ⟨0, by omega, rfl, rfl, by rw [turnS, putL_same b k hkm]; exact hO, hB1⟩
  case round =>
    clear hO hB1 hgb
    obtain ⟨i, hi, rfl, rfl, hO, hB⟩ := hrel
    have hi9 : (i : Int) ≤ 32 := by omega
    by_cases h32 : i < 32
    · have h32' : (i : Int) < 32 := by omega
      by_cases h512 : fr + i < 512
      · have h512' : (fr : Int) + (i : Int) < 512 := by omega
        have hab := and_bit7 mask i hmk
        cases hbt : mask.testBit i
        · have hPi : P i = false := by rw [HPd.out]; simp [hbt]
          rw [hbt, cond_false] at hab
          have HO : Hid (OwnK secE wr w.heap.size (.slice (some ⟨gl, 0, none⟩) M c') ((putL b).set k (turnS (putS b k) P fr (i + 1)))) := by show OwnK _ _ _ _ _; rw [turnS, hPi, cond_false]; exact hO
          have HA : Hid (anyP P (i + 1) = anyP P i) := by show _ = _; rw [anyP, hPi, cond_false]
          clear hO hbt
          go_wp2
          go_roundw
          case rel => exact ⟨i + 1, by omega, by go_num, by rw [HA.out], HO.out, hB⟩
          case measure => simp [intOf]; omega
        · have hPi : P i = true := by rw [HPd.out]; simp [hbt, h512]
          rw [hbt, cond_true] at hab
          have HA : Hid (anyP P (i + 1) = true) := by show _ = _; rw [anyP, hPi, cond_true]
          go_upto_region 13 with fail
          obtain ⟨q, hq⟩ : ∃ q : Nat, fr + i = q := ⟨_, rfl⟩
          have hqb : q < 512 := by omega
          have HQ : Hid ((fr : Int) + (i : Int) = (q : Int)) := by show _ = _; omega
          obtain ⟨T, hT⟩ : ∃ T, turnS (putS b k) P fr i = T := ⟨_, rfl⟩
          rw [hT] at hO
          have hget : ((putL b).set k T)[k]? = some T := by rw [set_get _ _ _ _ (by rw [putL_len]; exact hkm), if_pos rfl]
          have hca := hO.cellAt k T hget (q / 8) (by omega)
          obtain ⟨A, hA⟩ : ∃ A, T (q / 8) = A := ⟨_, rfl⟩
          obtain ⟨B, hBd⟩ : ∃ B, A ^^^ oneAt q = B := ⟨_, rfl⟩
          rw [hA] at hca
          have HT : Hid (turnS (putS b k) P fr (i + 1) = upd T (q / 8) B) := by
            show _ = _
            rw [turnS, hPi, cond_true, hT, flip, hq, hA, hBd]
          have HO0 : Hid (OwnK secE wr w.heap.size (.slice (some ⟨gl, 0, none⟩) M c') ((putL b).set k T)) := hO
          have HB0 : Hid (Below w.heap.size w wr) := hB
          have F1 : Hid (IntKind.i64.wrap ((q : Int) / 8) = (q : Int) / 8) := by show _ = _; rw [IntKind.wrap_i64]; omega
          have F2 : Hid ((q : Int).tmod 8 = (q : Int) % 8) := by show _ = _; rw [Int.tmod_eq_emod_of_nonneg (by omega)]
          have F3 : Hid (IntKind.u8.wrap (2 ^ ((q : Int) % 8).toNat) = ((oneAt q).toNat : Int)) := by
            show _ = _
            have h8 := (oneAt q).toNat_lt
            rw [show ((q : Int) % 8).toNat = q % 8 by omega, show (2 : Int) ^ (q % 8) = ((2 ^ (q % 8) : Nat) : Int) by simp, ← oneAt_nat q, IntKind.wrap_u8]; omega
          have F4 : Hid (bits .xor .u8 (A.toNat : Int) ((oneAt q).toNat : Int) = (B.toNat : Int)) := by show _ = _; rw [xor87, hBd]
          have F5 : Hid ((0 : Int) ≤ (q : Int) / 8 ∧ (q : Int) / 8 < 64 ∧ ((q : Int) / 8).toNat = q / 8) := by show _ ∧ _; omega
          have FQ : Hid (IntKind.i64.wrap (q : Int) = (q : Int)) := by show _ = _; rw [IntKind.wrap_i64]; omega
          have FK : Hid ((k : Int) < (M : Int)) := by show _ < _; omega
          clear hO hB hbt hab hA hT hPi hBd hget
          refine wp_reliesT [Fx (.slice (some ⟨gl, 0, none⟩) M c'), Fx (.int .i64 ((k : Int))), Fx (.int .i64 ((fr : Int))), Fx (.int .i64 ((i : Int))), Fx (.int .i64 ((q : Int))), Fx (.int .i64 ((q : Int) / 8)), Fx (.pointer (some ⟨gl, k * 64, none⟩)), Fx (.pointer (some ⟨gl, k * 64 + q / 8, none⟩)), Fx (.int .u8 (A.toNat : Int)), Fx (.int .i64 ((fr : Int))), Fx (.int .i64 ((i : Int))), Fx (.int .i64 ((q : Int))), Fx (.int .i64 ((q : Int) % 8)), Fx (.int .u8 ((oneAt q).toNat : Int)), Fx (.int .u8 (B.toNat : Int)), Fx (.pointer (some ⟨gl, k * 64, none⟩)), Fx (.pointer (some ⟨gl, k * 64 + q / 8, none⟩))] (by kernel_rfl) (by kernel_rfl) ?_ ?_ ?_
          · repeat' (first | exact all_nil | apply all_cons)
            all_goals intro v y y' hv hb
            all_goals first | exact Fx_mono _ _ _ _ hv hb
          · refine ⟨?_, ?_, ?_, ?_, ?_, ?_, ?_, ?_, ?_, ?_, ?_, ?_, ?_, ?_, ?_, ?_, ?_, trivial⟩
            all_goals
              intro ρ x hp ρc ρg ρf ho hd
              have o7 : ρ (.tmp 7) = .slice (some ⟨gl, 0, none⟩) M c' := ho 7 rfl
              have o8 : ρ (.tmp 8) = .int .i64 ((k : Int)) := ho 8 rfl
              have o9 : ρ (.tmp 9) = .int .i64 ((fr : Int)) := ho 9 rfl
              have o11 : ρ (.tmp 11) = .int .i64 ((i : Int)) := ho 11 rfl
              clear ho
              have c1 := cell_later hp hca
              simp only [depsR, depR, slotR, Fx, List.getElem?_cons_succ, List.getElem?_cons_zero, Region.binds, forall_const] at hd
              simp only [guardR]
              go_split_ands
            · go_simp
            · go_simp
            · go_simp
            · go_simp
            · have hq1 := HQ.out
              have hq2 := FQ.out
              go_simp
            · have hq := F1.out
              go_simp
            · have hq := FK.out
              go_simp
            · obtain ⟨q1, q2, q3⟩ := F5.out
              go_simp
            · go_simp
            · go_simp
            · go_simp
            · have hq1 := HQ.out
              have hq2 := FQ.out
              go_simp
            · have hq := F2.out
              go_simp
            · have hq := F3.out
              go_simp
            · have hq := F4.out
              go_simp
            · have hq := FK.out
              go_simp
            · obtain ⟨q1, q2, q3⟩ := F5.out
              go_simp
          · intro vs x1 hp hw
            simp only [owed, Fx] at hw
            obtain ⟨e0, e1, e2, e3, e4, e5, e6, e7, e8, e9, e10, e11, e12, e13, e14, e15, e16, -⟩ := hw
            simp only [List.length_cons, List.length_nil, List.take_succ_cons, List.take_zero, List.drop_succ_cons, List.drop_zero, asg, List.cons_append, List.nil_append, e0, e1, e2, e3, e4, e5, e6, e7, e8, e9, e10, e11, e12, e13, e14, e15, e16]
            clear e0 e1 e2 e3 e4 e5 e6 e7 e8 e9 e10 e11 e12 e13 e14 e15 e16
            have hO1 := OwnK.keep HO0.out hp
            have hB1 := HB0.out.trans (hp.mono (Below.size HB0.out))
            have hc1 := cell_later hp hca
            have hf1 := hO1.cellOf k (q / 8)
            have hO2 := hO1.byte k (q / 8) T B (by rw [set_get _ _ _ _ (by rw [putL_len]; exact hkm), if_pos rfl]) (by omega)
            rw [List.set_set, ← HT.out] at hO2
            have HO : Hid _ := hO2
            have HB : Hid _ := hB1.setCell (p := ⟨gl, k * 64 + q / 8, none⟩) hglw (.int .u8 (B.toNat : Int))
            clear hO1 hB1 hO2 hp hca HO0 HB0 HT F1 F2 F3 F4 F5 FK FQ HQ
            go_wp2
            go_roundw
            case rel => exact ⟨i + 1, by omega, by go_num, by rw [HA.out], HO.out, HB.out⟩
            case measure => simp [intOf]; omega
      · have h512' : ¬ (fr : Int) + (i : Int) < 512 := by omega
        have hPf : ∀ t, i ≤ t → t < 32 → P t = false := fun t h1 _ => by rw [HPd.out]; simp; omega
        rw [← turnS_stay (putS b k) P fr 32 i hi hPf] at hO
        rw [← anyP_stay P 32 i hi hPf]
        clear hPf
        have hPl : ∀ i, P i = true → fr + i < 512 := fun i h => by rw [HPd.out] at h; simp at h; exact h.2
        have hlen : ((putL b).set k (turnS (putS b k) P fr 32)).length = M := by rw [List.length_set, putL_len, hn, hM]
        have hget := hG ((putL b).set k (turnS (putS b k) P fr 32)) (some ⟨gl, 0, none⟩) M c' (n : Int) wr hlen (by omega) (by omega) (by omega) (hO.isK secE_ok)
        rw [Int.toNat_natCast] at hget
        have hgb := hb.kept hB
        go_wp2_with fail
        go_at_call 9
        refine hget.mono ?_
        rintro e w2 ⟨u, v, rfl, hu, hv, -, hB2⟩
        clear hget hO
        try clear h512'
        try clear h512
        try clear h32'
        try clear h32
        try clear hi9
        try clear hi
        have hB3 := hB.trans (hB2.mono hB.size)
        have hgb2 := hgb.kept hB2
        clear hB hB2 hgb
        cases hany : anyP P 32
        · clear hu hv
          go_wp2_with fail
          go_at_call 8
          refine (known7_any hP hG _).mono ?_
          rintro e w3 ⟨rfl, hB4⟩
          have HB := hB3.trans (hB4.mono hB3.size)
          clear hB3 hB4
          go_wp2
          go_ret
          exact ⟨rfl, HB⟩
        · have ht := turn_torn b k fr n P hPl hany
          obtain ⟨s', hs'⟩ : ∃ s', turnS (putS b k) P fr 32 = s' := ⟨_, rfl⟩
          rw [hs'] at hu hv ht hlen
          have hbad := told_bad b k s' hkm (by rw [hn]; exact ht)
          have hbits : ∀ i, i < n → (getBits ((putL b).set k s') n)[i]? = some (if i / 480 = k then false else bAt b i) := fun i hi => by
            rw [getBits_get ⟨by rw [hM]; exact hm, by rw [hlen, hM]⟩ i hi]
            have h2 := told_bits b k s' hkm (by rw [hn]; exact ht) i (by omega)
            rw [hn] at h2
            rw [h2]
          have hbl : (getBits ((putL b).set k s') n).length = n := getBits_len ⟨by rw [hM]; exact hm, by rw [hlen, hM]⟩
          rw [hn] at hbad
          rw [hbad] at hv
          generalize getBits ((putL b).set k s') n = cs at hu hbits hbl
          clear hany ht hbad hlen hs'
          obtain ⟨xu, cu, rfl⟩ := OwnG.len hu
          obtain ⟨xv, cv, rfl⟩ := OwnG.len hv
          rw [bV_len, hbl] at hu ⊢
          have hl1 : (iV (nI [k])).length = 1 := by simp [iV, nI]
          rw [hl1] at hv ⊢
          have hnn : n ≤ 1100 := by omega
          have HV : Hid (OwnG 3 w2 wr.heap.size (.slice xv 1 cv) (iV (nI [k]))) := hv
          have HB3 : Hid (Below w.heap.size w w2) := hB3
          have hui := hu.isG
          clear hv hB3 hu
          go_wp2_with fail
          clear hPl
          go_loopw [94] (fun v wq => ∃ i : Nat, i ≤ n ∧ v = .int .i64 i ∧ Below w2.heap.size w2 wq) (fun v _ => n - (intOf v).toNat)
          case atStart => exact ⟨0, by omega, rfl, Below.refl _ _⟩
          case round =>
            obtain ⟨j, hj, rfl, hBj⟩ := hrel
            by_cases hjn : j < n
            · have hjn' : (j : Int) < (n : Int) := by omega
              obtain ⟨b1, o1, rfl, hb1, hc1⟩ := (hui.kept hBj).spot j (by rw [bV_len, hbl]; exact hjn)
              obtain ⟨b2, o2, rfl, hb2, hc2⟩ := (hgb2.kept hBj).spot j (by rw [bV_len, hn]; exact hjn)
              have hc3 := hc1 j _ (bV_at (hbits j hjn))
              have hc4 := hc2 j _ (bV_get b j (by omega))
              have HBq : Hid (∀ n, Below w2.heap.size w2 (wr.drewN n)) := fun n => ⟨hBj.os, hBj.tape, hBj.output, hBj.size, hBj.block⟩
              by_cases hjk : j / 480 = k
              · have hx1 : (j : Int) / 480 = (k : Int) := by omega
                rw [if_pos hjk] at hc3
                clear hc1 hc2 hBj hbits hjk
                go_upto_region 23 with fail
                go_quiet (fail)
                go_wp2
                go_roundw
                case rel => exact ⟨j + 1, by omega, by go_num, HBq.out _⟩
                case measure => simp [intOf]; omega
              · have hx1 : ((j : Int) / 480 == (k : Int)) = false := by simp; omega
                have hx2 : ((j : Int) / 480 != (k : Int)) = true := by simp; omega
                have hx3 : ¬ (j : Int) / 480 = (k : Int) := by omega
                rw [if_neg hjk] at hc3
                clear hc1 hc2 hBj hbits hjk
                go_upto_region 23 with fail
                go_quiet (fail)
                go_wp2
                go_roundw
                case rel => exact ⟨j + 1, by omega, by go_num, HBq.out _⟩
                case measure => simp [intOf]; omega
            · obtain rfl : j = n := by omega
              have hv := OwnG.keep HV.out hBj
              have hB5 := HB3.out.trans (hBj.mono (Below.size HB3.out))
              have hlit := OwnG.lit 3 wr (iV [(k : Int)]) (show 1 ≤ maxLen by decide)
              have hsi := sameI_any xv (some ⟨wr.heap.size, 0, none⟩) cv 1 1 1 (nI [k]) [(k : Int)] (wr.alloc (.cells (iV [(k : Int)]).toArray 3)) rfl rfl (OwnG.keep hv (below_alloc _ _)).isG hlit.isG (by omega)
              have HB6 : Hid (Below w.heap.size w (wr.alloc (.cells (iV [(k : Int)]).toArray 3))) := hB5.alloc hB5.size _
              have e9 : (iV [(k : Int)]).toArray = #[Value.int .i64 (k : Int)] := rfl
              have e8 : decide (nI [k] = [(k : Int)]) = true := by simp [nI]
              rw [e9] at hsi HB6
              rw [e8] at hsi
              clear hv hB5 hlit HV HB3 hBj hui hgb2 hbits
              go_wp2_with fail
              go_at_call 10
              refine hsi.mono ?_
              rintro e w5 ⟨rfl, hB6⟩
              have HB7 := HB6.out.trans (hB6.mono (Below.size HB6.out))
              clear HB6 hB6 hsi
              go_wp2_with fail
              go_at_call 8
              refine (known7_any hP hG _).mono ?_
              rintro e w6 ⟨rfl, hB8⟩
              have HB9 := HB7.trans (hB8.mono HB7.size)
              clear HB7 hB8
              go_wp2
              go_ret
              exact ⟨rfl, HB9⟩
    · obtain rfl : i = 32 := by omega
      have hPl : ∀ i, P i = true → fr + i < 512 := fun i h => by rw [HPd.out] at h; simp at h; exact h.2
      have hlen : ((putL b).set k (turnS (putS b k) P fr 32)).length = M := by rw [List.length_set, putL_len, hn, hM]
      have hget := hG ((putL b).set k (turnS (putS b k) P fr 32)) (some ⟨gl, 0, none⟩) M c' (n : Int) wr hlen (by omega) (by omega) (by omega) (hO.isK secE_ok)
      rw [Int.toNat_natCast] at hget
      have hgb := hb.kept hB
      go_wp2_with fail
      go_at_call 9
      refine hget.mono ?_
      rintro e w2 ⟨u, v, rfl, hu, hv, -, hB2⟩
      clear hget hO
      try clear h512'
      try clear h512
      try clear h32'
      try clear h32
      try clear hi9
      try clear hi
      have hB3 := hB.trans (hB2.mono hB.size)
      have hgb2 := hgb.kept hB2
      clear hB hB2 hgb
      cases hany : anyP P 32
      · clear hu hv
        go_wp2_with fail
        go_at_call 8
        refine (known7_any hP hG _).mono ?_
        rintro e w3 ⟨rfl, hB4⟩
        have HB := hB3.trans (hB4.mono hB3.size)
        clear hB3 hB4
        go_wp2
        go_ret
        exact ⟨rfl, HB⟩
      · have ht := turn_torn b k fr n P hPl hany
        obtain ⟨s', hs'⟩ : ∃ s', turnS (putS b k) P fr 32 = s' := ⟨_, rfl⟩
        rw [hs'] at hu hv ht hlen
        have hbad := told_bad b k s' hkm (by rw [hn]; exact ht)
        have hbits : ∀ i, i < n → (getBits ((putL b).set k s') n)[i]? = some (if i / 480 = k then false else bAt b i) := fun i hi => by
          rw [getBits_get ⟨by rw [hM]; exact hm, by rw [hlen, hM]⟩ i hi]
          have h2 := told_bits b k s' hkm (by rw [hn]; exact ht) i (by omega)
          rw [hn] at h2
          rw [h2]
        have hbl : (getBits ((putL b).set k s') n).length = n := getBits_len ⟨by rw [hM]; exact hm, by rw [hlen, hM]⟩
        rw [hn] at hbad
        rw [hbad] at hv
        generalize getBits ((putL b).set k s') n = cs at hu hbits hbl
        clear hany ht hbad hlen hs'
        obtain ⟨xu, cu, rfl⟩ := OwnG.len hu
        obtain ⟨xv, cv, rfl⟩ := OwnG.len hv
        rw [bV_len, hbl] at hu ⊢
        have hl1 : (iV (nI [k])).length = 1 := by simp [iV, nI]
        rw [hl1] at hv ⊢
        have hnn : n ≤ 1100 := by omega
        have HV : Hid (OwnG 3 w2 wr.heap.size (.slice xv 1 cv) (iV (nI [k]))) := hv
        have HB3 : Hid (Below w.heap.size w w2) := hB3
        have hui := hu.isG
        clear hv hB3 hu
        go_wp2_with fail
        clear hPl
        go_loopw [94] (fun v wq => ∃ i : Nat, i ≤ n ∧ v = .int .i64 i ∧ Below w2.heap.size w2 wq) (fun v _ => n - (intOf v).toNat)
        case atStart => exact ⟨0, by omega, rfl, Below.refl _ _⟩
        case round =>
          obtain ⟨j, hj, rfl, hBj⟩ := hrel
          by_cases hjn : j < n
          · have hjn' : (j : Int) < (n : Int) := by omega
            obtain ⟨b1, o1, rfl, hb1, hc1⟩ := (hui.kept hBj).spot j (by rw [bV_len, hbl]; exact hjn)
            obtain ⟨b2, o2, rfl, hb2, hc2⟩ := (hgb2.kept hBj).spot j (by rw [bV_len, hn]; exact hjn)
            have hc3 := hc1 j _ (bV_at (hbits j hjn))
            have hc4 := hc2 j _ (bV_get b j (by omega))
            have HBq : Hid (∀ n, Below w2.heap.size w2 (wr.drewN n)) := fun n => ⟨hBj.os, hBj.tape, hBj.output, hBj.size, hBj.block⟩
            by_cases hjk : j / 480 = k
            · have hx1 : (j : Int) / 480 = (k : Int) := by omega
              rw [if_pos hjk] at hc3
              clear hc1 hc2 hBj hbits hjk
              go_upto_region 23 with fail
              go_quiet (fail)
              go_wp2
              go_roundw
              case rel => exact ⟨j + 1, by omega, by go_num, HBq.out _⟩
              case measure => simp [intOf]; omega
            · have hx1 : ((j : Int) / 480 == (k : Int)) = false := by simp; omega
              have hx2 : ((j : Int) / 480 != (k : Int)) = true := by simp; omega
              have hx3 : ¬ (j : Int) / 480 = (k : Int) := by omega
              rw [if_neg hjk] at hc3
              clear hc1 hc2 hBj hbits hjk
              go_upto_region 23 with fail
              go_quiet (fail)
              go_wp2
              go_roundw
              case rel => exact ⟨j + 1, by omega, by go_num, HBq.out _⟩
              case measure => simp [intOf]; omega
          · obtain rfl : j = n := by omega
            have hv := OwnG.keep HV.out hBj
            have hB5 := HB3.out.trans (hBj.mono (Below.size HB3.out))
            have hlit := OwnG.lit 3 wr (iV [(k : Int)]) (show 1 ≤ maxLen by decide)
            have hsi := sameI_any xv (some ⟨wr.heap.size, 0, none⟩) cv 1 1 1 (nI [k]) [(k : Int)] (wr.alloc (.cells (iV [(k : Int)]).toArray 3)) rfl rfl (OwnG.keep hv (below_alloc _ _)).isG hlit.isG (by omega)
            have HB6 : Hid (Below w.heap.size w (wr.alloc (.cells (iV [(k : Int)]).toArray 3))) := hB5.alloc hB5.size _
            have e9 : (iV [(k : Int)]).toArray = #[Value.int .i64 (k : Int)] := rfl
            have e8 : decide (nI [k] = [(k : Int)]) = true := by simp [nI]
            rw [e9] at hsi HB6
            rw [e8] at hsi
            clear hv hB5 hlit HV HB3 hBj hui hgb2 hbits
            go_wp2_with fail
            go_at_call 10
            refine hsi.mono ?_
            rintro e w5 ⟨rfl, hB6⟩
            have HB7 := HB6.out.trans (hB6.mono (Below.size HB6.out))
            clear HB6 hB6 hsi
            go_wp2_with fail
            go_at_call 8
            refine (known7_any hP hG _).mono ?_
            rintro e w6 ⟨rfl, hB8⟩
            have HB9 := HB7.trans (hB8.mono HB7.size)
            clear HB7 hB8
            go_wp2
            go_ret
            exact ⟨rfl, HB9⟩
theorem lawBitsTold_any (hP : PutOk) (hG : GetOk) (b : List Bool) (x : Option Addr) (n c : Nat) (at' : Int) (mask : Nat) (w : World) (hn : b.length = n) (hnc : n ≤ c) (hcm : c ≤ maxLen) (hb : IsG w (.slice x n c) (bV b))
    (h0 : -9223372036854775808 ≤ at') (h1 : at' ≤ 9223372036854775807) (hmk : mask < 4294967296) :
    Calls Try.prog 3 #[.slice x n c, .int .i64 at', .int .u32 (mask : Int)] w fun e w' => e = .returned (.bool true) ∧ Below w.heap.size w w' := by
  by_cases hbig : 1100 < n
  · exact told_big hP hG b x n c at' mask w hn hnc hcm hb hbig
  · by_cases hm : manyN n = 0
    · exact told_none hP hG b x n c at' mask w hn hnc hcm hb hbig (.inl hm)
    · by_cases hz : mask = 0
      · exact told_none hP hG b x n c at' mask w hn hnc hcm hb hbig (.inr ⟨hm, hz⟩)
      · exact told_main hP hG b x n c at' mask w hn hnc hcm hb hbig hm hz h0 h1 hmk
end Go.Proofs.Ytfnffkommcepoaa
