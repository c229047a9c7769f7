
import Derived.Test.YtfnffkommcepoaaBit7
import Derived.Test.YtfnffkommcepoaaLawBitsTold
namespace Go.Proofs.Ytfnffkommcepoaa
open Go.RowKit

/-! BitsBack -/
theorem kS_lists {a b : List Sc} (h : a.map kS = b.map kS) : decide (a.map kS = b.map kS) = true := by simp [h]
set_option maxRecDepth 100000 in
set_option maxHeartbeats 400000 in
theorem back_big (hP : PutOk) (hG : GetOk) (b : List Bool) (x : Option Addr) (n c : Nat) (v : Value) (w : World) (hn : b.length = n) (hnc : n ≤ c) (hcm : c ≤ maxLen) (hb : IsG w (.slice x n c) (bV b)) (hbig : 1100 < n) :
    Calls Try.prog 5 #[.slice x n c, v] w fun e w' => e = .returned (.bool true) ∧ Below w.heap.size w w' := by
  obtain ⟨a, rfl⟩ := hb.some' (by omega)
  have hcut := hb.cut (m := 1100) (by omega)
  rw [bV_take] at hcut
  have hput := hP (b.take 1100) (some a) 1100 c w (by rw [List.length_take]; omega) (by omega) hcm (by omega) hcut
  rw [many_big] at hput
  have hbig' : (1100 : Int) < (n : Int) := by omega
  have hc' : 1100 ≤ c := by omega
  go_enter Try.func5, Try.ntmps5
  clear hb hcut
  go_wp2_with fail
  go_at_call 7
  refine hput.mono ?_
  rintro e w1 ⟨y, c', rfl, -, hB1⟩
  clear hput
  go_wp2_with fail
  go_at_call 8
  refine (known7_any hP hG _).mono ?_
  rintro e w2 ⟨rfl, hB2⟩
  have HB := hB1.trans (hB2.mono hB1.size)
  clear hB1 hB2
  go_wp2
  go_ret
  exact ⟨rfl, HB⟩
set_option maxRecDepth 100000 in
set_option maxHeartbeats 400000 in
theorem back_none (hP : PutOk) (hG : GetOk) (b : List Bool) (x : Option Addr) (n c : Nat) (v : Value) (w : World) (hn : b.length = n) (hnc : n ≤ c) (hcm : c ≤ maxLen) (hb : IsG w (.slice x n c) (bV b)) (hbig : ¬ 1100 < n) (hz : (n < 64 ∨ (¬ n < 64 ∧ 1024 < n))) :
    Calls Try.prog 5 #[.slice x n c, v] w fun e w' => e = .returned (.bool true) ∧ Below w.heap.size w w' := by
  have hput := hP b x n c w hn hnc hcm (by omega) hb
  have hm : manyN n = 0 := by unfold manyN; rw [if_neg (by omega)]
  rw [hm] at hput
  have hbig' : ¬ (1100 : Int) < (n : Int) := by omega
  have hz' : ((n : Int) < 64 ∨ (¬ (n : Int) < 64 ∧ (1024 : Int) < (n : Int))) := by omega
  clear hz hb
  rcases hz' with hz | ⟨hz, hz2⟩
  all_goals
    go_enter Try.func5, Try.ntmps5
    go_wp2_with fail
    go_at_call 7
    refine hput.mono ?_
    rintro e w1 ⟨y, c', rfl, -, hB1⟩
    clear hput
    go_wp2_with fail
    go_at_call 8
    refine (known7_any hP hG _).mono ?_
    rintro e w2 ⟨rfl, hB2⟩
    have HB := hB1.trans (hB2.mono hB1.size)
    clear hB1 hB2
    go_wp2
    go_ret
    exact ⟨rfl, HB⟩
set_option linter.unusedSimpArgs false in
set_option maxRecDepth 100000 in
set_option maxHeartbeats 800000 in
theorem back_main (hP : PutOk) (hG : GetOk) (b : List Bool) (x : Option Addr) (n c : Nat) (ps : List Pt) (xp : Option Addr) (np cp : Nat) (w : World) (hn : b.length = n) (hnc : n ≤ c) (hcm : c ≤ maxLen) (hb : IsG w (.slice x n c) (bV b)) (h64 : 64 ≤ n) (h1024 : n ≤ 1024)
    (hnp : ps.length = np) (hlp : np ≤ 140737488355328) (hp : IsK patE w (.slice xp np cp) ps) :
    Calls Try.prog 5 #[.slice x n c, .slice xp np cp] w fun e w' => e = .returned (.bool true) ∧ Below w.heap.size w w' := by
  have hput := hP b x n c w hn hnc hcm (by omega) hb
  have hbig' : ¬ (1100 : Int) < (n : Int) := by omega
  have hz1 : ¬ (n : Int) < 64 := by omega
  have hz2 : ¬ (1024 : Int) < (n : Int) := by omega
  have hm : manyN n ≠ 0 := manyN_pos.2 ⟨h64, h1024⟩
  have hm3 := manyN_le n
  have hmd : ((n : Int) + 479) / 480 = ((manyN n : Nat) : Int) := by unfold manyN; rw [if_pos ⟨h64, h1024⟩]; omega
  obtain ⟨M, hM⟩ : ∃ M, manyN n = M := ⟨_, rfl⟩
  rw [hM] at hput hm hm3 hmd
  have hgp := get_put b (by rw [hn, hM]; exact hm)
  rw [hn] at hgp
  go_enter Try.func5, Try.ntmps5
  go_wp2_with fail
  go_at_call 7
  refine hput.mono ?_
  rintro e w1 ⟨y, c', rfl, hO, hB1⟩
  clear hput
  have hget := hG (putL b) y M c' (n : Int) w1 (by rw [putL_len, hn, hM]) hm3 (by omega) (by omega) (hO.isK secE_ok)
  rw [Int.toNat_natCast, hgp.1, hgp.2] at hget
  clear hO
  go_wp2_with fail
  go_at_call 9
  refine hget.mono ?_
  rintro e w2 ⟨u, v, rfl, hu, hv, -, hB2⟩
  clear hget hgp
  have hB := hB1.trans (hB2.mono hB1.size)
  have hb2 := hb.kept hB
  clear hB1 hB2
  obtain ⟨xu, cu, rfl⟩ := OwnG.len hu
  obtain ⟨xv, cv, rfl⟩ := OwnG.len hv
  have hl0 : (iV (nI [])).length = 0 := rfl
  rw [bV_len, hn] at hu ⊢
  rw [hl0]
  have hsb := sameB_any xu x cu c n n b b w2 hn hn hu.isG hb2 (by omega)
  simp only [decide_true] at hsb
  have HB : Hid (Below w.heap.size w w2) := hB
  clear hu hv hl0 hB hb2
  go_wp2_with fail
  go_at_call 13
  refine hsb.mono ?_
  rintro e w3 ⟨rfl, hB3⟩
  clear hsb
  have hB := HB.out.trans (hB3.mono (Below.size HB.out))
  clear HB hB3
  have hpat := patched_any b x n c ps xp np cp w3 hn (by omega) (hb.kept hB) hnp hlp (hp.kept hB)
  rw [hM] at hpat
  have HB : Hid (Below w.heap.size w w3) := hB
  clear hB
  go_wp2_with fail
  go_at_call 14
  refine hpat.mono ?_
  rintro e w4 ⟨yt, ct, es, rfl, hel, hOt, hB4⟩
  clear hpat
  have hB := HB.out.trans (hB4.mono (Below.size HB.out))
  clear HB hB4
  have hget := hG es yt M ct (n : Int) w4 hel hm3 (by omega) (by omega) (hOt.isK secE_ok)
  rw [Int.toNat_natCast] at hget
  go_wp2_with fail
  go_at_call 9
  refine hget.mono ?_
  rintro e w5 ⟨u, v, rfl, hu, hv, -, hB5⟩
  clear hget
  have hok : manyN n ≠ 0 ∧ es.length = manyN n := ⟨by rw [hM]; exact hm, by rw [hel, hM]⟩
  have hdl := getBits_len hok
  have hpg := put_get (l := es) (n := n) hok
  have hbf : ∀ k i, k ∈ getBad es n → 480 * k ≤ i → i < 480 * k + 480 → i < n → (getBits es n)[i]? = some false := fun k i h1 h2 h3 h4 => by
    rw [getBits_get hok i h4, bad_false h1 h2 h3]
  have hbl : ∀ k, k ∈ getBad es n → k < M := fun k h1 => by rw [← hel]; exact bad_lt h1
  replace hOt := hOt.keep hB5
  replace hB := hB.trans (hB5.mono hB.size)
  have hblen : (getBad es n).length ≤ 3 := by have := bad_len es n; omega
  generalize getBits es n = d at hu hdl hpg hbf
  generalize getBad es n = bad at hv hpg hbf hbl hblen
  clear hB5 hok
  obtain ⟨xu2, cu2, rfl⟩ := OwnG.len hu
  obtain ⟨xv2, cv2, rfl⟩ := OwnG.len hv
  rw [bV_len, hdl] at hu ⊢
  rw [iV_len, nI_len] at hv ⊢
  obtain ⟨q, hq⟩ : ∃ q, bad.length = q := ⟨_, rfl⟩
  rw [hq] at hv hblen ⊢
  by_cases hq0 : q = 0
  · have hbn : bad = [] := List.eq_nil_of_length_eq_zero (by omega)
    have hpgb := hpg hbn
    have hdf := hu.form (by intro h; have := congrArg List.length h; rw [bV_len, hdl] at this; simp at this; omega)
    obtain ⟨gd, cd, hde, -, -, hdc, hdm⟩ := hdf
    simp only [Value.slice.injEq] at hde
    obtain ⟨rfl, -, rfl⟩ := hde
    rw [bV_len, hdl] at hdc
    have hput := hP d (some ⟨gd, 0, none⟩) n cu2 w5 hdl hdc hdm (by omega) hu.isG
    rw [hM] at hput
    have hq1 : ((q : Int) == 0) = true := by simp; omega
    clear hpg
    go_wp2_with fail
    go_at_call 7
    refine hput.mono ?_
    rintro e w6 ⟨y6, c6, rfl, hO6, hB6⟩
    clear hput
    have hss := sameS7_any y6 yt c6 ct M M (putL d) es w6 (by rw [putL_len, hdl, hM]) hel (hO6.isK secE_ok) ((hOt.keep hB6).isK secE_ok) (by omega)
    rw [kS_lists hpgb] at hss
    replace hu := hu.keep hB6
    replace hv := hv.keep hB6
    replace hB := hB.trans (hB6.mono hB.size)
    have HU : Hid (OwnG 4 w6 w4.heap.size (.slice (some ⟨gd, 0, none⟩) n cu2) (bV d)) := hu
    have HV : Hid (OwnG 3 w6 w4.heap.size (.slice xv2 q cv2) (iV (nI bad))) := hv
    have HB : Hid (Below w.heap.size w w6) := hB
    clear hu hv hB hB6 hO6 hOt hpgb
    go_wp2_with fail
    go_at_call 12
    refine hss.mono ?_
    rintro e w7 ⟨rfl, hB7⟩
    clear hss
    have hu := OwnG.keep HU.out hB7
    have hv := OwnG.keep HV.out hB7
    have hB := HB.out.trans (hB7.mono (Below.size HB.out))
    clear HU HV HB hB7 hq1
    have hui := hu.isG
    have hvi := hv.isG
    clear hu hv
    have HB : Hid (Below w.heap.size w w7) := hB
    clear hB
    go_wp2_with fail
    go_loopw [82] (fun v wr => ∃ i : Nat, i ≤ q ∧ v = .int .i64 i ∧ Below w7.heap.size w7 wr) (fun v _ => q - (intOf v).toNat)
    case atStart => exact ⟨0, by omega, rfl, Below.refl _ _⟩
    case round =>
      obtain ⟨i, hi, rfl, hBi⟩ := hrel
      by_cases hiq : i < q
      · exfalso; omega
      · obtain rfl : i = q := by omega
        have hB9 := HB.out.trans (hBi.mono (Below.size HB.out))
        clear HB hBi hui hvi
        go_wp2_with fail
        go_at_call 8
        refine (known7_any hP hG _).mono ?_
        rintro e w9 ⟨rfl, hB8⟩
        have HB9 := hB9.trans (hB8.mono hB9.size)
        clear hB9 hB8
        go_wp2
        go_ret
        exact ⟨rfl, HB9⟩
  · have hq1 : ((q : Int) == 0) = false := by simp; omega
    clear hpg hOt
    obtain ⟨w7, rfl⟩ : ∃ w7, w7 = w5 := ⟨_, rfl⟩
    have hui := hu.isG
    have hvi := hv.isG
    clear hu hv
    have HB : Hid (Below w.heap.size w w7) := hB
    clear hB
    go_wp2_with fail
    go_loopw [82] (fun v wr => ∃ i : Nat, i ≤ q ∧ v = .int .i64 i ∧ Below w7.heap.size w7 wr) (fun v _ => q - (intOf v).toNat)
    case atStart => exact ⟨0, by omega, rfl, Below.refl _ _⟩
    case round =>
      obtain ⟨i, hi, rfl, hBi⟩ := hrel
      by_cases hiq : i < q
      · have hiq' : (i : Int) < (q : Int) := by omega
        obtain ⟨k, hk⟩ : ∃ k, bad[i]? = some k := ⟨bad[i]'(by omega), List.getElem?_eq_getElem (by omega)⟩
        have hkm : k ∈ bad := List.mem_of_getElem? hk
        have hkM := hbl k hkm
        have hbk := fun i => hbf k i hkm
        obtain ⟨b1, o1, rfl, hb1, hc1⟩ := (hvi.kept hBi).spot i (by rw [iV_len, nI_len]; omega)
        have hc2 := hc1 i _ (iV_at (a := (k : Int)) (by unfold nI; rw [List.getElem?_map, hk]; rfl))
        have hk0 : ¬ (k : Int) < 0 := by omega
        have hk1 : ¬ (M : Int) ≤ (k : Int) := by omega
        have hk3 : (k : Int) ≤ 3 := by omega
        clear hc1
        go_upto_region 18 with fail
        clear hc2
        obtain ⟨wo, rfl⟩ : ∃ wo, wo = wr := ⟨_, rfl⟩
        go_wp2_with fail
        go_loopw [13] (fun v wr => ∃ t : Nat, 480 * k ≤ t ∧ t ≤ 480 * k + 480 ∧ v = .int .i64 t ∧ Below w7.heap.size w7 wr) (fun v _ => 480 * k + 480 - (intOf v).toNat)
        case atStart => exact ⟨480 * k, by omega, by omega, by simp, hBi⟩
        case round =>
          clear hBi
          obtain ⟨t, ht0, ht1, rfl, hBt⟩ := hrel
          have ht9 : (t : Int) ≤ 480 * (k : Int) + 480 := by omega
          by_cases hte : t < 480 * k + 480
          · have hte' : (t : Int) < 480 * (k : Int) + 480 := by omega
            by_cases htn : t < n
            · have htn' : (t : Int) < (n : Int) := by omega
              obtain ⟨b3, o3, he3, hb3, hc3⟩ := (hui.kept hBt).spot t (by rw [bV_len, hdl]; exact htn)
              have hc4 := hc3 t _ (bV_at (hbk t ht0 hte htn))
              subst he3
              clear hc3
              go_wp2
              go_roundw
              case rel => exact ⟨t + 1, by omega, by omega, by go_num, hBt⟩
              case measure => simp [intOf]; omega
            · have htn' : ¬ (t : Int) < (n : Int) := by omega
              go_wp2
              go_roundw
              case rel => exact ⟨i + 1, by omega, by go_num, hBt⟩
              case measure => simp [intOf]; omega
          · have hte' : ¬ (t : Int) < 480 * (k : Int) + 480 := by omega
            go_wp2
            go_roundw
            case rel => exact ⟨i + 1, by omega, by go_num, hBt⟩
            case measure => simp [intOf]; omega
      · obtain rfl : i = q := by omega
        have hB9 := HB.out.trans (hBi.mono (Below.size HB.out))
        clear HB hBi hui hvi
        go_wp2_with fail
        go_at_call 8
        refine (known7_any hP hG _).mono ?_
        rintro e w9 ⟨rfl, hB8⟩
        have HB9 := hB9.trans (hB8.mono hB9.size)
        clear hB9 hB8
        go_wp2
        go_ret
        exact ⟨rfl, HB9⟩
theorem lawBitsBack_any (hP : PutOk) (hG : GetOk) (b : List Bool) (x : Option Addr) (n c : Nat) (ps : List Pt) (xp : Option Addr) (np cp : Nat) (w : World) (hn : b.length = n) (hnc : n ≤ c) (hcm : c ≤ maxLen) (hb : IsG w (.slice x n c) (bV b))
    (hnp : ps.length = np) (hlp : np ≤ 140737488355328) (hp : IsK patE w (.slice xp np cp) ps) :
    Calls Try.prog 5 #[.slice x n c, .slice xp np cp] w fun e w' => e = .returned (.bool true) ∧ Below w.heap.size w w' := by
  by_cases hbig : 1100 < n
  · exact back_big hP hG b x n c _ w hn hnc hcm hb hbig
  · by_cases h1 : 64 ≤ n ∧ n ≤ 1024
    · exact back_main hP hG b x n c ps xp np cp w hn hnc hcm hb h1.1 h1.2 hnp hlp hp
    · exact back_none hP hG b x n c _ w hn hnc hcm hb hbig (by omega)
end Go.Proofs.Ytfnffkommcepoaa
