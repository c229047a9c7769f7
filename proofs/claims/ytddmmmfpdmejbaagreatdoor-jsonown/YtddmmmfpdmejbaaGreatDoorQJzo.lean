import Derived.Test.YtddmmmfpdmejbaaGreatDoorQJzm
import Derived.Test.YtddmmmfpdmejbaaGreatDoorQLxu
namespace Go.Proofs.YtddmmmfpdmejbaaGreatDoor
open Go.RowKit

/-! isFormless, isStray, hasStrays -/
def sdQ (l : List UInt8) : Bool := decide (quE l ≠ 0)
set_option linter.unusedSimpArgs false in
set_option maxRecDepth 100000 in
theorem isStray15_any (s : ByteArray) (w : World) (hs : s.size ≤ 17592186044416) : Calls Tryz.prog 71 #[.string s] w fun e w' => e = .returned (.bool (sdQ (lS s))) ∧ Below w.heap.size w w' := by
  have hQ := lexOk.quo s w hs
  obtain ⟨R, hR⟩ : ∃ q, sdQ (lS s) = q := ⟨_, rfl⟩
  have HR : Hid (sdQ (lS s) = R) := hR
  rw [hR]
  clear hR
  obtain ⟨E, hE⟩ : ∃ q, quE (lS s) = q := ⟨_, rfl⟩
  have HE : Hid (quE (lS s) = E) := hE
  unfold QuP at hQ
  rw [hE] at hQ
  clear hE
  go_enter Tryz.func71, Tryz.ntmps71
  go_wp2_with fail
  refine hQ.mono ?_
  rintro e w1 ⟨rfl, hb1⟩
  clear hQ
  by_cases h0 : E = 0
  · have f0 : Hid ((E != 0) = false) := by show _ = _; rw [h0]; rfl
    have hRf : R = false := by rw [← HR.out]; unfold sdQ; rw [HE.out]; exact decide_eq_false (fun h => h h0)
    subst hRf
    clear h0
    go_wp2
    go_ret
    exact ⟨congrArg (fun q => Ending.returned (.bool q)) f0.out, hb1⟩
  · have f0 : Hid ((E != 0) = true) := by show _ = _; rw [bne_iff_ne]; exact h0
    have hRf : R = true := by rw [← HR.out]; unfold sdQ; rw [HE.out]; exact decide_eq_true h0
    subst hRf
    clear h0
    go_wp2
    go_ret
    exact ⟨congrArg (fun q => Ending.returned (.bool q)) f0.out, hb1⟩
theorem entersS15 : ∀ args w, (callFunc 71 args).run Tryz.prog w = .ok (.enter 71 args) w := enters_of Tryz.func71 (by kernel_rfl) rfl
theorem anyK_take {f : ByteArray → Bool} {vs : List ByteArray} {j : Nat} {d : ByteArray} (hd : vs[j]? = some d) : (vs.take (j + 1)).any f = ((vs.take j).any f || f d) := by
  rw [List.take_add_one, hd]
  simp
def IxP (kb : List ByteArray) (w : World) (e : Ending) (w' : World) : Prop := ∃ r : Int, e = .returned (.int .i64 r) ∧ decide (0 ≤ r) = kb.any (fun t => sdQ (lS t)) ∧ Below w.heap.size w w'
set_option linter.unusedSimpArgs false in
set_option maxRecDepth 100000 in
set_option maxHeartbeats 4000000 in
theorem indexF15_any (x : Option Addr) (m c : Nat) (kb : List ByteArray) (w : World) (h : IsG w (.slice x m c) (strs kb)) (hz : m ≤ 8796093022208) (hs : ∀ t ∈ kb, t.size ≤ 17592186044416) :
    Calls Tryz.prog 96 #[.slice x m c, .func (.func 71) #[] #[]] w fun e w' => IxP kb w e w' := by
  have hnum : m = kb.length := by have h9 : m = (strs kb).length := IsG.num (a := ⟨x, m, c⟩) h; rw [h9]; simp [strs]
  have HG : Hid (IsG w (.slice x m c) (strs kb) ∧ m = kb.length ∧ ∀ t ∈ kb, t.size ≤ 17592186044416) := ⟨h, hnum, hs⟩
  clear h hnum hs
  have hS := entersS15
  go_enter Tryz.func96, Tryz.ntmps96
  go_wp2_with fail
  go_loopw [8] (fun iv wr => ∃ j : Nat, j ≤ m ∧ iv = .int .i64 j ∧ Below w.heap.size w wr ∧ Hid ((kb.take j).any (fun t => sdQ (lS t)) = false)) (fun iv _ => m - (intOf iv).toNat)
  case atStart => exact ⟨0, Nat.zero_le _, rfl, Below.refl _ _, rfl⟩
  case round =>
    obtain ⟨j, hj, rfl, hB, HA⟩ := hrel
    by_cases hlt : j < m
    · have i1 : (j : Int) < (m : Int) := by omega
      have i0 : (0 : Int) ≤ (j : Int) := by omega
      obtain ⟨hG, hnum, hs⟩ := HG.out
      obtain ⟨u, hu⟩ : ∃ q, kb[j]? = some q := ⟨_, List.getElem?_eq_getElem (by omega)⟩
      obtain ⟨b, pp, rfl, -, cu⟩ := IsG.spot hG j (by simp [strs]; omega)
      have q1 := cell_later hB (cu j (.string u) (by simp [strs, hu]))
      have hC := isStray15_any u wr (hs u (List.mem_of_getElem? hu))
      have hwr : IntKind.i64.wrap ((j : Int) + 1) = (j : Int) + 1 := by rw [IntKind.wrap_i64]; omega
      obtain ⟨r9, hr9⟩ : ∃ q, sdQ (lS u) = q := ⟨_, rfl⟩
      have hat := anyK_take (f := fun t => sdQ (lS t)) hu
      have HAt : Hid ((kb.take (j + 1)).any (fun t => sdQ (lS t)) = r9) := by show _ = _; rw [hat, HA.out, hr9]; rfl
      have HT : Hid (r9 = true → kb.any (fun t => sdQ (lS t)) = true) := fun h9 => List.any_eq_true.2 ⟨u, List.mem_of_getElem? hu, by rw [hr9]; exact h9⟩
      rw [hr9] at hC
      clear hu hG hnum hs cu hr9 hat HA
      go_wp2_with fail
      refine hC.mono ?_
      rintro e w2 ⟨rfl, hb2⟩
      have hB2 := hB.trans (hb2.mono hB.size)
      clear hC q1 hB
      cases r9 with
      | true =>
        have H9 := HT.out rfl
        go_wp2
        go_ret
        exact ⟨(j : Int), rfl, by rw [H9]; exact decide_eq_true (by omega), hB2⟩
      | false =>
        go_wp2
        go_roundw
        case rel => first | exact ⟨j + 1, by omega, by go_num, hB2, HAt⟩ | ((repeat apply Exists.intro); refine ⟨⟨j + 1, by omega, ?_, hB2, HAt⟩, rfl⟩; go_num)
        case measure => simp [intOf]; omega
    · obtain rfl : j = m := by omega
      have i1 : ¬ (j : Int) < (j : Int) := by omega
      have HF : Hid (kb.any (fun t => sdQ (lS t)) = false) := by
        obtain ⟨hG, hnum, hs⟩ := HG.out
        have h9 := HA.out
        rw [List.take_of_length_le (by omega)] at h9
        exact h9
      go_wp2
      go_ret
      exact ⟨-1, rfl, by rw [HF.out]; rfl, hB⟩
set_option linter.unusedSimpArgs false in
set_option maxRecDepth 100000 in
theorem containsF15_any (x : Option Addr) (m c : Nat) (kb : List ByteArray) (w : World) (h : IsG w (.slice x m c) (strs kb)) (hz : m ≤ 8796093022208) (hs : ∀ t ∈ kb, t.size ≤ 17592186044416) :
    Calls Tryz.prog 72 #[.slice x m c, .func (.func 71) #[] #[]] w fun e w' => e = .returned (.bool (kb.any (fun t => sdQ (lS t)))) ∧ Below w.heap.size w w' := by
  have hI := indexF15_any x m c kb w h hz hs
  unfold IxP at hI
  obtain ⟨R, hR⟩ : ∃ q, kb.any (fun t => sdQ (lS t)) = q := ⟨_, rfl⟩
  rw [hR] at hI ⊢
  clear hR
  go_enter Tryz.func72, Tryz.ntmps72
  go_wp2_with fail
  refine hI.mono ?_
  rintro e w1 ⟨r, rfl, hr, hb1⟩
  clear hI
  have HR9 : Hid (decide (0 ≤ r) = R) := hr
  clear hr
  go_wp2
  go_ret
  exact ⟨congrArg (fun q => Ending.returned (.bool q)) HR9.out, hb1⟩
theorem quE_nilz : quE [] = 0 := by decide
theorem szK_mem : ∀ (kb : List ByteArray) (t : ByteArray), t ∈ kb → t.size ≤ ((kb.map lS).map (fun t => t.length + 16)).sum
  | a :: r, t, h => by
    simp only [List.map_cons, List.sum_cons]
    rcases List.mem_cons.1 h with rfl | h
    · rw [lS_len]; omega
    · have := szK_mem r t h; omega
set_option linter.unusedSimpArgs false in
set_option maxRecDepth 100000 in
set_option maxHeartbeats 4000000 in
theorem hasStrays15_any : SdOk 47 strP := by
  intro w F v d hv hsz
  obtain ⟨R, hR⟩ : ∃ q, strP d = q := ⟨_, rfl⟩
  have HR : Hid (strP d = R) := hR
  rw [hR]
  clear hR
  have hnil : decide (quE [] ≠ 0) = false := by rw [quE_nilz]; rfl
  cases hv using VlG.rc with
  | nil k hk =>
    obtain rfl : R = false := by rw [← HR.out]; show (decide (quE [] ≠ 0) || _) = false; rw [hnil]; rfl
    go_enter Tryz.func47, Tryz.ntmps47
    go_wp2
    go_ret
    exact ⟨rfl, Below.refl _ _⟩
  | null =>
    obtain rfl : R = false := by rw [← HR.out]; show (decide (quE [] ≠ 0) || _) = false; rw [hnil]; rfl
    go_enter Tryz.func47, Tryz.ntmps47
    go_wp2
    go_ret
    exact ⟨rfl, Below.refl _ _⟩
  | bool b =>
    obtain rfl : R = false := by rw [← HR.out]; show (decide (quE [] ≠ 0) || _) = false; rw [hnil]; rfl
    go_enter Tryz.func47, Tryz.ntmps47
    go_wp2
    go_ret
    exact ⟨rfl, Below.refl _ _⟩
  | num n hn =>
    obtain rfl : R = false := by rw [← HR.out]; show (decide (quE [] ≠ 0) || _) = false; rw [hnil]; rfl
    go_enter Tryz.func47, Tryz.ntmps47
    go_wp2
    go_ret
    exact ⟨rfl, Below.refl _ _⟩
  | str s =>
    have hS := isStray15_any s w (by rw [szN_mk] at hsz; have := lS_len s; omega)
    have hRe : sdQ (lS s) = R := by rw [← HR.out]; unfold strP sdQ; simp
    rw [hRe] at hS
    clear hRe
    go_enter Tryz.func47, Tryz.ntmps47
    go_wp2_with fail
    refine hS.mono ?_
    rintro e w1 ⟨rfl, hb1⟩
    clear hS
    go_wp2
    go_ret
    exact ⟨rfl, hb1⟩
  | list a us ds hv hF hl hz he r9 =>
    clear r9
    obtain rfl : R = false := by rw [← HR.out]; show (decide (quE [] ≠ 0) || _) = false; rw [hnil]; rfl
    obtain ⟨ax, an, ac⟩ := a
    simp only [Sl.v]
    clear hv hF hl hz he
    go_enter Tryz.func47, Tryz.ntmps47
    go_wp2
    go_ret
    exact ⟨rfl, Below.refl _ _⟩
  | obj ks a kb us ds hk hkF hv hF hl hz he r9 =>
    clear r9
    obtain ⟨ax, an, ac⟩ := a
    obtain ⟨kx, kn, kc⟩ := ks
    have bA := below_alloc w (.cells #[.slice kx kn kc, .slice ax an ac] 70)
    have hC := containsF15_any kx kn kc kb (w.alloc (.cells #[.slice kx kn kc, .slice ax an ac] 70)) (isG_kept15 hk bA) hz.1 (fun t ht => by rw [szN_mk] at hsz; have := szK_mem kb t ht; omega)
    have hRe : kb.any (fun t => sdQ (lS t)) = R := by
      rw [← HR.out]; show _ = (decide (quE [] ≠ 0) || _); rw [hnil, Bool.false_or, List.any_map]; rfl
    rw [hRe] at hC
    simp only [Sl.v]
    clear hv hF hl hz he hk hkF hRe
    go_enter Tryz.func47, Tryz.ntmps47
    go_upto_region 7 with fail
    have c0 : (w.alloc (.cells #[.slice kx kn kc, .slice ax an ac] 70)).cell? ⟨w.heap.size, 0, none⟩ = some (.slice kx kn kc) := (RowC.new w #[.slice kx kn kc, .slice ax an ac] 70).cell 0
    generalize w.alloc (.cells #[.slice kx kn kc, .slice ax an ac] 70) = Y at *
    go_wp2_with fail
    refine hC.mono ?_
    rintro e w1 ⟨rfl, hb1⟩
    clear hC
    go_wp2
    go_ret
    exact ⟨rfl, bA.trans (hb1.mono bA.size)⟩
set_option linter.unusedSimpArgs false in
set_option maxRecDepth 100000 in
set_option maxHeartbeats 4000000 in
theorem isFormless15_any : SdOk 46 fmlP := by
  intro w F v d hv hsz
  obtain ⟨R, hR⟩ : ∃ q, fmlP d = q := ⟨_, rfl⟩
  have HR : Hid (fmlP d = R) := hR
  rw [hR]
  clear hR hsz
  cases hv using VlG.rc with
  | nil k hk =>
    obtain rfl : R = true := by rw [← HR.out]; show (!(decide (1 ≤ k ∧ k ≤ 6) && _ && _)) = true; rw [decide_eq_false hk]; rfl
    go_enter Tryz.func46, Tryz.ntmps46
    go_wp2
    go_ret
    exact ⟨rfl, Below.refl _ _⟩
  | null =>
    obtain rfl : R = false := by rw [← HR.out]; rfl
    go_enter Tryz.func46, Tryz.ntmps46
    go_wp2
    go_ret
    exact ⟨rfl, Below.refl _ _⟩
  | bool b =>
    obtain rfl : R = false := by rw [← HR.out]; rfl
    go_enter Tryz.func46, Tryz.ntmps46
    go_wp2
    go_ret
    exact ⟨rfl, Below.refl _ _⟩
  | num n hn =>
    have hRe : R = decide (n < 0) := by rw [← HR.out]; unfold fmlP; simp
    by_cases h0 : n < 0
    · obtain rfl : R = true := by rw [hRe]; exact decide_eq_true h0
      clear hRe
      go_enter Tryz.func46, Tryz.ntmps46
      go_wp2
      go_ret
      exact ⟨rfl, Below.refl _ _⟩
    · obtain rfl : R = false := by rw [hRe]; exact decide_eq_false h0
      clear hRe
      go_enter Tryz.func46, Tryz.ntmps46
      go_wp2
      go_ret
      exact ⟨rfl, Below.refl _ _⟩
  | str s =>
    obtain rfl : R = false := by rw [← HR.out]; rfl
    go_enter Tryz.func46, Tryz.ntmps46
    go_wp2
    go_ret
    exact ⟨rfl, Below.refl _ _⟩
  | list a us ds hv hF hl hz he r9 =>
    clear r9
    obtain rfl : R = false := by rw [← HR.out]; rfl
    obtain ⟨ax, an, ac⟩ := a
    simp only [Sl.v]
    clear hv hF hl hz he
    go_enter Tryz.func46, Tryz.ntmps46
    go_wp2
    go_ret
    exact ⟨rfl, Below.refl _ _⟩
  | obj ks a kb us ds hk hkF hv hF hl hz he r9 =>
    clear r9
    obtain ⟨ax, an, ac⟩ := a
    obtain ⟨kx, kn, kc⟩ := ks
    have bA := below_alloc w (.cells #[.slice kx kn kc, .slice ax an ac] 70)
    have h1 : kn = kb.length := by have h9 : kn = (strs kb).length := IsG.num (a := ⟨kx, kn, kc⟩) hk; rw [h9]; simp [strs]
    have h2 : an = us.length := IsG.num (a := ⟨ax, an, ac⟩) hv
    have hRe : R = decide (kn ≠ an) := by
      rw [← HR.out]; unfold fmlP
      rw [h1, h2, hl]
      simp
    have HB : Hid (Below w.heap.size w (w.alloc (.cells #[.slice kx kn kc, .slice ax an ac] 70))) := bA
    simp only [Sl.v]
    clear hv hF hl hz he hk hkF h1 h2 bA
    by_cases h0 : kn = an
    · obtain rfl : R = false := by rw [hRe]; exact decide_eq_false (fun h => h h0)
      subst h0
      clear hRe
      go_enter Tryz.func46, Tryz.ntmps46
      go_wp2
      go_ret
      exact ⟨rfl, HB.out⟩
    · obtain rfl : R = true := by rw [hRe]; exact decide_eq_true h0
      have f0 : Hid (((kn : Int) != (an : Int)) = true) := by show _ = _; rw [bne_iff_ne]; omega
      clear hRe h0
      go_enter Tryz.func46, Tryz.ntmps46
      go_wp2
      go_ret
      exact ⟨congrArg (fun q => Ending.returned (.bool q)) f0.out, HB.out⟩
end Go.Proofs.YtddmmmfpdmejbaaGreatDoor
