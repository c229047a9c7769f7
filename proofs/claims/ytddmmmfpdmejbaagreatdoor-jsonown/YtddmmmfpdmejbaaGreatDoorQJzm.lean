import Derived.Test.YtddmmmfpdmejbaaGreatDoorQJok
import Derived.Test.YtddmmmfpdmejbaaGreatDoorQJza
namespace Go.Proofs.YtddmmmfpdmejbaaGreatDoor
open Go.RowKit

/-! parts, deeper, holds -/
def colN : Nd → Bool
  | .mk k _ _ _ _ => decide (k = 5 ∨ k = 6)
def valsN : Nd → List Nd
  | .mk _ _ _ _ vs => vs
/-- A list of values, with nils in it. -/
def LsG (w : World) (F : Nat → Prop) (a : Sl) (us : List Value) (vs : List Nd) : Prop := IsG w a.v us ∧ us.length = vs.length ∧ a.n ≤ 1759218604441 ∧ ∀ (i : Nat) u d, us[i]? = some u → vs[i]? = some d → VlG w F u d
def PaP (F : Nat → Prop) (d : Nd) (w : World) (e : Ending) (w' : World) : Prop := ∃ (a : Sl) (us : List Value), e = .returned (.tuple #[a.v, .bool (colN d)]) ∧ LsG w' F a us (valsN d) ∧ Below w.heap.size w w'
theorem LsG.nil (w : World) (F : Nat → Prop) : LsG w F slZ [] [] := ⟨.inl ⟨rfl, rfl⟩, rfl, Nat.zero_le _, fun i u d h => by simp at h⟩
theorem isG_kept15 {w w1 : World} {v : Value} {us : List Value} (h : IsG w v us) (hb : Below w.heap.size w w1) : IsG w1 v us := h.kept hb
set_option linter.unusedSimpArgs false in
set_option maxRecDepth 100000 in
set_option maxHeartbeats 4000000 in
theorem parts15_any (d : Nd) (F : Nat → Prop) (v : Value) (w : World) (h : VlG w F v d) : Calls Tryz.prog 62 #[v] w fun e w' => PaP F d w e w' := by
  cases h using VlG.rc with
  | nil k hk =>
    have hc : colN (.mk k 0 [] [] []) = false := by unfold colN; exact decide_eq_false (by omega)
    unfold PaP
    rw [hc]
    go_enter Tryz.func62, Tryz.ntmps62
    go_wp2
    go_ret2
    exact ⟨slZ, [], rfl, LsG.nil _ _, Below.refl _ _⟩
  | null =>
    unfold PaP
    rw [show colN (.mk 1 0 [] [] []) = false from rfl]
    go_enter Tryz.func62, Tryz.ntmps62
    go_wp2
    go_ret2
    exact ⟨slZ, [], rfl, LsG.nil _ _, Below.refl _ _⟩
  | bool b =>
    unfold PaP
    rw [show ∀ q, colN (.mk 2 q [] [] []) = false from fun _ => rfl]
    go_enter Tryz.func62, Tryz.ntmps62
    go_wp2
    go_ret2
    exact ⟨slZ, [], rfl, LsG.nil _ _, Below.refl _ _⟩
  | num n hn =>
    unfold PaP
    rw [show ∀ q, colN (.mk 3 q [] [] []) = false from fun _ => rfl]
    go_enter Tryz.func62, Tryz.ntmps62
    go_wp2
    go_ret2
    exact ⟨slZ, [], rfl, LsG.nil _ _, Below.refl _ _⟩
  | str s =>
    unfold PaP
    rw [show ∀ q, colN (.mk 4 0 q [] []) = false from fun _ => rfl]
    go_enter Tryz.func62, Tryz.ntmps62
    go_wp2
    go_ret2
    exact ⟨slZ, [], rfl, LsG.nil _ _, Below.refl _ _⟩
  | list a us ds hv hF hl hz he r9 =>
    clear r9
    unfold PaP
    rw [show ∀ q, colN (.mk 5 0 [] [] q) = true from fun _ => rfl]
    have HL : Hid (LsG w F a us (valsN (.mk 5 0 [] [] ds))) := ⟨hv, hl, hz, he⟩
    obtain ⟨ax, an, ac⟩ := a
    simp only [Sl.v]
    clear hv hF hl hz he
    go_enter Tryz.func62, Tryz.ntmps62
    go_wp2
    go_ret2
    exact ⟨⟨ax, an, ac⟩, us, rfl, HL.out, Below.refl _ _⟩
  | obj ks a kb us ds hk hkF hv hF hl hz he r9 =>
    clear r9
    unfold PaP
    rw [show ∀ q, colN (.mk 6 0 [] (kb.map lS) q) = true from fun _ => rfl]
    obtain ⟨ax, an, ac⟩ := a
    obtain ⟨kx, kn, kc⟩ := ks
    have bA := below_alloc w (.cells #[.slice kx kn kc, .slice ax an ac] 70)
    have HL : Hid (LsG (w.alloc (.cells #[.slice kx kn kc, .slice ax an ac] 70)) F ⟨ax, an, ac⟩ us (valsN (.mk 6 0 [] (kb.map lS) ds))) := ⟨isG_kept15 hv bA, hl, hz.2, fun i u d h1 h2 => (he i u d h1 h2).kept bA⟩
    have HB : Hid (Below w.heap.size w (w.alloc (.cells #[.slice kx kn kc, .slice ax an ac] 70))) := bA
    simp only [Sl.v]
    clear hv hF hl hz he hk hkF bA
    go_enter Tryz.func62, Tryz.ntmps62
    go_wp2
    go_ret2
    exact ⟨⟨ax, an, ac⟩, us, rfl, HL.out, HB.out⟩
def DpOk (d : Nd) : Prop := ∀ (w : World) (F : Nat → Prop) (v : Value) (n : Nat), VlG w F v d → n ≤ 1000000 → Calls Tryz.prog 33 #[v, .int .i64 (n : Int)] w fun e w' => e = .returned (.bool (decide (n < depN d))) ∧ Below w.heap.size w w'
theorem any_take {f : Nd → Bool} {vs : List Nd} {j : Nat} {d : Nd} (hd : vs[j]? = some d) : (vs.take (j + 1)).any f = ((vs.take j).any f || f d) := by
  rw [List.take_add_one, hd]
  simp
set_option linter.unusedSimpArgs false in
set_option maxRecDepth 100000 in
set_option maxHeartbeats 4000000 in
theorem deeper15_any : ∀ d, DpOk d := Nd.ind fun k nn s ks vs ih => by
  intro w F v n hv hn
  have hP := parts15_any _ F v w hv
  obtain ⟨R, hR⟩ : ∃ q, decide (n < depN (.mk k nn s ks vs)) = q := ⟨_, rfl⟩
  have HR : Hid (decide (n < depN (.mk k nn s ks vs)) = R) := hR
  rw [hR]
  clear hR
  obtain ⟨c, hc⟩ : ∃ q, colN (.mk k nn s ks vs) = q := ⟨_, rfl⟩
  have HC : Hid (decide (k = 5 ∨ k = 6) = c) := hc
  unfold PaP at hP
  rw [hc] at hP
  clear hc
  go_enter Tryz.func33, Tryz.ntmps33
  go_wp2_with fail
  refine hP.mono ?_
  rintro e w1 ⟨⟨ax, m, ac⟩, us, rfl, hL, hb1⟩
  clear hP
  cases c with
  | false =>
    have hRf : R = false := by
      rw [← HR.out, depN_mk, if_neg (of_decide_eq_false HC.out)]
      exact decide_eq_false (by omega)
    subst hRf
    simp only [Sl.v]
    go_wp2
    go_ret
    exact ⟨rfl, hb1⟩
  | true =>
    have HD : Hid (R = decide (n < depL vs + 1)) := by show _ = _; rw [← HR.out, depN_mk, if_pos (of_decide_eq_true HC.out)]
    clear HR HC
    by_cases h0 : n = 0
    · subst h0
      have hRt : R = true := by rw [HD.out]; exact decide_eq_true (by omega)
      subst hRt
      simp only [Sl.v]
      go_wp2
      go_ret
      exact ⟨rfl, hb1⟩
    · have f0 : ((n : Int) == 0) = false := beq_eq_false_iff_ne.2 (by omega)
      have hw0 : IntKind.i64.wrap ((n : Int) - 1) = ((n - 1 : Nat) : Int) := by rw [IntKind.wrap_i64]; omega
      obtain ⟨n1, hn1⟩ : ∃ q, n - 1 = q := ⟨_, rfl⟩
      rw [hn1] at hw0
      have HD2 : Hid (R = vs.any (fun d => decide (n1 < depN d))) := by
        show _ = _
        rw [HD.out, ← depL_any]
        exact decide_eq_decide.2 (by omega)
      have HN : Hid (n1 ≤ 1000000) := by show _ ≤ _; omega
      have HLs : Hid (LsG w1 F ⟨ax, m, ac⟩ us vs) := hL
      have hm : m ≤ 1759218604441 := hL.2.2.1
      simp only [Sl.v]
      clear hL HD h0 hn1 hn
      go_wp2_with fail
      go_loopw [20] (fun iv wr => ∃ j : Nat, j ≤ m ∧ iv = .int .i64 j ∧ Below w1.heap.size w1 wr ∧ Hid ((vs.take j).any (fun d => decide (n1 < depN d)) = false)) (fun iv _ => m - (intOf iv).toNat)
      case atStart => exact ⟨0, Nat.zero_le _, rfl, Below.refl _ _, rfl⟩
      case round =>
        obtain ⟨j, hj, rfl, hB, HA⟩ := hrel
        by_cases hlt : j < m
        · have i1 : (j : Int) < (m : Int) := by omega
          have i0 : (0 : Int) ≤ (j : Int) := by omega
          obtain ⟨hG, hl, -, he⟩ := HLs.out
          have hnum : m = us.length := IsG.num (a := ⟨ax, m, ac⟩) hG
          obtain ⟨u, hu⟩ : ∃ q, us[j]? = some q := ⟨_, List.getElem?_eq_getElem (by omega)⟩
          obtain ⟨dd, hdd⟩ : ∃ q, vs[j]? = some q := ⟨_, List.getElem?_eq_getElem (by omega)⟩
          obtain ⟨b, p, rfl, -, cu⟩ := IsG.spot hG j (by omega)
          have q1 := cell_later hB (cu j u hu)
          have hvl := (he j u dd hu hdd).kept hB
          have hC := ih dd (List.mem_of_getElem? hdd) wr F u n1 hvl HN.out
          have hwr : IntKind.i64.wrap ((j : Int) + 1) = (j : Int) + 1 := by rw [IntKind.wrap_i64]; omega
          obtain ⟨r9, hr9⟩ : ∃ q, decide (n1 < depN dd) = q := ⟨_, rfl⟩
          have hat := any_take (f := fun d => decide (n1 < depN d)) hdd
          have HAt : Hid ((vs.take (j + 1)).any (fun d => decide (n1 < depN d)) = r9) := by show _ = _; rw [hat, HA.out, hr9]; rfl
          have HT : Hid (r9 = true → R = true) := fun h9 => by
            rw [HD2.out]
            exact List.any_eq_true.2 ⟨dd, List.mem_of_getElem? hdd, by rw [hr9]; exact h9⟩
          rw [hr9] at hC
          clear hu hdd hG hl he hnum cu hvl hr9 hat HA
          go_wp2_with fail
          refine hC.mono ?_
          rintro e w2 ⟨rfl, hb2⟩
          have hB2 := hB.trans (hb2.mono hB.size)
          clear hC q1 hB
          cases r9 with
          | true =>
            obtain rfl := HT.out rfl
            go_wp2
            go_ret
            exact ⟨rfl, hb1.trans (hB2.mono hb1.size)⟩
          | false =>
            go_wp2
            go_roundw
            case rel => first | exact ⟨j + 1, by omega, by go_num, hB2, HAt⟩ | ((repeat apply Exists.intro); refine ⟨⟨j + 1, by omega, ?_, hB2, HAt⟩, rfl⟩; go_num)
            case measure => simp [intOf]; omega
        · obtain rfl : j = m := by omega
          have i1 : ¬ (j : Int) < (j : Int) := by omega
          have hRf : R = false := by
            obtain ⟨hG, hl, -, he⟩ := HLs.out
            have hnum : j = us.length := IsG.num (a := ⟨ax, j, ac⟩) hG
            have h9 := HA.out
            rw [List.take_of_length_le (by omega)] at h9
            rw [HD2.out]; exact h9
          subst hRf
          go_wp2
          go_ret
          exact ⟨rfl, hb1.trans (hB.mono hb1.size)⟩
end Go.Proofs.YtddmmmfpdmejbaaGreatDoor
namespace Go.Proofs.YtddmmmfpdmejbaaGreatDoor
open Go.RowKit

/-! holds -/
theorem szL_memz : ∀ (vs : List Nd) (d : Nd), d ∈ vs → szN d ≤ szL vs
  | a :: r, d, h => by
    rw [szL]
    rcases List.mem_cons.1 h with rfl | h
    · omega
    · have := szL_memz r d h; omega
/-- What is said of a value. -/
def SdOk (fn : FuncId) (p : Nd → Bool) : Prop := ∀ (w : World) (F : Nat → Prop) (v : Value) (d : Nd), VlG w F v d → szN d ≤ 1099511627776 → Calls Tryz.prog fn #[v] w fun e w' => e = .returned (.bool (p d)) ∧ Below w.heap.size w w'
def HdOk (fn : FuncId) (p : Nd → Bool) (d : Nd) : Prop := ∀ (w : World) (F : Nat → Prop) (v : Value), VlG w F v d → szN d ≤ 1099511627776 → Calls Tryz.prog 45 #[v, .func (.func fn) #[] #[]] w fun e w' => e = .returned (.bool (anyN p d)) ∧ Below w.heap.size w w'
set_option linter.unusedSimpArgs false in
set_option maxRecDepth 100000 in
set_option maxHeartbeats 4000000 in
theorem holds15_any (fn : FuncId) (p : Nd → Bool) (hF : ∀ args w, (callFunc fn args).run Tryz.prog w = .ok (.enter fn args) w) (hS : SdOk fn p) : ∀ d, HdOk fn p d := Nd.ind fun k nn s ks vs ih => by
  intro w F v hv hsz
  have hS1 := hS w F v _ hv hsz
  have hP := parts15_any _ F v w hv
  obtain ⟨R, hR⟩ : ∃ q, anyN p (.mk k nn s ks vs) = q := ⟨_, rfl⟩
  have HR : Hid (anyN p (.mk k nn s ks vs) = R) := hR
  rw [hR]
  clear hR
  obtain ⟨c, hc⟩ : ∃ q, p (.mk k nn s ks vs) = q := ⟨_, rfl⟩
  have HC : Hid (p (.mk k nn s ks vs) = c) := hc
  have HSM : Hid (∀ d ∈ vs, szN d ≤ 1099511627776) := fun d hd => by have h9 := szL_memz vs d hd; rw [szN_mk] at hsz; omega
  rw [hc] at hS1
  clear hc hP
  go_enter Tryz.func45, Tryz.ntmps45
  go_wp2_with fail
  refine hS1.mono ?_
  rintro e w0 ⟨rfl, hb0⟩
  clear hS1
  cases c with
  | true =>
    have hRt : R = true := by rw [← HR.out, anyN_mk, HC.out]; rfl
    subst hRt
    go_wp2
    go_ret
    exact ⟨rfl, hb0⟩
  | false =>
      have HD2 : Hid (R = vs.any (anyN p)) := by show _ = _; rw [← HR.out, anyN_mk, HC.out, anyL_any]; rfl
      clear HR HC
      have hP := parts15_any _ F v w0 (hv.kept hb0)
      unfold PaP at hP
      obtain ⟨c, hc⟩ : ∃ q, colN (.mk k nn s ks vs) = q := ⟨_, rfl⟩
      rw [hc] at hP
      clear hc
      go_wp2_with fail
      refine hP.mono ?_
      rintro e w1 ⟨⟨ax, m, ac⟩, us, rfl, hL, hb1'⟩
      have hb1 := hb0.trans (hb1'.mono hb0.size)
      clear hP hb1' hb0 hv
      have HLs : Hid (LsG w1 F ⟨ax, m, ac⟩ us vs) := hL
      have hm : m ≤ 1759218604441 := hL.2.2.1
      simp only [Sl.v]
      clear hL hsz
      go_wp2_with fail
      go_loopw [19] (fun iv wr => ∃ j : Nat, j ≤ m ∧ iv = .int .i64 j ∧ Below w1.heap.size w1 wr ∧ Hid ((vs.take j).any (anyN p) = false)) (fun iv _ => m - (intOf iv).toNat)
      case atStart => exact ⟨0, Nat.zero_le _, rfl, Below.refl _ _, rfl⟩
      case round =>
        obtain ⟨j, hj, rfl, hB, HA⟩ := hrel
        by_cases hlt : j < m
        · have i1 : (j : Int) < (m : Int) := by omega
          have i0 : (0 : Int) ≤ (j : Int) := by omega
          obtain ⟨hG, hl, -, he⟩ := HLs.out
          have hnum : m = us.length := IsG.num (a := ⟨ax, m, ac⟩) hG
          obtain ⟨u, hu⟩ : ∃ q, us[j]? = some q := ⟨_, List.getElem?_eq_getElem (by omega)⟩
          obtain ⟨dd, hdd⟩ : ∃ q, vs[j]? = some q := ⟨_, List.getElem?_eq_getElem (by omega)⟩
          obtain ⟨b, pp, rfl, -, cu⟩ := IsG.spot hG j (by omega)
          have q1 := cell_later hB (cu j u hu)
          have hvl := (he j u dd hu hdd).kept hB
          have hC := ih dd (List.mem_of_getElem? hdd) wr F u hvl (HSM.out dd (List.mem_of_getElem? hdd))
          have hwr : IntKind.i64.wrap ((j : Int) + 1) = (j : Int) + 1 := by rw [IntKind.wrap_i64]; omega
          obtain ⟨r9, hr9⟩ : ∃ q, anyN p dd = q := ⟨_, rfl⟩
          have hat := any_take (f := anyN p) hdd
          have HAt : Hid ((vs.take (j + 1)).any (anyN p) = r9) := by show _ = _; rw [hat, HA.out, hr9]; rfl
          have HT : Hid (r9 = true → R = true) := fun h9 => by
            rw [HD2.out]
            exact List.any_eq_true.2 ⟨dd, List.mem_of_getElem? hdd, by rw [hr9]; exact h9⟩
          rw [hr9] at hC
          clear hu hdd hG hl he hnum cu hvl hr9 hat HA
          go_wp2_with fail
          refine hC.mono ?_
          rintro e w2 ⟨rfl, hb2⟩
          have hB2 := hB.trans (hb2.mono hB.size)
          clear hC q1 hB
          cases r9 with
          | true =>
            obtain rfl := HT.out rfl
            go_wp2
            go_ret
            exact ⟨rfl, hb1.trans (hB2.mono hb1.size)⟩
          | false =>
            go_wp2
            go_roundw
            case rel => first | exact ⟨j + 1, by omega, by go_num, hB2, HAt⟩ | ((repeat apply Exists.intro); refine ⟨⟨j + 1, by omega, ?_, hB2, HAt⟩, rfl⟩; go_num)
            case measure => simp [intOf]; omega
        · obtain rfl : j = m := by omega
          have i1 : ¬ (j : Int) < (j : Int) := by omega
          have hRf : R = false := by
            obtain ⟨hG, hl, -, he⟩ := HLs.out
            have hnum : j = us.length := IsG.num (a := ⟨ax, j, ac⟩) hG
            have h9 := HA.out
            rw [List.take_of_length_le (by omega)] at h9
            rw [HD2.out]; exact h9
          subst hRf
          go_wp2
          go_ret
          exact ⟨rfl, hb1.trans (hB.mono hb1.size)⟩
end Go.Proofs.YtddmmmfpdmejbaaGreatDoor
