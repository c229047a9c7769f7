
import Derived.Test.YtnkchcnamcageaaNam5
namespace Go.Proofs.Ytnkchcnamcageaa
open Go.RowKit

/-! NameOrder -/
theorem str_eq13 {s t : ByteArray} : lS s = lS t ↔ s = t := ⟨lS_inj, fun h => by rw [h]⟩
theorem toList13 (s : ByteArray) : s.toList = lS s := by unfold lS; rw [ByteArray.toList_eq]
theorem str_ne13 {s t : ByteArray} (h : ¬ s = t) : (s.toList == t.toList) = false := beq_eq_false_iff_ne.2 fun e => h (lS_inj (by rw [← toList13, ← toList13]; exact e))
theorem str_some13 {t : ByteArray} (h : t ≠ ⟨#[]⟩) : t.toList.isEmpty = false := by
  rw [toList13]
  cases e : lS t with
  | nil => exact absurd (lS_inj (e.trans rfl)) h
  | cons a l => rfl
theorem str_nil13 {t : ByteArray} (h : lS t = []) : t = ⟨#[]⟩ := lS_inj (h.trans rfl)
set_option linter.unusedSimpArgs false in
set_option maxRecDepth 100000 in
set_option maxHeartbeats 4000000 in
theorem lawNameOrder_any (O : NamOk) (s t u : ByteArray) (w : World) (hu : u.size ≤ 9223372036854775807) (hsum : s.size + t.size ≤ 9223372036854775807) : Calls Try.prog 3 #[.string s, .string t, .string u] w fun e w' => e = .returned (.bool true) ∧ Below w.heap.size w w' := by
  have hK := known13_any O w
  have kst := fun W => O.cmp s t W (by omega) (by omega)
  have kts := fun W => O.cmp t s W (by omega) (by omega)
  have kss := fun W => O.cmp s s W (by omega) (by omega)
  have ktu := fun W => O.cmp t u W (by omega) hu
  have ksu := fun W => O.cmp s u W (by omega) hu
  have kap := fun W => O.cmp s (s ++ t) W (by omega) (by rw [ByteArray.size_append]; exact hsum)
  rw [cmp_self] at kss
  rw [cmp_swap] at kts
  rw [lS_app, cmp_app] at kap
  have htr := cmp_trans (lS s) (lS t) (lS u)
  have heq : cmpL (lS s) (lS t) = 0 ↔ s = t := (cmp_eq _ _).trans str_eq13
  have hnil : lS t = [] ↔ t = ⟨#[]⟩ := ⟨str_nil13, fun h => by rw [h]; rfl⟩
  have c1 := cmp_three (lS s) (lS t)
  have c2 := cmp_three (lS t) (lS u)
  have c3 := cmp_three (lS s) (lS u)
  obtain ⟨x, hx⟩ : ∃ q, cmpL (lS s) (lS t) = q := ⟨_, rfl⟩
  obtain ⟨y, hy⟩ : ∃ q, cmpL (lS t) (lS u) = q := ⟨_, rfl⟩
  obtain ⟨z, hz⟩ : ∃ q, cmpL (lS s) (lS u) = q := ⟨_, rfl⟩
  rw [hx] at kst kts heq c1 htr
  rw [hy] at ktu c2 htr
  rw [hz] at ksu c3 htr
  clear hx hy hz
  have hns : ¬ 9223372036854775807 < s.size + t.size := by omega
  have HNS : Hid _ := hns
  clear hns
  obtain ⟨v, hv⟩ : ∃ q, (if lS t = [] then (0 : Int) else -1) = q := ⟨_, rfl⟩
  rw [hv] at kap
  have hv2 : (t = ⟨#[]⟩ ∧ v = 0) ∨ (t ≠ ⟨#[]⟩ ∧ v = -1) := by
    by_cases h : lS t = []
    · rw [if_pos h] at hv; exact .inl ⟨hnil.1 h, hv.symm⟩
    · rw [if_neg h] at hv; exact .inr ⟨fun e => h (hnil.2 e), hv.symm⟩
  clear hv hnil
  go_enter Try.func3, Try.ntmps3
  go_wp2_with fail
  refine hK.mono ?_
  rintro e w0 ⟨rfl, hB⟩
  clear hK
  rcases c1 with rfl | rfl | rfl
  · have hne0 := str_ne13 (s := s) (t := t) (fun e => by have := heq.2 e; omega)
    clear heq
    go_wp2_with fail
    refine (kst _).mono ?_
    rintro e w1 ⟨rfl, hB1⟩
    replace hB := hB.trans (hB1.mono hB.size)
    clear hB1
    go_wp2_with fail
    refine (kts _).mono ?_
    rintro e w2 ⟨rfl, hB2⟩
    replace hB := hB.trans (hB2.mono hB.size)
    clear hB2
    go_wp2_with fail
    refine (kst _).mono ?_
    rintro e w3 ⟨rfl, hB3⟩
    replace hB := hB.trans (hB3.mono hB.size)
    clear hB3
    go_wp2_with fail
    refine (kss _).mono ?_
    rintro e w4 ⟨rfl, hB4⟩
    replace hB := hB.trans (hB4.mono hB.size)
    clear hB4
    go_wp2_with fail
    refine (kst _).mono ?_
    rintro e w5 ⟨rfl, hB5⟩
    replace hB := hB.trans (hB5.mono hB.size)
    clear hB5
    rcases c2 with rfl | rfl | rfl
    · obtain rfl : z = -1 := by have := htr (by omega) (by omega); omega
      go_wp2_with fail
      refine (ktu _).mono ?_
      rintro e w6 ⟨rfl, hB6⟩
      replace hB := hB.trans (hB6.mono hB.size)
      clear hB6
      go_wp2_with fail
      refine (ksu _).mono ?_
      rintro e w7 ⟨rfl, hB7⟩
      replace hB := hB.trans (hB7.mono hB.size)
      clear hB7
      have hns := HNS.out
      rcases hv2 with ⟨rfl, rfl⟩ | ⟨hne, rfl⟩
      · go_wp2_with fail
        refine (kap _).mono ?_
        rintro e w20 ⟨rfl, hB20⟩
        replace hB := hB.trans (hB20.mono hB.size)
        clear hB20
        go_wp2
        go_ret
        exact ⟨rfl, hB⟩
      · have hem := str_some13 hne
        clear hne
        go_wp2_with fail
        refine (kap _).mono ?_
        rintro e w21 ⟨rfl, hB21⟩
        replace hB := hB.trans (hB21.mono hB.size)
        clear hB21
        go_wp2_with fail
        refine (kap _).mono ?_
        rintro e w22 ⟨rfl, hB22⟩
        replace hB := hB.trans (hB22.mono hB.size)
        clear hB22
        go_wp2
        go_ret
        exact ⟨rfl, hB⟩
    · go_wp2_with fail
      refine (ktu _).mono ?_
      rintro e w6 ⟨rfl, hB6⟩
      replace hB := hB.trans (hB6.mono hB.size)
      clear hB6
      have hns := HNS.out
      rcases hv2 with ⟨rfl, rfl⟩ | ⟨hne, rfl⟩
      · go_wp2_with fail
        refine (kap _).mono ?_
        rintro e w20 ⟨rfl, hB20⟩
        replace hB := hB.trans (hB20.mono hB.size)
        clear hB20
        go_wp2
        go_ret
        exact ⟨rfl, hB⟩
      · have hem := str_some13 hne
        clear hne
        go_wp2_with fail
        refine (kap _).mono ?_
        rintro e w21 ⟨rfl, hB21⟩
        replace hB := hB.trans (hB21.mono hB.size)
        clear hB21
        go_wp2_with fail
        refine (kap _).mono ?_
        rintro e w22 ⟨rfl, hB22⟩
        replace hB := hB.trans (hB22.mono hB.size)
        clear hB22
        go_wp2
        go_ret
        exact ⟨rfl, hB⟩
    · go_wp2_with fail
      refine (ktu _).mono ?_
      rintro e w6 ⟨rfl, hB6⟩
      replace hB := hB.trans (hB6.mono hB.size)
      clear hB6
      have hns := HNS.out
      rcases hv2 with ⟨rfl, rfl⟩ | ⟨hne, rfl⟩
      · go_wp2_with fail
        refine (kap _).mono ?_
        rintro e w20 ⟨rfl, hB20⟩
        replace hB := hB.trans (hB20.mono hB.size)
        clear hB20
        go_wp2
        go_ret
        exact ⟨rfl, hB⟩
      · have hem := str_some13 hne
        clear hne
        go_wp2_with fail
        refine (kap _).mono ?_
        rintro e w21 ⟨rfl, hB21⟩
        replace hB := hB.trans (hB21.mono hB.size)
        clear hB21
        go_wp2_with fail
        refine (kap _).mono ?_
        rintro e w22 ⟨rfl, hB22⟩
        replace hB := hB.trans (hB22.mono hB.size)
        clear hB22
        go_wp2
        go_ret
        exact ⟨rfl, hB⟩
  · obtain rfl := heq.1 rfl
    clear heq
    go_wp2_with fail
    refine (kst _).mono ?_
    rintro e w1 ⟨rfl, hB1⟩
    replace hB := hB.trans (hB1.mono hB.size)
    clear hB1
    go_wp2_with fail
    refine (kts _).mono ?_
    rintro e w2 ⟨rfl, hB2⟩
    replace hB := hB.trans (hB2.mono hB.size)
    clear hB2
    go_wp2_with fail
    refine (kst _).mono ?_
    rintro e w3 ⟨rfl, hB3⟩
    replace hB := hB.trans (hB3.mono hB.size)
    clear hB3
    go_wp2_with fail
    refine (kss _).mono ?_
    rintro e w4 ⟨rfl, hB4⟩
    replace hB := hB.trans (hB4.mono hB.size)
    clear hB4
    go_wp2_with fail
    refine (kst _).mono ?_
    rintro e w5 ⟨rfl, hB5⟩
    replace hB := hB.trans (hB5.mono hB.size)
    clear hB5
    have hns := HNS.out
    rcases hv2 with ⟨rfl, rfl⟩ | ⟨hne, rfl⟩
    · go_wp2_with fail
      refine (kap _).mono ?_
      rintro e w20 ⟨rfl, hB20⟩
      replace hB := hB.trans (hB20.mono hB.size)
      clear hB20
      go_wp2
      go_ret
      exact ⟨rfl, hB⟩
    · have hem := str_some13 hne
      clear hne
      go_wp2_with fail
      refine (kap _).mono ?_
      rintro e w21 ⟨rfl, hB21⟩
      replace hB := hB.trans (hB21.mono hB.size)
      clear hB21
      go_wp2_with fail
      refine (kap _).mono ?_
      rintro e w22 ⟨rfl, hB22⟩
      replace hB := hB.trans (hB22.mono hB.size)
      clear hB22
      go_wp2
      go_ret
      exact ⟨rfl, hB⟩
  · have hne0 := str_ne13 (s := s) (t := t) (fun e => by have := heq.2 e; omega)
    clear heq
    go_wp2_with fail
    refine (kst _).mono ?_
    rintro e w1 ⟨rfl, hB1⟩
    replace hB := hB.trans (hB1.mono hB.size)
    clear hB1
    go_wp2_with fail
    refine (kts _).mono ?_
    rintro e w2 ⟨rfl, hB2⟩
    replace hB := hB.trans (hB2.mono hB.size)
    clear hB2
    go_wp2_with fail
    refine (kst _).mono ?_
    rintro e w3 ⟨rfl, hB3⟩
    replace hB := hB.trans (hB3.mono hB.size)
    clear hB3
    go_wp2_with fail
    refine (kss _).mono ?_
    rintro e w4 ⟨rfl, hB4⟩
    replace hB := hB.trans (hB4.mono hB.size)
    clear hB4
    go_wp2_with fail
    refine (kst _).mono ?_
    rintro e w5 ⟨rfl, hB5⟩
    replace hB := hB.trans (hB5.mono hB.size)
    clear hB5
    have hns := HNS.out
    rcases hv2 with ⟨rfl, rfl⟩ | ⟨hne, rfl⟩
    · go_wp2_with fail
      refine (kap _).mono ?_
      rintro e w20 ⟨rfl, hB20⟩
      replace hB := hB.trans (hB20.mono hB.size)
      clear hB20
      go_wp2
      go_ret
      exact ⟨rfl, hB⟩
    · have hem := str_some13 hne
      clear hne
      go_wp2_with fail
      refine (kap _).mono ?_
      rintro e w21 ⟨rfl, hB21⟩
      replace hB := hB.trans (hB21.mono hB.size)
      clear hB21
      go_wp2_with fail
      refine (kap _).mono ?_
      rintro e w22 ⟨rfl, hB22⟩
      replace hB := hB.trans (hB22.mono hB.size)
      clear hB22
      go_wp2
      go_ret
      exact ⟨rfl, hB⟩
end Go.Proofs.Ytnkchcnamcageaa
