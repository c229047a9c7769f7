import Derived.Test.YtddmmmfpdmejbaaGreatDoorQJdg
import Derived.Test.YtddmmmfpdmejbaaGreatDoorQJfm
import Derived.Test.YtddmmmfpdmejbaaGreatDoorQJpq
import Derived.Test.YtddmmmfpdmejbaaGreatDoorQJtw
import Derived.Test.YtddmmmfpdmejbaaGreatDoorQJdp
namespace Go.Proofs.YtddmmmfpdmejbaaGreatDoor
open Go.RowKit

/-! assayref15.Print -/
def RpP (d : Nd) (w : World) (e : Ending) (w' : World) : Prop := (∃ S, e = .returned (.tuple #[.string S, .int .i64 (prtE d)]) ∧ lS S = prtS d) ∧ Below w.heap.size w w'
theorem rp_no {d : Nd} {w w' : World} {E : Int} (h : prtE d = E) (h0 : E ≠ 0) (hb : Below w.heap.size w w') : RpP d w (.returned (.tuple #[.string ⟨#[]⟩, .int .i64 E])) w' :=
  ⟨⟨⟨#[]⟩, by rw [h], by unfold prtS; rw [h, if_neg h0]; rfl⟩, hb⟩
set_option linter.unusedSimpArgs false in
set_option maxRecDepth 100000 in
set_option maxHeartbeats 16000000 in
theorem refPrint_any (d : Nd) (w : World) (F : Nat → Prop) (a : Rn) (ha : NdF w F a d) (hrg : rgN d = true) (hsz : szN d ≤ 140737488355328) (hdp : depN d ≤ 1000000) : Calls Tryz.prog 22 #[.agg (rnA a)] w fun e w' => RpP d w e w' := by
  have bY := below_alloc w (.cells (rnA a) 41)
  have rY := RowC.new w (rnA a) 41
  have hY := ha.kept bY
  obtain ⟨n0, hn0⟩ : ∃ q, w.heap.size = q := ⟨_, rfl⟩
  have hE : prtE d = if frmN d = false then 11 else if plnN d = false then 30 else if twcN d = true then 33 else if 6 < depN d then 32 else 0 := rfl
  have HE : Hid _ := hE
  rw [hn0] at rY
  clear ha hE
  go_enter Tryz.func22, Tryz.ntmps22
  go_upto_region 1 with fail
  generalize w.alloc (.cells (rnA a) 41) = Y at bY rY hY ⊢
  obtain ⟨p1, p2⟩ := id rY
  have p3 : (rowAt Y n0).size = 5 := by rw [p2]; rfl
  have k1 := formed15_any d Y F a hY
  go_wp2_with fail
  refine k1.mono ?_
  rintro e w1 ⟨rfl, hb1⟩
  clear k1 p1 p2 p3
  have B1 := bY.trans (hb1.mono bY.size)
  have r1 := rY.kept hb1
  have h1 := hY.kept hb1
  clear hb1 rY hY bY
  cases hf : frmN d with
  | false =>
    have HP : Hid _ := rp_no (w' := w1) (E := 11) (by rw [HE.out, hf]; rfl) (by decide) B1
    clear hf B1 h1
    go_wp2
    go_ret2
    exact HP.out
  | true =>
    obtain ⟨p1, p2⟩ := id r1
    have p3 : (rowAt w1 n0).size = 5 := by rw [p2]; rfl
    have k2 := plq15_any d w1 F a h1 hsz
    go_wp2_with fail
    refine k2.mono ?_
    rintro e w2 ⟨rfl, hb2⟩
    clear k2 p1 p2 p3
    have B2 := B1.trans (hb2.mono B1.size)
    have r2 := r1.kept hb2
    have h2 := h1.kept hb2
    clear hb2 r1 h1 B1
    cases hp : plnN d with
    | false =>
      have HP : Hid _ := rp_no (w' := w2) (E := 30) (by rw [HE.out, hf, hp]; rfl) (by decide) B2
      clear hp hf B2 h2
      go_wp2
      go_ret2
      exact HP.out
    | true =>
      obtain ⟨p1, p2⟩ := id r2
      have p3 : (rowAt w2 n0).size = 5 := by rw [p2]; rfl
      have k3 := twice15_any d w2 F a h2
      go_wp2_with fail
      refine k3.mono ?_
      rintro e w3 ⟨rfl, hb3⟩
      clear k3 p1 p2 p3
      have B3 := B2.trans (hb3.mono B2.size)
      have r3 := r2.kept hb3
      have h3 := h2.kept hb3
      clear hb3 r2 h2 B2
      cases ht : twcN d with
      | true =>
        have HP : Hid _ := rp_no (w' := w3) (E := 33) (by rw [HE.out, hf, hp, ht]; rfl) (by decide) B3
        clear ht hp hf B3 h3
        go_wp2
        go_ret2
        exact HP.out
      | false =>
        obtain ⟨p1, p2⟩ := id r3
        have p3 : (rowAt w3 n0).size = 5 := by rw [p2]; rfl
        have k4 := deep15_any d w3 F a h3 hdp
        obtain ⟨dp, hdpe⟩ : ∃ q, depN d = q := ⟨_, rfl⟩
        rw [hdpe] at k4
        go_wp2_with fail
        refine k4.mono ?_
        rintro e w4 ⟨rfl, hb4⟩
        clear k4 p1 p2 p3
        have B4 := B3.trans (hb4.mono B3.size)
        have r4 := r3.kept hb4
        have h4 := h3.kept hb4
        clear hb4 r3 h3 B3
        by_cases h6 : 6 < dp
        · have i6 : (6 : Int) < (dp : Int) := by omega
          have HP : Hid _ := rp_no (w' := w4) (E := 32) (by rw [HE.out, hf, hp, ht, hdpe, if_neg (by decide), if_neg (by decide), if_neg (by decide), if_pos h6]) (by decide) B4
          clear ht hp hf B4 h4 hdpe
          go_wp2
          go_ret2
          exact HP.out
        · have i6 : ¬ (6 : Int) < (dp : Int) := by omega
          have hE0 : prtE d = 0 := by rw [HE.out, hf, hp, ht, hdpe, if_neg (by decide), if_neg (by decide), if_neg (by decide), if_neg h6]
          obtain ⟨p1, p2⟩ := id r4
          have p3 : (rowAt w4 n0).size = 5 := by rw [p2]; rfl
          have k5 := text15_any d w4 F a h4 hf hrg hsz
          have HS : Hid (prtS d = txtN d) := by show _ = _; unfold prtS; rw [hE0, if_pos rfl]
          have HE0 : Hid (prtE d = 0) := hE0
          clear ht hp hf hdpe hE0
          go_wp2_with fail
          refine k5.mono ?_
          rintro e w5 ⟨⟨S, rfl, hS⟩, hb5⟩
          clear k5
          have HP : Hid (RpP d w (.returned (.tuple #[.string S, .int .i64 0])) w5) := ⟨⟨S, by rw [HE0.out], by rw [HS.out]; exact hS⟩, B4.trans (hb5.mono B4.size)⟩
          clear hS hb5 B4 h4
          go_wp2
          go_ret2
          exact HP.out
end Go.Proofs.YtddmmmfpdmejbaaGreatDoor
