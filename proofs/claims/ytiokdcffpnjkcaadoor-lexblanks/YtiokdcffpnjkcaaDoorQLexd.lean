import Derived.Test.YtiokdcffpnjkcaaDoorQLexb
import Derived.Test.YtiokdcffpnjkcaaDoorQCvb
import Derived.Test.YtiokdcffpnjkcaaDoorQLexN
import Derived.Lib.ConvBytes
import Derived.Laws.AppendOwn
namespace Go.Proofs.YtiokdcffpnjkcaaDoor
open Go.RowKit

/-! LexBack: what is quoted is one string -/
theorem qd_len {q m : List UInt8} (h : QD q m) : q.length ≤ 6 * m.length := by
  refine h (fun q m => q.length ≤ 6 * m.length) ?_ ?_
  · simp
  · intro v q m hv ih
    have h1 := quo_len v
    have h2 : 0 < (enc v).length := by
      unfold enc
      (repeat' split) <;> simp
    rw [List.length_append, List.length_append]; omega
theorem quS_len (l : List UInt8) : (quS l).length ≤ 6 * l.length + 2 := by
  unfold quS
  cases h : quA l with
  | none => simp
  | some R =>
    obtain ⟨q, rfl, hq⟩ := back_form l R h
    have := qd_len hq
    simp; omega
theorem quE_cases (l : List UInt8) : (quE l = 30 ∧ quS l = []) ∨ (quE l = 0 ∧ quA l = some (quS l)) := by
  unfold quE quS
  cases h : quA l with
  | none => exact .inl ⟨rfl, rfl⟩
  | some R => exact .inr ⟨rfl, rfl⟩
set_option linter.unusedSimpArgs false in
set_option maxRecDepth 100000 in
set_option maxHeartbeats 4000000 in
theorem lawLexBack_any (O : LexOk) (s : ByteArray) (w : World) (hV : Vx w) (h47 : s.size ≤ 17592186044416) : Calls Tryd.prog 3 #[.string s] w fun e w' => e = .returned (.bool true) ∧ Below w.heap.size w w' := by
  have k1 := fun W => O.quo s W h47
  have k3 := known14_any O
  have hq6 := quS_len (lS s)
  rw [lS_len] at hq6
  unfold QuP at k1
  rcases quE_cases (lS s) with ⟨hE, hS⟩ | ⟨hE, hA⟩
  · simp only [hE, hS] at k1
    clear hE hS hq6
    go_enter Tryd.func3, Tryd.ntmps3
    go_wp2_with fail
    refine (k1 _).mono ?_
    rintro e w1 ⟨rfl, hB1⟩
    clear k1
    go_wp2_with fail
    refine (k3 _ (hV.below hB1)).mono ?_
    rintro e w3 ⟨rfl, hb⟩
    have hB3 := hB1.trans (hb.mono hB1.size)
    clear k3 hb hB1
    go_wp2
    go_ret
    exact ⟨rfl, hB3⟩
  · have hcut := cut_back _ _ hA
    obtain ⟨R, hR⟩ : ∃ q, quS (lS s) = q := ⟨_, rfl⟩
    simp only [hE, hR] at k1
    rw [hR] at hq6 hcut
    obtain ⟨Q, hQ⟩ : ∃ q, ByteArray.mk R.toArray = q := ⟨_, rfl⟩
    have hQR : lS Q = R := by rw [← hQ, lS_mk]
    have hQs : Q.size = R.length := by rw [← hQR, lS_len]
    simp only [hQ] at k1
    clear hE hA hR hQ
    go_enter Tryd.func3, Tryd.ntmps3
    go_wp2_with fail
    refine (k1 _).mono ?_
    rintro e w1 ⟨rfl, hB1⟩
    clear k1
    obtain ⟨C, W, hcv, hC, hbW, iW⟩ := conv14 w1 Q
    have hB2 := hB1.trans (hbW.mono hB1.size)
    have k2 := O.all R (some ⟨w1.heap.size, 0, none⟩) Q.size C W hQs.symm hC (by omega) (by rw [← hQR]; exact iW) (hV.below hB2)
    unfold AllP at k2
    clear hB1 hbW iW hC
    by_cases h4 : 4096 < R.length
    · have e1 : cutL R = [] := by unfold cutL; rw [if_pos h4]
      have e2 : cutE R = 2 := by unfold cutE; rw [if_pos h4]
      have e3 : cutP R = 0 := by unfold cutP; rw [if_pos h4]
      rw [e1, e2, e3] at k2
      have hQ4 : (4096 : Int) < (Q.size : Int) := by omega
      clear e1 e2 e3 hcut hq6 hQR hQs h4
      go_wp2_with fail
      refine k2.mono ?_
      rintro e w2 ⟨⟨y, n, c, rfl, hO⟩, hb⟩
      obtain rfl : n = 0 := by
        obtain ⟨x9, c9, he⟩ := (hO.isK tkEL_ok).len
        simp only [Value.slice.injEq] at he
        exact he.2.1
      have hB3 := hB2.trans (hb.mono hB2.size)
      clear k2 hb hB2 hcv hO
      go_wp2_with fail
      refine (k3 _ (hV.below hB3)).mono ?_
      rintro e w3 ⟨rfl, hb⟩
      have hB4 := hB3.trans (hb.mono hB3.size)
      clear k3 hb hB3
      go_wp2
      go_ret
      exact ⟨rfl, hB4⟩
    · have e1 : cutL R = [⟨11, 0, 0, lS s⟩] := by unfold cutL; rw [if_neg h4, hcut]; rfl
      have e2 : cutE R = 0 := by unfold cutE; rw [if_neg h4, hcut]; rfl
      have e3 : cutP R = 0 := by unfold cutP; rw [if_neg h4, hcut]; rfl
      rw [e1, e2, e3] at k2
      have hQ4 : ¬ (4096 : Int) < (Q.size : Int) := by omega
      clear e1 e2 e3 hcut hq6 hQR hQs h4
      go_wp2_with fail
      refine k2.mono ?_
      rintro e w2 ⟨⟨y, n, c, rfl, hO⟩, hb⟩
      obtain ⟨g, hg1, -⟩ := hO.form (by show 0 < 1; omega)
      subst hg1
      obtain rfl : n = 1 := by
        obtain ⟨x9, c9, he⟩ := (hO.isK tkEL_ok).len
        simp only [Value.slice.injEq] at he
        exact he.2.1
      have hB3 := hB2.trans (hb.mono hB2.size)
      obtain ⟨a0, a1, a2, a3⟩ := tk_cells14 hO 0 ⟨11, 0, 0, lS s⟩ rfl
      have es : ByteArray.mk (lS s).toArray = s := lS_inj (by rw [lS_mk])
      simp only [es, Nat.reduceMul, Nat.reduceAdd] at a0 a1 a2 a3
      clear k2 hb hB2 hcv hO es
      go_wp2_with fail
      refine (k3 _ (hV.below hB3)).mono ?_
      rintro e w3 ⟨rfl, hb⟩
      have hB4 := hB3.trans (hb.mono hB3.size)
      clear k3 hb hB3
      go_wp2
      go_ret
      exact ⟨rfl, hB4⟩
end Go.Proofs.YtiokdcffpnjkcaaDoor
