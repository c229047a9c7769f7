
import Derived.Test.YtnkchcnamcageaaNam7
namespace Go.Proofs.Ytnkchcnamcageaa
open Go.RowKit

/-! NameBack -/
theorem OwnB.other13 {w w' : World} {B : Nat} {v : Value} {l : List UInt8} (h : OwnB w B v l) (hl : ∀ g, v.ownBlock = some g → w'.heap[g]? = w.heap[g]?) : OwnB w' B v l := by
  obtain ⟨h1, h2⟩ := h
  refine ⟨h1, ?_⟩
  rcases h2 with hn | ⟨g, cap, cur, hv, hb, hg, r⟩
  · exact .inl hn
  · refine .inr ⟨g, cap, cur, hv, hb, ?_, r⟩
    rw [hl g (by rw [hv]; rfl)]; exact hg
theorem OwnB.ge13 {w : World} {B g n c : Nat} {l : List UInt8} (h : OwnB w B (.slice (some ⟨g, 0, none⟩) n c) l) : B ≤ g ∧ g < w.heap.size := World.ownsRow.lt h g rfl
theorem setCell_ne13 (w : World) (g k i : Nat) (v : Value) (h : g ≠ k) : (w.setCell ⟨g, i, none⟩ v).heap[k]? = w.heap[k]? := by
  simp only [World.setCell, Array.getElem?_modify]; rw [if_neg h]
theorem str_back13 {s : ByteArray} {l : List UInt8} (h : lS s = l) : (ByteArray.mk l.toArray) = s := lS_inj (by rw [lS_mk, h])
set_option linter.unusedSimpArgs false in
set_option maxRecDepth 100000 in
set_option maxHeartbeats 4000000 in
theorem lawNameBack_any (O : NamOk) (s : ByteArray) (n : Int) (w : World) (h63 : s.size ≤ 9223372036854775807) (hn0 : -9223372036854775808 ≤ n) (hn1 : n ≤ 9223372036854775807) : Calls Try.prog 5 #[.string s, .int .i64 n] w fun e w' => e = .returned (.bool true) ∧ Below w.heap.size w w' := by
  have hK := known13_any O w
  have hP := fun W => O.put s W h63
  have hI := fun W => refIs_any s W h63
  have hls := lS_len s
  obtain ⟨l, hl⟩ : ∃ q, lS s = q := ⟨_, rfl⟩
  have hsb := str_back13 hl
  rw [hl] at hls
  simp only [hl] at hP hI
  obtain ⟨p, hp⟩ : ∃ q, s.size = q := ⟨_, rfl⟩
  rw [hp] at hls h63
  go_enter Try.func5, Try.ntmps5
  go_wp2_with fail
  refine hK.mono ?_
  rintro e w0 ⟨rfl, hB⟩
  have hw00 := hB.size
  clear hK
  go_wp2_with fail
  refine (hP _).mono ?_
  rintro e w1 ⟨h1, hB1⟩
  rcases h1 with ⟨hR, g1, c1, rfl, hO1⟩ | ⟨hR, x1, c1, rfl, -⟩
  · have hB01 := hB.trans (hB1.mono hB.size)
    have hg1 : w.heap.size ≤ g1 := Nat.le_trans hB.size hO1.ge13.1
    rw [hR] at hI
    go_wp2_with fail
    refine (hP _).mono ?_
    rintro e w2 ⟨h2, hB2⟩
    clear hP
    rcases h2 with ⟨-, g2, c2, rfl, hO2⟩ | ⟨hR2, -⟩
    · have hB02 := hB01.trans (hB2.mono hB01.size)
      have hne : g1 ≠ g2 := by have := hO1.ge13.2; have := hO2.ge13.1; omega
      have hg2 : w.heap.size ≤ g2 := Nat.le_trans hB01.size hO2.ge13.1
      have hO1' := hO1.keep hB2
      clear hO1 hB hB1 hB2 hB01
      go_wp2_with fail
      refine (hI _).mono ?_
      rintro e w3 ⟨rfl, hB3⟩
      have hB03 := hB02.trans (hB3.mono hB02.size)
      have hO1 := hO1'.keep hB3
      have hO2' := hO2.keep hB3
      clear hO1' hO2 hB3 hB02 hI
      have hpl := padN_len l hR
      have hG1 := O.get (padN l) (some ⟨g1, 0, none⟩) 24 c1 (p : Int) w3 hpl hO1.room13 (by omega) (by omega) (by omega) hO1.isB
      have e1 : getB (padN l) (p : Int) = true := by rw [getB_put l hR, hls]; simp
      have e2 : getS (padN l) (p : Int) = l := by rw [getS_put l hR, hls]; simp
      unfold GetPost at hG1
      rw [e1, e2, hsb] at hG1
      clear e1 e2
      go_wp2_with fail
      refine hG1.mono ?_
      rintro e w4 ⟨rfl, hB4⟩
      have hB04 := hB03.trans (hB4.mono hB03.size)
      have hO1' := hO1.keep hB4
      have hO2 := hO2'.keep hB4
      clear hO1 hO2' hB4 hB03 hG1
      have hG2 := O.get (padN l) (some ⟨g2, 0, none⟩) 24 c2 n w4 hpl hO2.room13 (by omega) hn0 hn1 hO2.isB
      have e1 : getB (padN l) n = decide (n = (p : Int)) := by rw [getB_put l hR, hls]
      have e2 : getS (padN l) n = bif decide (n = (p : Int)) then l else [] := by rw [getS_put l hR, hls]
      unfold GetPost at hG2
      rw [e1, e2] at hG2
      clear e1 e2
      go_wp2_with fail
      by_cases hnp : n = (p : Int)
      · subst hnp
        rw [decide_eq_true rfl] at hG2
        simp only [cond_true] at hG2
        rw [hsb] at hG2
        refine hG2.mono ?_
        rintro e w5 ⟨rfl, hB5⟩
        have hB05 := hB04.trans (hB5.mono hB04.size)
        have hO1 := hO1'.keep hB5
        have hO2' := hO2.keep hB5
        clear hO1' hO2 hB5 hB04 hG2
        have hstr := hO1.isB.str
        obtain ⟨WB, hWB⟩ : ∃ q, ByteArray.mk (padN l).toArray = q := ⟨_, rfl⟩
        rw [hWB] at hstr
        have HWB : Hid _ := hWB
        clear hWB
        go_wp2_with fail
        clear hstr
        go_loopw [14] (fun iv wr => ∃ (k : Nat) (m : List UInt8), k ≤ 24 ∧ iv = .int .i64 k ∧ m.length = 24 ∧ OwnB wr w0.heap.size (.slice (some ⟨g1, 0, none⟩) 24 c1) m ∧ OwnB wr w1.heap.size (.slice (some ⟨g2, 0, none⟩) 24 c2) (padN l) ∧ Below w.heap.size w wr) (fun iv _ => 24 - (intOf iv).toNat)
        case atStart => exact ⟨0, padN l, by omega, rfl, hpl, hO1, hO2', hB05⟩
        case round =>
          clear hO1 hO2' hB05
          obtain ⟨k, m, hk, rfl, hm, hO1, hO2, hB⟩ := hrel
          by_cases hlt : k < 24
          · have i0 : (0 : Int) ≤ (k : Int) := by omega
            have i1 : (k : Int) < 24 := by omega
            have cc := hO1.cell13 k (by omega)
            have cf := hO1.soft13 k
            have HO1 : Hid _ := hO1.set13 hm k 200
            have HM : Hid ((m.set k 200).length = 24) := by show _ = _; rw [List.length_set]; exact hm
            have HO2 : Hid (OwnB (wr.setCell ⟨g1, k, none⟩ (.int .u8 ((200 : UInt8).toNat : Int))) w1.heap.size (.slice (some ⟨g2, 0, none⟩) 24 c2) (padN l)) := hO2.other13 (fun g hg => by
              have : g = g2 := by simp [Value.ownBlock] at hg; omega
              subst this
              exact setCell_ne13 _ _ _ _ _ hne)
            have HB2 : Hid _ := hB.setCell (p := ⟨g1, k, none⟩) hg1 (.int .u8 ((200 : UInt8).toNat : Int))
            generalize lB m k = b9 at cc
            clear hO1 hO2 hB
            go_wp2
            go_roundw
            case rel => exact ⟨k + 1, _, by omega, by go_num, HM.out, HO1.out, HO2.out, HB2.out⟩
            case measure => simp [intOf]; omega
          · obtain rfl : k = 24 := by omega
            have bA := below_alloc wr (.cells #[Value.int .u8 ((201 : UInt8).toNat : Int)] 5)
            have hO1a := hO1.keep bA
            have hO2a := hO2.keep bA
            have hlit : IsB (wr.alloc (.cells #[Value.int .u8 ((201 : UInt8).toNat : Int)] 5)) (.slice (some ⟨wr.heap.size, 0, none⟩) [(201 : UInt8)].length 1) [201] := .inr ⟨⟨wr.heap.size, 0, none⟩, 1, rfl, fun i hi => by
              have : i = 0 := by simp at hi; omega
              subst this
              rw [addr_add, cell_of_row _ _ _ _ _ _ (heap_alloc_last _ _)]; rfl⟩
            have hsz0 : w0.heap.size ≤ (wr.alloc (.cells #[Value.int .u8 ((201 : UInt8).toNat : Int)] 5)).heap.size := by
              have := hO1.ge13; have := bA.size; omega
            obtain ⟨v', w9, hr, hO3, hgr, -⟩ := run_app_more _ _ _ m _ 1 [201] 28 hO1a hlit (by rw [hm]; simp) hsz0
            have hB9 : Below w.heap.size w w9 := (hB.trans (bA.mono hB.size)).trans ((below_grown hO1a hgr hsz0).mono hw00)
            have hO2b : OwnB w9 w1.heap.size (.slice (some ⟨g2, 0, none⟩) 24 c2) (padN l) := hO2a.other13 (fun g hg => by
              have : g = g2 := by simp [Value.ownBlock] at hg; omega
              subst this
              exact hgr.block g hO2a.ge13.2 (fun e => hne (by simp [Value.ownBlock] at e; omega)))
            have hstr := hO2b.isB.str
            rw [HWB.out] at hstr
            obtain ⟨g9, c9, rfl, -⟩ := hO3.form (by simp)
            have h25 : (m ++ [(201 : UInt8)]).length = 25 := by rw [List.length_append, hm]; rfl
            have cc := hO3.cell13 24 (by omega)
            have c201 : lB (m ++ [(201 : UInt8)]) 24 = 201 := by
              unfold lB; rw [List.getElem?_append_right (by omega), hm]; rfl
            rw [c201] at cc
            rw [h25] at hr
            clear hO1 hO2 hO1a hO2a hlit hsz0 hO3 hgr hO2b hB bA c201 h25 hm
            go_wp2_with (at_builtin; refine wpL_app rfl _ _ rfl _ w9 (by exact hr) ?_)
            go_ret
            exact ⟨rfl, hB9⟩
      · rw [decide_eq_false hnp] at hG2
        simp only [cond_false] at hG2
        have hnq : (n == (p : Int)) = false := beq_eq_false_iff_ne.2 hnp
        refine hG2.mono ?_
        rintro e w5 ⟨rfl, hB5⟩
        have hB05 := hB04.trans (hB5.mono hB04.size)
        have hO1 := hO1'.keep hB5
        have hO2' := hO2.keep hB5
        clear hO1' hO2 hB5 hB04 hG2
        have hstr := hO1.isB.str
        obtain ⟨WB, hWB⟩ : ∃ q, ByteArray.mk (padN l).toArray = q := ⟨_, rfl⟩
        rw [hWB] at hstr
        have HWB : Hid _ := hWB
        clear hWB
        go_wp2_with fail
        clear hstr
        go_loopw [14] (fun iv wr => ∃ (k : Nat) (m : List UInt8), k ≤ 24 ∧ iv = .int .i64 k ∧ m.length = 24 ∧ OwnB wr w0.heap.size (.slice (some ⟨g1, 0, none⟩) 24 c1) m ∧ OwnB wr w1.heap.size (.slice (some ⟨g2, 0, none⟩) 24 c2) (padN l) ∧ Below w.heap.size w wr) (fun iv _ => 24 - (intOf iv).toNat)
        case atStart => exact ⟨0, padN l, by omega, rfl, hpl, hO1, hO2', hB05⟩
        case round =>
          clear hO1 hO2' hB05
          obtain ⟨k, m, hk, rfl, hm, hO1, hO2, hB⟩ := hrel
          by_cases hlt : k < 24
          · have i0 : (0 : Int) ≤ (k : Int) := by omega
            have i1 : (k : Int) < 24 := by omega
            have cc := hO1.cell13 k (by omega)
            have cf := hO1.soft13 k
            have HO1 : Hid _ := hO1.set13 hm k 200
            have HM : Hid ((m.set k 200).length = 24) := by show _ = _; rw [List.length_set]; exact hm
            have HO2 : Hid (OwnB (wr.setCell ⟨g1, k, none⟩ (.int .u8 ((200 : UInt8).toNat : Int))) w1.heap.size (.slice (some ⟨g2, 0, none⟩) 24 c2) (padN l)) := hO2.other13 (fun g hg => by
              have : g = g2 := by simp [Value.ownBlock] at hg; omega
              subst this
              exact setCell_ne13 _ _ _ _ _ hne)
            have HB2 : Hid _ := hB.setCell (p := ⟨g1, k, none⟩) hg1 (.int .u8 ((200 : UInt8).toNat : Int))
            generalize lB m k = b9 at cc
            clear hO1 hO2 hB
            go_wp2
            go_roundw
            case rel => exact ⟨k + 1, _, by omega, by go_num, HM.out, HO1.out, HO2.out, HB2.out⟩
            case measure => simp [intOf]; omega
          · obtain rfl : k = 24 := by omega
            have bA := below_alloc wr (.cells #[Value.int .u8 ((201 : UInt8).toNat : Int)] 5)
            have hO1a := hO1.keep bA
            have hO2a := hO2.keep bA
            have hlit : IsB (wr.alloc (.cells #[Value.int .u8 ((201 : UInt8).toNat : Int)] 5)) (.slice (some ⟨wr.heap.size, 0, none⟩) [(201 : UInt8)].length 1) [201] := .inr ⟨⟨wr.heap.size, 0, none⟩, 1, rfl, fun i hi => by
              have : i = 0 := by simp at hi; omega
              subst this
              rw [addr_add, cell_of_row _ _ _ _ _ _ (heap_alloc_last _ _)]; rfl⟩
            have hsz0 : w0.heap.size ≤ (wr.alloc (.cells #[Value.int .u8 ((201 : UInt8).toNat : Int)] 5)).heap.size := by
              have := hO1.ge13; have := bA.size; omega
            obtain ⟨v', w9, hr, hO3, hgr, -⟩ := run_app_more _ _ _ m _ 1 [201] 28 hO1a hlit (by rw [hm]; simp) hsz0
            have hB9 : Below w.heap.size w w9 := (hB.trans (bA.mono hB.size)).trans ((below_grown hO1a hgr hsz0).mono hw00)
            have hO2b : OwnB w9 w1.heap.size (.slice (some ⟨g2, 0, none⟩) 24 c2) (padN l) := hO2a.other13 (fun g hg => by
              have : g = g2 := by simp [Value.ownBlock] at hg; omega
              subst this
              exact hgr.block g hO2a.ge13.2 (fun e => hne (by simp [Value.ownBlock] at e; omega)))
            have hstr := hO2b.isB.str
            rw [HWB.out] at hstr
            obtain ⟨g9, c9, rfl, -⟩ := hO3.form (by simp)
            have h25 : (m ++ [(201 : UInt8)]).length = 25 := by rw [List.length_append, hm]; rfl
            have cc := hO3.cell13 24 (by omega)
            have c201 : lB (m ++ [(201 : UInt8)]) 24 = 201 := by
              unfold lB; rw [List.getElem?_append_right (by omega), hm]; rfl
            rw [c201] at cc
            rw [h25] at hr
            clear hO1 hO2 hO1a hO2a hlit hsz0 hO3 hgr hO2b hB bA c201 h25 hm
            go_wp2_with (at_builtin; refine wpL_app rfl _ _ rfl _ w9 (by exact hr) ?_)
            go_ret
            exact ⟨rfl, hB9⟩
    · rw [hR] at hR2; cases hR2
  · have hB01 := hB.trans (hB1.mono hB.size)
    rw [hR] at hI
    go_wp2_with fail
    refine (hP _).mono ?_
    rintro e w2 ⟨h2, hB2⟩
    clear hP
    rcases h2 with ⟨hR2, -⟩ | ⟨-, x2, c2, rfl, -⟩
    · rw [hR] at hR2; cases hR2
    · have hB02 := hB01.trans (hB2.mono hB01.size)
      go_wp2_with fail
      refine (hI _).mono ?_
      rintro e w3 ⟨rfl, hB3⟩
      have hB03 := hB02.trans (hB3.mono hB02.size)
      clear hI hB hB1 hB2 hB01 hB02 hB3
      go_wp2
      go_ret
      exact ⟨rfl, hB03⟩
end Go.Proofs.Ytnkchcnamcageaa
