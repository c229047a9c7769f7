
import Derived.Test.YtnkchcnamcageaaNam8
namespace Go.Proofs.Ytnkchcnamcageaa
open Go.RowKit

/-! NameExact -/
def pL (l : List UInt8) : List UInt8 := bif isN l then padN l else []
theorem put_same13 {l : List UInt8} {w w' : World} {e : Ending} (h : PutPost l w e w') : ∃ y np cp, e = .returned (.tuple #[.slice y np cp, .int .i64 (chkN l)]) ∧ IsB w' (.slice y np cp) (pL l) ∧ Below w.heap.size w w' := by
  obtain ⟨h1, hB⟩ := h
  rcases h1 with ⟨hR, g, c, rfl, hO⟩ | ⟨hR, x, c, rfl, hI⟩
  · refine ⟨_, _, _, by unfold chkN; rw [hR]; rfl, ?_, hB⟩
    unfold pL; rw [hR]; exact hO.isB
  · refine ⟨_, _, _, by unfold chkN; rw [hR]; rfl, ?_, hB⟩
    unfold pL; rw [hR]; exact hI
set_option linter.unusedSimpArgs false in
set_option maxRecDepth 100000 in
set_option maxHeartbeats 8000000 in
theorem lawNameExact_any (O : NamOk) (s t : ByteArray) (l : List UInt8) (x : Option Addr) (L c : Nat) (n : Int) (w : World) (hs63 : s.size ≤ 9223372036854775807) (ht63 : t.size ≤ 9223372036854775807) (hL : l.length = L) (hLc : L ≤ c) (hL47 : L ≤ 140737488351232) (hl : IsB w (.slice x L c) l) (hn0 : -9223372036854775808 ≤ n) (hn1 : n ≤ 9223372036854775807) :
    Calls Try.prog 6 #[.agg #[.string s, .string t], .slice x L c, .int .i64 n] w fun e w' => e = .returned (.bool true) ∧ Below w.heap.size w w' := by
  have bX := below_alloc w (.cells #[Value.string s, Value.string t] 35)
  have c0 : (w.alloc (.cells #[Value.string s, Value.string t] 35)).cell? ⟨w.heap.size, 0, none⟩ = some (.string s) := cell_of_row _ _ 0 _ _ _ (heap_alloc_last w _)
  have c1 : (w.alloc (.cells #[Value.string s, Value.string t] 35)).cell? ⟨w.heap.size, 1, none⟩ = some (.string t) := cell_of_row _ _ 1 _ _ _ (heap_alloc_last w _)
  go_enter Try.func6, Try.ntmps6
  go_upto_region 1 with fail
  obtain ⟨g, hg⟩ : ∃ q, w.heap.size = q := ⟨_, rfl⟩
  rw [hg] at c0 c1
  simp only [hg]
  have HG : Hid (w.heap.size = g) := hg
  clear hg
  generalize w.alloc (.cells #[Value.string s, Value.string t] 35) = X at c0 c1 bX ⊢
  refine wp_reliesC [Fx (.pointer (some ⟨g, 0, none⟩)), Fx (.string s), Fx (.pointer (some ⟨g, 1, none⟩)), Fx (.string t), Fx (.string s)] (by kernel_rfl) (by kernel_rfl) ?_ ?_ ?_
  · repeat' (first | exact all_nil | apply all_cons)
    all_goals intro v y y' hv hb
    all_goals first | exact Fx_mono _ _ _ _ hv hb
  · refine ⟨?_, ?_, ?_, ?_, ?_, trivial⟩
    all_goals
      intro ρ y9 hp ρc ρg ρf ho hd
      have o3 : ρ (.tmp 3) = .pointer (some ⟨g, 0, none⟩) := ho 3 rfl
      clear ho
      have k0 := cell_later hp c0
      have k1 := cell_later hp c1
      simp only [depsR, depR, slotR, Fx, List.getElem?_cons_succ, List.getElem?_cons_zero, Region.binds, forall_const] at hd
      simp only [guardR]
      go_split_ands
    · go_simp
    · go_simp
    · go_simp
    · go_simp
    · go_simp
  · intro vs x1 hp hw
    simp only [owed, Fx] at hw
    obtain ⟨e0, e1, e2, e3, e4, -⟩ := hw
    simp only [List.length_cons, List.length_nil, List.take_succ_cons, List.take_zero, List.drop_succ_cons, List.drop_zero, asg, List.cons_append, List.nil_append, e0, e1, e2, e3, e4]
    clear e0 e1 e2 e3 e4
    have hB1 := bX.trans (hp.mono bX.size)
    clear bX hp c0 c1
    have kK := known13_any O
    have kc := fun W => O.chk s W hs63
    have rc := fun W => refCheck_any s W hs63
    have km := fun W => O.cmp s t W hs63 ht63
    have rm := fun W => refCompare_any s t W hs63 ht63
    obtain ⟨E, hE⟩ : ∃ q, chkN (lS s) = q := ⟨_, rfl⟩
    obtain ⟨M9, hM9⟩ : ∃ q, cmpL (lS s) (lS t) = q := ⟨_, rfl⟩
    simp only [hE] at kc rc
    simp only [hM9] at km rm
    have HE : Hid (chkN (lS s) = E) := hE
    clear hE hM9
    go_wp2_with fail
    refine (kK _).mono ?_
    rintro e w2 ⟨rfl, hb⟩
    have hB2 := hB1.trans (hb.mono hB1.size)
    clear hB1 hb kK
    go_wp2_with fail
    refine (kc _).mono ?_
    rintro e w3 ⟨rfl, hb⟩
    have hB3 := hB2.trans (hb.mono hB2.size)
    clear hB2 hb kc
    go_wp2_with fail
    refine (rc _).mono ?_
    rintro e w4 ⟨rfl, hb⟩
    have hB4 := hB3.trans (hb.mono hB3.size)
    clear hB3 hb rc
    go_wp2_with fail
    refine (km _).mono ?_
    rintro e w5 ⟨rfl, hb⟩
    have hB5 := hB4.trans (hb.mono hB4.size)
    clear hB4 hb km
    go_wp2_with fail
    refine (rm _).mono ?_
    rintro e w6 ⟨rfl, hb⟩
    have hB6 := hB5.trans (hb.mono hB5.size)
    clear hB5 hb rm
    have kp := fun W => O.put s W hs63
    have rp := fun W => refPut_any s W hs63
    go_wp2_with fail
    refine (kp _).mono ?_
    rintro e w7 hp7
    obtain ⟨y7, n7, c7, rfl, hI7, hb⟩ := put_same13 hp7
    rw [HE.out]
    have hB7 := hB6.trans (hb.mono hB6.size)
    clear hB6 hb kp hp7
    go_wp2_with fail
    refine (rp _).mono ?_
    rintro e w8 hp8
    obtain ⟨y8, n8, c8, rfl, hI8, hb⟩ := put_same13 hp8
    rw [HE.out]
    have hB8 := hB7.trans (hb.mono hB7.size)
    have hI7' := hI7.kept hb
    clear hB7 hb rp hp8 hI7
    have st7 := hI7'.str
    have st8 := hI8.str
    obtain ⟨SP, hSP⟩ : ∃ q, ByteArray.mk (pL (lS s)).toArray = q := ⟨_, rfl⟩
    rw [hSP] at st7 st8
    clear hSP hI7' hI8
    have hl8 := hl.kept hB8
    have bA := below_alloc w8 (.cells #[] 5)
    have hO0 : OwnB (w8.alloc (.cells #[] 5)) w8.heap.size (.slice (some ⟨w8.heap.size, 0, none⟩) 0 0) [] := OwnB.new13 w8 [] 0 rfl (by unfold maxLen; omega)
    have hlA := hl8.kept bA
    subst hL
    obtain ⟨v1, w9, hr1, hO1, hg1, -⟩ := run_app_more _ _ _ [] x c l 28 hO0 hlA (by simp; omega) bA.size
    rw [List.nil_append] at hO1
    have hB9w : Below w8.heap.size w8 w9 := bA.trans (below_grown hO0 hg1 bA.size)
    have bC := below_alloc w9 (.cells #[Value.int .u8 ((165 : UInt8).toNat : Int)] 5)
    have hlit : IsB (w9.alloc (.cells #[Value.int .u8 ((165 : UInt8).toNat : Int)] 5)) (.slice (some ⟨w9.heap.size, 0, none⟩) [(165 : UInt8)].length 1) [165] := .inr ⟨⟨w9.heap.size, 0, none⟩, 1, rfl, fun i hi => by
      have : i = 0 := by simp at hi; omega
      subst this
      rw [addr_add, cell_of_row _ _ _ _ _ _ (heap_alloc_last _ _)]; rfl⟩
    have hsz9 : w8.heap.size ≤ (w9.alloc (.cells #[Value.int .u8 ((165 : UInt8).toNat : Int)] 5)).heap.size := Nat.le_trans hB9w.size bC.size
    obtain ⟨v2, wa, hr2, hO2, hg2, -⟩ := run_app_more _ _ _ l _ 1 [165] 28 (hO1.keep bC) hlit (by simp; omega) hsz9
    have hBaw : Below w8.heap.size w8 wa := (hB9w.trans (bC.mono hB9w.size)).trans (below_grown (hO1.keep bC) hg2 hsz9)
    have hBa := hB8.trans (hBaw.mono hB8.size)
    have hla := hl8.kept hBaw
    obtain ⟨gf, cf, rfl, hgf, hcf, -⟩ := hO2.form (by simp)
    clear hO0 hlA hg1 hB9w bC hlit hsz9 hg2 hO1 bA hl8 hl
    obtain ⟨L, hLv⟩ : ∃ q, l.length = q := ⟨_, rfl⟩
    have hM : (l ++ [(165 : UInt8)]).length = L + 1 := by rw [List.length_append, hLv]; rfl
    rw [hM] at hr2 hO2 hcf
    rw [hLv] at hr1 hla hL47 hLc
    obtain ⟨M, hMv⟩ : ∃ q, L + 1 = q := ⟨_, rfl⟩
    rw [hMv] at hr2 hO2 hcf hM
    go_wp2_with (at_builtin; first | refine wpL_app rfl _ _ rfl v1 w9 (by exact hr1) ?_ | refine wpL_app rfl _ _ rfl _ wa (by exact hr2) ?_)
    have hfr : IsB wa (.slice (some ⟨gf, 0, none⟩) L cf) l := by
      have h9 := hO2.isB.front13 (m := L) (by omega)
      rw [← hLv, List.take_left, hLv] at h9; exact h9
    have kG := O.get l (some ⟨gf, 0, none⟩) L cf n wa hLv (by omega) (by omega) hn0 hn1 hfr
    have rG := fun W (hb : Below wa.heap.size wa W) => refGet_any l x L c n W hLv hLc (hla.kept hb)
    unfold GetPost at kG rG
    obtain ⟨U, hU⟩ : ∃ q, ByteArray.mk (getS l n).toArray = q := ⟨_, rfl⟩
    obtain ⟨G, hGv⟩ : ∃ q, getB l n = q := ⟨_, rfl⟩
    rw [hU, hGv] at kG
    simp only [hU, hGv] at rG
    clear hU hGv
    refine kG.mono ?_
    rintro e wb ⟨rfl, hb⟩
    have hBb := hBa.trans (hb.mono hBa.size)
    have rG' := rG wb hb
    have hO3 := hO2.keep hb
    have hlb := hla.kept hb
    have hfb := hfr.kept hb
    clear kG rG hBa hb hO2 hla hfr
    go_wp2_with fail
    refine rG'.mono ?_
    rintro e wc ⟨rfl, hb⟩
    have hBc := hBb.trans (hb.mono hBb.size)
    have hO4 := hO3.keep hb
    have hlc := hlb.kept hb
    have hfc := hfb.kept hb
    clear rG' hBb hb hO3 hlb hfb
    have hcv1 := fun y (hb : Below wc.heap.size wc y) => (hfc.kept hb).str
    have hcv2 := fun y (hb : Below wc.heap.size wc y) => (hlc.kept hb).str
    obtain ⟨LB, hLB⟩ : ∃ q, ByteArray.mk l.toArray = q := ⟨_, rfl⟩
    simp only [hLB] at hcv1 hcv2
    have c165 := hO4.cell13 L (by omega)
    have e165 : lB (l ++ [(165 : UInt8)]) L = 165 := by
      unfold lB; rw [List.getElem?_append_right (by omega), hLv, Nat.sub_self]; rfl
    rw [e165] at c165
    replace c165 : wc.cell? ⟨gf, L, none⟩ = some (.int .u8 165) := c165
    have FL : Hid ((0 : Int) ≤ (L : Int) ∧ (L : Int) ≤ (cf : Int) ∧ (L : Int) < (M : Int)) := by show _ ∧ _ ∧ _; omega
    have HO4 : Hid (OwnB wc w8.heap.size (.slice (some ⟨gf, 0, none⟩) M cf) (l ++ [(165 : UInt8)])) := hO4
    clear hLB e165 hfc hlc hO4 hr1 hr2 st7 st8
    go_upto_region 11 with fail
    refine wp_relies [Fx (.string U), Fx (.string U), Fx (.bool false), Fx (.bool false), Fx (.bool G), Fx (.bool G), Fx (.bool false), Fx (.bool false), Fx (.bool false), Fx (.slice (some ⟨gf, 0, none⟩) M cf), Fx (.slice x L c), Fx (.int .i64 (L : Int)), Fx (.slice (some ⟨gf, 0, none⟩) L cf), Fx (.string LB), Fx (.slice x L c), Fx (.string LB), Fx (.bool false), Fx (.bool false), Fx (.bool false), Fx (.slice (some ⟨gf, 0, none⟩) M cf), Fx (.slice x L c), Fx (.int .i64 (L : Int)), Fx (.pointer (some ⟨gf, L, none⟩)), Fx (.int .u8 165), Fx (.bool false), Fx (.bool false)] (by kernel_rfl) (by kernel_rfl) ?_ ?_ ?_
    · repeat' (first | exact all_nil | apply all_cons)
      all_goals intro v y y' hv hb
      all_goals first | exact Fx_mono _ _ _ _ hv hb
    · refine ⟨?_, ?_, ?_, ?_, ?_, ?_, ?_, ?_, ?_, ?_, ?_, ?_, ?_, ?_, ?_, ?_, ?_, ?_, ?_, ?_, ?_, ?_, ?_, ?_, ?_, ?_, trivial⟩
      all_goals
        intro ρ y9 hp ρc ρg ρf ho hd
        have o14 : ρ (.tmp 14) = .string U := ho 14 rfl
        have o16 : ρ (.tmp 16) = .string U := ho 16 rfl
        have o15 : ρ (.tmp 15) = .bool G := ho 15 rfl
        have o17 : ρ (.tmp 17) = .bool G := ho 17 rfl
        have o13 : ρ (.tmp 13) = .slice (some ⟨gf, 0, none⟩) M cf := ho 13 rfl
        have o1 : ρ (.tmp 1) = .slice x L c := ho 1 rfl
        clear ho
        simp only [depsR, depR, slotR, Fx, List.getElem?_cons_succ, List.getElem?_cons_zero, Region.binds, forall_const] at hd
        simp only [guardR]
        go_split_ands
      · go_simp
      · go_simp
      · go_simp
      · go_simp
      · refine ⟨fun _ => ?_, fun hy => absurd (by simp [yieldR, slotR, *]) hy⟩
        go_simp
      · refine ⟨fun _ => ?_, fun hy => absurd (by simp [yieldR, slotR, *]) hy⟩
        go_simp
      · refine ⟨fun _ => ?_, fun hy => absurd (by simp [yieldR, slotR, *]) hy⟩
        go_simp
      · go_simp
      · go_simp
      · refine ⟨fun _ => ?_, fun hy => absurd (by simp [yieldR, slotR, *]) hy⟩
        go_simp
      · refine ⟨fun _ => ?_, fun hy => absurd (by simp [yieldR, slotR, *]) hy⟩
        go_simp
      · refine ⟨fun _ => ?_, fun hy => absurd (by simp [yieldR, slotR, *]) hy⟩
        go_simp
      · refine ⟨fun _ => ?_, fun hy => absurd (by simp [yieldR, slotR, *]) hy⟩
        obtain ⟨z1, z2, z3⟩ := FL.out
        go_simp
      · refine ⟨fun _ => ?_, fun hy => absurd (by simp [yieldR, slotR, *]) hy⟩
        have hq := hcv1 y9 hp
        go_simp
      · refine ⟨fun _ => ?_, fun hy => absurd (by simp [yieldR, slotR, *]) hy⟩
        go_simp
      · refine ⟨fun _ => ?_, fun hy => absurd (by simp [yieldR, slotR, *]) hy⟩
        have hq := hcv2 y9 hp
        go_simp
      · refine ⟨fun _ => ?_, fun hy => absurd (by simp [yieldR, slotR, *]) hy⟩
        go_simp
      · go_simp
      · go_simp
      · refine ⟨fun _ => ?_, fun hy => absurd (by simp [yieldR, slotR, *]) hy⟩
        go_simp
      · refine ⟨fun _ => ?_, fun hy => absurd (by simp [yieldR, slotR, *]) hy⟩
        go_simp
      · refine ⟨fun _ => ?_, fun hy => absurd (by simp [yieldR, slotR, *]) hy⟩
        go_simp
      · refine ⟨fun _ => ?_, fun hy => absurd (by simp [yieldR, slotR, *]) hy⟩
        obtain ⟨z1, z2, z3⟩ := FL.out
        go_simp
      · refine ⟨fun _ => ?_, fun hy => absurd (by simp [yieldR, slotR, *]) hy⟩
        have kc := cell_later hp c165
        go_simp
      · refine ⟨fun _ => ?_, fun hy => absurd (by simp [yieldR, slotR, *]) hy⟩
        go_simp
      · go_simp
    · intro vs x1 hp hw
      simp only [owed, Fx] at hw
      obtain ⟨e0, e1, e2, e3, e4, e5, e6, e7, e8, e9, e10, e11, e12, e13, e14, e15, e16, e17, e18, e19, e20, e21, e22, e23, e24, e25, -⟩ := hw
      simp only [List.length_cons, List.length_nil, List.take_succ_cons, List.take_nil, List.drop_succ_cons, List.drop_nil, asg, List.cons_append, List.nil_append, e0, e1, e2, e3, e4, e5, e6, e7, e8, e9, e10, e11, e12, e13, e14, e15, e16, e17, e18, e19, e20, e21, e22, e23, e24, e25]
      clear e0 e1 e2 e3 e4 e5 e6 e7 e8 e9 e10 e11 e12 e13 e14 e15 e16 e17 e18 e19 e20 e21 e22 e23 e24 e25
      have hO5 := OwnB.keep HO4.out hp
      have hBd := hBc.trans (hp.mono hBc.size)
      have hgfw : w.heap.size ≤ gf := Nat.le_trans hB8.size hgf
      clear hp hcv1 hcv2 c165 hBc HO4 FL
      go_wp2_with fail
      go_loopw [18] (fun iv wr => ∃ (k : Nat) (m : List UInt8), k ≤ M ∧ iv = .int .i64 k ∧ m.length = M ∧ OwnB wr w8.heap.size (.slice (some ⟨gf, 0, none⟩) M cf) m ∧ Below w.heap.size w wr) (fun iv _ => M - (intOf iv).toNat)
      case atStart => exact ⟨0, _, by omega, rfl, hM, hO5, hBd⟩
      case round =>
        clear hO5 hBd
        obtain ⟨k, m, hk, rfl, hm, hO1, hB⟩ := hrel
        by_cases hlt : k < M
        · have i0 : (0 : Int) ≤ (k : Int) := by omega
          have i1 : (k : Int) < (M : Int) := by omega
          have cc := hO1.cell13 k (by omega)
          have cz := hO1.soft13 k
          have HO1 : Hid _ := hO1.set13 hm k 7
          have HM : Hid ((m.set k 7).length = M) := by show _ = _; rw [List.length_set]; exact hm
          have HB2 : Hid _ := hB.setCell (p := ⟨gf, k, none⟩) hgfw (.int .u8 ((7 : UInt8).toNat : Int))
          generalize lB m k = b9 at cc
          clear hO1 hB
          go_wp2
          go_roundw
          case rel => exact ⟨k + 1, _, by omega, by go_num, HM.out, HO1.out, HB2.out⟩
          case measure => simp [intOf]; omega
        · obtain rfl : k = M := by omega
          have hlt' : ¬ (k : Int) < (k : Int) := by omega
          clear hO1
          go_wp2
          go_ret
          exact ⟨rfl, hB⟩
end Go.Proofs.Ytnkchcnamcageaa
