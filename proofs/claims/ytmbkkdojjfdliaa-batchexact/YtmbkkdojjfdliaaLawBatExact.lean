
import Derived.Test.YtmbkkdojjfdliaaBatb
namespace Go.Proofs.Ytmbkkdojjfdliaa
open Go.RowKit

/-! BatchExact -/
set_option linter.unusedSimpArgs false in
set_option maxRecDepth 100000 in
set_option maxHeartbeats 40000000 in
theorem lawBatExact (H : BatOk) (l : List Wr) (x0 : Option Addr) (n c : Nat) (D : List (List Wr)) (xd : Option Addr) (nd cd : Nat) (w : World) (hn : l.length = n) (hl : IsK wrE w (.slice x0 n c) l) (hnn : n ≤ 1954687338211) (hnd : D.length = nd) (hD : IsLL w (.slice xd nd cd) D) (hdn : nd ≤ 5864062014805) (hde : ∀ e ∈ D, e.length ≤ 1954687338211) :
    Calls Try.prog 6 #[.slice x0 n c, .slice xd nd cd] w fun e w' => e = .returned (.bool true) ∧ Below w.heap.size w w' := by
  have hn47 : (n + 1) * 72 ≤ 140737488355328 := by omega
  have hKn := known26_any H w
  have hsl := srtW_len l
  obtain ⟨S, hS⟩ : ∃ q, srtW l = q := ⟨_, rfl⟩
  have HS : Hid (srtW l = S) := hS
  rw [hS, hn] at hsl
  clear hS
  go_enter Try.func6, Try.ntmps6
  go_wp2_with fail
  refine hKn.mono ?_
  rintro e w1 ⟨rfl, b1⟩
  clear hKn
  have hC := lent26_any x0 n c l w1 hn (hl.kept b1) hnn
  go_wp2_with fail
  refine hC.mono ?_
  rintro e w2 ⟨gg, cg, rfl, hG, b2⟩
  clear hC
  replace hG : OwnK wrE w2 w1.heap.size (.slice (some ⟨gg, 0, none⟩) (n + 1) cg) (l ++ [e77]) := hG
  have hB2 := b1.trans (b2.mono b1.size)
  have hC := refCut26_any l x0 n c w2 hn (hl.kept hB2) hn47
  rw [HS.out] at hC
  go_wp2_with fail
  refine hC.mono ?_
  rintro e w3 ⟨yw, k, cw, rfl, hk, hW, b3⟩
  clear hC
  have hG3 := hG.keep b3
  have hC := H.cut l (some ⟨gg, 0, none⟩) n cg w3 hn (lent_is hG3 hn) hn47
  rw [HS.out] at hC
  go_wp2_with fail
  refine hC.mono ?_
  rintro e w4 ⟨ya, ka, ca, pa, rfl, hka, hA, b4⟩
  clear hC
  obtain rfl : k = ka := by rw [← hk, ← hka]
  have hG4 := hG3.keep b4
  have hlk : (cutW S).length = k := by rw [cutW_len]; exact hk
  have hkn : k ≤ n := by unfold nbW at hk; omega
  have hc8 : ∀ d ∈ cutW S, d.length ≤ 140737488355328 := fun d hd => by have := cutW_mem S d hd; omega
  have hB4 := (hB2.trans (b3.mono hB2.size)).trans (b4.mono (Nat.le_trans hB2.size b3.size))
  have hcg : (n : Int) + 1 ≤ (cg : Int) := by obtain ⟨-, -, -, -, hle, -⟩ := hG.heap; omega
  have hcn : (0 : Int) ≤ (n : Int) + 1 := by omega
  have hct : ((n : Int) + 1).toNat = n + 1 := by omega
  have hcw : (n : Int) + 1 ≤ 1954687338267 := by omega
  have hC := all26_any (cutW S) (cutW S) ya yw k k ca cw w4 hlk hlk hA.isLL (hW.later b4).isLL (by omega) hc8
  simp only [decide_true] at hC
  go_wp2_with fail
  refine hC.mono ?_
  rintro e w5 ⟨rfl, b5⟩
  clear hC
  have hG5 := hG4.keep b5
  have hB5 := hB4.trans (b5.mono hB4.size)
  have hC := same26_any (some ⟨gg, 0, none⟩) x0 cg c n n l l w5 hn hn (lent_is hG5 hn) (hl.kept hB5) (by omega)
  simp only [decide_true] at hC
  go_wp2_with fail
  refine hC.mono ?_
  rintro e w6 ⟨rfl, b6⟩
  clear hC
  have hG6 := hG5.keep b6
  have q0 := lent_at hG6 hn
  have hB6 := hB5.trans (b6.mono hB5.size)
  have b36 : Below w3.heap.size w3 w6 := (b4.trans (b5.mono b4.size)).trans (b6.mono (Nat.le_trans b4.size b5.size))
  have n0 : (0 : Int) ≤ (n : Int) := by omega
  have n1 : (n : Int) < (n : Int) + 1 := by omega
  have hgg : gg < w2.heap.size ∧ w1.heap.size ≤ gg := ⟨(World.ownsRow.lt hG gg rfl).2, (World.ownsRow.lt hG gg rfl).1⟩
  have HW : Hid (OLL w6 w2.heap.size (.slice yw k cw) (cutW S) ∧ CutP w6 w3.heap.size (.slice ya k ca) (cutW S) pa ∧ OwnK wrE w6 w1.heap.size (.slice (some ⟨gg, 0, none⟩) (n + 1) cg) (l ++ [e77]) ∧ (cutW S).length = k ∧ k ≤ n ∧ S.length ≤ n) := ⟨hW.later b36, (hA.later b5).later b6, hG6, hlk, hkn, hsl⟩
  have HZ : Hid (gg < w2.heap.size ∧ w1.heap.size ≤ gg ∧ w2.heap.size ≤ w3.heap.size ∧ w3.heap.size ≤ w6.heap.size ∧ w.heap.size ≤ w1.heap.size) := ⟨hgg.1, hgg.2, b3.size, b36.size, b1.size⟩
  have HF : Hid (BatOk ∧ l.length = n ∧ (n + 1) * 72 ≤ 140737488355328 ∧ IsK wrE w6 (.slice x0 n c) l ∧ IsLL w6 (.slice xd nd cd) D ∧ D.length = nd ∧ (∀ e ∈ D, e.length ≤ 1954687338211) ∧ Below w.heap.size w w6 ∧ IsK wrE w (.slice x0 n c) l ∧ IsLL w (.slice xd nd cd) D) := ⟨H, hn, hn47, hl.kept hB6, hD.kept hB6, hnd, hde, hB6, hl, hD⟩
  clear b1 b2 b3 b4 b5 b6 b36 hB2 hB4 hB5 hB6 hA hW hG hG3 hG4 hG5 hG6 hl hD hn hnd hk hka hlk hc8 hsl hn47 hde hgg
  go_wp2_with fail
  clear q0
  go_loopw [9, 10] (fun lv iv wr => ∃ (i : Nat) (xg : Option Addr) (cI : Nat) (us : List Value), i ≤ nd ∧ iv = .int .i64 i ∧ lv = .slice xg i cI ∧ Inn wr w6.heap.size (.slice xg i cI) us D i ∧ Below w6.heap.size w6 wr) (fun _ iv _ => nd - (intOf iv).toNat)
  case atStart => exact ⟨0, none, 0, [], Nat.zero_le _, rfl, rfl, Inn.start _ _ _, Below.refl _ _⟩
  case round =>
    obtain ⟨i, xg, cI, us, hin, rfl, rfl, hI, hBr⟩ := hrel
    by_cases hlt : i < nd
    · have i0 : (0 : Int) ≤ (i : Int) := by omega
      have i1 : (i : Int) < (nd : Int) := by omega
      have hwi : (i : Int) + 1 ≤ 5864062014805 := by omega
      obtain ⟨e, he⟩ : ∃ q, D[i]? = some q := ⟨_, List.getElem?_eq_getElem (by have := HF.out.2.2.2.2.2.1; omega)⟩
      obtain ⟨gd, od, xe, ce, rfl, hgd, q1, kE⟩ := (HF.out.2.2.2.2.1.kept hBr).at i e he
      obtain ⟨ne, hne⟩ : ∃ q, e.length = q := ⟨_, rfl⟩
      have hne9 : ne ≤ 1954687338211 := by rw [← hne]; exact HF.out.2.2.2.2.2.2.1 e (List.mem_of_getElem? he)
      rw [hne] at q1 kE
      have hC := lent26_any xe ne ce e wr hne kE hne9
      go_wp2_with fail
      refine hC.mono ?_
      rintro e9 wa ⟨gi, ci, rfl, hO, ba⟩
      clear hC q1 kE
      obtain ⟨g', c', wb, r1, hI2, b2⟩ := hI.grow he ba hne hO hBr.size (by omega)
      have HI2 : Hid (∃ us, Inn wb w6.heap.size (.slice (some ⟨g', 0, none⟩) (i + 1) c') us D (i + 1)) := ⟨_, hI2⟩
      have HB2 : Hid (Below w6.heap.size w6 wb) := (hBr.trans (ba.mono hBr.size)).trans b2
      clear hI hBr he hne hO ba hI2 b2
      go_wp2_with (at_builtin; refine wpL_appT 24 rfl _ _ rfl _ wb (by exact r1) ?_)
      go_roundw
      case rel => obtain ⟨us2, h9⟩ := HI2.out; exact ⟨i + 1, _, c', us2, by omega, by go_num, rfl, h9, HB2.out⟩
      case measure => simp [intOf]; omega
    · obtain rfl : i = nd := by omega
      have i1 : ¬ (i : Int) < (i : Int) := by omega
      obtain ⟨nd, rfl⟩ : ∃ q, q = i := ⟨_, rfl⟩
      obtain ⟨w7, rfl⟩ : ∃ q, q = wr := ⟨_, rfl⟩
      have hdl : ∀ e ∈ D, e.length ≤ 140737488355328 := fun e he => by have := HF.out.2.2.2.2.2.2.1 e he; omega
      have hG7 := HW.out.2.2.1.keep hBr
      have hC := HF.out.1.left l (some ⟨gg, 0, none⟩) n cg D xg nd cI w7 HF.out.2.1 (lent_is hG7 HF.out.2.1) HF.out.2.2.1 HF.out.2.2.2.2.2.1 (hI.isLL HF.out.2.2.2.2.2.1) (by omega) hdl
      rw [HS.out] at hC
      go_wp2_with fail
      refine hC.mono ?_
      rintro e w8 ⟨yl, m, cl, rfl, hm, hL, b8⟩
      clear hC
      have hB8 := hBr.trans (b8.mono hBr.size)
      have hC := refLeft26_any l x0 n c D xd nd cd w8 HF.out.2.1 (HF.out.2.2.2.1.kept hB8) HF.out.2.2.1 HF.out.2.2.2.2.2.1 (HF.out.2.2.2.2.1.kept hB8) (by omega) hdl
      rw [HS.out] at hC
      go_wp2_with fail
      refine hC.mono ?_
      rintro e w9 ⟨yr, mr, cr, rfl, hmr, hR, b9⟩
      clear hC
      obtain rfl : m = mr := by rw [← hm, ← hmr]
      have hml : m ≤ n := by
        rw [← hm]
        exact Nat.le_trans (List.length_filter_le _ _) HW.out.2.2.2.2.2
      have hC := same26_any yl yr cl cr m m _ _ w9 hm hm ((hL.isK wrE_ok).kept b9) (hR.isK wrE_ok) (by omega)
      simp only [decide_true] at hC
      go_wp2_with fail
      refine hC.mono ?_
      rintro e wa ⟨rfl, ba⟩
      clear hC
      have hB9 := hB8.trans (b9.mono hB8.size)
      have hBa := hB9.trans (ba.mono hB9.size)
      have hGa := HW.out.2.2.1.keep hBa
      have hC := same26_any (some ⟨gg, 0, none⟩) x0 cg c n n l l wa HF.out.2.1 HF.out.2.1 (lent_is hGa HF.out.2.1) (HF.out.2.2.2.1.kept hBa) (by omega)
      simp only [decide_true] at hC
      go_wp2_with fail
      refine hC.mono ?_
      rintro e wb ⟨rfl, bb⟩
      clear hC
      have hBb := hBa.trans (bb.mono hBa.size)
      have q0 := lent_at (hGa.keep bb) HF.out.2.1
      have b8b : Below w8.heap.size w8 wb := (b9.trans (ba.mono b9.size)).trans (bb.mono (Nat.le_trans b9.size ba.size))
      have HI : Hid (Inn wb w6.heap.size (.slice xg nd cI) us D nd) := (hI.later b8).later b8b
      have HL : Hid (OwnK wrE wb w7.heap.size (.slice yl m cl) (leftW S D) ∧ (leftW S D).length = m ∧ m ≤ n ∧ w6.heap.size ≤ w7.heap.size) := ⟨hL.keep b8b, hm, hml, hBr.size⟩
      have HBB : Hid (Below w6.heap.size w6 wb) := hBb
      clear hI hL hR hm hmr hB8 hB9 hBa hGa hBb b8 b9 ba bb b8b hG7 hdl hBr hml
      go_wp2_with fail
      clear q0
      go_loopw [12] (fun iv wr => ∃ i : Nat, i ≤ nd ∧ iv = .int .i64 i ∧ Below wb.heap.size wb wr) (fun iv _ => nd - (intOf iv).toNat)
      case atStart => exact ⟨0, Nat.zero_le _, rfl, Below.refl _ _⟩
      case round =>
        obtain ⟨i, hin, rfl, hBr⟩ := hrel
        by_cases hlt : i < nd
        · have i0 : (0 : Int) ≤ (i : Int) := by omega
          have i1 : (i : Int) < (nd : Int) := by omega
          have hwi : (i : Int) + 1 ≤ 5864062014805 := by omega
          obtain ⟨e, he⟩ : ∃ q, D[i]? = some q := ⟨_, List.getElem?_eq_getElem (by have := HF.out.2.2.2.2.2.1; omega)⟩
          have hB7 := HBB.out.trans (hBr.mono HBB.out.size)
          obtain ⟨gd, od, xe, ce, rfl, hgd, q2, kE⟩ := (HF.out.2.2.2.2.1.kept hB7).at i e he
          have hI3 := HI.out.later hBr
          obtain ⟨u, hu⟩ : ∃ q, us[i]? = some q := ⟨_, List.getElem?_eq_getElem (by have := hI3.len; omega)⟩
          obtain ⟨gi, ci, rfl, hO, -⟩ := hI3.each i u e hu he
          obtain ⟨gI, cI', hxI, -, -, -, -⟩ := hI3.own.form (fun h9 => by rw [h9] at hu; simp at hu)
          simp only [Value.slice.injEq] at hxI
          obtain ⟨rfl, -, rfl⟩ := hxI
          have q1 := hI3.own.cell i _ hu
          obtain ⟨ne, hne⟩ : ∃ q, e.length = q := ⟨_, rfl⟩
          have hne9 : ne ≤ 1954687338211 := by rw [← hne]; exact HF.out.2.2.2.2.2.2.1 e (List.mem_of_getElem? he)
          rw [hne] at q1 q2 kE hO
          have q3 := lent_at hO hne
          have HE : Hid (D[i]? = some e ∧ e.length = ne ∧ ne ≤ 1954687338211) := ⟨he, hne, hne9⟩
          have HK1 : Hid (IsK wrE wr (.slice (some ⟨gi, 0, none⟩) ne ci) e) := lent_is hO hne
          have HK2 : Hid (IsK wrE wr (.slice xe ne ce) e) := kE
          have hci : ne + 1 ≤ ci := by obtain ⟨-, -, -, -, hle, -⟩ := hO.heap; exact hle
          have FI : Hid ((0 : Int) ≤ (i : Int) ∧ (i : Int) < (nd : Int)) := ⟨i0, i1⟩
          have FE : Hid (IntKind.i64.wrap ((ne : Int) + 1) = (ne : Int) + 1 ∧ (0 : Int) ≤ (ne : Int) + 1 ∧ (ne : Int) + 1 ≤ (ci : Int) ∧ ((ne : Int) + 1).toNat = ne + 1 ∧ (ne : Int) < (ci : Int)) := ⟨by simp [IntKind.wrap, IntKind.bits, IntKind.signed]; omega, by omega, by omega, by omega, by omega⟩
          have FE2 : Hid ((0 : Int) ≤ (ne : Int) ∧ (ne : Int) < (ne : Int) + 1) := ⟨by omega, by omega⟩
          have HBR : Hid (Below wb.heap.size wb wr) := hBr
          clear hBr hB7 he hu hO hne hne9 kE hci hI3
          go_upto_region 20 with fail
          refine wp_reliesT [Fx (.slice (some ⟨gI, 0, none⟩) nd cI), Fx (.int .i64 (i : Int)), Fx (.pointer (some ⟨gI, i, none⟩)), Fx (.slice (some ⟨gi, 0, none⟩) ne ci), Fx (.slice (some ⟨gd, od, none⟩) nd cd), Fx (.int .i64 (i : Int)), Fx (.pointer (some ⟨gd, od + i, none⟩)), Fx (.slice xe ne ce), Fx (.int .i64 (ne : Int)), Fx (.int .i64 ((ne : Int) + 1)), Fx (.slice (some ⟨gi, 0, none⟩) (ne + 1) ci)] (by kernel_rfl) (by kernel_rfl) ?_ ?_ ?_
          · repeat' (first | exact all_nil | apply all_cons)
            all_goals intro v y y' hv hb
            all_goals first | exact Fx_mono _ _ _ _ hv hb
          · refine ⟨?_, ?_, ?_, ?_, ?_, ?_, ?_, ?_, ?_, ?_, ?_, trivial⟩
            all_goals
              intro ρ y9 hp ρc ρg ρf ho hd
              have o1 : ρ (.tmp 1) = .slice (some ⟨gd, od, none⟩) nd cd := ho 1 rfl
              have o9 : ρ (.tmp 9) = .slice (some ⟨gI, 0, none⟩) nd cI := ho 9 rfl
              have o12 : ρ (.tmp 12) = .int .i64 (i : Int) := ho 12 rfl
              clear ho
              replace q1 := cell_later hp q1
              replace q2 := cell_later hp q2
              simp only [depsR, depR, slotR, Fx, List.getElem?_cons_succ, List.getElem?_cons_zero, Region.binds, forall_const] at hd
              simp only [guardR]
              go_split_ands
            · go_simp
            · go_simp
            · obtain ⟨z1, z2⟩ := FI.out
              go_simp
            · go_simp
            · go_simp
            · go_simp
            · obtain ⟨z1, z2⟩ := FI.out
              go_simp
            · go_simp
            · go_simp
            · obtain ⟨z1, z2, z3, z4, z5⟩ := FE.out
              go_simp
            · obtain ⟨z1, z2, z3, z4, z5⟩ := FE.out
              go_simp
          · intro us x1 hp1 hw
            simp only [owed, Fx] at hw
            obtain ⟨e0, e1, e2, e3, e4, e5, e6, e7, e8, e9, e10, -⟩ := hw
            simp only [List.length_cons, List.length_nil, List.take_succ_cons, List.take_zero, List.drop_succ_cons, List.drop_zero, asg, List.cons_append, List.nil_append, e0, e1, e2, e3, e4, e5, e6, e7, e8, e9, e10]
            clear e0 e1 e2 e3 e4 e5 e6 e7 e8 e9 e10
            replace q1 := cell_later hp1 q1
            replace q2 := cell_later hp1 q2
            replace q3 := cell_later hp1 q3
            replace HK1 : Hid (IsK wrE x1 (.slice (some ⟨gi, 0, none⟩) ne ci) e) := HK1.out.kept hp1
            replace HK2 : Hid (IsK wrE x1 (.slice xe ne ce) e) := HK2.out.kept hp1
            replace HBR : Hid (Below wb.heap.size wb x1) := HBR.out.trans (hp1.mono HBR.out.size)
            clear hp1
            obtain ⟨wr, rfl⟩ : ∃ q, q = x1 := ⟨_, rfl⟩
            go_upto_region 21 with fail
            refine wp_relies [Fx (.slice (some ⟨gI, 0, none⟩) nd cI), Fx (.int .i64 (i : Int)), Fx (.pointer (some ⟨gI, i, none⟩)), Fx (.slice (some ⟨gi, 0, none⟩) ne ci), Fx (.slice (some ⟨gd, od, none⟩) nd cd), Fx (.int .i64 (i : Int)), Fx (.pointer (some ⟨gd, od + i, none⟩)), Fx (.slice xe ne ce), Fx (.bool true), Fx (.bool false), Fx (.bool false), Fx (.slice (some ⟨gi, 0, none⟩) (ne + 1) ci), Fx (.slice (some ⟨gd, od, none⟩) nd cd), Fx (.int .i64 (i : Int)), Fx (.pointer (some ⟨gd, od + i, none⟩)), Fx (.slice xe ne ce), Fx (.int .i64 (ne : Int)), Fx (.pointer (some ⟨gi, ne * 65, none⟩)), Fx (.pointer (some ⟨gi, ne * 65, none⟩)), Fx (.int .i64 (-77)), Fx (.bool false), Fx (.bool false)] (by kernel_rfl) (by kernel_rfl) ?_ ?_ ?_
            · repeat' (first | exact all_nil | apply all_cons)
              all_goals intro v y y' hv hb
              all_goals first | exact Fx_mono _ _ _ _ hv hb
            · refine ⟨?_, ?_, ?_, ?_, ?_, ?_, ?_, ?_, ?_, ?_, ?_, ?_, ?_, ?_, ?_, ?_, ?_, ?_, ?_, ?_, ?_, ?_, trivial⟩
              all_goals
                intro ρ y9 hp ρc ρg ρf ho hd
                have o1 : ρ (.tmp 1) = .slice (some ⟨gd, od, none⟩) nd cd := ho 1 rfl
                have o9 : ρ (.tmp 9) = .slice (some ⟨gI, 0, none⟩) nd cI := ho 9 rfl
                have o12 : ρ (.tmp 12) = .int .i64 (i : Int) := ho 12 rfl
                have o13 : ρ (.tmp 13) = .slice (some ⟨gi, 0, none⟩) (ne + 1) ci := ho 13 rfl
                clear ho
                replace q1 := cell_later hp q1
                replace q2 := cell_later hp q2
                replace q3 := cell_later hp q3
                simp only [depsR, depR, slotR, Fx, List.getElem?_cons_succ, List.getElem?_cons_zero, Region.binds, forall_const] at hd
                simp only [guardR]
                go_split_ands
              · go_simp
              · go_simp
              · obtain ⟨z1, z2⟩ := FI.out
                go_simp
              · go_simp
              · go_simp
              · go_simp
              · obtain ⟨z1, z2⟩ := FI.out
                go_simp
              · go_simp
              · go_simp
                refine (same26_any (some ⟨gi, 0, none⟩) xe ci ce ne ne e e y9 HE.out.2.1 HE.out.2.1 (HK1.out.kept hp) (HK2.out.kept hp) (by have := HE.out.2.2; omega)).mono ?_
                rintro e9 x' ⟨rfl, hb⟩
                exact ⟨_, rfl, by simp [Fx], hb⟩
              · go_simp
              · go_simp
              · refine ⟨fun _ => ?_, fun hy => absurd (by simp [yieldR, slotR, *]) hy⟩
                go_simp
              · refine ⟨fun _ => ?_, fun hy => absurd (by simp [yieldR, slotR, *]) hy⟩
                go_simp
              · refine ⟨fun _ => ?_, fun hy => absurd (by simp [yieldR, slotR, *]) hy⟩
                go_simp
              · refine ⟨fun _ => ?_, fun hy => absurd (by simp [yieldR, slotR, *]) hy⟩
                obtain ⟨z1, z2⟩ := FI.out
                go_simp
              · refine ⟨fun _ => ?_, fun hy => absurd (by simp [yieldR, slotR, *]) hy⟩
                go_simp
              · refine ⟨fun _ => ?_, fun hy => absurd (by simp [yieldR, slotR, *]) hy⟩
                go_simp
              · refine ⟨fun _ => ?_, fun hy => absurd (by simp [yieldR, slotR, *]) hy⟩
                obtain ⟨z1, z2⟩ := FE2.out
                go_simp
              · refine ⟨fun _ => ?_, fun hy => absurd (by simp [yieldR, slotR, *]) hy⟩
                go_simp
              · refine ⟨fun _ => ?_, fun hy => absurd (by simp [yieldR, slotR, *]) hy⟩
                go_simp
              · refine ⟨fun _ => ?_, fun hy => absurd (by simp [yieldR, slotR, *]) hy⟩
                go_simp
              · go_simp
            · intro us x1 hp1 hw
              simp only [owed, Fx] at hw
              obtain ⟨e0, e1, e2, e3, e4, e5, e6, e7, e8, e9, e10, e11, e12, e13, e14, e15, e16, e17, e18, e19, e20, e21, -⟩ := hw
              simp only [List.length_cons, List.length_nil, List.take_succ_cons, List.take_nil, List.drop_succ_cons, List.drop_nil, asg, List.cons_append, List.nil_append, e0, e1, e2, e3, e4, e5, e6, e7, e8, e9, e10, e11, e12, e13, e14, e15, e16, e17, e18, e19, e20, e21]
              clear e0 e1 e2 e3 e4 e5 e6 e7 e8 e9 e10 e11 e12 e13 e14 e15 e16 e17 e18 e19 e20 e21
              have HBS : Hid (Below wb.heap.size wb x1) := HBR.out.trans (hp1.mono HBR.out.size)
              clear hp1 q1 q2 q3
              go_wp2
              go_roundw
              case rel => exact ⟨i + 1, by omega, by go_num, HBS.out⟩
              case measure => simp [intOf]; omega
        · obtain rfl : i = nd := by omega
          have i1 : ¬ (i : Int) < (i : Int) := by omega
          obtain ⟨nd, rfl⟩ : ∃ q, q = i := ⟨_, rfl⟩
          obtain ⟨wc, rfl⟩ : ∃ q, q = wr := ⟨_, rfl⟩
          have hB7 := HBB.out.trans (hBr.mono HBB.out.size)
          have HGc : Hid (OwnK wrE wc w1.heap.size (.slice (some ⟨gg, 0, none⟩) (n + 1) cg) (l ++ [e77])) := HW.out.2.2.1.keep hB7
          have HCc : Hid (OLL wc w2.heap.size (.slice yw k cw) (cutW S) ∧ CutP wc w3.heap.size (.slice ya k ca) (cutW S) pa ∧ OwnK wrE wc w7.heap.size (.slice yl m cl) (leftW S D) ∧ Below w.heap.size w wc ∧ w6.heap.size ≤ wc.heap.size) := ⟨HW.out.1.later hB7, HW.out.2.1.later hB7, HL.out.1.keep hBr, HF.out.2.2.2.2.2.2.2.1.trans (hB7.mono HF.out.2.2.2.2.2.2.2.1.size), hB7.size⟩
          clear hBr hB7
          go_wp2_with fail
          go_loopw [14] (fun iv wr => ∃ (i : Nat) (ds : List Wr), i ≤ n + 1 ∧ iv = .int .i64 i ∧ Keep [gg] wc wr ∧ OwnK wrE wr w1.heap.size (.slice (some ⟨gg, 0, none⟩) (n + 1) cg) ds) (fun iv _ => n + 1 - (intOf iv).toNat)
          case atStart => exact ⟨0, _, Nat.zero_le _, rfl, Keep.refl _ _, HGc.out⟩
          case round =>
            obtain ⟨i, ds, hin, rfl, hK, hO⟩ := hrel
            by_cases hlt : i < n + 1
            · have i0 : (0 : Int) ≤ (i : Int) := by omega
              have i1 : (i : Int) < ((n + 1 : Nat) : Int) := by omega
              have i2 : (i : Int) < (n : Int) + 1 := by omega
              have hwi : (i : Int) + 1 ≤ 1954687338267 := by omega
              have hst := wrSt26 (o := i * 65) (hO.store wrE_ok i (4, secZ) hlt)
              have HO2 : Hid (OwnK wrE (wr.setCells gg (i * 65) (wrE.enc (4, secZ))) w1.heap.size (.slice (some ⟨gg, 0, none⟩) (n + 1) cg) (ds.set i (4, secZ))) := hO.put wrE_ok i (4, secZ) hlt
              have HK2 : Hid (Keep [gg] wc (wr.setCells gg (i * 65) (wrE.enc (4, secZ)))) := hK.trans (Keep.of_grown (grown_setC wr gg (i * 65) (wrE.enc (4, secZ))) (fun q hq => by cases hq; simp))
              replace hst : (wrStore (.pointer (some ⟨gg, i * 65, none⟩)) (.agg (wrA (4, secZ)))).run Try.prog wr = .ok .skip (wr.setCells gg (i * 65) (wrE.enc (4, secZ))) := hst
              clear hO hK
              go_wp2
              go_roundw
              case rel => exact ⟨i + 1, _, by omega, by go_num, HK2.out, HO2.out⟩
              case measure => simp [intOf]; omega
            · obtain rfl : i = n + 1 := by omega
              have i1 : ¬ ((n + 1 : Nat) : Int) < ((n + 1 : Nat) : Int) := by omega
              have i2 : ¬ (n : Int) + 1 < (n : Int) + 1 := by omega
              have hz := HZ.out
              have hlk := HW.out.2.2.2.1
              have hkn := HW.out.2.2.2.2.1
              have hA := HCc.out.2.1.keeps hK (fun f hf => by simp at hf; subst hf; omega)
              have hQ := HCc.out.1.keeps hK (fun f hf => by simp at hf; subst hf; omega)
              have hL := HCc.out.2.2.1.keeps hK (fun q hq h9 => by
                simp at h9
                subst h9
                have h1 := (World.ownsRow.lt HCc.out.2.2.1 q hq).1
                have h2 := HL.out.2.2.2
                omega)
              have hs5 := HCc.out.2.2.2.2
              have hBw : Below w.heap.size w wr := HCc.out.2.2.2.1.trans (hK.below (fun f hf => by simp at hf; subst hf; omega) HCc.out.2.2.2.1.size)
              have hC := all26_any (cutW S) (cutW S) ya yw k k ca cw wr hlk hlk hA.isLL hQ.isLL (by omega) (fun d hd => by have := cutW_mem S d hd; omega)
              simp only [decide_true] at hC
              have HB5 : Hid (Below w.heap.size w wr ∧ OwnK wrE wr w7.heap.size (.slice yl m cl) (leftW S D)) := ⟨hBw, hL⟩
              clear hA hQ hL hBw hK hO
              go_wp2_with fail
              refine hC.mono ?_
              rintro e wx ⟨rfl, bx⟩
              clear hC
              have hdl : ∀ e ∈ D, e.length ≤ 140737488355328 := fun e he => by have := HF.out.2.2.2.2.2.2.1 e he; omega
              have hBx := HB5.out.1.trans (bx.mono HB5.out.1.size)
              have hC := refLeft26_any l x0 n c D xd nd cd wx HF.out.2.1 (HF.out.2.2.2.2.2.2.2.2.1.kept hBx) HF.out.2.2.1 HF.out.2.2.2.2.2.1 (HF.out.2.2.2.2.2.2.2.2.2.kept hBx) (by omega) hdl
              rw [HS.out] at hC
              have HB6 : Hid (Below w.heap.size w wx ∧ OwnK wrE wx w7.heap.size (.slice yl m cl) (leftW S D)) := ⟨hBx, HB5.out.2.keep bx⟩
              clear bx hBx hdl
              go_wp2_with fail
              refine hC.mono ?_
              rintro e wy ⟨yr, mr, cr, rfl, hmr, hR, by9⟩
              clear hC
              have hm := HL.out.2.1
              have hmn := HL.out.2.2.1
              obtain rfl : m = mr := by rw [← hm, ← hmr]
              have hC := same26_any yl yr cl cr m m _ _ wy hm hm ((HB6.out.2.isK wrE_ok).kept by9) (hR.isK wrE_ok) (by omega)
              simp only [decide_true] at hC
              have HB7 : Hid (Below w.heap.size w wy) := HB6.out.1.trans (by9.mono HB6.out.1.size)
              clear hR by9
              go_wp2_with fail
              refine hC.mono ?_
              rintro e wz ⟨rfl, bz⟩
              clear hC
              have HB8 : Hid (Below w.heap.size w wz) := HB7.out.trans (bz.mono HB7.out.size)
              clear bz
              go_wp2
              go_ret
              exact ⟨rfl, HB8.out⟩
end Go.Proofs.Ytmbkkdojjfdliaa
