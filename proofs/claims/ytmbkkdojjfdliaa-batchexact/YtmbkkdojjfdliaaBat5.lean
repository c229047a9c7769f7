
import Derived.Test.YtmbkkdojjfdliaaBat4
namespace Go.Proofs.Ytmbkkdojjfdliaa
open Go.RowKit

/-! assayref26.Left -/
def preW (D : List (List Wr)) (k : Nat) (e : List Wr) (j : Nat) (a : Int) : Bool := hasW (D.take k) a || (e.take j).any fun y => y.1 == a
theorem preW_zero (D : List (List Wr)) (k : Nat) (e : List Wr) (a : Int) : preW D k e 0 a = hasW (D.take k) a := by simp [preW]
theorem preW_next (D : List (List Wr)) (k : Nat) (e : List Wr) (j : Nat) (a : Int) (y : Wr) (h : e[j]? = some y) : preW D k e (j + 1) a = (preW D k e j a || (y.1 == a)) := by
  unfold preW
  rw [List.take_add_one, h, List.any_append, Bool.or_assoc]
  simp
theorem preW_end (D : List (List Wr)) (k : Nat) (e : List Wr) (a : Int) (h : D[k]? = some e) : preW D k e e.length a = hasW (D.take (k + 1)) a := by
  unfold preW hasW
  rw [List.take_add_one, h, List.any_append, List.take_length]
  simp
set_option linter.unusedSimpArgs false in
set_option maxRecDepth 100000 in
set_option maxHeartbeats 16000000 in
theorem refLeft26_any (l : List Wr) (x0 : Option Addr) (n c : Nat) (D : List (List Wr)) (xd : Option Addr) (nd cd : Nat) (w : World) (hn : l.length = n) (hl : IsK wrE w (.slice x0 n c) l) (hn47 : (n + 1) * 72 ≤ 140737488355328) (hnd : D.length = nd) (hD : IsLL w (.slice xd nd cd) D) (hd63 : nd ≤ 140737488355328) (hdl : ∀ e ∈ D, e.length ≤ 140737488355328) :
    Calls Try.prog 15 #[.slice x0 n c, .slice xd nd cd] w fun e w' => ∃ y k c', e = .returned (.slice y k c') ∧ (leftW (srtW l) D).length = k ∧ OwnK wrE w' w.heap.size (.slice y k c') (leftW (srtW l) D) ∧ Below w.heap.size w w' := by
  have hSo := refSorted26_any l x0 n c w hn hl hn47
  have hsl := srtW_len l
  obtain ⟨S, hS⟩ : ∃ q, srtW l = q := ⟨_, rfl⟩
  rw [hS] at hSo hsl ⊢
  go_enter Try.func15, Try.ntmps15
  go_wp2_with fail
  refine hSo.mono ?_
  rintro e w1 ⟨ys, ns, cs, rfl, hns, oS, b1⟩
  clear hSo
  have HW : Hid (IsK wrE w1 (.slice ys ns cs) S ∧ S.length = ns ∧ ns ≤ n ∧ Below w.heap.size w w1 ∧ IsLL w1 (.slice xd nd cd) D ∧ D.length = nd ∧ (n + 1) * 72 ≤ 140737488355328 ∧ nd ≤ 140737488355328 ∧ ∀ e ∈ D, e.length ≤ 140737488355328) := ⟨oS.isK wrE_ok, hns, by omega, b1, hD.kept b1, hnd, hn47, hd63, hdl⟩
  clear hns oS hsl b1 hD hnd hn47 hd63 hdl hl hn hS
  go_wp2_with fail
  go_loopw [6, 7] (fun v iv wr => ∃ (i : Nat) (y : Option Addr) (m co : Nat), i ≤ ns ∧ iv = .int .i64 i ∧ v = .slice y m co ∧ (leftW (S.take i) D).length = m ∧ OwnK wrE wr w1.heap.size (.slice y m co) (leftW (S.take i) D) ∧ Below w1.heap.size w1 wr) (fun _ iv _ => ns - (intOf iv).toNat)
  case atStart => exact ⟨0, none, 0, 0, by omega, rfl, rfl, rfl, OwnK.nil _ _ _, Below.refl _ _⟩
  case round =>
    obtain ⟨i, y, m, co, hi, rfl, rfl, hm, oA, hB⟩ := hrel
    by_cases hlt : i < ns
    · have i0 : (0 : Int) ≤ (i : Int) := by omega
      have i1 : (i : Int) < (ns : Int) := by omega
      obtain ⟨x, hx⟩ : ∃ d, S[i]? = some d := ⟨_, List.getElem?_eq_getElem (by have := HW.out.2.1; omega)⟩
      obtain ⟨gs, os, rfl, hgs, hr0⟩ := HW.out.1.at i x hx
      have HX : Hid (∀ W, Below w1.heap.size w1 W → W.rangeAt gs (os + i * 65) (wrE.enc x)) := fun W hW => range_later hr0 hW
      have HT : Hid (leftW (S.take (i + 1)) D = leftW (S.take i) D ++ (if hasW D x.1 then [] else [x])) := leftW_take S D i x hx
      have HA : Hid ((leftW (S.take i) D).length = m ∧ OwnK wrE wr w1.heap.size (.slice y m co) (leftW (S.take i) D)) := ⟨hm, oA⟩
      have HM : Hid (m ≤ i) := by
        show _ ≤ _
        rw [← hm]
        unfold leftW
        exact Nat.le_trans (List.length_filter_le _ _) (by rw [List.length_take]; omega)
      have FI : Hid ((0 : Int) ≤ (i : Int) ∧ (i : Int) < (ns : Int)) := ⟨i0, i1⟩
      obtain ⟨wo, rfl⟩ : ∃ wo, wo = wr := ⟨_, rfl⟩
      have HB : Hid (Below w1.heap.size w1 wo) := hB
      clear hr0 hm oA hx hB
      go_wp2_with fail
      go_loopw [8, 9] (fun bv kv wr => ∃ k : Nat, k ≤ nd ∧ kv = .int .i64 k ∧ bv = .bool (hasW (D.take k) x.1) ∧ Below wo.heap.size wo wr) (fun _ kv _ => nd - (intOf kv).toNat)
      case atStart => exact ⟨0, by omega, rfl, by simp [hasW], Below.refl _ _⟩
      case round =>
        obtain ⟨k, hk, rfl, rfl, hB2⟩ := hrel
        by_cases hkt : k < nd
        · have k0 : (0 : Int) ≤ (k : Int) := by omega
          have k1 : (k : Int) < (nd : Int) := by omega
          obtain ⟨e, he⟩ : ∃ d, D[k]? = some d := ⟨_, List.getElem?_eq_getElem (by have := HW.out.2.2.2.2.2.1; omega)⟩
          obtain ⟨gd, od, xe, ce, rfl, hgd, hc0, hk0⟩ := HW.out.2.2.2.2.1.at k e he
          obtain ⟨ne, hne⟩ : ∃ q, e.length = q := ⟨_, rfl⟩
          rw [hne] at hc0 hk0
          have HE : Hid (e.length = ne ∧ ne ≤ 140737488355328 ∧ IsK wrE w1 (.slice xe ne ce) e ∧ D[k]? = some e) := ⟨hne, by have := HW.out.2.2.2.2.2.2.2.2 e (List.mem_of_getElem? he); omega, hk0, he⟩
          have HC : Hid (∀ W, Below w1.heap.size w1 W → W.cell? ⟨gd, od + k, none⟩ = some (.slice xe ne ce)) := fun W hW => cell_later hW hc0
          have FK : Hid ((0 : Int) ≤ (k : Int) ∧ (k : Int) < (nd : Int)) := ⟨k0, k1⟩
          obtain ⟨w2, rfl⟩ : ∃ wo, wo = wr := ⟨_, rfl⟩
          have HB2 : Hid (Below wo.heap.size wo w2 ∧ k < nd) := ⟨hB2, hkt⟩
          clear hc0 hk0 he hne hB2 hk hkt
          go_wp2_with fail
          go_loopw [8, 10] (fun bv jv wr => ∃ j : Nat, j ≤ ne ∧ jv = .int .i64 j ∧ bv = .bool (preW D k e j x.1) ∧ Below w2.heap.size w2 wr) (fun _ jv _ => ne - (intOf jv).toNat)
          case atStart => exact ⟨0, by omega, rfl, by rw [preW_zero], Below.refl _ _⟩
          case round =>
            obtain ⟨j, hj, rfl, rfl, hB3⟩ := hrel
            have hBw : Below w1.heap.size w1 wr := HB.out.trans ((HB2.out.1.trans (hB3.mono HB2.out.1.size)).mono HB.out.size)
            have q1 := HC.out wr hBw
            by_cases hjt : j < ne
            · have j0 : (0 : Int) ≤ (j : Int) := by omega
              have j1 : (j : Int) < (ne : Int) := by omega
              obtain ⟨y9, hy⟩ : ∃ d, e[j]? = some d := ⟨_, List.getElem?_eq_getElem (by have := HE.out.1; omega)⟩
              obtain ⟨ge, oe, rfl, hge, hr1⟩ := HE.out.2.2.1.at j y9 hy
              obtain ⟨y, rfl⟩ : ∃ q, q = y9 := ⟨_, rfl⟩
              have q2 : wr.cell? ⟨ge, oe + j * 65, none⟩ = some (.int .i64 y.1) := wr_at26 (range_later hr1 hBw)
              have hz9 := HE.out.2.1
              have q3 := wr_at26 (HX.out wr hBw)
              have HP := preW_next D k e j x.1 y hy
              obtain ⟨r9, hr9⟩ : ∃ q, (y.1 == x.1) = q := ⟨_, rfl⟩
              have HR9 : Hid ((y.1 == x.1) = r9) := hr9
              rw [hr9] at HP
              have HPN : Hid _ := HP
              have FJ : Hid ((0 : Int) ≤ (j : Int) ∧ (j : Int) < (ne : Int)) := ⟨j0, j1⟩
              clear hr1 hy hBw hr9 HP
              cases hb : preW D k e j x.1 with
              | false =>
                go_upto_region 13 with fail
                refine wp_reliesT [Fx (.bool false), Fx (.bool false), Fx (.slice (some ⟨gd, od, none⟩) nd cd), Fx (.int .i64 (k : Int)), Fx (.pointer (some ⟨gd, od + k, none⟩)), Fx (.slice (some ⟨ge, oe, none⟩) ne ce), Fx (.int .i64 (j : Int)), Fx (.pointer (some ⟨ge, oe + j * 65, none⟩)), Fx (.pointer (some ⟨ge, oe + j * 65, none⟩)), Fx (.int .i64 y.1), Fx (.slice (some ⟨gs, os, none⟩) ns cs), Fx (.int .i64 (i : Int)), Fx (.pointer (some ⟨gs, os + i * 65, none⟩)), Fx (.pointer (some ⟨gs, os + i * 65, none⟩)), Fx (.int .i64 x.1), Fx (.bool r9), Fx (.bool r9)] (by kernel_rfl) (by kernel_rfl) ?_ ?_ ?_
                · repeat' (first | exact all_nil | apply all_cons)
                  all_goals intro v y y' hv hb
                  all_goals first | exact Fx_mono _ _ _ _ hv hb
                · refine ⟨?_, ?_, ?_, ?_, ?_, ?_, ?_, ?_, ?_, ?_, ?_, ?_, ?_, ?_, ?_, ?_, ?_, trivial⟩
                  all_goals
                    intro ρ y9 hp ρc ρg ρf ho hd
                    have o1 : ρ (.tmp 1) = .slice (some ⟨gd, od, none⟩) nd cd := ho 1 rfl
                    have o5 : ρ (.tmp 5) = .slice (some ⟨gs, os, none⟩) ns cs := ho 5 rfl
                    have o7 : ρ (.tmp 7) = .int .i64 (i : Int) := ho 7 rfl
                    have o8 : ρ (.tmp 8) = .bool false := ho 8 rfl
                    have o9 : ρ (.tmp 9) = .int .i64 (k : Int) := ho 9 rfl
                    have o10 : ρ (.tmp 10) = .int .i64 (j : Int) := ho 10 rfl
                    clear ho
                    replace q1 := cell_later hp q1
                    replace q2 := cell_later hp q2
                    replace q3 := cell_later hp q3
                    simp only [depsR, depR, slotR, Fx, List.getElem?_cons_succ, List.getElem?_cons_zero, Region.binds, forall_const] at hd
                    simp only [guardR]
                    go_split_ands
                  · go_simp
                  · go_simp
                  · refine ⟨fun _ => ?_, fun hy => absurd (by simp [yieldR, slotR, *]) hy⟩
                    go_simp
                  · refine ⟨fun _ => ?_, fun hy => absurd (by simp [yieldR, slotR, *]) hy⟩
                    go_simp
                  · refine ⟨fun _ => ?_, fun hy => absurd (by simp [yieldR, slotR, *]) hy⟩
                    obtain ⟨z1, z2⟩ := FK.out
                    go_simp
                  · refine ⟨fun _ => ?_, fun hy => absurd (by simp [yieldR, slotR, *]) hy⟩
                    go_simp
                  · refine ⟨fun _ => ?_, fun hy => absurd (by simp [yieldR, slotR, *]) hy⟩
                    go_simp
                  · refine ⟨fun _ => ?_, fun hy => absurd (by simp [yieldR, slotR, *]) hy⟩
                    obtain ⟨z1, z2⟩ := FJ.out
                    go_simp
                  · refine ⟨fun _ => ?_, fun hy => absurd (by simp [yieldR, slotR, *]) hy⟩
                    go_simp
                  · refine ⟨fun _ => ?_, fun hy => absurd (by simp [yieldR, slotR, *]) hy⟩
                    go_simp
                  · refine ⟨fun _ => ?_, fun hy => absurd (by simp [yieldR, slotR, *]) hy⟩
                    go_simp
                  · refine ⟨fun _ => ?_, fun hy => absurd (by simp [yieldR, slotR, *]) hy⟩
                    go_simp
                  · refine ⟨fun _ => ?_, fun hy => absurd (by simp [yieldR, slotR, *]) hy⟩
                    obtain ⟨z1, z2⟩ := FI.out
                    go_simp
                  · refine ⟨fun _ => ?_, fun hy => absurd (by simp [yieldR, slotR, *]) hy⟩
                    go_simp
                  · refine ⟨fun _ => ?_, fun hy => absurd (by simp [yieldR, slotR, *]) hy⟩
                    go_simp
                  · refine ⟨fun _ => ?_, fun hy => absurd (by simp [yieldR, slotR, *]) hy⟩
                    have z9 := HR9.out
                    go_simp
                  · go_simp
                · intro us x1 hp1 hw
                  simp only [owed, Fx] at hw
                  obtain ⟨e0, e1, e2, e3, e4, e5, e6, e7, e8, e9, e10, e11, e12, e13, e14, e15, e16, -⟩ := hw
                  simp only [List.length_cons, List.length_nil, List.take_succ_cons, List.take_zero, List.drop_succ_cons, List.drop_zero, asg, List.cons_append, List.nil_append, e0, e1, e2, e3, e4, e5, e6, e7, e8, e9, e10, e11, e12, e13, e14, e15, e16]
                  clear e0 e1 e2 e3 e4 e5 e6 e7 e8 e9 e10 e11 e12 e13 e14 e15 e16
                  have HB3 : Hid (Below w2.heap.size w2 x1) := hB3.trans (hp1.mono hB3.size)
                  have HPN2 : Hid (preW D k e (j + 1) x.1 = r9) := by show _ = _; rw [HPN.out, hb]; rfl
                  clear hp1 hB3 q1 q2 q3 HPN hb
                  go_wp2
                  go_roundw
                  case rel => exact ⟨j + 1, by omega, by go_num, by rw [HPN2.out], HB3.out⟩
                  case measure => simp [intOf]; omega
              | true =>
                go_upto_region 13 with fail
                refine wp_reliesT [Fx (.bool true), Fx (.bool true), Fx (undef), Fx (undef), Fx (undef), Fx (undef), Fx (undef), Fx (undef), Fx (undef), Fx (undef), Fx (undef), Fx (undef), Fx (undef), Fx (undef), Fx (undef), Fx (undef), Fx (.bool true)] (by kernel_rfl) (by kernel_rfl) ?_ ?_ ?_
                · repeat' (first | exact all_nil | apply all_cons)
                  all_goals intro v y y' hv hb
                  all_goals first | exact Fx_mono _ _ _ _ hv hb
                · refine ⟨?_, ?_, ?_, ?_, ?_, ?_, ?_, ?_, ?_, ?_, ?_, ?_, ?_, ?_, ?_, ?_, ?_, trivial⟩
                  all_goals
                    intro ρ y9 hp ρc ρg ρf ho hd
                    have o8 : ρ (.tmp 8) = .bool true := ho 8 rfl
                    clear ho
                    replace q1 := cell_later hp q1
                    replace q2 := cell_later hp q2
                    replace q3 := cell_later hp q3
                    simp only [depsR, depR, slotR, Fx, List.getElem?_cons_succ, List.getElem?_cons_zero, Region.binds, forall_const] at hd
                    simp only [guardR]
                    go_split_ands
                  · go_simp
                  · go_simp
                  · refine ⟨fun hy => ?_, fun _ => rfl⟩
                    exfalso; simp [yieldR, slotR, undef, *] at hy
                  · refine ⟨fun hy => ?_, fun _ => rfl⟩
                    exfalso; simp [yieldR, slotR, undef, *] at hy
                  · refine ⟨fun hy => ?_, fun _ => rfl⟩
                    exfalso; simp [yieldR, slotR, undef, *] at hy
                  · refine ⟨fun hy => ?_, fun _ => rfl⟩
                    exfalso; simp [yieldR, slotR, undef, *] at hy
                  · refine ⟨fun hy => ?_, fun _ => rfl⟩
                    exfalso; simp [yieldR, slotR, undef, *] at hy
                  · refine ⟨fun hy => ?_, fun _ => rfl⟩
                    exfalso; simp [yieldR, slotR, undef, *] at hy
                  · refine ⟨fun hy => ?_, fun _ => rfl⟩
                    exfalso; simp [yieldR, slotR, undef, *] at hy
                  · refine ⟨fun hy => ?_, fun _ => rfl⟩
                    exfalso; simp [yieldR, slotR, undef, *] at hy
                  · refine ⟨fun hy => ?_, fun _ => rfl⟩
                    exfalso; simp [yieldR, slotR, undef, *] at hy
                  · refine ⟨fun hy => ?_, fun _ => rfl⟩
                    exfalso; simp [yieldR, slotR, undef, *] at hy
                  · refine ⟨fun hy => ?_, fun _ => rfl⟩
                    exfalso; simp [yieldR, slotR, undef, *] at hy
                  · refine ⟨fun hy => ?_, fun _ => rfl⟩
                    exfalso; simp [yieldR, slotR, undef, *] at hy
                  · refine ⟨fun hy => ?_, fun _ => rfl⟩
                    exfalso; simp [yieldR, slotR, undef, *] at hy
                  · refine ⟨fun hy => ?_, fun _ => rfl⟩
                    exfalso; simp [yieldR, slotR, undef, *] at hy
                  · go_simp
                · intro us x1 hp1 hw
                  simp only [owed, Fx] at hw
                  obtain ⟨e0, e1, e2, e3, e4, e5, e6, e7, e8, e9, e10, e11, e12, e13, e14, e15, e16, -⟩ := hw
                  simp only [List.length_cons, List.length_nil, List.take_succ_cons, List.take_zero, List.drop_succ_cons, List.drop_zero, asg, List.cons_append, List.nil_append, e0, e1, e2, e3, e4, e5, e6, e7, e8, e9, e10, e11, e12, e13, e14, e15, e16]
                  clear e0 e1 e2 e3 e4 e5 e6 e7 e8 e9 e10 e11 e12 e13 e14 e15 e16
                  have HB3 : Hid (Below w2.heap.size w2 x1) := hB3.trans (hp1.mono hB3.size)
                  have HPN2 : Hid (preW D k e (j + 1) x.1 = true) := by show _ = _; rw [HPN.out, hb]; rfl
                  clear hp1 hB3 q1 q2 q3 HPN hb
                  go_wp2
                  go_roundw
                  case rel => exact ⟨j + 1, by omega, by go_num, by rw [HPN2.out], HB3.out⟩
                  case measure => simp [intOf]; omega
            · obtain rfl : j = ne := by omega
              have j1 : ¬ (j : Int) < (j : Int) := by omega
              have HP : Hid (preW D k e j x.1 = hasW (D.take (k + 1)) x.1) := by
                show _ = _
                have h8 := HE.out.1
                have h9 := preW_end D k e x.1 HE.out.2.2.2
                rwa [h8] at h9
              have HB3 : Hid (Below wo.heap.size wo wr) := HB2.out.1.trans (hB3.mono HB2.out.1.size)
              have HK : Hid (k < nd) := HB2.out.2
              have hz9 := HW.out.2.2.2.2.2.2.2.1
              clear hB3 hBw
              go_wp2
              go_roundw
              case rel => exact ⟨k + 1, by have := HK.out; omega, by have := HK.out; go_num, by rw [HP.out], HB3.out⟩
              case measure => have := HK.out; simp [intOf]; omega
        · obtain rfl : k = nd := by omega
          have k1 : ¬ (k : Int) < (k : Int) := by omega
          have hall : D.take k = D := List.take_of_length_le (by have := HW.out.2.2.2.2.2.1; omega)
          rw [hall]
          have hBw := HB.out.trans (hB2.mono HB.out.size)
          cases hb : hasW D x.1 with
          | true =>
            have HE : Hid (leftW (S.take (i + 1)) D = leftW (S.take i) D) := by show _ = _; rw [HT.out, hb]; simp
            have HO : Hid (OwnK wrE wr w1.heap.size (.slice y m co) (leftW (S.take i) D)) := HA.out.2.keep hB2
            have HBw : Hid _ := hBw
            clear hB2 hBw
            have hz9 := HW.out.2.2.1
            have hz8 := HW.out.2.2.2.2.2.2.1
            go_wp2
            go_roundw
            case rel => exact ⟨i + 1, _, m, co, by omega, by go_num, rfl, by rw [HE.out]; exact HA.out.1, by rw [HE.out]; exact HO.out, HBw.out⟩
            case measure => simp [intOf]; omega
          | false =>
            obtain ⟨rg1, rg2⟩ := wr_rg26 (HX.out _ hBw)
            have oB := HA.out.2.keep hB2
            have hA1 := HA.out.1
            have hM := HM.out
            have hN := HW.out.2.2.1
            have h47 := HW.out.2.2.2.2.2.2.1
            have hal := below_alloc wr (.cells (wrA x) wrE.T)
            have hnew : (wr.alloc (.cells (wrA x) wrE.T)).rangeAt wr.heap.size 0 (wrE.enc x) := fun j u hu => by
              rw [Nat.zero_add, cell_of_row _ _ j _ _ _ (heap_alloc_last wr _)]
              rw [wrE_enc] at hu
              simpa using hu
            obtain ⟨g, c2, w3, hr, o1, -, hg, -⟩ := run_app1K wrE_ok (wr.alloc (.cells (wrA x) wrE.T)) w1.heap.size wr.heap.size (.slice y m co) (leftW (S.take i) D) x 22 (oB.keep hal) hnew (by simp) (by rw [hA1]; show (m + 1) * 72 ≤ _; omega) (by rw [hA1]; unfold maxLen; omega) (by have := hBw.size; simp; omega)
            rw [hA1] at hr o1
            have HO : Hid (OwnK wrE w3 w1.heap.size (.slice (some ⟨g, 0, none⟩) (m + 1) c2) (leftW (S.take (i + 1)) D)) := by show OwnK _ _ _ _ _; rw [HT.out, hb]; exact o1
            have HL : Hid ((leftW (S.take (i + 1)) D).length = m + 1) := by show _ = _; rw [HT.out, hb, List.length_append, hA1]; rfl
            have HBw : Hid (Below w1.heap.size w1 w3) := (hBw.trans (hal.mono hBw.size)).trans ((oB.keep hal).below hg (by have := hBw.size; simp; omega))
            replace hr : (Builtin.append_ #[22, 22] 22 #[.slice y m co, .slice (some ⟨wr.heap.size, 0, none⟩) 1 1]).run Try.prog (wr.alloc (.cells (wrA x) 29)) = .ok (.slice (some ⟨g, 0, none⟩) (m + 1) c2) w3 := hr
            clear hB2 hBw oB hA1 hM hN h47 hal hnew o1 hg
            have hz9 := HW.out.2.2.1
            have hz8 := HW.out.2.2.2.2.2.2.1
            have hz7 : (i : Int) + 1 ≤ 1954687338267 := by omega
            go_wp2_with (at_builtin; refine wpL_appT 22 rfl _ _ rfl _ w3 (by exact hr) ?_)
            go_roundw
            case rel => exact ⟨i + 1, _, m + 1, c2, by omega, by go_num, rfl, HL.out, HO.out, HBw.out⟩
            case measure => simp [intOf]; omega
    · obtain rfl : i = ns := by omega
      have i1 : ¬ (i : Int) < (i : Int) := by omega
      rw [List.take_of_length_le (by have := HW.out.2.1; omega)] at hm oA
      have HO : Hid (OwnK wrE wr w.heap.size (.slice y m co) (leftW S D)) := oA.le HW.out.2.2.2.1.size
      have HB : Hid (Below w.heap.size w wr) := HW.out.2.2.2.1.trans (hB.mono HW.out.2.2.2.1.size)
      clear oA hB
      go_wp2
      go_ret
      exact ⟨_, _, _, rfl, by first | exact hm | rfl, HO.out, HB.out⟩
end Go.Proofs.Ytmbkkdojjfdliaa
