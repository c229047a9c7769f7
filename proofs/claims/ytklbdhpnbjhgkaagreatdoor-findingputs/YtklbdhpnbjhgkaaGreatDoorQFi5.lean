import Derived.Test.YtklbdhpnbjhgkaaGreatDoorQFi4
namespace Go.Proofs.YtklbdhpnbjhgkaaGreatDoor
open Go.RowKit Go.Sort

/-! assayref22.Put -/
theorem ownB_row22 {w : World} {B g n : Nat} {l : List UInt8} (h : rowB w g l) (hb : B ≤ g) (hn : l.length = n) (hl : n ≤ maxLen) : OwnB w B (.slice (some ⟨g, 0, none⟩) n n) l := by
  subst hn
  exact ⟨by simp [bytesA], .inr ⟨g, l.length, _, rfl, hb, h, Nat.le_refl _, hl, by simp [bytesA], by rw [List.take_of_length_le (by simp [bytesA])]⟩⟩
theorem dg_byte22 {w : World} {x : Option Addr} {n c : Nat} {l : List Dg} (h : IsK dgE w (.slice x n c) l) (i : Nat) (d : Dg) (hi : l[i]? = some d) : ∃ g o, x = some ⟨g, o, none⟩ ∧ ∀ j, j < 32 → w.cell? ⟨g, o + i * 32 + j, none⟩ = some (.int .u8 ((d j).toNat : Int)) := by
  obtain ⟨g, o, e, -, hr⟩ := h.at i d hi
  rw [dgE_k, dgE_enc] at hr
  exact ⟨g, o, e, fun j hj => hr j _ (by rw [Array.getElem?_toList, dg_secA_get d j hj])⟩
theorem dB_take (d : Dg) (j : Nat) (h : j < 32) : (dB d).take (j + 1) = (dB d).take j ++ [d j] := by
  have hl : j < (dB d).length := by rw [dB_len]; exact h
  rw [List.take_succ_eq_append_getElem hl]
  simp [dB]
set_option linter.unusedSimpArgs false in
set_option maxRecDepth 100000 in
set_option maxHeartbeats 6000000 in
theorem refPut22 (w : World) (r : Rp) (xf : Option Addr) (nf cf : Nat) (xd : Option Addr) (nd cd : Nat) (xi : Option Addr) (ni ci : Nat) (h : RpI w r xf nf cf xd nd cd xi ni ci) :
    Calls Tryz.prog 16 #[.agg (rpA r.st (.slice xf nf cf) (.slice xd nd cd) (.slice xi ni ci))] w fun e w' => PtQ w r e w' := by
  have b0 := below_alloc w (.cells (rpA r.st (.slice xf nf cf) (.slice xd nd cd) (.slice xi ni ci)) 32)
  have r0 := RowC.new w (rpA r.st (.slice xf nf cf) (.slice xd nd cd) (.slice xi ni ci)) 32
  have h0 := h.kept b0
  have hck := refCheck22 (w.alloc (.cells (rpA r.st (.slice xf nf cf) (.slice xd nd cd) (.slice xi ni ci)) 32)) r xf nf cf xd nd cd xi ni ci h0
  have ld := run_load_rp (w.alloc (.cells (rpA r.st (.slice xf nf cf) (.slice xd nd cd) (.slice xi ni ci)) 32)) w.heap.size r0.1 (by rw [r0.2]; rfl)
  rw [r0.2] at ld
  go_enter Tryz.func16, Tryz.ntmps16
  go_upto_region 1 with fail
  obtain ⟨z, hz⟩ : ∃ z, w.heap.size = z := ⟨_, rfl⟩
  try simp only [hz]
  rw [hz] at ld r0
  have HB0 : Hid (Below w.heap.size w (w.alloc (.cells (rpA r.st (.slice xf nf cf) (.slice xd nd cd) (.slice xi ni ci)) 32))) := b0
  generalize w.alloc (.cells (rpA r.st (.slice xf nf cf) (.slice xd nd cd) (.slice xi ni ci)) 32) = W at HB0 h0 hck ld r0 ⊢
  clear hz b0 h
  go_wp2_with fail
  refine hck.mono ?_
  rintro e w1 ⟨rfl, b1⟩
  have r1 := r0.kept b1
  have h1 := h0.kept b1
  have HB1 : Hid (Below w.heap.size w w1) := HB0.out.trans (b1.mono HB0.out.size)
  clear hck ld r0 h0 b1 HB0
  by_cases hC : checkM r = 0
  · have hC' : ((checkM r : Nat) : Int) = 0 := by omega
    obtain ⟨a0, ⟨a1, a2, a3⟩, k1, k2, k3⟩ := (checkM_zero r).1 hC
    have okf := chkL_ok _ _ k1
    have oki := chkL_ok _ _ k3
    have HC : Hid (checkM r = 0) := hC
    have hnf := h1.nf
    have hnd := h1.nd
    have hni := h1.ni
    unfold okSt at a0
    simp only [decide_eq_true_eq] at a0
    have c0 : w1.cell? ⟨z, 0, none⟩ = some (.int .i64 r.st) := by rw [r1.cell]; rfl
    have c1 : w1.cell? ⟨z, 1, none⟩ = some (.slice xf nf cf) := by rw [r1.cell]; rfl
    have c2 : w1.cell? ⟨z, 2, none⟩ = some (.slice xd nd cd) := by rw [r1.cell]; rfl
    have c3 : w1.cell? ⟨z, 3, none⟩ = some (.slice xi ni ci) := by rw [r1.cell]; rfl
    clear k1 k2 k3 r1 hC
    obtain ⟨sb, hsb⟩ : ∃ b : UInt8, b = UInt8.ofNat r.st.toNat := ⟨_, rfl⟩
    have hsb2 : r.st % 256 = (sb.toNat : Int) := by rw [hsb, UInt8.toNat_ofNat']; omega
    have HSB : Hid (sb = UInt8.ofNat r.st.toNat) := hsb
    clear hsb a0
    have b12 := below_alloc w1 (.cells #[.int .u8 65, .int .u8 82, .int .u8 1, .int .u8 (sb.toNat : Int)] 5)
    have hO2 : OwnB (w1.alloc (.cells #[.int .u8 65, .int .u8 82, .int .u8 1, .int .u8 (sb.toNat : Int)] 5)) w1.heap.size (.slice (some ⟨w1.heap.size, 0, none⟩) 4 4) [65, 82, 1, sb] := ownB_row22 (show rowB _ w1.heap.size [65, 82, 1, sb] from heap_alloc_last w1 _) (Nat.le_refl _) rfl (by unfold maxLen; omega)
    obtain ⟨P0, hP0⟩ : ∃ P, [65, 82, 1, sb] = P := ⟨_, rfl⟩
    have HP0 : Hid (P0 = [65, 82, 1, sb]) := hP0.symm
    have hL0 : P0.length = 4 := by rw [← hP0]; rfl
    rw [hP0] at hO2
    have hO := hO2
    clear hO2 hP0
    go_upto_region 5 with fail
    generalize w1.alloc (.cells #[.int .u8 65, .int .u8 82, .int .u8 1, .int .u8 (sb.toNat : Int)] 5) = w2 at hO b12 ⊢
    clear c0
    have f1 := cell_later b12 c1
    have hT := refTwo22 (nf) (by omega) w2
    go_wp2_with fail
    refine hT.mono ?_
    rintro e w2t ⟨gt, rfl, hgt, hrow, bT⟩
    obtain ⟨v4, w4, hra, hO9, bA, -⟩ := appB22 w2t w1.heap.size (.slice (some ⟨w1.heap.size, 0, none⟩) 4 4) (P0) (some ⟨gt, 0, none⟩) 2 2 (two (nf)) 33 (hO.keep bT) rfl (hrow.isB 2) (by rw [two_len]; omega) (Nat.le_trans b12.size bT.size)
    have b9 : Below w1.heap.size w1 w4 := (b12.trans (bT.mono b12.size)).trans bA
    clear hT hgt hrow bT bA hO b12
    have hO := hO9
    have b12 := b9
    clear hO9 b9
    clear f1
    go_wp2_with (at_builtin; refine wpL_appG 33 rfl _ _ rfl _ w4 (by exact hra) ?_)
    clear hra
    obtain ⟨P1, hP1⟩ : ∃ P, P0 ++ two nf = P := ⟨_, rfl⟩
    have HP1 : Hid (P1 = P0 ++ two nf) := hP1.symm
    have hL1 : P1.length = 6 := by rw [← hP1, List.length_append, hL0]; rfl
    rw [hP1] at hO
    clear hP1
    go_loopw [5, 6] (fun bv kv wr => ∃ (bv0 : Value) (k : Nat), bv0 = bv ∧ k ≤ nf ∧ kv = .int .i64 k ∧ OwnB wr w1.heap.size bv0 (P1 ++ (r.fs.take k).flatMap fB) ∧ Below w1.heap.size w1 wr) (fun _ kv _ => nf - (intOf kv).toNat)
    case atStart => exact ⟨_, 0, rfl, by omega, rfl, by simpa using hO, b12⟩
    case round =>
      clear hO b12
      obtain ⟨bv, k, rfl, hk, rfl, hO, b12⟩ := hrel
      have f1 := cell_later b12 c1
      by_cases hlt : k < nf
      · have i0 : (k : Int) < (nf : Int) := by omega
        have i1 : (0 : Int) ≤ (k : Int) := by omega
        have wk2 : IntKind.i64.wrap ((k : Int) + 1) = (k : Int) + 1 := by rw [IntKind.wrap_i64]; omega
        obtain ⟨v, hv⟩ : ∃ v, r.fs[k]? = some v := ⟨_, List.getElem?_eq_getElem (by omega)⟩
        have hft := flat_take fB r.fs k v hv
        have hfl : ((r.fs.take k).flatMap fB).length ≤ 196605 := by rw [flat_len fB 3 fB_len, List.length_take]; omega
        obtain ⟨Q, hQ⟩ : ∃ Q, P1 ++ (r.fs.take k).flatMap fB = Q := ⟨_, rfl⟩
        have hQl : Q.length ≤ P1.length + 196605 := by rw [← hQ, List.length_append]; omega
        have HQ : Hid (P1 ++ (r.fs.take (k + 1)).flatMap fB = Q ++ fB v) := by show _ = _; rw [hft, ← List.append_assoc, hQ]
        rw [hQ] at hO
        clear hft hQ hfl
        have e1 := cell_later b12 c1
        obtain ⟨gl, o, rfl, hgl, q1, q2, -, -⟩ := fd_at (h1.f.kept b12) k v hv
        have hov := okf v (List.mem_of_getElem? hv)
        unfold okF at hov
        simp only [decide_eq_true_eq] at hov
        obtain ⟨kb, hkb⟩ : ∃ b : UInt8, b = UInt8.ofNat v.1.toNat := ⟨_, rfl⟩
        have hkb2 : v.1 % 256 = (kb.toNat : Int) := by rw [hkb, UInt8.toNat_ofNat']; omega
        obtain ⟨va, hva⟩ : ∃ n : Nat, v.2 = (n : Int) := ⟨v.2.toNat, by omega⟩
        have HEN : Hid (fB v = [kb] ++ two va) := by show _ = _; rw [fB_app, hkb, hva, Int.toNat_natCast]
        have hva9 : va ≤ 1023 := by omega
        clear hgl hkb hov e1 q2
        have bY := below_alloc wr (.cells #[.int .u8 (kb.toNat : Int)] 5)
        have hy : IsB (wr.alloc (.cells #[.int .u8 (kb.toNat : Int)] 5)) (.slice (some ⟨wr.heap.size, 0, none⟩) 1 1) [kb] := (show rowB (wr.alloc (.cells #[.int .u8 (kb.toNat : Int)] 5)) wr.heap.size [kb] from heap_alloc_last wr _).isB 1
        obtain ⟨v5, w5, hra, hO5, b5, -⟩ := appB22 (wr.alloc (.cells #[.int .u8 (kb.toNat : Int)] 5)) w1.heap.size bv (Q) (some ⟨wr.heap.size, 0, none⟩) 1 1 [kb] 33 (hO.keep bY) rfl hy (by simp; omega) (Nat.le_trans b12.size bY.size)
        have b15 : Below w1.heap.size w1 w5 := (b12.trans (bY.mono b12.size)).trans b5
        clear bY hy b5 hO b12
        go_upto_region 10 with (at_builtin; refine wpL_appG 33 rfl _ _ rfl _ w5 (by exact hra) ?_)
        clear hra q1 f1
        have f1 := cell_later b15 c1
        have q2 : w5.cell? ⟨gl, o + k * 2 + 1, none⟩ = some (.int .i64 (va : Int)) := by
          obtain ⟨g', o', he, -, -, q2, -⟩ := fd_at (h1.f.kept b15) k v hv
          cases he
          rw [← hva]; exact q2
        clear hva hkb2
        have hT := refTwo22 (va) (by omega) w5
        go_wp2_with fail
        refine hT.mono ?_
        rintro e w5t ⟨gt, rfl, hgt, hrow, bT⟩
        obtain ⟨v6, w6, hra, hO9, bA, -⟩ := appB22 w5t w1.heap.size v5 (Q ++ [kb]) (some ⟨gt, 0, none⟩) 2 2 (two (va)) 33 (hO5.keep bT) rfl (hrow.isB 2) (by rw [two_len]; rw [List.length_append]; simp; omega) (Nat.le_trans b15.size bT.size)
        have b9 : Below w1.heap.size w1 w6 := (b15.trans (bT.mono b15.size)).trans bA
        clear hT hgt hrow bT bA hO5 b15
        have hO5 := hO9
        have b15 := b9
        clear hO9 b9
        have HO9 : Hid (OwnB w6 w1.heap.size v6 (P1 ++ (r.fs.take (k + 1)).flatMap fB)) := by show OwnB _ _ _ _; rw [HQ.out, HEN.out, ← List.append_assoc]; exact hO5
        have HB9 : Hid (Below w1.heap.size w1 w6) := b15
        have HLT : Hid (k < nf) := hlt
        clear hO5 b15 q2 f1
        go_wp2_with (at_builtin; refine wpL_appG 33 rfl _ _ rfl _ w6 (by exact hra) ?_)
        clear hra
        go_roundw
        case rel => first | exact ⟨_, k + 1, rfl, by have := HLT.out; omega, by go_num, HO9.out, HB9.out⟩ | ((repeat apply Exists.intro); refine ⟨⟨_, k + 1, rfl, by have := HLT.out; omega, ?_, HO9.out, HB9.out⟩, rfl⟩; go_num)
        case measure => have := HLT.out; simp [intOf]; omega
      · obtain rfl : k = nf := by omega
        have i0 : ¬ (k : Int) < (k : Int) := by omega
        rw [List.take_of_length_le (by omega)] at hO
        have hL2 : (P1 ++ r.fs.flatMap fB).length ≤ 196611 := by rw [List.length_append, flat_len fB 3 fB_len]; omega
        obtain ⟨R1, hR1⟩ : ∃ R, P1 ++ r.fs.flatMap fB = R := ⟨_, rfl⟩
        have HR1 : Hid (R1 = P1 ++ r.fs.flatMap fB) := hR1.symm
        rw [hR1] at hO hL2
        have f2 := cell_later b12 c2
        clear hR1 hlt hk
        go_upto_region 11 with fail
        clear i0 f1
        have hT := refTwo22 (nd) (by omega) wr
        go_wp2_with fail
        refine hT.mono ?_
        rintro e wrt ⟨gt, rfl, hgt, hrow, bT⟩
        obtain ⟨v4b, w4b, hra, hO9, bA, -⟩ := appB22 wrt w1.heap.size bv (R1) (some ⟨gt, 0, none⟩) 2 2 (two (nd)) 33 (hO.keep bT) rfl (hrow.isB 2) (by rw [two_len]; omega) (Nat.le_trans b12.size bT.size)
        have b9 : Below w1.heap.size w1 w4b := (b12.trans (bT.mono b12.size)).trans bA
        clear hT hgt hrow bT bA hO b12
        have hO := hO9
        have b12 := b9
        clear hO9 b9
        clear f2
        go_wp2_with (at_builtin; refine wpL_appG 33 rfl _ _ rfl _ w4b (by exact hra) ?_)
        clear hra
        obtain ⟨P2, hP2⟩ : ∃ P, R1 ++ two nd = P := ⟨_, rfl⟩
        have HP2 : Hid (P2 = R1 ++ two nd) := hP2.symm
        have hM2 : P2.length ≤ 196613 := by rw [← hP2, List.length_append, two_len]; omega
        rw [hP2] at hO
        clear hP2
        go_loopw [5, 7] (fun bv kv wr => ∃ (bv0 : Value) (k : Nat), bv0 = bv ∧ k ≤ nd ∧ kv = .int .i64 k ∧ OwnB wr w1.heap.size bv0 (P2 ++ (r.ds.take k).flatMap dB) ∧ Below w1.heap.size w1 wr) (fun _ kv _ => nd - (intOf kv).toNat)
        case atStart => exact ⟨_, 0, rfl, by omega, rfl, by simpa using hO, b12⟩
        case round =>
          clear hO b12
          obtain ⟨bv, k, rfl, hk, rfl, hO, b12⟩ := hrel
          have f2 := cell_later b12 c2
          by_cases hlt : k < nd
          · have i0 : (k : Int) < (nd : Int) := by omega
            have i1 : (0 : Int) ≤ (k : Int) := by omega
            have wk2 : IntKind.i64.wrap ((k : Int) + 1) = (k : Int) + 1 := by rw [IntKind.wrap_i64]; omega
            obtain ⟨v, hv⟩ : ∃ v, r.ds[k]? = some v := ⟨_, List.getElem?_eq_getElem (by omega)⟩
            have hft := flat_take dB r.ds k v hv
            have hfl : ((r.ds.take k).flatMap dB).length ≤ 2097120 := by rw [flat_len dB 32 dB_len, List.length_take]; omega
            obtain ⟨Q, hQ⟩ : ∃ Q, P2 ++ (r.ds.take k).flatMap dB = Q := ⟨_, rfl⟩
            have hQl : Q.length ≤ P2.length + 2097120 := by rw [← hQ, List.length_append]; omega
            have HQ : Hid (P2 ++ (r.ds.take (k + 1)).flatMap dB = Q ++ dB v) := by show _ = _; rw [hft, ← List.append_assoc, hQ]
            rw [hQ] at hO
            clear hft hQ hfl
            go_wp2
            go_loopw [5, 8] (fun av jv wq => ∃ (av0 : Value) (j : Nat), av0 = av ∧ j ≤ 32 ∧ jv = .int .i64 j ∧ OwnB wq w1.heap.size av0 (Q ++ (dB v).take j) ∧ Below w1.heap.size w1 wq) (fun _ jv _ => 32 - (intOf jv).toNat)
            case atStart => exact ⟨_, 0, rfl, by omega, rfl, by simpa using hO, b12⟩
            case round =>
              clear hO b12 f2
              obtain ⟨av, j, rfl, hj, rfl, hO, b12⟩ := hrel
              have f2 := cell_later b12 c2
              by_cases hj3 : j < 32
              · have j0 : (0 : Int) ≤ (j : Int) := by omega
                have j1 : (j : Int) < 32 := by omega
                obtain ⟨gl, o, rfl, hby⟩ := dg_byte22 (h1.d.kept b12) k v hv
                have q1 := hby j hj3
                obtain ⟨kb, hkb⟩ : ∃ b : UInt8, v j = b := ⟨_, rfl⟩
                have HTK : Hid ((dB v).take (j + 1) = (dB v).take j ++ [kb]) := by show _ = _; rw [dB_take v j hj3, hkb]
                have htl : ((dB v).take j).length = j := by rw [List.length_take, dB_len]; omega
                rw [hkb] at q1
                clear hby hkb
                have bY := below_alloc wr (.cells #[.int .u8 (kb.toNat : Int)] 5)
                have hy : IsB (wr.alloc (.cells #[.int .u8 (kb.toNat : Int)] 5)) (.slice (some ⟨wr.heap.size, 0, none⟩) 1 1) [kb] := (show rowB (wr.alloc (.cells #[.int .u8 (kb.toNat : Int)] 5)) wr.heap.size [kb] from heap_alloc_last wr _).isB 1
                obtain ⟨v5, w5, hra, hO5, b5, -⟩ := appB22 (wr.alloc (.cells #[.int .u8 (kb.toNat : Int)] 5)) w1.heap.size av (Q ++ (dB v).take j) (some ⟨wr.heap.size, 0, none⟩) 1 1 [kb] 33 (hO.keep bY) rfl hy (by simp; omega) (Nat.le_trans b12.size bY.size)
                have b15 : Below w1.heap.size w1 w5 := (b12.trans (bY.mono b12.size)).trans b5
                clear bY hy b5 hO b12
                have HO9 : Hid (OwnB w5 w1.heap.size v5 (Q ++ (dB v).take (j + 1))) := by show OwnB _ _ _ _; rw [HTK.out, ← List.append_assoc]; exact hO5
                have HB9 : Hid (Below w1.heap.size w1 w5) := b15
                clear hO5 b15 htl
                go_wp2_with (at_builtin; refine wpL_appG 33 rfl _ _ rfl _ w5 (by exact hra) ?_)
                clear hra
                go_roundw
                case rel => first | exact ⟨_, j + 1, rfl, by omega, by go_num, HO9.out, HB9.out⟩ | ((repeat apply Exists.intro); refine ⟨⟨_, j + 1, rfl, by omega, ?_, HO9.out, HB9.out⟩, rfl⟩; go_num)
                case measure => simp [intOf]; omega
              · obtain rfl : 32 = j := by omega
                rw [List.take_of_length_le (by rw [dB_len]; omega)] at hO
                have HO9 : Hid (OwnB wr w1.heap.size av (P2 ++ (r.ds.take (k + 1)).flatMap dB)) := by show OwnB _ _ _ _; rw [HQ.out]; exact hO
                have HB9 : Hid (Below w1.heap.size w1 wr) := b12
                have HLT : Hid (k < nd) := hlt
                clear hO b12
                go_wp2
                go_roundw
                case rel => first | exact ⟨_, k + 1, rfl, by have := HLT.out; omega, by go_num, HO9.out, HB9.out⟩ | ((repeat apply Exists.intro); refine ⟨⟨_, k + 1, rfl, by have := HLT.out; omega, ?_, HO9.out, HB9.out⟩, rfl⟩; go_num)
                case measure => have := HLT.out; simp [intOf]; omega
          · obtain rfl : k = nd := by omega
            have i0 : ¬ (k : Int) < (k : Int) := by omega
            rw [List.take_of_length_le (by omega)] at hO
            have hL3 : (P2 ++ r.ds.flatMap dB).length ≤ 2293733 := by rw [List.length_append, flat_len dB 32 dB_len]; omega
            obtain ⟨R2, hR2⟩ : ∃ R, P2 ++ r.ds.flatMap dB = R := ⟨_, rfl⟩
            have HR2 : Hid (R2 = P2 ++ r.ds.flatMap dB) := hR2.symm
            rw [hR2] at hO hL3
            have f3 := cell_later b12 c3
            clear hR2 hlt hk
            go_upto_region 19 with fail
            clear i0 f2
            have hT := refTwo22 (ni) (by omega) wr
            go_wp2_with fail
            refine hT.mono ?_
            rintro e wrt ⟨gt, rfl, hgt, hrow, bT⟩
            obtain ⟨v4c, w4c, hra, hO9, bA, -⟩ := appB22 wrt w1.heap.size bv (R2) (some ⟨gt, 0, none⟩) 2 2 (two (ni)) 33 (hO.keep bT) rfl (hrow.isB 2) (by rw [two_len]; omega) (Nat.le_trans b12.size bT.size)
            have b9 : Below w1.heap.size w1 w4c := (b12.trans (bT.mono b12.size)).trans bA
            clear hT hgt hrow bT bA hO b12
            have hO := hO9
            have b12 := b9
            clear hO9 b9
            clear f3
            go_wp2_with (at_builtin; refine wpL_appG 33 rfl _ _ rfl _ w4c (by exact hra) ?_)
            clear hra
            obtain ⟨P3, hP3⟩ : ∃ P, R2 ++ two ni = P := ⟨_, rfl⟩
            have HP3 : Hid (P3 = R2 ++ two ni) := hP3.symm
            have hM3 : P3.length ≤ 2293735 := by rw [← hP3, List.length_append, two_len]; omega
            rw [hP3] at hO
            clear hP3
            go_loopw [5, 9] (fun bv kv wr => ∃ (bv0 : Value) (k : Nat), bv0 = bv ∧ k ≤ ni ∧ kv = .int .i64 k ∧ OwnB wr w1.heap.size bv0 (P3 ++ (r.dr.take k).flatMap sB) ∧ Below w1.heap.size w1 wr) (fun _ kv _ => ni - (intOf kv).toNat)
            case atStart => exact ⟨_, 0, rfl, by omega, rfl, by simpa using hO, b12⟩
            case round =>
              clear hO b12
              obtain ⟨bv, k, rfl, hk, rfl, hO, b12⟩ := hrel
              have f3 := cell_later b12 c3
              by_cases hlt : k < ni
              · have i0 : (k : Int) < (ni : Int) := by omega
                have i1 : (0 : Int) ≤ (k : Int) := by omega
                have wk2 : IntKind.i64.wrap ((k : Int) + 1) = (k : Int) + 1 := by rw [IntKind.wrap_i64]; omega
                obtain ⟨v, hv⟩ : ∃ v, r.dr[k]? = some v := ⟨_, List.getElem?_eq_getElem (by omega)⟩
                have hft := flat_take sB r.dr k v hv
                have hfl : ((r.dr.take k).flatMap sB).length ≤ 131070 := by rw [flat_len sB 2 (fun _ => rfl), List.length_take]; omega
                obtain ⟨Q, hQ⟩ : ∃ Q, P3 ++ (r.dr.take k).flatMap sB = Q := ⟨_, rfl⟩
                have hQl : Q.length ≤ P3.length + 131070 := by rw [← hQ, List.length_append]; omega
                have HQ : Hid (P3 ++ (r.dr.take (k + 1)).flatMap sB = Q ++ sB v) := by show _ = _; rw [hft, ← List.append_assoc, hQ]
                rw [hQ] at hO
                clear hft hQ hfl
                have hlW : IsG wr (.slice xi (inV r.dr).length ci) (inV r.dr) := by rw [inV_len, hni]; exact h1.i.kept b12
                obtain ⟨gl, o, rfl, hgl, q1⟩ := hlW.spot k (by rw [inV_len]; omega)
                have ldk : wr.cell? ⟨gl, o + k, none⟩ = some (.int .i64 v) := q1 k _ (inV_get r.dr k v hv)
                have hov := oki v (List.mem_of_getElem? hv)
                unfold okI at hov
                simp only [decide_eq_true_eq] at hov
                obtain ⟨va, hva⟩ : ∃ n : Nat, v = (n : Int) := ⟨v.toNat, by omega⟩
                have HEN : Hid (sB v = two va) := by show _ = _; unfold sB; rw [hva, Int.toNat_natCast]
                have hva9 : va ≤ 127 := by omega
                rw [hva] at ldk
                clear q1 hgl hlW hov hva
                have hT := refTwo22 (va) (by omega) wr
                go_wp2_with fail
                refine hT.mono ?_
                rintro e wrt ⟨gt, rfl, hgt, hrow, bT⟩
                obtain ⟨v6, w6, hra, hO9, bA, -⟩ := appB22 wrt w1.heap.size bv (Q) (some ⟨gt, 0, none⟩) 2 2 (two (va)) 33 (hO.keep bT) rfl (hrow.isB 2) (by rw [two_len]; omega) (Nat.le_trans b12.size bT.size)
                have b9 : Below w1.heap.size w1 w6 := (b12.trans (bT.mono b12.size)).trans bA
                clear hT hgt hrow bT bA hO b12
                have hO := hO9
                have b12 := b9
                clear hO9 b9
                have HO9 : Hid (OwnB w6 w1.heap.size v6 (P3 ++ (r.dr.take (k + 1)).flatMap sB)) := by show OwnB _ _ _ _; rw [HQ.out, HEN.out]; exact hO
                have HB9 : Hid (Below w1.heap.size w1 w6) := b12
                have HLT : Hid (k < ni) := hlt
                clear hO b12 ldk f3
                go_wp2_with (at_builtin; refine wpL_appG 33 rfl _ _ rfl _ w6 (by exact hra) ?_)
                clear hra
                go_roundw
                case rel => first | exact ⟨_, k + 1, rfl, by have := HLT.out; omega, by go_num, HO9.out, HB9.out⟩ | ((repeat apply Exists.intro); refine ⟨⟨_, k + 1, rfl, by have := HLT.out; omega, ?_, HO9.out, HB9.out⟩, rfl⟩; go_num)
                case measure => have := HLT.out; simp [intOf]; omega
              · obtain rfl : k = ni := by omega
                have i0 : ¬ (k : Int) < (k : Int) := by omega
                rw [List.take_of_length_le (by omega)] at hO
                have hL4 : (P3 ++ r.dr.flatMap sB).length ≤ 2424805 := by rw [List.length_append, flat_len sB 2 (fun _ => rfl)]; omega
                have HBD : Hid (P3 ++ r.dr.flatMap sB = bodyM r) := by
                  show _ = _
                  rw [HP3.out, HR2.out, HP2.out, HR1.out, HP1.out, HP0.out, HSB.out]
                  unfold bodyM
                  rw [hnf, hnd, hni]
                  simp only [List.append_assoc]
                rw [HBD.out] at hO hL4
                obtain ⟨xb, cb, hbv⟩ := hO.isB.len
                obtain ⟨nb, hnb⟩ : ∃ n, (bodyM r).length = n := ⟨_, rfl⟩
                rw [hnb] at hbv
                subst hbv
                have hsu := refCrc22 (.slice xb nb cb) (bodyM r) wr (by unfold maxLen; omega) hO.isB
                have hsl := sum_lt (bodyM r)
                obtain ⟨s, hs⟩ : ∃ s, (sumL (bodyM r)).toNat = s := ⟨_, rfl⟩
                rw [hs] at hsu hsl
                have HS : Hid _ := hs
                clear hlt hk hnf hnd hni okf oki hs
                go_wp2_with fail
                refine hsu.mono ?_
                rintro e w8 ⟨rfl, hw8⟩
                subst hw8
                clear hsu
                obtain ⟨B0, hB0⟩ : ∃ b : UInt8, b = UInt8.ofNat s := ⟨_, rfl⟩
                obtain ⟨B1, hB1⟩ : ∃ b : UInt8, b = UInt8.ofNat (s / 256) := ⟨_, rfl⟩
                obtain ⟨B2, hB2⟩ : ∃ b : UInt8, b = UInt8.ofNat (s / 65536) := ⟨_, rfl⟩
                obtain ⟨B3, hB3⟩ : ∃ b : UInt8, b = UInt8.ofNat (s / 16777216) := ⟨_, rfl⟩
                have t0 : (s : Int) % 256 = (B0.toNat : Int) := by rw [hB0, UInt8.toNat_ofNat']; omega
                have t1 : (s : Int) / 256 % 256 = (B1.toNat : Int) := by rw [hB1, UInt8.toNat_ofNat']; omega
                have t2 : (s : Int) / 65536 % 256 = (B2.toNat : Int) := by rw [hB2, UInt8.toNat_ofNat']; omega
                have t3 : (s : Int) / 16777216 % 256 = (B3.toNat : Int) := by rw [hB3, UInt8.toNat_ofNat']; omega
                have t4 : (s : Int) / 16777216 = (B3.toNat : Int) := by rw [hB3, UInt8.toNat_ofNat']; omega
                have HLE : Hid (le4 (sumL (bodyM r)).toNat = [B0, B1, B2, B3]) := by show _ = _; rw [HS.out, hB0, hB1, hB2, hB3]; rfl
                clear hB0 hB1 hB2 hB3
                have bY := below_alloc w8 (.cells #[.int .u8 (B0.toNat : Int), .int .u8 (B1.toNat : Int), .int .u8 (B2.toNat : Int), .int .u8 (B3.toNat : Int)] 5)
                have hy : IsB (w8.alloc (.cells #[.int .u8 (B0.toNat : Int), .int .u8 (B1.toNat : Int), .int .u8 (B2.toNat : Int), .int .u8 (B3.toNat : Int)] 5)) (.slice (some ⟨w8.heap.size, 0, none⟩) 4 4) [B0, B1, B2, B3] := (show rowB _ w8.heap.size [B0, B1, B2, B3] from heap_alloc_last w8 _).isB 4
                obtain ⟨v9, w9, hra, hO9, bA, -⟩ := appB22 (w8.alloc (.cells #[.int .u8 (B0.toNat : Int), .int .u8 (B1.toNat : Int), .int .u8 (B2.toNat : Int), .int .u8 (B3.toNat : Int)] 5)) w1.heap.size (.slice xb nb cb) (bodyM r) (some ⟨w8.heap.size, 0, none⟩) 4 4 [B0, B1, B2, B3] 33 (hO.keep bY) rfl hy (by simp; omega) (Nat.le_trans b12.size bY.size)
                have HB9 : Hid (Below w.heap.size w w9) := HB1.out.trans (((b12.trans (bY.mono b12.size)).trans bA).mono HB1.out.size)
                have HO9 : Hid (OwnB w9 w.heap.size v9 (putM r)) := by
                  show OwnB _ _ _ _
                  unfold putM
                  rw [if_pos HC.out]
                  unfold bytesM
                  rw [HLE.out]
                  exact OwnB.le22 hO9 HB1.out.size
                clear hO b12 hy bY bA hO9 f3
                go_wp2_with (at_builtin; refine wpL_appG 33 rfl _ _ rfl _ w9 (by exact hra) ?_)
                (try simp only [Exit.inBlock, Exit.then])
                go_ret2
                refine ⟨HB9.out, v9, ?_, HO9.out⟩
                rw [HC.out]
                rfl
  · have hC' : ¬ ((checkM r : Nat) : Int) = 0 := by omega
    have HP : Hid (putM r = []) := by show _ = _; unfold putM; rw [if_neg hC]
    clear h1 r1 hC
    go_wp2
    go_ret2
    refine ⟨HB1.out, _, rfl, ?_⟩
    rw [HP.out]
    exact OwnB.nil _ _
end Go.Proofs.YtklbdhpnbjhgkaaGreatDoor
