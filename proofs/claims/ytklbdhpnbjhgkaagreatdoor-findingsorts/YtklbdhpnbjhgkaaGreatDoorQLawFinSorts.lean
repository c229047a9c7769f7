import Derived.Test.YtklbdhpnbjhgkaaGreatDoorQFi2
namespace Go.Proofs.YtklbdhpnbjhgkaaGreatDoor
open Go.RowKit Go.Sort

/-! FindingSorts -/
set_option linter.unusedSimpArgs false in
set_option maxRecDepth 100000 in
set_option maxHeartbeats 40000000 in
theorem lawFinSorts (w : World) (xl : Option Addr) (n c : Nat) (l : List Fd) (xm : Option Addr) (n2 c2 : Nat) (l2 : List Fd) (hE : ETy w) (hl : IsK fdE w (.slice xl n c) l) (hn : l.length = n) (hs : n * 16 ≤ 140737488351232) (hm : IsK fdE w (.slice xm n2 c2) l2) (hn2 : l2.length = n2) (hs2 : n2 * 16 ≤ 140737488351232) :
    Calls Tryz.prog 3 #[.slice xl n c, .slice xm n2 c2] w fun e w' => e = .returned (.bool true) ∧ Below w.heap.size w w' := by
  have hT := taken22 w hE
  clear hE
  have HN : Hid (l.length = n ∧ l2.length = n2) := ⟨hn, hn2⟩
  have HS : Hid (n * 16 ≤ 140737488351232 ∧ n2 * 16 ≤ 140737488351232) := ⟨hs, hs2⟩
  clear hs hs2
  go_enter Tryz.func3, Tryz.ntmps3
  go_wp2_with fail
  refine hT.mono ?_
  rintro e w0 ⟨rfl, b0⟩
  clear hT
  replace hl := hl.kept b0
  replace hm := hm.kept b0
  have HB0 : Hid (Below w.heap.size w w0) := b0
  clear b0
  have HL0 : Hid (IsK fdE w0 (.slice xl n c) l) := hl
  obtain ⟨B, hB⟩ : ∃ z, z = w0.heap.size := ⟨_, rfl⟩
  have HBB : Hid (B = w0.heap.size) := hB
  obtain ⟨v1, d1, w1, a1, O1, B1⟩ := copyF22 w0 xl n c l hl hn (by have := HS.out; omega)
  obtain ⟨go, co, w2, a2, O2, B2⟩ := markF22 w1 w0.heap.size v1 n d1 l ((777, 0) : Fd) O1 hn (by have := HS.out; omega) B1.size
  have hco : n + 1 ≤ co := (O2.isK fdE_ok).cap.2
  have hct1 : ∀ w', (cutF0 (.slice (some ⟨go, 0, none⟩) (n + 1) co) (.int .i64 (n : Int))).run Tryz.prog w' = .ok (.value (.slice (some ⟨go, 0, none⟩) n co)) w' := fun w' => run_cutF0 w' go 0 (n + 1) co n (by omega)
  have BW2 : Below w0.heap.size w0 w2 := B1.trans B2
  have HG2 : Hid (Ga w2 B (updT (fun _ => none) 0 (thK fdE B (.slice (some ⟨go, 0, none⟩) (n + 1) co) (l ++ [(777, 0)])))) := by
    rw [hB]; exact (Ga.start (Nat.le_refl _)).newK 0 BW2 O2
  have hl2 := hl.kept BW2
  have hm2 := hm.kept BW2
  have hown : IsK fdE w2 (.slice (some ⟨go, 0, none⟩) n co) l := by
    have := (O2.cut fdE_ok n (by omega)).isK fdE_ok
    rwa [List.take_append_of_le_length (by omega), List.take_of_length_le (by omega)] at this
  clear O1 O2 hl hm B1 B2 hB
  have hSx := sortF22 (some ⟨go, 0, none⟩) n co l w2 hown hn (by have := HS.out; omega)
  go_wp2_with (at_builtin; first | (refine wpL_appG 22 rfl _ _ rfl _ w1 (by exact a1) ?_; clear a1) | (refine wpL_appG 22 rfl _ _ rfl _ w2 (by exact a2) ?_; clear a2))
  refine hSx.mono ?_
  rintro e w3 ⟨vx, rfl, Ox, B3⟩
  clear hSx
  obtain ⟨nx, hnx⟩ : ∃ z, (sortM l).length = z := ⟨_, rfl⟩
  obtain ⟨ny, hny⟩ : ∃ z, (sortM l2).length = z := ⟨_, rfl⟩
  have HNX : Hid (nx ≤ n ∧ ny ≤ n2) := by
    have h1 := sortM_len l []
    have h2 := sortM_len l2 []
    have := HN.out
    refine ⟨?_, ?_⟩
    · rw [← hnx]; show (l.foldl insF []).length ≤ n; simp at h1; omega
    · rw [← hny]; show (l2.foldl insF []).length ≤ n2; simp at h2; omega
  obtain ⟨xx, cx, rfl⟩ := (Ox.isK fdE_ok).len
  rw [hnx] at Ox ⊢
  have HG3 : Hid (Ga w3 B _) := HG2.out.newK 1 B3 Ox
  clear HG2 Ox
  have hl3 := hl2.kept B3
  have hm3 := hm2.kept B3
  have how3 := hown.kept B3
  have BW3 := BW2.trans (B3.mono BW2.size)
  clear hl2 hm2 hown BW2 B3 hct1
  obtain ⟨v4, d4, w4, a4, O4, B4⟩ := copyF22 w3 xm n2 c2 l2 hm3 hn2 (by have := HS.out; omega)
  have hSy := sortF22 v4 n2 d4 l2 w4 (O4.isK fdE_ok) hn2 (by have := HS.out; omega)
  clear O4
  go_wp2_with (at_builtin; refine wpL_appG 22 rfl _ _ rfl _ w4 (by exact a4) ?_)
  refine hSy.mono ?_
  rintro e w5 ⟨vy, rfl, Oy, B5⟩
  clear hSy a4
  obtain ⟨xy, cy, rfl⟩ := (Oy.isK fdE_ok).len
  rw [hny] at Oy ⊢
  have HG5 : Hid (Ga w5 B _) := (HG3.out.later B4).newK 3 B5 Oy
  have B45 : Below w3.heap.size w3 w5 := B4.trans (B5.mono B4.size)
  clear HG3 Oy B4 B5
  have hl5 := hl3.kept B45
  have hm5 := hm3.kept B45
  have how5 := how3.kept B45
  have BW5 := BW3.trans (B45.mono BW3.size)
  clear hl3 hm3 how3 BW3 B45
  have hSz := sortF22 (some ⟨go, 0, none⟩) n co l w5 how5 hn (by have := HS.out; omega)
  go_wp2_with fail
  refine hSz.mono ?_
  rintro e w6 ⟨vz, rfl, Oz, B6⟩
  clear hSz
  obtain ⟨xz, cz, rfl⟩ := (Oz.isK fdE_ok).len
  rw [hnx] at Oz ⊢
  have HG6 : Hid (Ga w6 B _) := HG5.out.newK 2 B6 Oz
  clear HG5 Oz
  have hl6 := hl5.kept B6
  have hm6 := hm5.kept B6
  have how6 := how5.kept B6
  have BW6 := BW5.trans (B6.mono BW5.size)
  clear hl5 hm5 how5 BW5 B6
  have hSw := refSort22 w6 xl n c l hl6 hn (by have := HS.out; omega)
  go_wp2_with fail
  refine hSw.mono ?_
  rintro e w7 ⟨vw, rfl, Ow, B7⟩
  clear hSw
  obtain ⟨xw, cw, rfl⟩ := (Ow.isK fdE_ok).len
  rw [hnx] at Ow ⊢
  have HG7 : Hid (Ga w7 B _) := HG6.out.newK 5 B7 Ow
  clear HG6 Ow
  have hl7 := hl6.kept B7
  have hm7 := hm6.kept B7
  have how7 := how6.kept B7
  have BW7 := BW6.trans (B7.mono BW6.size)
  clear hl6 hm6 how6 BW6 B7
  have hSa := refSort22 w7 xm n2 c2 l2 hm7 hn2 (by have := HS.out; omega)
  go_wp2_with fail
  refine hSa.mono ?_
  rintro e w8 ⟨va, rfl, Oa, B8⟩
  clear hSa
  obtain ⟨xa, ca, rfl⟩ := (Oa.isK fdE_ok).len
  rw [hny] at Oa ⊢
  have HG8 : Hid (Ga w8 B _) := HG7.out.newK 4 B8 Oa
  clear HG7 Oa
  have hl8 := hl7.kept B8
  have how8 := how7.kept B8
  have BW8 := BW7.trans (B8.mono BW7.size)
  clear hl7 hm7 how7 BW7 B8
  have g0 := HG8.out.isK (k := 0) (v := .slice (some ⟨go, 0, none⟩) (n + 1) co) (ds := l ++ [(777, 0)]) (E := fdE) rfl
  have g1 := HG8.out.isK (k := 1) (v := .slice xx nx cx) (ds := sortM l) (E := fdE) rfl
  have g2 := HG8.out.isK (k := 2) (v := .slice xz nx cz) (ds := sortM l) (E := fdE) rfl
  have g3 := HG8.out.isK (k := 3) (v := .slice xy ny cy) (ds := sortM l2) (E := fdE) rfl
  have g4 := HG8.out.isK (k := 4) (v := .slice xa ny ca) (ds := sortM l2) (E := fdE) rfl
  have g5 := HG8.out.isK (k := 5) (v := .slice xw nx cw) (ds := sortM l) (E := fdE) rfl
  have hA1 := same22 w8 xx cx xw cw nx (sortM l) hnx (g1.isK fdE_ok) (g5.isK fdE_ok) (by have := HNX.out; have := HS.out; omega)
  go_wp2_with fail
  refine hA1.mono ?_
  rintro e u1 ⟨rfl, c1⟩
  clear hA1
  have hA2 := same22 u1 xz cz xw cw nx (sortM l) hnx ((g2.isK fdE_ok).kept c1) ((g5.isK fdE_ok).kept c1) (by have := HNX.out; have := HS.out; omega)
  go_wp2_with fail
  refine hA2.mono ?_
  rintro e u2 ⟨rfl, c2'⟩
  clear hA2
  have c2 := c1.trans (c2'.mono c1.size)
  have hA3 := same22 u2 xy cy xa ca ny (sortM l2) hny ((g3.isK fdE_ok).kept c2) ((g4.isK fdE_ok).kept c2) (by have := HNX.out; have := HS.out; omega)
  go_wp2_with fail
  refine hA3.mono ?_
  rintro e u3 ⟨rfl, c3'⟩
  clear hA3
  have c3 := c2.trans (c3'.mono c2.size)
  have hA4 := same22 u3 (some ⟨go, 0, none⟩) co xl c n l hn (how8.kept c3) (hl8.kept c3) (by have := HS.out; omega)
  have wn : IntKind.i64.wrap ((n : Int) + 1) = (n : Int) + 1 := by rw [IntKind.wrap_i64]; have := HS.out; omega
  have hct2 : ∀ w', (cutF0 (.slice (some ⟨go, 0, none⟩) n co) (.int .i64 ((n : Int) + 1))).run Tryz.prog w' = .ok (.value (.slice (some ⟨go, 0, none⟩) (n + 1) co)) w' := fun w' => run_cutF0 w' go 0 n co (n + 1) hco
  go_wp2_with fail
  refine hA4.mono ?_
  rintro e W0 ⟨rfl, c4'⟩
  clear hA4
  have c4 := c3.trans (c4'.mono c3.size)
  have cmk : W0.cell? ⟨go, n * 2, none⟩ = some (.int .i64 777) := by
    obtain ⟨g, o, he, -, k1, -⟩ := fd_at ((g0.isK fdE_ok).kept c4) n (777, 0) (by rw [List.getElem?_append_right (by omega), hn, Nat.sub_self]; rfl)
    cases he
    rwa [Nat.zero_add] at k1
  have i0 : (0 : Int) ≤ (n : Int) := by omega
  have i1 : (n : Int) < (n : Int) + 1 := by omega
  have HI : Hid (∃ T, Ga W0 B T ∧ T 0 = some (thK fdE B (.slice (some ⟨go, 0, none⟩) (n + 1) co) (l ++ [(777, 0)])) ∧ T 1 = some (thK fdE B (.slice xx nx cx) (repF (-1, 0) 0 ++ (sortM l).drop 0)) ∧ T 2 = some (thK fdE B (.slice xz nx cz) (sortM l)) ∧ T 3 = some (thK fdE B (.slice xy ny cy) (sortM l2)) ∧ T 4 = some (thK fdE B (.slice xa ny ca) (sortM l2)) ∧ Below B w0 W0) := ⟨_, HG8.out.later c4, rfl, rfl, rfl, rfl, rfl, by rw [HBB.out]; exact BW8.trans (c4.mono BW8.size)⟩
  have HLN : Hid ((sortM l).length = nx ∧ (sortM l2).length = ny) := ⟨hnx, hny⟩
  clear g0 g1 g2 g3 g4 g5 c1 c2' c2 c3' c3 c4' c4 HG8 how8 hl8 BW8 hn hn2 hnx hny
  go_wp2
  go_loopw [11] (fun iv wr => ∃ i : Nat, i ≤ nx ∧ iv = .int .i64 (i : Int) ∧ ∃ T, Ga wr B T ∧ T 0 = some (thK fdE B (.slice (some ⟨go, 0, none⟩) (n + 1) co) (l ++ [(777, 0)])) ∧ T 1 = some (thK fdE B (.slice xx nx cx) (repF (-1, 0) i ++ (sortM l).drop i)) ∧ T 2 = some (thK fdE B (.slice xz nx cz) (sortM l)) ∧ T 3 = some (thK fdE B (.slice xy ny cy) (sortM l2)) ∧ T 4 = some (thK fdE B (.slice xa ny ca) (sortM l2)) ∧ Below B w0 wr) (fun iv _ => nx - (intOf iv).toNat)
  case atStart => exact ⟨0, by omega, rfl, HI.out⟩
  case round =>
    clear HI
    obtain ⟨i, hi, rfl, T, hG, t0, t1, t2, t3, t4, hB⟩ := hrel
    by_cases hlt : i < nx
    · have i0 : (0 : Int) ≤ (i : Int) := by omega
      have i1 : (i : Int) < (nx : Int) := by omega
      have wi : IntKind.i64.wrap ((i : Int) + 1) = (i : Int) + 1 := by rw [IntKind.wrap_i64]; have := HNX.out; have := HS.out; omega
      have hO := hG.isK t1
      have hdl : i < (sortM l).length := by have := HLN.out.1; omega
      obtain ⟨g, hg, -⟩ := OwnK.form hO (by rw [List.length_append, repF_len, List.length_drop]; omega)
      subst hg
      obtain ⟨hst, hG2, hB2⟩ := hG.setK fdE_ok t1 i (-1, 0) hlt
      rw [repF_set (-1, 0) (sortM l) i hdl] at hG2
      have hst := fd_store22 hst
      rw [show fdE.k = 2 from rfl] at hst hG2 hB2
      generalize wr.setCells g (i * 2) (fdE.enc (-1, 0)) = w9 at hst hG2 hB2
      have HR : Hid (∃ T, Ga w9 B T ∧ T 0 = some (thK fdE B (.slice (some ⟨go, 0, none⟩) (n + 1) co) (l ++ [(777, 0)])) ∧ T 1 = some (thK fdE B (.slice (some ⟨g, 0, none⟩) nx cx) (repF (-1, 0) (i + 1) ++ (sortM l).drop (i + 1))) ∧ T 2 = some (thK fdE B (.slice xz nx cz) (sortM l)) ∧ T 3 = some (thK fdE B (.slice xy ny cy) (sortM l2)) ∧ T 4 = some (thK fdE B (.slice xa ny ca) (sortM l2)) ∧ Below B w0 w9) := ⟨_, hG2, by rw [updT_ne _ _ _ _ (by decide)]; exact t0, updT_same _ _ _, by rw [updT_ne _ _ _ _ (by decide)]; exact t2, by rw [updT_ne _ _ _ _ (by decide)]; exact t3, by rw [updT_ne _ _ _ _ (by decide)]; exact t4, hB.trans hB2⟩
      clear hG hO hG2 hB2 hB t0 t1 t2 t3 t4 hdl
      go_wp2
      go_roundw
      case rel => exact ⟨i + 1, by omega, by go_num, HR.out⟩
      case measure => simp [intOf]; omega
    · obtain rfl : nx = i := by omega
      have i1 : ¬ (nx : Int) < (nx : Int) := by omega
      have HI2 : Hid (∃ T, Ga wr B T ∧ T 0 = some (thK fdE B (.slice (some ⟨go, 0, none⟩) (n + 1) co) (l ++ [(777, 0)])) ∧ T 1 = some (thK fdE B (.slice xx nx cx) (repF (-1, 0) nx)) ∧ T 2 = some (thK fdE B (.slice xz nx cz) (repF (-2, 0) 0 ++ (sortM l).drop 0)) ∧ T 3 = some (thK fdE B (.slice xy ny cy) (sortM l2)) ∧ T 4 = some (thK fdE B (.slice xa ny ca) (sortM l2)) ∧ Below B w0 wr) := ⟨T, hG, t0, by rw [t1, List.drop_of_length_le (by have := HLN.out.1; omega), List.append_nil], t2, t3, t4, hB⟩
      obtain ⟨W1, rfl⟩ : ∃ q, q = wr := ⟨_, rfl⟩
      clear hG t0 t1 t2 t3 t4 hB hlt hi
      go_wp2
      go_loopw [12] (fun iv wr => ∃ i : Nat, i ≤ nx ∧ iv = .int .i64 (i : Int) ∧ ∃ T, Ga wr B T ∧ T 0 = some (thK fdE B (.slice (some ⟨go, 0, none⟩) (n + 1) co) (l ++ [(777, 0)])) ∧ T 1 = some (thK fdE B (.slice xx nx cx) (repF (-1, 0) nx)) ∧ T 2 = some (thK fdE B (.slice xz nx cz) (repF (-2, 0) i ++ (sortM l).drop i)) ∧ T 3 = some (thK fdE B (.slice xy ny cy) (sortM l2)) ∧ T 4 = some (thK fdE B (.slice xa ny ca) (sortM l2)) ∧ Below B w0 wr) (fun iv _ => nx - (intOf iv).toNat)
      case atStart => exact ⟨0, by omega, rfl, HI2.out⟩
      case round =>
        clear HI2
        obtain ⟨i, hi, rfl, T, hG, t0, t1, t2, t3, t4, hB⟩ := hrel
        by_cases hlt : i < nx
        · have i0 : (0 : Int) ≤ (i : Int) := by omega
          have i1 : (i : Int) < (nx : Int) := by omega
          have wi : IntKind.i64.wrap ((i : Int) + 1) = (i : Int) + 1 := by rw [IntKind.wrap_i64]; have := HNX.out; have := HS.out; omega
          have hO := hG.isK t2
          have hdl : i < (sortM l).length := by have := HLN.out.1; omega
          obtain ⟨g, hg, -⟩ := OwnK.form hO (by rw [List.length_append, repF_len, List.length_drop]; omega)
          subst hg
          obtain ⟨hst, hG2, hB2⟩ := hG.setK fdE_ok t2 i (-2, 0) hlt
          rw [repF_set (-2, 0) (sortM l) i hdl] at hG2
          have hst := fd_store22 hst
          rw [show fdE.k = 2 from rfl] at hst hG2 hB2
          generalize wr.setCells g (i * 2) (fdE.enc (-2, 0)) = w9 at hst hG2 hB2
          have HR : Hid (∃ T, Ga w9 B T ∧ T 0 = some (thK fdE B (.slice (some ⟨go, 0, none⟩) (n + 1) co) (l ++ [(777, 0)])) ∧ T 1 = some (thK fdE B (.slice xx nx cx) (repF (-1, 0) nx)) ∧ T 2 = some (thK fdE B (.slice (some ⟨g, 0, none⟩) nx cz) (repF (-2, 0) (i + 1) ++ (sortM l).drop (i + 1))) ∧ T 3 = some (thK fdE B (.slice xy ny cy) (sortM l2)) ∧ T 4 = some (thK fdE B (.slice xa ny ca) (sortM l2)) ∧ Below B w0 w9) := ⟨_, hG2, by rw [updT_ne _ _ _ _ (by decide)]; exact t0, by rw [updT_ne _ _ _ _ (by decide)]; exact t1, updT_same _ _ _, by rw [updT_ne _ _ _ _ (by decide)]; exact t3, by rw [updT_ne _ _ _ _ (by decide)]; exact t4, hB.trans hB2⟩
          clear hG hO hG2 hB2 hB t0 t1 t2 t3 t4 hdl
          go_wp2
          go_roundw
          case rel => exact ⟨i + 1, by omega, by go_num, HR.out⟩
          case measure => simp [intOf]; omega
        · obtain rfl : nx = i := by omega
          have i1 : ¬ (nx : Int) < (nx : Int) := by omega
          have HI3 : Hid (∃ T, Ga wr B T ∧ T 0 = some (thK fdE B (.slice (some ⟨go, 0, none⟩) (n + 1) co) (l ++ [(777, 0)])) ∧ T 1 = some (thK fdE B (.slice xx nx cx) (repF (-1, 0) nx)) ∧ T 2 = some (thK fdE B (.slice xz nx cz) (repF (-2, 0) nx)) ∧ T 3 = some (thK fdE B (.slice xy ny cy) (sortM l2)) ∧ T 4 = some (thK fdE B (.slice xa ny ca) (sortM l2)) ∧ Below B w0 wr) := ⟨T, hG, t0, t1, by rw [t2, List.drop_of_length_le (by have := HLN.out.1; omega), List.append_nil], t3, t4, hB⟩
          obtain ⟨W2, rfl⟩ : ∃ q, q = wr := ⟨_, rfl⟩
          clear hG t0 t1 t2 t3 t4 hB hlt hi
          go_wp2
          have HI3o : Hid (∃ T, Ga W2 B T ∧ T 0 = some (thK fdE B (.slice (some ⟨go, 0, none⟩) (n + 1) co) (l ++ [(777, 0)])) ∧ T 1 = some (thO fdE B xx nx cx (.slice xx (nx + 0) cx) (repF (-1, 0) nx) (repF (-1, 0) (nx + 0))) ∧ T 2 = some (thK fdE B (.slice xz nx cz) (repF (-2, 0) nx)) ∧ T 3 = some (thK fdE B (.slice xy ny cy) (sortM l2)) ∧ T 4 = some (thK fdE B (.slice xa ny ca) (sortM l2)) ∧ Below B w0 W2) := by
            obtain ⟨T, hG, t0, t1, t2, t3, t4, hB⟩ := HI3.out
            exact ⟨_, hG.beginO fdE_ok t1, by rw [updT_ne _ _ _ _ (by decide)]; exact t0, updT_same _ _ _, by rw [updT_ne _ _ _ _ (by decide)]; exact t2, by rw [updT_ne _ _ _ _ (by decide)]; exact t3, by rw [updT_ne _ _ _ _ (by decide)]; exact t4, hB⟩
          clear HI3
          go_loopw [13, 15] (fun pv iv wr => ∃ (i : Nat) (px : Option Addr) (pc : Nat), i ≤ 33 ∧ pv = .slice px (nx + i) pc ∧ iv = .int .i64 (i : Int) ∧ ∃ T, Ga wr B T ∧ T 0 = some (thK fdE B (.slice (some ⟨go, 0, none⟩) (n + 1) co) (l ++ [(777, 0)])) ∧ T 1 = some (thO fdE B xx nx cx (.slice px (nx + i) pc) (repF (-1, 0) nx) (repF (-1, 0) (nx + i))) ∧ T 2 = some (thK fdE B (.slice xz nx cz) (repF (-2, 0) nx)) ∧ T 3 = some (thK fdE B (.slice xy ny cy) (sortM l2)) ∧ T 4 = some (thK fdE B (.slice xa ny ca) (sortM l2)) ∧ Below B w0 wr) (fun _ iv _ => 33 - (intOf iv).toNat)
          case atStart => exact ⟨0, xx, cx, by omega, rfl, rfl, HI3o.out⟩
          case round =>
            clear HI3o
            obtain ⟨i, px, pc, hi, rfl, rfl, T, hG, t0, t1, t2, t3, t4, hB⟩ := hrel
            by_cases hlt : i < 33
            · have i1 : (i : Int) < 33 := by omega
              have bA := below_alloc wr (.cells (fdA (-1, 0)) 25)
              have hrg := fd_lit_range wr (-1, 0)
              have hyl : wr.heap.size < (wr.alloc (.cells (fdA (-1, 0)) 25)).heap.size := by simp
              obtain ⟨g, c', w3, hr3, hG3, hB3⟩ := (hG.later bA).appO fdE_ok t1 (-1, 0) 22 hrg hyl (by rw [repF_len]; show (nx + i + 1) * 16 ≤ _; have := HNX.out; have := HS.out; omega) (by rw [repF_len]; unfold maxLen; have := HNX.out; have := HS.out; omega)
              rw [repF_succ] at hG3
              rw [repF_len] at hr3 hG3
              obtain ⟨z, hz⟩ : ∃ q, wr.heap.size = q := ⟨_, rfl⟩
              rw [hz] at hr3
              have hr3' : (Builtin.append_ #[22, 22] 22 #[.slice px (nx + i) pc, .slice (some ⟨z, 0, none⟩) 1 1]).run Tryz.prog (wr.alloc (.cells (fdA (-1, 0)) 25)) = .ok (.slice (some ⟨g, 0, none⟩) (nx + i + 1) c') w3 := hr3
              have HR : Hid (∃ T, Ga w3 B T ∧ T 0 = some (thK fdE B (.slice (some ⟨go, 0, none⟩) (n + 1) co) (l ++ [(777, 0)])) ∧ T 1 = some (thO fdE B xx nx cx (.slice (some ⟨g, 0, none⟩) (nx + (i + 1)) c') (repF (-1, 0) nx) (repF (-1, 0) (nx + (i + 1)))) ∧ T 2 = some (thK fdE B (.slice xz nx cz) (repF (-2, 0) nx)) ∧ T 3 = some (thK fdE B (.slice xy ny cy) (sortM l2)) ∧ T 4 = some (thK fdE B (.slice xa ny ca) (sortM l2)) ∧ Below B w0 w3) := ⟨_, hG3, by rw [updT_ne _ _ _ _ (by decide)]; exact t0, updT_same _ _ _, by rw [updT_ne _ _ _ _ (by decide)]; exact t2, by rw [updT_ne _ _ _ _ (by decide)]; exact t3, by rw [updT_ne _ _ _ _ (by decide)]; exact t4, (hB.trans (bA.mono hG.size)).trans hB3⟩
              clear hG hG3 hB3 hB t0 t1 t2 t3 t4 bA hrg hyl hr3
              go_wp2_with (at_builtin; refine wpL_appG 22 rfl _ _ rfl _ w3 (by exact hr3') ?_)
              go_roundw
              case rel => first | exact ⟨i + 1, some ⟨g, 0, none⟩, c', by omega, rfl, by go_num, HR.out⟩ | ((repeat apply Exists.intro); refine ⟨⟨i + 1, some ⟨g, 0, none⟩, c', by omega, rfl, ?_, HR.out⟩, rfl⟩; go_num)
              case measure => simp [intOf]; omega
            · obtain rfl : i = 33 := by omega
              have i1 : ¬ ((33 : Nat) : Int) < 33 := by omega
              obtain ⟨p1x, rfl⟩ : ∃ q, q = px := ⟨_, rfl⟩
              obtain ⟨p1c, rfl⟩ : ∃ q, q = pc := ⟨_, rfl⟩
              have HI4 : Hid (∃ T, Ga wr B T ∧ T 0 = some (thK fdE B (.slice (some ⟨go, 0, none⟩) (n + 1) co) (l ++ [(777, 0)])) ∧ T 1 = some (thO fdE B xx nx cx (.slice p1x (nx + 33) p1c) (repF (-1, 0) nx) (repF (-1, 0) (nx + 33))) ∧ T 2 = some (thK fdE B (.slice xz nx cz) (repF (-2, 0) nx)) ∧ T 3 = some (thK fdE B (.slice xy ny cy) (sortM l2)) ∧ T 4 = some (thK fdE B (.slice xa ny ca) (sortM l2)) ∧ Below B w0 wr) := ⟨T, hG, t0, t1, t2, t3, t4, hB⟩
              obtain ⟨W3, rfl⟩ : ∃ q, q = wr := ⟨_, rfl⟩
              clear hG t0 t1 t2 t3 t4 hB hlt hi
              go_wp2
              have HI4o : Hid (∃ T, Ga W3 B T ∧ T 0 = some (thK fdE B (.slice (some ⟨go, 0, none⟩) (n + 1) co) (l ++ [(777, 0)])) ∧ T 1 = some (thO fdE B xx nx cx (.slice p1x (nx + 33) p1c) (repF (-1, 0) nx) (repF (-1, 0) (nx + 33))) ∧ T 2 = some (thO fdE B xz nx cz (.slice xz (nx + 0) cz) (repF (-2, 0) nx) (repF (-2, 0) (nx + 0))) ∧ T 3 = some (thK fdE B (.slice xy ny cy) (sortM l2)) ∧ T 4 = some (thK fdE B (.slice xa ny ca) (sortM l2)) ∧ Below B w0 W3) := by
                obtain ⟨T, hG, t0, t1, t2, t3, t4, hB⟩ := HI4.out
                exact ⟨_, hG.beginO fdE_ok t2, by rw [updT_ne _ _ _ _ (by decide)]; exact t0, by rw [updT_ne _ _ _ _ (by decide)]; exact t1, updT_same _ _ _, by rw [updT_ne _ _ _ _ (by decide)]; exact t3, by rw [updT_ne _ _ _ _ (by decide)]; exact t4, hB⟩
              clear HI4
              go_loopw [14, 16] (fun pv iv wr => ∃ (i : Nat) (px : Option Addr) (pc : Nat), i ≤ 33 ∧ pv = .slice px (nx + i) pc ∧ iv = .int .i64 (i : Int) ∧ ∃ T, Ga wr B T ∧ T 0 = some (thK fdE B (.slice (some ⟨go, 0, none⟩) (n + 1) co) (l ++ [(777, 0)])) ∧ T 1 = some (thO fdE B xx nx cx (.slice p1x (nx + 33) p1c) (repF (-1, 0) nx) (repF (-1, 0) (nx + 33))) ∧ T 2 = some (thO fdE B xz nx cz (.slice px (nx + i) pc) (repF (-2, 0) nx) (repF (-2, 0) (nx + i))) ∧ T 3 = some (thK fdE B (.slice xy ny cy) (sortM l2)) ∧ T 4 = some (thK fdE B (.slice xa ny ca) (sortM l2)) ∧ Below B w0 wr) (fun _ iv _ => 33 - (intOf iv).toNat)
              case atStart => exact ⟨0, xz, cz, by omega, rfl, rfl, HI4o.out⟩
              case round =>
                clear HI4o
                obtain ⟨i, px, pc, hi, rfl, rfl, T, hG, t0, t1, t2, t3, t4, hB⟩ := hrel
                by_cases hlt : i < 33
                · have i1 : (i : Int) < 33 := by omega
                  have bA := below_alloc wr (.cells (fdA (-2, 0)) 25)
                  have hrg := fd_lit_range wr (-2, 0)
                  have hyl : wr.heap.size < (wr.alloc (.cells (fdA (-2, 0)) 25)).heap.size := by simp
                  obtain ⟨g, c', w3, hr3, hG3, hB3⟩ := (hG.later bA).appO fdE_ok t2 (-2, 0) 22 hrg hyl (by rw [repF_len]; show (nx + i + 1) * 16 ≤ _; have := HNX.out; have := HS.out; omega) (by rw [repF_len]; unfold maxLen; have := HNX.out; have := HS.out; omega)
                  rw [repF_succ] at hG3
                  rw [repF_len] at hr3 hG3
                  obtain ⟨z, hz⟩ : ∃ q, wr.heap.size = q := ⟨_, rfl⟩
                  rw [hz] at hr3
                  have hr3' : (Builtin.append_ #[22, 22] 22 #[.slice px (nx + i) pc, .slice (some ⟨z, 0, none⟩) 1 1]).run Tryz.prog (wr.alloc (.cells (fdA (-2, 0)) 25)) = .ok (.slice (some ⟨g, 0, none⟩) (nx + i + 1) c') w3 := hr3
                  have HR : Hid (∃ T, Ga w3 B T ∧ T 0 = some (thK fdE B (.slice (some ⟨go, 0, none⟩) (n + 1) co) (l ++ [(777, 0)])) ∧ T 1 = some (thO fdE B xx nx cx (.slice p1x (nx + 33) p1c) (repF (-1, 0) nx) (repF (-1, 0) (nx + 33))) ∧ T 2 = some (thO fdE B xz nx cz (.slice (some ⟨g, 0, none⟩) (nx + (i + 1)) c') (repF (-2, 0) nx) (repF (-2, 0) (nx + (i + 1)))) ∧ T 3 = some (thK fdE B (.slice xy ny cy) (sortM l2)) ∧ T 4 = some (thK fdE B (.slice xa ny ca) (sortM l2)) ∧ Below B w0 w3) := ⟨_, hG3, by rw [updT_ne _ _ _ _ (by decide)]; exact t0, by rw [updT_ne _ _ _ _ (by decide)]; exact t1, updT_same _ _ _, by rw [updT_ne _ _ _ _ (by decide)]; exact t3, by rw [updT_ne _ _ _ _ (by decide)]; exact t4, (hB.trans (bA.mono hG.size)).trans hB3⟩
                  clear hG hG3 hB3 hB t0 t1 t2 t3 t4 bA hrg hyl hr3
                  go_wp2_with (at_builtin; refine wpL_appG 22 rfl _ _ rfl _ w3 (by exact hr3') ?_)
                  go_roundw
                  case rel => first | exact ⟨i + 1, some ⟨g, 0, none⟩, c', by omega, rfl, by go_num, HR.out⟩ | ((repeat apply Exists.intro); refine ⟨⟨i + 1, some ⟨g, 0, none⟩, c', by omega, rfl, ?_, HR.out⟩, rfl⟩; go_num)
                  case measure => simp [intOf]; omega
                · obtain rfl : i = 33 := by omega
                  have i1 : ¬ ((33 : Nat) : Int) < 33 := by omega
                  obtain ⟨p2x, rfl⟩ : ∃ q, q = px := ⟨_, rfl⟩
                  obtain ⟨p2c, rfl⟩ : ∃ q, q = pc := ⟨_, rfl⟩
                  have HI5 : Hid (∃ T, Ga wr B T ∧ T 0 = some (thK fdE B (.slice (some ⟨go, 0, none⟩) (n + 1) co) (l ++ [(777, 0)])) ∧ T 1 = some (thO fdE B xx nx cx (.slice p1x (nx + 33) p1c) (repF (-1, 0) nx) (repF (-1, 0) (nx + 33))) ∧ T 2 = some (thO fdE B xz nx cz (.slice p2x (nx + 33) p2c) (repF (-2, 0) nx) (repF (-2, 0) (nx + 33))) ∧ T 3 = some (thK fdE B (.slice xy ny cy) (sortM l2)) ∧ T 4 = some (thK fdE B (.slice xa ny ca) (sortM l2)) ∧ Below B w0 wr) := ⟨T, hG, t0, t1, t2, t3, t4, hB⟩
                  obtain ⟨W4, rfl⟩ : ∃ q, q = wr := ⟨_, rfl⟩
                  clear hG t0 t1 t2 t3 t4 hB hlt hi
                  go_wp2
                  go_loopw [17] (fun iv wr => ∃ i : Nat, i ≤ nx ∧ iv = .int .i64 (i : Int) ∧ ∃ T, Ga wr B T ∧ T 0 = some (thK fdE B (.slice (some ⟨go, 0, none⟩) (n + 1) co) (l ++ [(777, 0)])) ∧ T 1 = some (thO fdE B xx nx cx (.slice p1x (nx + 33) p1c) (repF (-1, 0) nx) (repF (-1, 0) (nx + 33))) ∧ T 2 = some (thO fdE B xz nx cz (.slice p2x (nx + 33) p2c) (repF (-2, 0) nx) (repF (-2, 0) (nx + 33))) ∧ T 3 = some (thK fdE B (.slice xy ny cy) (sortM l2)) ∧ T 4 = some (thK fdE B (.slice xa ny ca) (sortM l2)) ∧ Below B w0 wr) (fun iv _ => nx - (intOf iv).toNat)
                  case atStart => exact ⟨0, by omega, rfl, HI5.out⟩
                  case round =>
                    clear HI5
                    obtain ⟨i, hi, rfl, T, hG, t0, t1, t2, t3, t4, hB⟩ := hrel
                    have HR : Hid (∃ T, Ga wr B T ∧ T 0 = some (thK fdE B (.slice (some ⟨go, 0, none⟩) (n + 1) co) (l ++ [(777, 0)])) ∧ T 1 = some (thO fdE B xx nx cx (.slice p1x (nx + 33) p1c) (repF (-1, 0) nx) (repF (-1, 0) (nx + 33))) ∧ T 2 = some (thO fdE B xz nx cz (.slice p2x (nx + 33) p2c) (repF (-2, 0) nx) (repF (-2, 0) (nx + 33))) ∧ T 3 = some (thK fdE B (.slice xy ny cy) (sortM l2)) ∧ T 4 = some (thK fdE B (.slice xa ny ca) (sortM l2)) ∧ Below B w0 wr) := ⟨T, hG, t0, t1, t2, t3, t4, hB⟩
                    have hO1 := hG.isO t1
                    have hO2 := hG.isO t2
                    clear hG t0 t1 t2 t3 t4 hB
                    by_cases hlt : i < nx
                    · have i0 : (0 : Int) ≤ (i : Int) := by omega
                      have i1 : (i : Int) < (nx : Int) := by omega
                      have i2 : (i : Int) < (nx : Int) + 33 := by omega
                      have wi : IntKind.i64.wrap ((i : Int) + 1) = (i : Int) + 1 := by rw [IntKind.wrap_i64]; have := HNX.out; have := HS.out; omega
                      obtain ⟨gq1, oq1, egq1, -, ca1, -⟩ := fd_at (hO1.old) i (-1, 0) (repF_at _ _ _ hlt)
                      subst egq1
                      replace ca1 : wr.cell? ⟨gq1, oq1 + i * 2, none⟩ = some (.int .i64 (-1)) := ca1
                      obtain ⟨gq2, oq2, egq2, -, ca2, -⟩ := fd_at (hO2.old) i (-2, 0) (repF_at _ _ _ hlt)
                      subst egq2
                      replace ca2 : wr.cell? ⟨gq2, oq2 + i * 2, none⟩ = some (.int .i64 (-2)) := ca2
                      obtain ⟨gq3, oq3, egq3, -, ca3, -⟩ := fd_at (hO1.own.isK fdE_ok) i (-1, 0) (repF_at _ _ _ (by omega))
                      subst egq3
                      replace ca3 : wr.cell? ⟨gq3, oq3 + i * 2, none⟩ = some (.int .i64 (-1)) := ca3
                      obtain ⟨gq4, oq4, egq4, -, ca4, -⟩ := fd_at (hO2.own.isK fdE_ok) i (-2, 0) (repF_at _ _ _ (by omega))
                      subst egq4
                      replace ca4 : wr.cell? ⟨gq4, oq4 + i * 2, none⟩ = some (.int .i64 (-2)) := ca4
                      clear hO1 hO2
                      go_wp2
                      go_roundw
                      case rel => exact ⟨i + 1, by omega, by go_num, HR.out⟩
                      case measure => simp [intOf]; omega
                    · obtain rfl : i = nx := by omega
                      clear hO1 hO2
                      have i1 : ¬ (i : Int) < (i : Int) := by omega
                      obtain ⟨W5, rfl⟩ : ∃ q, q = wr := ⟨_, rfl⟩
                      obtain ⟨T, hG, t0, t1, t2, t3, t4, hB⟩ := HR.out
                      clear HR
                      have hn := HN.out.1
                      have hAy := same22 W5 xy cy xa ca ny (sortM l2) HLN.out.2 ((hG.isK t3).isK fdE_ok) ((hG.isK t4).isK fdE_ok) (by have := HNX.out; have := HS.out; omega)
                      have hOw := hG.isK t0
                      have HB5 : Hid (Below w0.heap.size w0 W5) := by rw [← HBB.out]; exact hB
                      clear hG t0 t1 t2 t3 t4 hB
                      have hown : ∀ Y (L : List Fd), L.length = n → OwnK fdE Y B (.slice (some ⟨go, 0, none⟩) (n + 1) co) (L ++ [(777, 0)]) → IsK fdE Y (.slice (some ⟨go, 0, none⟩) n co) L := fun Y L hL h => by
                        have := (h.cut fdE_ok n (by omega)).isK fdE_ok
                        rwa [List.take_append_of_le_length (by omega), List.take_of_length_le (by omega)] at this
                      have HOW : Hid _ := hown
                      clear hown
                      go_wp2_with fail
                      refine hAy.mono ?_
                      rintro e W6 ⟨rfl, c1⟩
                      clear hAy
                      replace hOw := hOw.keep c1
                      have HB6 : Hid (Below w0.heap.size w0 W6) := HB5.out.trans (c1.mono HB5.out.size)
                      have hAo := same22 W6 (some ⟨go, 0, none⟩) co xl c n l hn (HOW.out W6 l hn hOw) (HL0.out.kept HB6.out) (by have := HS.out; omega)
                      clear c1 HB5
                      go_wp2_with fail
                      refine hAo.mono ?_
                      rintro e W7 ⟨rfl, c2⟩
                      clear hAo
                      replace hOw := OwnK.keep hOw c2
                      have hSo := sortF22 (some ⟨go, 0, none⟩) n co l W7 (HOW.out W7 l hn hOw) hn (by have := HS.out; omega)
                      have HB7 : Hid (Below w0.heap.size w0 W7) := HB6.out.trans (c2.mono HB6.out.size)
                      clear c2 HB6
                      go_wp2_with fail
                      refine hSo.mono ?_
                      rintro e W8 ⟨vo, rfl, -, c3⟩
                      clear hSo
                      have HO8 : Hid (OwnK fdE W8 B (.slice (some ⟨go, 0, none⟩) (n + 1) co) ((l.take 0).map ngF ++ (l.drop 0 ++ [(777, 0)]))) := OwnK.keep hOw c3
                      have HNN : Hid (l.length = n) := hn
                      have HB8 : Hid (Below w0.heap.size w0 W8) := HB7.out.trans (c3.mono HB7.out.size)
                      clear hOw c3 hn HB7
                      go_wp2
                      go_loopw [18] (fun iv wr => ∃ i : Nat, i ≤ n ∧ iv = .int .i64 (i : Int) ∧ OwnK fdE wr B (.slice (some ⟨go, 0, none⟩) (n + 1) co) ((l.take i).map ngF ++ (l.drop i ++ [(777, 0)])) ∧ Below w0.heap.size w0 wr) (fun iv _ => n - (intOf iv).toNat)
                      case atStart => exact ⟨0, by omega, rfl, HO8.out, HB8.out⟩
                      case round =>
                        clear HO8 HB8
                        obtain ⟨i, hi, rfl, hO, hBs⟩ := hrel
                        by_cases hlt : i < n
                        · obtain ⟨d, hd⟩ : ∃ d, l[i]? = some d := ⟨_, List.getElem?_eq_getElem (by have := HNN.out; omega)⟩
                          have i0 : (0 : Int) ≤ (i : Int) := by omega
                          have i1 : (i : Int) < (n : Int) := by omega
                          have wi : IntKind.i64.wrap ((i : Int) + 1) = (i : Int) + 1 := by rw [IntKind.wrap_i64]; have := HS.out; omega
                          obtain ⟨g, o, he, -, k1, k2, -⟩ := fd_at (hO.isK fdE_ok) i d (ng_at l _ i d hd)
                          cases he
                          rw [Nat.zero_add] at k1 k2
                          have fz := hO.frozen22 (i * 2 + 1)
                          have hP := hO.put fdE_ok i (ngF d) (by omega)
                          rw [ng_set l _ i d hd] at hP
                          have hE9 : wr.setCells go (i * fdE.k) (fdE.enc (ngF d)) = wr.setCell ⟨go, i * 2 + 1, none⟩ (.int .i64 (wrap64 (-d.2))) := setF_at wr go (i * 2) (.int .i64 d.1) _ k1
                          rw [hE9] at hP
                          have HP : Hid _ := hP
                          have HB9 : Hid (Below w0.heap.size w0 (wr.setCell ⟨go, i * 2 + 1, none⟩ (.int .i64 (wrap64 (-d.2))))) := hBs.setCell (by show w0.heap.size ≤ go; rw [← HBB.out]; exact (World.ownsRow.lt hO go rfl).1) _
                          clear hBs
                          clear hP hO hE9
                          go_wp2
                          go_roundw
                          case rel => exact ⟨i + 1, by omega, by go_num, HP.out, HB9.out⟩
                          case measure => simp [intOf]; omega
                        · obtain rfl : i = n := by omega
                          have i1 : ¬ (i : Int) < (i : Int) := by omega
                          obtain ⟨L, hL⟩ : ∃ L, l.map ngF = L := ⟨_, rfl⟩
                          rw [List.take_of_length_le (by have := HNN.out; omega), List.drop_of_length_le (by have := HNN.out; omega), List.nil_append, hL] at hO
                          have hLn : L.length = i := by rw [← hL, List.length_map]; exact HNN.out
                          obtain ⟨X0, rfl⟩ : ∃ q, q = wr := ⟨_, rfl⟩
                          have how := HOW.out X0 L hLn hO
                          obtain ⟨v4, d4, X1, a4, O4, B4⟩ := copyF22 X0 (some ⟨go, 0, none⟩) i co L how hLn (by have := HS.out; omega)
                          have hSt := refSort22 X1 v4 i d4 L (O4.isK fdE_ok) hLn (by have := HS.out; omega)
                          have how1 := how.kept B4
                          have HX1 : Hid (Below w0.heap.size w0 X1) := hBs.trans (B4.mono hBs.size)
                          clear O4 hO hBs B4 how
                          go_wp2_with (at_builtin; refine wpL_appG 22 rfl _ _ rfl _ X1 (by exact a4) ?_)
                          refine hSt.mono ?_
                          rintro e X2 ⟨vt, rfl, Ot, B5⟩
                          clear hSt a4
                          have how2 := how1.kept B5
                          have hSu := sortF22 (some ⟨go, 0, none⟩) i co L X2 how2 hLn (by have := HS.out; omega)
                          have HX2 : Hid (Below w0.heap.size w0 X2) := HX1.out.trans (B5.mono HX1.out.size)
                          clear how1 how2 B5 HX1
                          obtain ⟨nt, hnt⟩ : ∃ z, (sortM L).length = z := ⟨_, rfl⟩
                          have hntn : nt ≤ i := by
                            have h1 := sortM_len L []
                            rw [← hnt]; show (L.foldl insF []).length ≤ i; simp at h1; omega
                          obtain ⟨xt, ct, rfl⟩ := (Ot.isK fdE_ok).len
                          rw [hnt] at Ot ⊢
                          go_wp2_with fail
                          refine hSu.mono ?_
                          rintro e X3 ⟨vu, rfl, Ou, B6⟩
                          clear hSu
                          obtain ⟨xu, cu, rfl⟩ := (Ou.isK fdE_ok).len
                          rw [hnt] at Ou ⊢
                          have hAf := same22 X3 xu cu xt ct nt (sortM L) hnt (Ou.isK fdE_ok) ((Ot.isK fdE_ok).kept B6) (by have := HS.out; omega)
                          have HX3 : Hid (Below w0.heap.size w0 X3) := HX2.out.trans (B6.mono HX2.out.size)
                          clear Ou Ot B6 HX2
                          go_wp2_with fail
                          refine hAf.mono ?_
                          rintro e X4 ⟨rfl, B7⟩
                          clear hAf
                          go_wp2
                          go_ret
                          exact ⟨rfl, HB0.out.trans ((HX3.out.trans (B7.mono HX3.out.size)).mono HB0.out.size)⟩
end Go.Proofs.YtklbdhpnbjhgkaaGreatDoor
