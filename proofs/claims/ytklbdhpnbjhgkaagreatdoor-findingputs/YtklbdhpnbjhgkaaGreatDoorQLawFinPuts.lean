import Derived.Test.YtklbdhpnbjhgkaaGreatDoorQFi9
namespace Go.Proofs.YtklbdhpnbjhgkaaGreatDoor
open Go.RowKit Go.Sort

/-! FindingPuts -/
set_option linter.unusedSimpArgs false in
set_option maxRecDepth 100000 in
set_option maxHeartbeats 40000000 in
theorem lawFinPuts (w : World) (r s : Rp) (xf : Option Addr) (nf cf : Nat) (xd : Option Addr) (nd cd : Nat) (xi : Option Addr) (ni ci : Nat) (yf : Option Addr) (mf ef : Nat) (yd : Option Addr) (md ed : Nat) (yi : Option Addr) (mi ei : Nat) (hE : ETy w) (hIr : RpI w r xf nf cf xd nd cd xi ni ci) (_hCr : RpC r) (hIs : RpI w s yf mf ef yd md ed yi mi ei) (_hCs : RpC s)
    (s1 : nf * 16 ≤ 140737488351232) (s2 : nd * 32 ≤ 140737488351232) (s3 : ni * 8 ≤ 140737488351232) (s4 : mf * 16 ≤ 140737488351232) (s5 : md * 32 ≤ 140737488351232) (s6 : mi * 8 ≤ 140737488351232) :
    Calls Tryz.prog 5 #[.agg (rpA r.st (.slice xf nf cf) (.slice xd nd cd) (.slice xi ni ci)), .agg (rpA s.st (.slice yf mf ef) (.slice yd md ed) (.slice yi mi ei))] w fun e w' => e = .returned (.bool true) ∧ Below w.heap.size w w' := by
  have HIR : Hid (RpI w r xf nf cf xd nd cd xi ni ci) := hIr
  have HIS : Hid (RpI w s yf mf ef yd md ed yi mi ei) := hIs
  have HSZ : Hid ((nf * 16 ≤ 140737488351232 ∧ nd * 32 ≤ 140737488351232 ∧ ni * 8 ≤ 140737488351232) ∧ mf * 16 ≤ 140737488351232 ∧ md * 32 ≤ 140737488351232 ∧ mi * 8 ≤ 140737488351232) := ⟨⟨s1, s2, s3⟩, s4, s5, s6⟩
  clear hIr hIs _hCr _hCs s1 s2 s3 s4 s5 s6
  have b1 := below_alloc w (.cells (rpA r.st (.slice xf nf cf) (.slice xd nd cd) (.slice xi ni ci)) 32)
  have b2 := below_alloc (w.alloc (.cells (rpA r.st (.slice xf nf cf) (.slice xd nd cd) (.slice xi ni ci)) 32)) (.cells (rpA s.st (.slice yf mf ef) (.slice yd md ed) (.slice yi mi ei)) 32)
  have r2 := (RowC.new w (rpA r.st (.slice xf nf cf) (.slice xd nd cd) (.slice xi ni ci)) 32).kept b2
  have r3 := RowC.new (w.alloc (.cells (rpA r.st (.slice xf nf cf) (.slice xd nd cd) (.slice xi ni ci)) 32)) (rpA s.st (.slice yf mf ef) (.slice yd md ed) (.slice yi mi ei)) 32
  rw [World.size_alloc] at r3
  have hT := taken22 _ ((hE.later b1).later b2)
  have HB0 : Hid (Below w.heap.size w ((w.alloc (.cells (rpA r.st (.slice xf nf cf) (.slice xd nd cd) (.slice xi ni ci)) 32)).alloc (.cells (rpA s.st (.slice yf mf ef) (.slice yd md ed) (.slice yi mi ei)) 32))) := b1.trans (b2.mono b1.size)
  clear b1 b2 hE
  go_enter Tryz.func5, Tryz.ntmps5
  go_upto_region 1 with fail
  obtain ⟨z3, hz3⟩ : ∃ z, w.heap.size + 1 = z := ⟨_, rfl⟩
  obtain ⟨z2, hz2⟩ : ∃ z, w.heap.size = z := ⟨_, rfl⟩
  simp only [hz3]
  rw [hz3] at r3
  rw [hz2] at r2
  simp only [hz2]
  clear hz2 hz3
  generalize (w.alloc (.cells (rpA r.st (.slice xf nf cf) (.slice xd nd cd) (.slice xi ni ci)) 32)).alloc (.cells (rpA s.st (.slice yf mf ef) (.slice yd md ed) (.slice yi mi ei)) 32) = A at r2 r3 hT HB0 ⊢
  go_wp2_with fail
  refine hT.mono ?_
  rintro e w1 ⟨rfl, c1⟩
  clear hT
  have q2 := r2.kept c1
  have q3 := r3.kept c1
  have HB1 : Hid (Below w.heap.size w w1) := HB0.out.trans (c1.mono HB0.out.size)
  clear r2 r3 c1 HB0
  have l1 := run_load_rp w1 z2 q2.1 (by rw [q2.2]; rfl)
  rw [q2.2] at l1
  have hTw := twin22 w1 r xf nf cf xd nd cd xi ni ci (HIR.out.kept HB1.out) HSZ.out.1.1 HSZ.out.1.2.1 HSZ.out.1.2.2
  go_wp2_with fail
  refine hTw.mono ?_
  intro e w2 hq
  obtain ⟨g1, d1, g2, d2, g3, d3, rfl, ht, c2⟩ := hq.tw HIR.out.nf HIR.out.nd HIR.out.ni
  clear hq hTw l1
  have st := run_store_rp (w2.alloc (.cells (rpA 0 (.slice none 0 0) (.slice none 0 0) (.slice none 0 0)) 32)) w2.heap.size (rpA r.st (.slice (some ⟨g1, 0, none⟩) nf d1) (.slice (some ⟨g2, 0, none⟩) nd d2) (.slice (some ⟨g3, 0, none⟩) ni d3)) (RowC.new w2 _ _).1 (by rw [(RowC.new w2 _ _).2]; rfl) rfl (rpA_one _ _ _ _ _ _ _ _ _ _)
  have c3 := below_alloc w2 (.cells (rpA r.st (.slice (some ⟨g1, 0, none⟩) nf d1) (.slice (some ⟨g2, 0, none⟩) nd d2) (.slice (some ⟨g3, 0, none⟩) ni d3)) 32)
  have q5 := RowC.new w2 (rpA r.st (.slice (some ⟨g1, 0, none⟩) nf d1) (.slice (some ⟨g2, 0, none⟩) nd d2) (.slice (some ⟨g3, 0, none⟩) ni d3)) 32
  have p2 := (q2.kept c2).kept c3
  have p3 := (q3.kept c2).kept c3
  have ht3 := ht.kept c3
  have HB3 : Hid (Below w.heap.size w (w2.alloc (.cells (rpA r.st (.slice (some ⟨g1, 0, none⟩) nf d1) (.slice (some ⟨g2, 0, none⟩) nd d2) (.slice (some ⟨g3, 0, none⟩) ni d3)) 32))) := (HB1.out.trans (c2.mono HB1.out.size)).trans (c3.mono (Nat.le_trans HB1.out.size c2.size))
  clear q2 q3 ht HB1 c2 c3
  go_upto_region 4 with fail
  clear st
  obtain ⟨z5, hz5⟩ : ∃ z, w2.heap.size = z := ⟨_, rfl⟩
  rw [hz5] at q5
  simp only [hz5]
  generalize w2.alloc (.cells (rpA r.st (.slice (some ⟨g1, 0, none⟩) nf d1) (.slice (some ⟨g2, 0, none⟩) nd d2) (.slice (some ⟨g3, 0, none⟩) ni d3)) 32) = w3 at q5 p2 p3 ht3 HB3 ⊢
  clear hz5
  have l1 := run_load_rp w3 z2 p2.1 (by rw [p2.2]; rfl)
  rw [p2.2] at l1
  have hP1 := refPut22 w3 r xf nf cf xd nd cd xi ni ci (HIR.out.kept HB3.out)
  go_wp2_with fail
  refine hP1.mono ?_
  rintro e w4 ⟨c4, vw, rfl, Ow⟩
  clear hP1 l1
  have q2 := p2.kept c4
  have q3 := p3.kept c4
  have q5' := q5.kept c4
  have ht4 := ht3.kept c4
  have HB4 : Hid (Below w.heap.size w w4) := HB3.out.trans (c4.mono HB3.out.size)
  clear p2 p3 q5 ht3 HB3 c4
  have l1 := run_load_rp w4 z3 q3.1 (by rw [q3.2]; rfl)
  rw [q3.2] at l1
  have hP2 := refPut22 w4 s yf mf ef yd md ed yi mi ei (HIS.out.kept HB4.out)
  go_wp2_with fail
  refine hP2.mono ?_
  rintro e w5 ⟨c5, va, rfl, Oa⟩
  clear hP2 l1
  have M2 : Hid (RowC w5 z2 (rpA r.st (.slice xf nf cf) (.slice xd nd cd) (.slice xi ni ci))) := q2.kept c5
  have M3 : Hid (RowC w5 z3 (rpA s.st (.slice yf mf ef) (.slice yd md ed) (.slice yi mi ei))) := q3.kept c5
  have M5 : Hid (RowC w5 z5 (rpA r.st (.slice (some ⟨g1, 0, none⟩) nf d1) (.slice (some ⟨g2, 0, none⟩) nd d2) (.slice (some ⟨g3, 0, none⟩) ni d3))) := q5'.kept c5
  have MT : Hid (TwI w5 r nf nd ni g1 d1 g2 d2 g3 d3) := ht4.kept c5
  have MW : Hid (IsB w5 vw (putM r)) := (Ow.keep c5).isB
  have MA : Hid (IsB w5 va (putM s)) := Oa.isB
  have HB5 : Hid (Below w.heap.size w w5) := HB4.out.trans (c5.mono HB4.out.size)
  clear q2 q3 q5' ht4 Ow Oa c5 HB4
  have l1 := run_load_rp w5 z5 M5.out.1 (by rw [M5.out.2]; rfl)
  rw [M5.out.2] at l1
  have hP3 := put22 w5 r (some ⟨g1, 0, none⟩) nf d1 (some ⟨g2, 0, none⟩) nd d2 (some ⟨g3, 0, none⟩) ni d3 MT.out.rp
  go_wp2_with fail
  refine hP3.mono ?_
  rintro e w6 ⟨c6, vx, rfl, Ox⟩
  clear hP3 l1
  obtain ⟨B, hB⟩ : ∃ z, z = w5.heap.size := ⟨_, rfl⟩
  have HBB : Hid (B = w5.heap.size) := hB
  have G6 : Hid (Ga w6 B (updT (fun _ => none) 1 (thG 5 B vx (byV (putM r))))) := by rw [hB]; exact (Ga.start (Nat.le_refl _)).newG 1 c6 (ownBG Ox) (ownBG Ox)
  clear hB
  have l1 := run_load_rp w6 z3 (M3.out.kept c6).1 (by rw [(M3.out.kept c6).2]; rfl)
  rw [(M3.out.kept c6).2] at l1
  have hTw := twin22 w6 s yf mf ef yd md ed yi mi ei (HIS.out.kept (HB5.out.trans (c6.mono HB5.out.size))) HSZ.out.2.1 HSZ.out.2.2.1 HSZ.out.2.2.2
  go_wp2_with fail
  refine hTw.mono ?_
  intro e w7 hq
  obtain ⟨k1, e1, k2, e2, k3, e3, rfl, ht, c7⟩ := hq.tw HIS.out.nf HIS.out.nd HIS.out.ni
  clear hq hTw l1
  have hP4 := put22 w7 s (some ⟨k1, 0, none⟩) mf e1 (some ⟨k2, 0, none⟩) md e2 (some ⟨k3, 0, none⟩) mi e3 ht.rp
  go_wp2_with fail
  refine hP4.mono ?_
  rintro e w8 ⟨c8, vy, rfl, Oy⟩
  clear hP4 ht
  have G8 : Hid (Ga w8 B _) := (G6.out.later c7).newG 3 c8 (ownBG Oy) (ownBG (OwnB.le22 Oy (by rw [HBB.out]; exact Nat.le_trans c6.size c7.size)))
  have c58 : Below w5.heap.size w5 w8 := (c6.trans (c7.mono c6.size)).trans (c8.mono (Nat.le_trans c6.size c7.size))
  have ox8 := (Ox.keep c7).keep c8
  clear G6 Ox c6 c7 c8
  have l1 := run_load_rp w8 z5 (M5.out.kept c58).1 (by rw [(M5.out.kept c58).2]; rfl)
  rw [(M5.out.kept c58).2] at l1
  have hP5 := put22 w8 r (some ⟨g1, 0, none⟩) nf d1 (some ⟨g2, 0, none⟩) nd d2 (some ⟨g3, 0, none⟩) ni d3 (MT.out.kept c58).rp
  go_wp2_with fail
  refine hP5.mono ?_
  rintro e w9 ⟨c9, vz, rfl, Oz⟩
  clear hP5 l1
  have G9 : Hid (Ga w9 B _) := G8.out.newG 2 c9 (ownBG Oz) (ownBG (OwnB.le22 Oz (by rw [HBB.out]; exact c58.size)))
  have c59 : Below w5.heap.size w5 w9 := c58.trans (c9.mono c58.size)
  obtain ⟨nx, hnx⟩ : ∃ z, (putM r).length = z := ⟨_, rfl⟩
  have HNX : Hid ((putM r).length = nx ∧ nx ≤ 3000000) := ⟨hnx, by rw [← hnx]; exact put_len22 r⟩
  have s1 := (ox8.keep c9).isB.str
  have s2 := Oz.isB.str
  have s3 := (Oy.keep c9).isB.str
  have s4 := (MW.out.kept c59).str
  have s5 := (MA.out.kept c59).str
  have l1 := run_load_rp w9 z5 (M5.out.kept c59).1 (by rw [(M5.out.kept c59).2]; rfl)
  rw [(M5.out.kept c59).2] at l1
  have l2 := run_load_rp w9 z2 (M2.out.kept c59).1 (by rw [(M2.out.kept c59).2]; rfl)
  rw [(M2.out.kept c59).2] at l2
  have hK := kept22 w9 r g1 d1 g2 d2 g3 d3 xf nf cf xd nd cd xi ni ci (MT.out.kept c59) (HIR.out.kept (HB5.out.trans (c59.mono HB5.out.size))) HSZ.out.1.1 HSZ.out.1.2.1 HSZ.out.1.2.2
  obtain ⟨xx, cx, hvx⟩ := ox8.isB.len
  obtain ⟨xz, cz, hvz⟩ := Oz.isB.len
  rw [hnx] at hvx hvz
  subst hvx hvz
  go_wp2_with fail
  refine hK.mono ?_
  rintro e W0 ⟨rfl, c10⟩
  clear hK l1 l2 s1 s2 s3 s4 s5
  have HI : Hid (∃ T, Ga W0 B T ∧ T 1 = some (thG 5 B (.slice xx nx cx) (repV (.int .u8 1) 0 ++ (byV (putM r)).drop 0)) ∧ T 2 = some (thG 5 B (.slice xz nx cz) (byV (putM r))) ∧ T 3 = some (thG 5 B vy (byV (putM s))) ∧ Below B w5 W0) := ⟨_, G9.out.later c10, rfl, rfl, rfl, by rw [HBB.out]; exact c59.trans (c10.mono c59.size)⟩
  have HXL : Hid ((byV (putM r)).length = nx) := by show _ = _; rw [byV_len]; exact hnx
  clear G9 G8 c58 c59 c9 c10 Oz Oy ox8 hnx
  go_wp2
  go_loopw [16] (fun iv wr => ∃ i : Nat, i ≤ nx ∧ iv = .int .i64 (i : Int) ∧ ∃ T, Ga wr B T ∧ T 1 = some (thG 5 B (.slice xx nx cx) (repV (.int .u8 1) i ++ (byV (putM r)).drop i)) ∧ T 2 = some (thG 5 B (.slice xz nx cz) (byV (putM r))) ∧ T 3 = some (thG 5 B vy (byV (putM s))) ∧ Below B w5 wr) (fun iv _ => nx - (intOf iv).toNat)
  case atStart => exact ⟨0, by omega, rfl, HI.out⟩
  case round =>
    clear HI
    obtain ⟨i, hi, rfl, T, hG, t1, t2, t3, hB⟩ := hrel
    by_cases hlt : i < nx
    · have i0 : (0 : Int) ≤ (i : Int) := by omega
      have i1 : (i : Int) < (nx : Int) := by omega
      have wi : IntKind.i64.wrap ((i : Int) + 1) = (i : Int) + 1 := by rw [IntKind.wrap_i64]; have := HNX.out; omega
      have hO := hG.isG t1
      have hdl : i < (byV (putM r)).length := by have := HXL.out; omega
      obtain ⟨u, hu⟩ := repV_old (.int .u8 1) (byV (putM r)) i hdl
      obtain ⟨g, c9, hg, -⟩ := OwnG.form hO (by intro h0; rw [h0] at hu; cases hu)
      simp only [Value.slice.injEq] at hg
      obtain ⟨hg, -, hg2⟩ := hg
      subst hg hg2
      have fz := hO.frozen i
      have zc := hO.cell i u hu
      obtain ⟨hG2, hB2⟩ := hG.setG t1 i (.int .u8 1)
      rw [repV_set (.int .u8 1) (byV (putM r)) i hdl] at hG2
      have HR : Hid (∃ T, Ga (wr.setCell ⟨g, i, none⟩ (.int .u8 1)) B T ∧ T 1 = some (thG 5 B (.slice (some ⟨g, 0, none⟩) nx cx) (repV (.int .u8 1) (i + 1) ++ (byV (putM r)).drop (i + 1))) ∧ T 2 = some (thG 5 B (.slice xz nx cz) (byV (putM r))) ∧ T 3 = some (thG 5 B vy (byV (putM s))) ∧ Below B w5 (wr.setCell ⟨g, i, none⟩ (.int .u8 1))) := ⟨_, hG2, updT_same _ _ _, by rw [updT_ne _ _ _ _ (by decide)]; exact t2, by rw [updT_ne _ _ _ _ (by decide)]; exact t3, hB.trans hB2⟩
      clear hG hO hG2 hB2 hB t1 t2 t3 hdl hu
      go_wp2
      go_roundw
      case rel => exact ⟨i + 1, by omega, by go_num, HR.out⟩
      case measure => simp [intOf]; omega
    · obtain rfl : nx = i := by omega
      have i1 : ¬ (nx : Int) < (nx : Int) := by omega
      have HI2 : Hid (∃ T, Ga wr B T ∧ T 1 = some (thG 5 B (.slice xx nx cx) (repV (.int .u8 1) nx)) ∧ T 2 = some (thG 5 B (.slice xz nx cz) (repV (.int .u8 2) 0 ++ (byV (putM r)).drop 0)) ∧ T 3 = some (thG 5 B vy (byV (putM s))) ∧ Below B w5 wr) := ⟨T, hG, by rw [t1, List.drop_of_length_le (by have := HXL.out; omega), List.append_nil], t2, t3, hB⟩
      obtain ⟨W1, rfl⟩ : ∃ q, q = wr := ⟨_, rfl⟩
      clear hG t1 t2 t3 hB hlt hi
      go_wp2
      go_loopw [17] (fun iv wr => ∃ i : Nat, i ≤ nx ∧ iv = .int .i64 (i : Int) ∧ ∃ T, Ga wr B T ∧ T 1 = some (thG 5 B (.slice xx nx cx) (repV (.int .u8 1) nx)) ∧ T 2 = some (thG 5 B (.slice xz nx cz) (repV (.int .u8 2) i ++ (byV (putM r)).drop i)) ∧ T 3 = some (thG 5 B vy (byV (putM s))) ∧ Below B w5 wr) (fun iv _ => nx - (intOf iv).toNat)
      case atStart => exact ⟨0, by omega, rfl, HI2.out⟩
      case round =>
        clear HI2
        obtain ⟨i, hi, rfl, T, hG, t1, t2, t3, hB⟩ := hrel
        by_cases hlt : i < nx
        · have i0 : (0 : Int) ≤ (i : Int) := by omega
          have i1 : (i : Int) < (nx : Int) := by omega
          have wi : IntKind.i64.wrap ((i : Int) + 1) = (i : Int) + 1 := by rw [IntKind.wrap_i64]; have := HNX.out; omega
          have hO := hG.isG t2
          have hdl : i < (byV (putM r)).length := by have := HXL.out; omega
          obtain ⟨u, hu⟩ := repV_old (.int .u8 2) (byV (putM r)) i hdl
          obtain ⟨g, c9, hg, -⟩ := OwnG.form hO (by intro h0; rw [h0] at hu; cases hu)
          simp only [Value.slice.injEq] at hg
          obtain ⟨hg, -, hg2⟩ := hg
          subst hg hg2
          have fz := hO.frozen i
          have zc := hO.cell i u hu
          obtain ⟨hG2, hB2⟩ := hG.setG t2 i (.int .u8 2)
          rw [repV_set (.int .u8 2) (byV (putM r)) i hdl] at hG2
          have HR : Hid (∃ T, Ga (wr.setCell ⟨g, i, none⟩ (.int .u8 2)) B T ∧ T 1 = some (thG 5 B (.slice xx nx cx) (repV (.int .u8 1) nx)) ∧ T 2 = some (thG 5 B (.slice (some ⟨g, 0, none⟩) nx cz) (repV (.int .u8 2) (i + 1) ++ (byV (putM r)).drop (i + 1))) ∧ T 3 = some (thG 5 B vy (byV (putM s))) ∧ Below B w5 (wr.setCell ⟨g, i, none⟩ (.int .u8 2))) := ⟨_, hG2, by rw [updT_ne _ _ _ _ (by decide)]; exact t1, updT_same _ _ _, by rw [updT_ne _ _ _ _ (by decide)]; exact t3, hB.trans hB2⟩
          clear hG hO hG2 hB2 hB t1 t2 t3 hdl hu
          go_wp2
          go_roundw
          case rel => exact ⟨i + 1, by omega, by go_num, HR.out⟩
          case measure => simp [intOf]; omega
        · obtain rfl : nx = i := by omega
          have i1 : ¬ (nx : Int) < (nx : Int) := by omega
          have HI3 : Hid (∃ T, Ga wr B T ∧ T 1 = some (thG 5 B (.slice xx nx cx) (repV (.int .u8 1) nx)) ∧ T 2 = some (thG 5 B (.slice xz nx cz) (repV (.int .u8 2) nx)) ∧ T 3 = some (thG 5 B vy (byV (putM s))) ∧ Below B w5 wr) := ⟨T, hG, t1, by rw [t2, List.drop_of_length_le (by have := HXL.out; omega), List.append_nil], t3, hB⟩
          obtain ⟨W2, rfl⟩ : ∃ q, q = wr := ⟨_, rfl⟩
          clear hG t1 t2 t3 hB hlt hi
          go_wp2
          have HI3o : Hid (∃ T, Ga W2 B T ∧ T 1 = some (thN 5 B (.slice xx (nx + 0) cx) (repV (.int .u8 1) (nx + 0)) (.slice xx nx cx) (repV (.int .u8 1) nx)) ∧ T 2 = some (thG 5 B (.slice xz nx cz) (repV (.int .u8 2) nx)) ∧ T 3 = some (thG 5 B vy (byV (putM s))) ∧ Below B w5 W2) := by
            obtain ⟨T, hG, t1, t2, t3, hB⟩ := HI3.out
            exact ⟨_, hG.beginN t1, updT_same _ _ _, by rw [updT_ne _ _ _ _ (by decide)]; exact t2, by rw [updT_ne _ _ _ _ (by decide)]; exact t3, hB⟩
          clear HI3
          go_loopw [18, 20] (fun pv iv wr => ∃ (i : Nat) (px : Option Addr) (pc : Nat), i ≤ 70 ∧ pv = .slice px (nx + i) pc ∧ iv = .int .i64 (i : Int) ∧ ∃ T, Ga wr B T ∧ T 1 = some (thN 5 B (.slice px (nx + i) pc) (repV (.int .u8 1) (nx + i)) (.slice xx nx cx) (repV (.int .u8 1) nx)) ∧ T 2 = some (thG 5 B (.slice xz nx cz) (repV (.int .u8 2) nx)) ∧ T 3 = some (thG 5 B vy (byV (putM s))) ∧ Below B w5 wr) (fun _ iv _ => 70 - (intOf iv).toNat)
          case atStart => exact ⟨0, xx, cx, by omega, rfl, rfl, HI3o.out⟩
          case round =>
            clear HI3o
            obtain ⟨i, px, pc, hi, rfl, rfl, T, hG, t1, t2, t3, hB⟩ := hrel
            by_cases hlt : i < 70
            · have i1 : (i : Int) < 70 := by omega
              have bA := below_alloc wr (.cells #[(.int .u8 1)] 5)
              obtain ⟨g, c', w3, hr3, hG3, hB3⟩ := (hG.later bA).appN bytElt22 t1 (.int .u8 1) wr.heap.size 33 (by simp) rfl (by rw [repV_len]; have := HNX.out; omega) (by rw [repV_len]; have := HNX.out; omega)
              rw [repV_succ] at hG3
              rw [repV_len] at hr3 hG3
              obtain ⟨z, hz⟩ : ∃ q, wr.heap.size = q := ⟨_, rfl⟩
              rw [hz] at hr3
              have HR : Hid (∃ T, Ga w3 B T ∧ T 1 = some (thN 5 B (.slice (some ⟨g, 0, none⟩) (nx + (i + 1)) c') (repV (.int .u8 1) (nx + (i + 1))) (.slice xx nx cx) (repV (.int .u8 1) nx)) ∧ T 2 = some (thG 5 B (.slice xz nx cz) (repV (.int .u8 2) nx)) ∧ T 3 = some (thG 5 B vy (byV (putM s))) ∧ Below B w5 w3) := ⟨_, hG3, updT_same _ _ _, by rw [updT_ne _ _ _ _ (by decide)]; exact t2, by rw [updT_ne _ _ _ _ (by decide)]; exact t3, (hB.trans (bA.mono hG.size)).trans hB3⟩
              clear hG hG3 hB3 hB t1 t2 t3 bA
              go_wp2_with (at_builtin; refine wpL_appG 33 rfl _ _ rfl _ w3 (by exact hr3) ?_)
              go_roundw
              case rel => first | exact ⟨i + 1, some ⟨g, 0, none⟩, c', by omega, rfl, by go_num, HR.out⟩ | ((repeat apply Exists.intro); refine ⟨⟨i + 1, some ⟨g, 0, none⟩, c', by omega, rfl, ?_, HR.out⟩, rfl⟩; go_num)
              case measure => simp [intOf]; omega
            · obtain rfl : i = 70 := by omega
              have i1 : ¬ ((70 : Nat) : Int) < 70 := by omega
              obtain ⟨p1x, rfl⟩ : ∃ q, q = px := ⟨_, rfl⟩
              obtain ⟨p1c, rfl⟩ : ∃ q, q = pc := ⟨_, rfl⟩
              have HI4 : Hid (∃ T, Ga wr B T ∧ T 1 = some (thN 5 B (.slice p1x (nx + 70) p1c) (repV (.int .u8 1) (nx + 70)) (.slice xx nx cx) (repV (.int .u8 1) nx)) ∧ T 2 = some (thG 5 B (.slice xz nx cz) (repV (.int .u8 2) nx)) ∧ T 3 = some (thG 5 B vy (byV (putM s))) ∧ Below B w5 wr) := ⟨T, hG, t1, t2, t3, hB⟩
              obtain ⟨W3, rfl⟩ : ∃ q, q = wr := ⟨_, rfl⟩
              clear hG t1 t2 t3 hB hlt hi
              go_wp2
              have HI4o : Hid (∃ T, Ga W3 B T ∧ T 1 = some (thN 5 B (.slice p1x (nx + 70) p1c) (repV (.int .u8 1) (nx + 70)) (.slice xx nx cx) (repV (.int .u8 1) nx)) ∧ T 2 = some (thN 5 B (.slice xz (nx + 0) cz) (repV (.int .u8 2) (nx + 0)) (.slice xz nx cz) (repV (.int .u8 2) nx)) ∧ T 3 = some (thG 5 B vy (byV (putM s))) ∧ Below B w5 W3) := by
                obtain ⟨T, hG, t1, t2, t3, hB⟩ := HI4.out
                exact ⟨_, hG.beginN t2, by rw [updT_ne _ _ _ _ (by decide)]; exact t1, updT_same _ _ _, by rw [updT_ne _ _ _ _ (by decide)]; exact t3, hB⟩
              clear HI4
              go_loopw [19, 21] (fun pv iv wr => ∃ (i : Nat) (px : Option Addr) (pc : Nat), i ≤ 70 ∧ pv = .slice px (nx + i) pc ∧ iv = .int .i64 (i : Int) ∧ ∃ T, Ga wr B T ∧ T 1 = some (thN 5 B (.slice p1x (nx + 70) p1c) (repV (.int .u8 1) (nx + 70)) (.slice xx nx cx) (repV (.int .u8 1) nx)) ∧ T 2 = some (thN 5 B (.slice px (nx + i) pc) (repV (.int .u8 2) (nx + i)) (.slice xz nx cz) (repV (.int .u8 2) nx)) ∧ T 3 = some (thG 5 B vy (byV (putM s))) ∧ Below B w5 wr) (fun _ iv _ => 70 - (intOf iv).toNat)
              case atStart => exact ⟨0, xz, cz, by omega, rfl, rfl, HI4o.out⟩
              case round =>
                clear HI4o
                obtain ⟨i, px, pc, hi, rfl, rfl, T, hG, t1, t2, t3, hB⟩ := hrel
                by_cases hlt : i < 70
                · have i1 : (i : Int) < 70 := by omega
                  have bA := below_alloc wr (.cells #[(.int .u8 2)] 5)
                  obtain ⟨g, c', w3, hr3, hG3, hB3⟩ := (hG.later bA).appN bytElt22 t2 (.int .u8 2) wr.heap.size 33 (by simp) rfl (by rw [repV_len]; have := HNX.out; omega) (by rw [repV_len]; have := HNX.out; omega)
                  rw [repV_succ] at hG3
                  rw [repV_len] at hr3 hG3
                  obtain ⟨z, hz⟩ : ∃ q, wr.heap.size = q := ⟨_, rfl⟩
                  rw [hz] at hr3
                  have HR : Hid (∃ T, Ga w3 B T ∧ T 1 = some (thN 5 B (.slice p1x (nx + 70) p1c) (repV (.int .u8 1) (nx + 70)) (.slice xx nx cx) (repV (.int .u8 1) nx)) ∧ T 2 = some (thN 5 B (.slice (some ⟨g, 0, none⟩) (nx + (i + 1)) c') (repV (.int .u8 2) (nx + (i + 1))) (.slice xz nx cz) (repV (.int .u8 2) nx)) ∧ T 3 = some (thG 5 B vy (byV (putM s))) ∧ Below B w5 w3) := ⟨_, hG3, by rw [updT_ne _ _ _ _ (by decide)]; exact t1, updT_same _ _ _, by rw [updT_ne _ _ _ _ (by decide)]; exact t3, (hB.trans (bA.mono hG.size)).trans hB3⟩
                  clear hG hG3 hB3 hB t1 t2 t3 bA
                  go_wp2_with (at_builtin; refine wpL_appG 33 rfl _ _ rfl _ w3 (by exact hr3) ?_)
                  go_roundw
                  case rel => first | exact ⟨i + 1, some ⟨g, 0, none⟩, c', by omega, rfl, by go_num, HR.out⟩ | ((repeat apply Exists.intro); refine ⟨⟨i + 1, some ⟨g, 0, none⟩, c', by omega, rfl, ?_, HR.out⟩, rfl⟩; go_num)
                  case measure => simp [intOf]; omega
                · obtain rfl : i = 70 := by omega
                  have i1 : ¬ ((70 : Nat) : Int) < 70 := by omega
                  obtain ⟨p2x, rfl⟩ : ∃ q, q = px := ⟨_, rfl⟩
                  obtain ⟨p2c, rfl⟩ : ∃ q, q = pc := ⟨_, rfl⟩
                  have HI5 : Hid (∃ T, Ga wr B T ∧ T 1 = some (thN 5 B (.slice p1x (nx + 70) p1c) (repV (.int .u8 1) (nx + 70)) (.slice xx nx cx) (repV (.int .u8 1) nx)) ∧ T 2 = some (thN 5 B (.slice p2x (nx + 70) p2c) (repV (.int .u8 2) (nx + 70)) (.slice xz nx cz) (repV (.int .u8 2) nx)) ∧ T 3 = some (thG 5 B vy (byV (putM s))) ∧ Below B w5 wr) := ⟨T, hG, t1, t2, t3, hB⟩
                  obtain ⟨W4, rfl⟩ : ∃ q, q = wr := ⟨_, rfl⟩
                  clear hG t1 t2 t3 hB hlt hi
                  go_wp2
                  go_loopw [22] (fun iv wr => ∃ i : Nat, i ≤ nx ∧ iv = .int .i64 (i : Int) ∧ ∃ T, Ga wr B T ∧ T 1 = some (thN 5 B (.slice p1x (nx + 70) p1c) (repV (.int .u8 1) (nx + 70)) (.slice xx nx cx) (repV (.int .u8 1) nx)) ∧ T 2 = some (thN 5 B (.slice p2x (nx + 70) p2c) (repV (.int .u8 2) (nx + 70)) (.slice xz nx cz) (repV (.int .u8 2) nx)) ∧ T 3 = some (thG 5 B vy (byV (putM s))) ∧ Below B w5 wr) (fun iv _ => nx - (intOf iv).toNat)
                  case atStart => exact ⟨0, by omega, rfl, HI5.out⟩
                  case round =>
                    clear HI5
                    obtain ⟨i, hi, rfl, T, hG, t1, t2, t3, hB⟩ := hrel
                    have HR : Hid (∃ T, Ga wr B T ∧ T 1 = some (thN 5 B (.slice p1x (nx + 70) p1c) (repV (.int .u8 1) (nx + 70)) (.slice xx nx cx) (repV (.int .u8 1) nx)) ∧ T 2 = some (thN 5 B (.slice p2x (nx + 70) p2c) (repV (.int .u8 2) (nx + 70)) (.slice xz nx cz) (repV (.int .u8 2) nx)) ∧ T 3 = some (thG 5 B vy (byV (putM s))) ∧ Below B w5 wr) := ⟨T, hG, t1, t2, t3, hB⟩
                    have hO1 := hG.isN t1
                    have hO2 := hG.isN t2
                    clear hG t1 t2 t3 hB
                    by_cases hlt : i < nx
                    · have i0 : (0 : Int) ≤ (i : Int) := by omega
                      have i1 : (i : Int) < (nx : Int) := by omega
                      have i2 : (i : Int) < (nx : Int) + 70 := by omega
                      have wi : IntKind.i64.wrap ((i : Int) + 1) = (i : Int) + 1 := by rw [IntKind.wrap_i64]; have := HNX.out; omega
                      obtain ⟨gq1, oq1, egq1, -, ca1'⟩ := IsG.spot (hO1.2) i (by rw [repV_len]; omega)
                      subst egq1
                      have ca1 := ca1' i (.int .u8 1) (repV_at _ _ _ (by omega))
                      clear ca1'
                      obtain ⟨gq2, oq2, egq2, -, ca2'⟩ := IsG.spot (hO2.2) i (by rw [repV_len]; omega)
                      subst egq2
                      have ca2 := ca2' i (.int .u8 2) (repV_at _ _ _ (by omega))
                      clear ca2'
                      obtain ⟨gq3, oq3, egq3, -, ca3'⟩ := IsG.spot (OwnG.isG hO1.1) i (by rw [repV_len]; omega)
                      subst egq3
                      have ca3 := ca3' i (.int .u8 1) (repV_at _ _ _ (by omega))
                      clear ca3'
                      obtain ⟨gq4, oq4, egq4, -, ca4'⟩ := IsG.spot (OwnG.isG hO2.1) i (by rw [repV_len]; omega)
                      subst egq4
                      have ca4 := ca4' i (.int .u8 2) (repV_at _ _ _ (by omega))
                      clear ca4'
                      clear hO1 hO2
                      go_wp2
                      go_roundw
                      case rel => exact ⟨i + 1, by omega, by go_num, HR.out⟩
                      case measure => simp [intOf]; omega
                    · obtain rfl : i = nx := by omega
                      clear hO1 hO2
                      have i1 : ¬ (i : Int) < (i : Int) := by omega
                      obtain ⟨W5, rfl⟩ : ∃ q, q = wr := ⟨_, rfl⟩
                      obtain ⟨T, hG, t1, t2, t3, hB⟩ := HR.out
                      clear HR
                      have hB' : Below w5.heap.size w5 W5 := by rw [← HBB.out]; exact hB
                      have s3 := (ownGB (hG.isG t3)).isB.str
                      have s5 := (MA.out.kept hB').str
                      have l1 := run_load_rp W5 z5 (M5.out.kept hB').1 (by rw [(M5.out.kept hB').2]; rfl)
                      rw [(M5.out.kept hB').2] at l1
                      have l2 := run_load_rp W5 z2 (M2.out.kept hB').1 (by rw [(M2.out.kept hB').2]; rfl)
                      rw [(M2.out.kept hB').2] at l2
                      have hK := kept22 W5 r g1 d1 g2 d2 g3 d3 xf nf cf xd nd cd xi ni ci (MT.out.kept hB') (HIR.out.kept (HB5.out.trans (hB'.mono HB5.out.size))) HSZ.out.1.1 HSZ.out.1.2.1 HSZ.out.1.2.2
                      have HB9 : Hid (Below w.heap.size w W5) := HB5.out.trans (hB'.mono HB5.out.size)
                      clear hG t1 t2 t3 hB hB'
                      go_wp2_with fail
                      refine hK.mono ?_
                      rintro e W6 ⟨rfl, c9⟩
                      clear hK
                      go_wp2
                      go_ret
                      exact ⟨rfl, HB9.out.trans (c9.mono HB9.out.size)⟩
end Go.Proofs.YtklbdhpnbjhgkaaGreatDoor
