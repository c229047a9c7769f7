import Derived.Test.YtklbdhpnbjhgkaaGreatDoorQFrc
namespace Go.Proofs.YtklbdhpnbjhgkaaGreatDoor
open Go.RowKit Go.Sort

/-! The document's own reader: fetch -/
theorem dgL_at (l : List UInt8) (j : Nat) (h : j < 32) : dgL l j = lB l j := if_pos h
theorem dg_set22 (s : Dg) (j : Nat) (v : UInt8) (h : j < 32) : (dg_secA s).setIfInBounds j (.int .u8 (v.toNat : Int)) = dg_secA (upd s j v) := dg_secA_set s j v h
set_option linter.unusedSimpArgs false in
set_option maxRecDepth 100000 in
set_option maxHeartbeats 40000000 in
theorem refFetch22 (w : World) (g : Nat) (x : Option Addr) (n c : Nat) (b : List UInt8) (S : Rs) (h : RrI w g x n c b S) : Calls Tryz.prog 75 #[.pointer (some ⟨g, 0, none⟩)] w fun e w' => ∃ v, e = .returned v ∧ OwnK dgE w' w.heap.size v (listS (bdD b) b S).1 ∧ RrI w' g x n c b (listS (bdD b) b S).2 ∧ Keep [g] w w' := by
  obtain ⟨RES, hres⟩ : ∃ q, listS (bdD b) b S = q := ⟨_, rfl⟩
  rw [hres]
  obtain ⟨N, S0, hN0⟩ : ∃ N S0, numS 2 b S = (N, S0) := ⟨_, _, rfl⟩
  have HRES : Hid (loopS (bdD b) N [] S0 = RES) := by show _ = _; rw [← hres]; unfold listS; rw [hN0]
  have hNl := numS_lt 2 b S
  rw [hN0] at hNl
  have HN : Hid (N < 65536) := hNl
  have hNa := refNumber22 w g x n c b S 2 (by omega) h
  rw [hN0] at hNa
  have HG : Hid (g < w.heap.size) := h.row.lt
  clear hres hN0 hNl h
  go_enter Tryz.func75, Tryz.ntmps75
  go_wp2_with fail
  refine hNa.mono ?_
  rintro e w1 ⟨rfl, hI1, k1⟩
  clear hNa
  go_wp2_with fail
  go_loopw [3, 5] (fun lv iv wr => ∃ (lv0 : Value) (i : Nat) (L : List Dg) (T : Rs), lv0 = lv ∧ i ≤ N ∧ iv = .int .i64 (i : Int) ∧ L.length = i ∧ OwnK dgE wr w.heap.size lv0 L ∧ RrI wr g x n c b T ∧ Keep [g] w wr ∧ loopS (bdD b) (N - i) L T = RES) (fun _ iv _ => N - (intOf iv).toNat)
  case atStart => exact ⟨_, 0, [], S0, rfl, by omega, rfl, rfl, OwnK.nil _ _ _, hI1, k1, by rw [Nat.sub_zero]; exact HRES.out⟩
  case round =>
    clear hI1 k1 HRES
    obtain ⟨lv, i, L, T, rfl, hi, rfl, hLL, hO, hI, hKw, hRES⟩ := hrel
    have HLL : Hid (L.length = i) := hLL
    by_cases hlt : i < N
    · have HLT : Hid (i < N) := hlt
      have i0 : (i : Int) < (N : Int) := by omega
      have i1 : (0 : Int) ≤ (i : Int) := by omega
      have wi : IntKind.i64.wrap ((i : Int) + 1) = (i : Int) + 1 := by rw [IntKind.wrap_i64]; have := HN.out; omega
      clear hLL hi
      obtain ⟨p, e0, q⟩ := T
      by_cases hT0 : e0 = 0
      · subst hT0
        have c1 : wr.cell? ⟨g, 1, none⟩ = some (.int .i64 (p : Int)) := by rw [hI.row.cell]; rfl
        have c2 : wr.cell? ⟨g, 2, none⟩ = some (.int .i64 0) := by rw [hI.row.cell]; rfl
        have HSTEP : Hid (∀ f S, bdD b L (p, 0, q) = (f, S) → loopS (bdD b) (N - (i + 1)) (L ++ [f]) S = RES) := fun f S hf => by
          have h9 := hRES
          rw [show N - i = (N - (i + 1)) + 1 by omega, loopS, if_pos rfl, hf] at h9
          exact h9
        have ZF : Hid (∀ q, lv.ownBlock = some q → q ≠ g) := fun q hq => by have := World.ownsRow.lt hO q hq; have := HG.out; omega
        have KB : Hid (Keep [g] w wr) := hKw
        clear hRES hKw
        obtain ⟨l, S1, hk1⟩ : ∃ l S1, takeS 32 b (p, 0, q) = (l, S1) := ⟨_, _, rfl⟩
        have hll := takeS_len 32 b (p, 0, q)
        rw [hk1] at hll
        have hNa := refTake22 wr g x n c b (p, 0, q) 32 (by omega) hI
        unfold TrP at hNa
        rw [hk1] at hNa
        have HK1 : Hid _ := hk1
        clear hk1
        go_wp2_with fail
        refine hNa.mono ?_
        rintro e u1 ⟨y, d, hd, rfl, hy, hyf, hI9, k9⟩
        clear hNa hI
        have hI := hI9
        have hO9 := OwnK.keeps hO k9 (fun q hq => by have := ZF.out q hq; simpa using this)
        clear hO
        have hO := hO9
        have KB9 : Hid (Keep [g] w u1) := KB.out.trans k9
        clear KB
        have KB := KB9
        clear hI9 hO9 KB9 k9 c1 c2
        have bZ := below_alloc u1 (.cells (dg_secA dg_secZ) 50)
        have rz := RowC.new u1 (dg_secA dg_secZ) 50
        have hI9 := hI.later bZ
        have hO9 := hO.keep bZ
        have hy9 := hy.kept bZ
        have KB9 : Hid (Keep [g] w (u1.alloc (.cells (dg_secA dg_secZ) 50))) := KB.out.trans (Keep.of_below bZ)
        have ZR9 : Hid (g < u1.heap.size ∧ w.heap.size ≤ u1.heap.size ∧ (∀ q, lv.ownBlock = some q → q ≠ u1.heap.size) ∧ ∀ a, y = some a → a.block < u1.heap.size) := ⟨hI.row.lt, KB.out.size, fun q hq => by have := World.ownsRow.lt hO q hq; omega, fun a ha => by
          subst ha
          have hs := IsB.spot (w := u1) (x := some a) (l := l) (c := d) (by rw [hll]; exact hy) 0 (by omega)
          obtain ⟨b9, o9, he, hl9, -⟩ := hs
          cases he
          exact hl9⟩
        clear hI hO hy KB bZ
        go_wp2
        obtain ⟨zf, hzf⟩ : ∃ z, u1.heap.size = z := ⟨_, rfl⟩
        rw [hzf] at rz ZR9
        try simp only [hzf]
        generalize u1.alloc (.cells (dg_secA dg_secZ) 50) = W2 at rz hI9 hO9 hy9 KB9 ⊢
        clear hzf
        have ZR := ZR9
        clear ZR9
        go_loopw [9] (fun jv wq => ∃ j : Nat, j ≤ 32 ∧ jv = .int .i64 (j : Int) ∧ RowC wq zf (dg_secA (upT (dgL l) j)) ∧ RrI wq g x n c b S1 ∧ OwnK dgE wq w.heap.size lv L ∧ IsB wq (.slice y 32 d) l ∧ Keep [g] w wq) (fun jv _ => 32 - (intOf jv).toNat)
        case atStart => exact ⟨0, by omega, rfl, by rw [upT_zero]; exact rz, hI9, hO9, hy9, KB9.out⟩
        case round =>
          clear rz hI9 hO9 hy9 KB9
          obtain ⟨j, hj, rfl, rz, hI, hO, hyb, hKw⟩ := hrel
          by_cases hj3 : j < 32
          · have jj0 : (0 : Int) ≤ (j : Int) := by omega
            have jj1 : (j : Int) < 32 := by omega
            obtain ⟨g9, o9, hy1, -, hc⟩ := IsB.spot (l := l) (c := d) (by rw [hll]; exact hyb) j (by omega)
            subst hy1
            have hlb : (l[j]?.getD 0) = lB l j := rfl
            rw [hlb] at hc
            have zc : wr.cell? ⟨zf, j, none⟩ = some (.int .u8 ((upT (dgL l) j j).toNat : Int)) := by rw [rz.cell, dg_secA_get _ j hj3]
            have fz := rz.frozen j
            have kz := Keep.cell1 wr zf j (.int .u8 ((lB l j).toNat : Int))
            have rz9 : RowC (wr.setCell ⟨zf, j, none⟩ (.int .u8 ((lB l j).toNat : Int))) zf (dg_secA (upT (dgL l) (j + 1))) := by
              have h9 := rz.set j (.int .u8 ((lB l j).toNat : Int))
              rw [dg_set22 _ j _ hj3, ← dgL_at l j hj3, ← upT_succ] at h9
              rw [← dgL_at l j hj3]
              exact h9
            have HR9 : Hid _ := rz9
            have HI9 : Hid _ := hI.keepZ kz ZR.out.1
            have HO9 : Hid _ := OwnK.keeps hO kz (fun q hq => by have := ZR.out.2.2.1 q hq; simpa using this)
            have HY9 : Hid _ := hyb.keepF kz (fun a ha => by have := ZR.out.2.2.2 a ha; simp; omega)
            have HK9 : Hid _ := hKw.up kz ZR.out.2.1
            clear rz9 kz hI hO hyb hKw rz hlb
            go_wp2
            go_roundw
            case rel => exact ⟨j + 1, by omega, by go_num, HR9.out, HI9.out, HO9.out, HY9.out, HK9.out⟩
            case measure => simp [intOf]; omega
          · obtain rfl : 32 = j := by omega
            rw [upT_all] at rz
            obtain ⟨f, hf⟩ : ∃ f : Dg, dgL l = f := ⟨_, rfl⟩
            have HF : Hid _ := hf
            rw [hf] at rz
            have KB : Hid (Keep [g] w wr) := hKw
            clear hf hyb hKw
            have HBD : Hid (bdD b L (p, 0, q) = (f, if behO ltD L.getLast? f = true then S1 else failS 11 p S1)) := by
              show _ = _
              unfold bdD
              simp only [HK1.out, HF.out]
            obtain ⟨W3, hW3⟩ : ∃ q, q = wr := ⟨_, rfl⟩
            subst hW3
            have CV : Hid (∀ y, Below W3.heap.size W3 y → (dg_secLoad (.pointer (some ⟨zf, 0, none⟩))).run Tryz.prog y = .ok (.value (.agg (dg_secA f))) y) := fun y hy => by
              have h9 := dg_run_secLoad y zf (rz.kept hy).dg.1
              rw [(rz.kept hy).dg.2] at h9
              exact h9
            by_cases h0 : i = 0
            · subst h0
              have HO3 : Hid (behO ltD L.getLast? f = true) := beh_at ltD L 0 f HLL.out rfl
              go_upto_region 13 with fail
              refine wp_reliesT [Fx (.int .i64 (((0 : Nat)) : Int)), Fx (.bool false), Fx (.bool false), Fx (undef), Fx (undef), Fx (undef), Fx (undef), Fx (undef), Fx (undef), Fx (undef), Fx (undef)] (by kernel_rfl) (by kernel_rfl) ?_ ?_ ?_
              · repeat' (first | exact all_nil | apply all_cons)
                all_goals intro v y y' hv hb
                all_goals first | exact Fx_mono _ _ _ _ hv hb
              · refine ⟨?_, ?_, ?_, ?_, ?_, ?_, ?_, ?_, ?_, ?_, ?_, trivial⟩
                all_goals
                  intro ρ y9 hp ρc ρg ρf ho hd
                  have o5 : ρ (.tmp 5) = .int .i64 (((0 : Nat)) : Int) := ho 5 rfl
                  clear ho
                  simp only [depsR, depR, slotR, Fx, List.getElem?_cons_succ, List.getElem?_cons_zero, Region.binds, forall_const] at hd
                  simp only [guardR]
                  go_split_ands
                · go_simp
                · go_simp
                  try (unfold Fx; simp)
                · go_simp
                · refine ⟨fun hy => ?_, fun _ => rfl⟩
                  exfalso; simp [yieldR, slotR, undef, *] at hy
                · refine ⟨fun hy => ?_, fun _ => rfl⟩
                  exfalso; simp [yieldR, slotR, undef, *] at hy
                · refine ⟨fun hy => ?_, fun _ => rfl⟩
                  exfalso; simp [yieldR, slotR, undef, *] at hy
                · refine ⟨fun hy => ?_, fun _ => rfl⟩
                  exfalso; simp [yieldR, slotR, undef, *] at hy
                · refine ⟨fun hy => ?_, fun _ => rfl⟩
                  exfalso; simp [yieldR, slotR, undef, *] at hy
                · refine ⟨fun hy => ?_, fun _ => rfl⟩
                  exfalso; simp [yieldR, slotR, undef, *] at hy
                · refine ⟨fun hy => ?_, fun _ => rfl⟩
                  exfalso; simp [yieldR, slotR, undef, *] at hy
                · refine ⟨fun hy => ?_, fun _ => rfl⟩
                  exfalso; simp [yieldR, slotR, undef, *] at hy
              · intro us x1 hp1 hw
                simp only [owed, Fx] at hw
                obtain ⟨e0, e1, e2, e3, e4, e5, e6, e7, e8, e9, e10, -⟩ := hw
                simp only [List.length_cons, List.length_nil, List.take_succ_cons, List.take_zero, List.drop_succ_cons, List.drop_zero, asg, List.cons_append, List.nil_append, e0, e1, e2, e3, e4, e5, e6, e7, e8, e9, e10]
                clear e0 e1 e2 e3 e4 e5 e6 e7 e8 e9 e10
                have hI9 := hI.later hp1
                have hO9 := OwnK.keep hO hp1
                have rz9 := rz.kept hp1
                have KB9 : Hid (Keep [g] w x1) := KB.out.trans (Keep.of_below hp1)
                clear hI hO rz KB hp1 CV
                have hI := hI9
                have hO := hO9
                have rz := rz9
                have KB := KB9
                clear hI9 hO9 rz9 KB9
                have HE5 : Hid (bdD b L (p, 0, q) = (f, S1)) := by show _ = _; rw [HBD.out]; rw [if_pos HO3.out]
                have ld := dg_run_secLoad x1 zf rz.dg.1
                rw [rz.dg.2] at ld
                have bA := below_alloc x1 (.cells (dg_secA f) 50)
                obtain ⟨g9, c9, w9, hra, hO8, -, hg8, -⟩ := run_app1K dgE_ok (x1.alloc (.cells (dg_secA f) 50)) w.heap.size x1.heap.size lv L f 29 (hO.keep bA) (by rw [dgE_enc]; exact row_range (RowC.new x1 _ _)) (by simp) (by show (L.length + 1) * 32 ≤ _; have := HN.out; have := HLL.out; have := HLT.out; omega) (by unfold maxLen; have := HN.out; have := HLL.out; have := HLT.out; omega) (Nat.le_trans KB.out.size bA.size)
                rw [HLL.out] at hra hO8
                have bB : Below w.heap.size (x1.alloc (.cells (dg_secA f) 50)) w9 := OwnK.below (hO.keep bA) hg8 (Nat.le_trans KB.out.size bA.size)
                have HR : Hid (RrI w9 g x n c b S1) := (hI.later bA).keepO hg8 (hO.keep bA) HG.out
                have HO8 : Hid (OwnK dgE w9 w.heap.size (.slice (some ⟨g9, 0, none⟩) (0 + 1) c9) (L ++ [f])) := hO8
                have HK8 : Hid (Keep [g] w w9) := KB.out.appB ((bA.mono KB.out.size).trans bB)
                clear hO8 hg8 bB bA hI hO KB rz
                go_wp2_with (at_builtin; refine wpL_appG 29 rfl _ _ rfl _ w9 (by exact hra) ?_)
                go_roundw
                case rel => first | exact ⟨_, 0 + 1, L ++ [f], S1, rfl, by have := HLT.out; omega, by go_num, by simp [HLL.out], HO8.out, HR.out, HK8.out, HSTEP.out f S1 HE5.out⟩ | ((repeat apply Exists.intro); refine ⟨⟨_, 0 + 1, L ++ [f], S1, rfl, by have := HLT.out; omega, ?_, by simp [HLL.out], HO8.out, HR.out, HK8.out, HSTEP.out f S1 HE5.out⟩, rfl⟩; go_num)
                case measure => have := HLT.out; simp [intOf]; omega
            · obtain ⟨u, hu, hlast⟩ := last_get L i HLL.out (by omega)
              obtain ⟨gl, cl, rfl⟩ : ∃ gl cl, lv = .slice (some ⟨gl, 0, none⟩) i cl := by
                obtain ⟨y9, c9, rfl⟩ := (hO.isK dgE_ok).len
                obtain ⟨g9, rfl, -⟩ := OwnK.form hO (by have := HLL.out; omega)
                exact ⟨g9, c9, by rw [HLL.out]⟩
              have CU : Hid (∀ y, Below W3.heap.size W3 y → (dg_secLoad (.pointer (some ⟨gl, (i - 1) * 32, none⟩))).run Tryz.prog y = .ok (.value (.agg (dg_secA u))) y) := fun y hy => by
                obtain ⟨b', o', he, -, k1, k2⟩ := dg_at ((hO.isK dgE_ok).kept hy) (i - 1) u hu
                cases he
                rw [Nat.zero_add] at k1 k2
                have h9 := run_dg_mid y gl ((i - 1) * 32) k1
                rw [k2] at h9
                exact h9
              have HO3 : Hid (behO ltD L.getLast? f = ltD u f) := by show _ = _; rw [hlast]; rfl
              have leB := dcmp_le u f
              have wk1 : IntKind.i64.wrap ((i : Int) - 1) = ((i - 1 : Nat) : Int) := by rw [IntKind.wrap_i64]; have := HLT.out; have := HN.out; omega
              have j0 : (0 : Int) ≤ ((i - 1 : Nat) : Int) := by omega
              have j1 : ((i - 1 : Nat) : Int) < (i : Int) := by omega
              have j2 : (0 : Int) < (i : Int) := by omega
              clear hu hlast
              go_upto_region 13 with fail
              refine wp_reliesT [Fx (.int .i64 (i : Int)), Fx (.bool true), Fx (.bool true), Fx (.slice (some ⟨gl, 0, none⟩) i cl), Fx (.int .i64 (i : Int)), Fx (.int .i64 (((i - 1 : Nat)) : Int)), Fx (.pointer (some ⟨gl, (i - 1) * 32, none⟩)), Fx (.agg (dg_secA u)), Fx (.agg (dg_secA f)), Fx (.int .i64 ((dcmp u f) : Int)), Fx (.bool (!ltD u f))] (by kernel_rfl) (by kernel_rfl) ?_ ?_ ?_
              · repeat' (first | exact all_nil | apply all_cons)
                all_goals intro v y y' hv hb
                all_goals first | exact Fx_mono _ _ _ _ hv hb
              · refine ⟨?_, ?_, ?_, ?_, ?_, ?_, ?_, ?_, ?_, ?_, ?_, trivial⟩
                all_goals
                  intro ρ y9 hp ρc ρg ρf ho hd
                  have o3 : ρ (.tmp 3) = .slice (some ⟨gl, 0, none⟩) i cl := ho 3 rfl
                  have o5 : ρ (.tmp 5) = .int .i64 (i : Int) := ho 5 rfl
                  have o8 : ρ (.tmp 8) = .pointer (some ⟨zf, 0, none⟩) := ho 8 rfl
                  clear ho
                  have z9 := CV.out y9 hp
                  simp only [depsR, depR, slotR, Fx, List.getElem?_cons_succ, List.getElem?_cons_zero, Region.binds, forall_const] at hd
                  simp only [guardR]
                  go_split_ands
                · go_simp
                · go_simp
                  try (unfold Fx; simp; omega)
                · go_simp
                · refine ⟨fun _ => ?_, fun hy => absurd (by simp [yieldR, slotR, *]) hy⟩
                  go_simp
                · refine ⟨fun _ => ?_, fun hy => absurd (by simp [yieldR, slotR, *]) hy⟩
                  go_simp
                · refine ⟨fun _ => ?_, fun hy => absurd (by simp [yieldR, slotR, *]) hy⟩
                  go_simp
                  try exact wk1
                · refine ⟨fun _ => ?_, fun hy => absurd (by simp [yieldR, slotR, *]) hy⟩
                  go_simp
                · refine ⟨fun _ => ?_, fun hy => absurd (by simp [yieldR, slotR, *]) hy⟩
                  have z1 := CU.out y9 hp
                  go_simp
                · refine ⟨fun _ => ?_, fun hy => absurd (by simp [yieldR, slotR, *]) hy⟩
                  go_simp
                · refine ⟨fun _ => ?_, fun hy => absurd (by simp [yieldR, slotR, *]) hy⟩
                  go_simp
                  exact (refCompare22 _ _ _).mono fun e w' ⟨q1, q2⟩ => ⟨_, q1, rfl, q2⟩
                · refine ⟨fun _ => ?_, fun hy => absurd (by simp [yieldR, slotR, *]) hy⟩
                  go_simp
                  try exact leB
              · intro us x1 hp1 hw
                simp only [owed, Fx] at hw
                obtain ⟨e0, e1, e2, e3, e4, e5, e6, e7, e8, e9, e10, -⟩ := hw
                simp only [List.length_cons, List.length_nil, List.take_succ_cons, List.take_zero, List.drop_succ_cons, List.drop_zero, asg, List.cons_append, List.nil_append, e0, e1, e2, e3, e4, e5, e6, e7, e8, e9, e10]
                clear e0 e1 e2 e3 e4 e5 e6 e7 e8 e9 e10
                have hI9 := hI.later hp1
                have hO9 := OwnK.keep hO hp1
                have rz9 := rz.kept hp1
                have KB9 : Hid (Keep [g] w x1) := KB.out.trans (Keep.of_below hp1)
                clear hI hO rz KB hp1 CV
                have hI := hI9
                have hO := hO9
                have rz := rz9
                have KB := KB9
                clear hI9 hO9 rz9 KB9
                clear CU leB
                cases hlt9 : ltD u f
                · have HL9 : Hid (ltD u f = false) := hlt9
                  have hFa := refFail22 x1 g x n c b S1 11 p hI
                  go_wp2_with fail
                  refine hFa.mono ?_
                  rintro e x2 ⟨rfl, hI9, k9⟩
                  clear hFa hI
                  have hI := hI9
                  have hO9 := OwnK.keeps hO k9 (fun q hq => by have := ZF.out q hq; simpa using this)
                  clear hO
                  have hO := hO9
                  have KB9 : Hid (Keep [g] w x2) := KB.out.trans k9
                  clear KB
                  have KB := KB9
                  have rz9 := rz.keepsF k9 (by have := ZR.out; simp; omega)
                  clear rz
                  have rz := rz9
                  clear rz9
                  clear hI9 hO9 KB9 k9
                  have HE5 : Hid (bdD b L (p, 0, q) = (f, (failS 11 p S1))) := by show _ = _; rw [HBD.out]; rw [if_neg (by rw [HO3.out, HL9.out]; simp)]
                  have ld := dg_run_secLoad x2 zf rz.dg.1
                  rw [rz.dg.2] at ld
                  have bA := below_alloc x2 (.cells (dg_secA f) 50)
                  obtain ⟨g9, c9, w9, hra, hO8, -, hg8, -⟩ := run_app1K dgE_ok (x2.alloc (.cells (dg_secA f) 50)) w.heap.size x2.heap.size (.slice (some ⟨gl, 0, none⟩) i cl) L f 29 (hO.keep bA) (by rw [dgE_enc]; exact row_range (RowC.new x2 _ _)) (by simp) (by show (L.length + 1) * 32 ≤ _; have := HN.out; have := HLL.out; have := HLT.out; omega) (by unfold maxLen; have := HN.out; have := HLL.out; have := HLT.out; omega) (Nat.le_trans KB.out.size bA.size)
                  rw [HLL.out] at hra hO8
                  have bB : Below w.heap.size (x2.alloc (.cells (dg_secA f) 50)) w9 := OwnK.below (hO.keep bA) hg8 (Nat.le_trans KB.out.size bA.size)
                  have HR : Hid (RrI w9 g x n c b (failS 11 p S1)) := (hI.later bA).keepO hg8 (hO.keep bA) HG.out
                  have HO8 : Hid (OwnK dgE w9 w.heap.size (.slice (some ⟨g9, 0, none⟩) (i + 1) c9) (L ++ [f])) := hO8
                  have HK8 : Hid (Keep [g] w w9) := KB.out.appB ((bA.mono KB.out.size).trans bB)
                  clear hO8 hg8 bB bA hI hO KB rz
                  go_wp2_with (at_builtin; refine wpL_appG 29 rfl _ _ rfl _ w9 (by exact hra) ?_)
                  go_roundw
                  case rel => first | exact ⟨_, i + 1, L ++ [f], (failS 11 p S1), rfl, by have := HLT.out; omega, by go_num, by simp [HLL.out], HO8.out, HR.out, HK8.out, HSTEP.out f (failS 11 p S1) HE5.out⟩ | ((repeat apply Exists.intro); refine ⟨⟨_, i + 1, L ++ [f], (failS 11 p S1), rfl, by have := HLT.out; omega, ?_, by simp [HLL.out], HO8.out, HR.out, HK8.out, HSTEP.out f (failS 11 p S1) HE5.out⟩, rfl⟩; go_num)
                  case measure => have := HLT.out; simp [intOf]; omega
                · have HL9 : Hid (ltD u f = true) := hlt9
                  have HE5 : Hid (bdD b L (p, 0, q) = (f, S1)) := by show _ = _; rw [HBD.out]; rw [if_pos (by rw [HO3.out, HL9.out])]
                  have ld := dg_run_secLoad x1 zf rz.dg.1
                  rw [rz.dg.2] at ld
                  have bA := below_alloc x1 (.cells (dg_secA f) 50)
                  obtain ⟨g9, c9, w9, hra, hO8, -, hg8, -⟩ := run_app1K dgE_ok (x1.alloc (.cells (dg_secA f) 50)) w.heap.size x1.heap.size (.slice (some ⟨gl, 0, none⟩) i cl) L f 29 (hO.keep bA) (by rw [dgE_enc]; exact row_range (RowC.new x1 _ _)) (by simp) (by show (L.length + 1) * 32 ≤ _; have := HN.out; have := HLL.out; have := HLT.out; omega) (by unfold maxLen; have := HN.out; have := HLL.out; have := HLT.out; omega) (Nat.le_trans KB.out.size bA.size)
                  rw [HLL.out] at hra hO8
                  have bB : Below w.heap.size (x1.alloc (.cells (dg_secA f) 50)) w9 := OwnK.below (hO.keep bA) hg8 (Nat.le_trans KB.out.size bA.size)
                  have HR : Hid (RrI w9 g x n c b S1) := (hI.later bA).keepO hg8 (hO.keep bA) HG.out
                  have HO8 : Hid (OwnK dgE w9 w.heap.size (.slice (some ⟨g9, 0, none⟩) (i + 1) c9) (L ++ [f])) := hO8
                  have HK8 : Hid (Keep [g] w w9) := KB.out.appB ((bA.mono KB.out.size).trans bB)
                  clear hO8 hg8 bB bA hI hO KB rz
                  go_wp2_with (at_builtin; refine wpL_appG 29 rfl _ _ rfl _ w9 (by exact hra) ?_)
                  go_roundw
                  case rel => first | exact ⟨_, i + 1, L ++ [f], S1, rfl, by have := HLT.out; omega, by go_num, by simp [HLL.out], HO8.out, HR.out, HK8.out, HSTEP.out f S1 HE5.out⟩ | ((repeat apply Exists.intro); refine ⟨⟨_, i + 1, L ++ [f], S1, rfl, by have := HLT.out; omega, ?_, by simp [HLL.out], HO8.out, HR.out, HK8.out, HSTEP.out f S1 HE5.out⟩, rfl⟩; go_num)
                  case measure => have := HLT.out; simp [intOf]; omega
      · have he' : ¬ ((e0 : Nat) : Int) = 0 := by omega
        have c2 : wr.cell? ⟨g, 2, none⟩ = some (.int .i64 (e0 : Int)) := by rw [hI.row.cell]; rfl
        rw [loopS_no (S := (p, e0, q)) hT0] at hRES
        subst hRES
        go_wp2
        go_ret
        exact ⟨_, rfl, hO, hI, hKw⟩
    · obtain rfl : N = i := by omega
      have i0 : ¬ (N : Int) < (N : Int) := by omega
      rw [Nat.sub_self] at hRES
      have hR : (L, T) = RES := hRES
      subst hR
      clear hRES
      go_wp2
      go_ret
      exact ⟨_, rfl, hO, hI, hKw⟩
end Go.Proofs.YtklbdhpnbjhgkaaGreatDoor
