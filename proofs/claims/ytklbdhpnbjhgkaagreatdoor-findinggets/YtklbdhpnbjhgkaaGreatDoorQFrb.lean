import Derived.Test.YtklbdhpnbjhgkaaGreatDoorQFrm
namespace Go.Proofs.YtklbdhpnbjhgkaaGreatDoor
open Go.RowKit Go.Sort

/-! The document's own reader: findings -/
theorem failS_e (e a : Nat) (S : Rs) (he : e ≠ 0) : (failS e a S).2.1 ≠ 0 := by
  unfold failS
  split
  · exact he
  · assumption
theorem numS_lt (k : Nat) (b : List UInt8) (S : Rs) : (numS k b S).1 < 256 ^ k := numN_lt _ _ _
theorem okK_no {k : Nat} (h : okK k = false) : k < 1 ∨ 19 < k := by unfold okK at h; simp at h; omega
theorem okK_yes {k : Nat} (h : okK k = true) : 1 ≤ k ∧ k ≤ 19 := by unfold okK at h; simpa using h
theorem okA_yes {k : Nat} (h : okA k = true) : k ≤ 1023 := by unfold okA at h; simpa using h
theorem okA_no {k : Nat} (h : okA k = false) : 1023 < k := by unfold okA at h; simp at h; omega
theorem okS_yes {k : Nat} (h : okS k = true) : k ≤ 127 := by unfold okS at h; simpa using h
theorem okS_no {k : Nat} (h : okS k = false) : 127 < k := by unfold okS at h; simp at h; omega
theorem RrI.keepZ {w w' : World} {g z : Nat} {x : Option Addr} {n c : Nat} {b : List UInt8} {S : Rs} (h : RrI w g x n c b S) (hK : Keep [z] w w') (hz : g < z) : RrI w' g x n c b S :=
  ⟨h.row.keepsF hK (by simp; omega), h.isb.keepF hK (fun a ha => by have := h.far a ha; simp; omega), h.len, h.cap, h.far, h.small, h.le⟩
theorem beh_at {α : Type} (lt : α → α → Bool) (L : List α) (i : Nat) (v : α) (hL : L.length = i) (h0 : i = 0) : behO lt L.getLast? v = true := by
  have : L = [] := List.length_eq_zero_iff.1 (by omega)
  rw [this]; rfl
theorem Keep.up {g z : Nat} {w W W' : World} (h : Keep [g] w W) (hK : Keep [z] W W') (hz : w.heap.size ≤ z) : Keep [g] w W' :=
  ⟨hK.os.trans h.os, hK.tape.trans h.tape, hK.output.trans h.output, Nat.le_trans h.size hK.size, fun k hk hn => (hK.block k (Nat.lt_of_lt_of_le hk h.size) (by simp; omega)).trans (h.block k hk hn)⟩
theorem RrI.keepO {α : Type} {E : EK α} {w w' : World} {B g : Nat} {x : Option Addr} {n c : Nat} {b : List UInt8} {S : Rs} {v : Value} {ds : List α} (h : RrI w g x n c b S) (hg : w.grownBy w' v.ownBlock) (ho : OwnK E w B v ds) (hb : g < B) : RrI w' g x n c b S := by
  have hK : Keep v.ownBlock.toList w w' := Keep.of_grown hg (fun q hq => by rw [hq]; simp)
  have hq : ∀ z, z ∈ v.ownBlock.toList → B ≤ z := fun z hz => (World.ownsRow.lt ho z (by simpa using hz)).1
  exact ⟨h.row.keepsF hK (fun hm => by have := hq g hm; omega), h.isb.keepF hK (fun a ha hm => by have := h.far a ha; have := hq _ hm; omega), h.len, h.cap, h.far, h.small, h.le⟩
set_option linter.unusedSimpArgs false in
set_option maxRecDepth 100000 in
set_option maxHeartbeats 40000000 in
theorem refFindings22 (w : World) (g : Nat) (x : Option Addr) (n c : Nat) (b : List UInt8) (S : Rs) (h : RrI w g x n c b S) : Calls Tryz.prog 74 #[.pointer (some ⟨g, 0, none⟩)] w fun e w' => ∃ v, e = .returned v ∧ OwnK fdE w' w.heap.size v (listS (bdF b) b S).1 ∧ RrI w' g x n c b (listS (bdF b) b S).2 ∧ Keep [g] w w' := by
  obtain ⟨RES, hres⟩ : ∃ q, listS (bdF b) b S = q := ⟨_, rfl⟩
  rw [hres]
  obtain ⟨N, S0, hN0⟩ : ∃ N S0, numS 2 b S = (N, S0) := ⟨_, _, rfl⟩
  have HRES : Hid (loopS (bdF b) N [] S0 = RES) := by show _ = _; rw [← hres]; unfold listS; rw [hN0]
  have hNl := numS_lt 2 b S
  rw [hN0] at hNl
  have HN : Hid (N < 65536) := hNl
  have hNa := refNumber22 w g x n c b S 2 (by omega) h
  rw [hN0] at hNa
  have HG : Hid (g < w.heap.size) := h.row.lt
  clear hres hN0 hNl h
  go_enter Tryz.func74, Tryz.ntmps74
  go_wp2_with fail
  refine hNa.mono ?_
  rintro e w1 ⟨rfl, hI1, k1⟩
  clear hNa
  go_wp2_with fail
  go_loopw [3, 5] (fun lv iv wr => ∃ (lv0 : Value) (i : Nat) (L : List Fd) (T : Rs), lv0 = lv ∧ i ≤ N ∧ iv = .int .i64 (i : Int) ∧ L.length = i ∧ OwnK fdE wr w.heap.size lv0 L ∧ RrI wr g x n c b T ∧ Keep [g] w wr ∧ loopS (bdF b) (N - i) L T = RES) (fun _ iv _ => N - (intOf iv).toNat)
  case atStart => exact ⟨_, 0, [], S0, rfl, by omega, rfl, rfl, OwnK.nil _ _ _, hI1, k1, by rw [Nat.sub_zero]; exact HRES.out⟩
  case round =>
    clear hI1 k1 HRES
    obtain ⟨lv, i, L, T, rfl, hi, rfl, hLL, hO, hI, hKw, hRES⟩ := hrel
    have HLL : Hid (L.length = i) := hLL
    by_cases hlt : i < N
    · have HLT : Hid (i < N) := hlt
      have i0 : (i : Int) < (N : Int) := by omega
      have i1 : (0 : Int) ≤ (i : Int) := by omega
      have wi : IntKind.i64.wrap ((i : Int) + 1) = (i : Int) + 1 := by rw [IntKind.wrap_i64]; have := HN.out; omega
      clear hLL hi
      obtain ⟨p, e0, q⟩ := T
      by_cases hT0 : e0 = 0
      · subst hT0
        have c1 : wr.cell? ⟨g, 1, none⟩ = some (.int .i64 (p : Int)) := by rw [hI.row.cell]; rfl
        have c2 : wr.cell? ⟨g, 2, none⟩ = some (.int .i64 0) := by rw [hI.row.cell]; rfl
        have ZG : Hid (g < w.heap.size) := HG.out
        have HPL : Hid (p ≤ 140737488355328) := by show _ ≤ _; have h1 : p ≤ n := hI.le; have h2 := hI.small; omega
        have HSTEP : Hid (∀ f S, bdF b L (p, 0, q) = (f, S) → loopS (bdF b) (N - (i + 1)) (L ++ [f]) S = RES) := fun f S hf => by
          have h9 := hRES
          rw [show N - i = (N - (i + 1)) + 1 by omega, loopS, if_pos rfl, hf] at h9
          exact h9
        obtain ⟨k, S1, hk1⟩ : ∃ k S1, numS 1 b (p, 0, q) = (k, S1) := ⟨_, _, rfl⟩
        have hkl := numS_lt 1 b (p, 0, q)
        rw [hk1] at hkl
        have hNa := refNumber22 wr g x n c b (p, 0, q) 1 (by omega) hI
        rw [hk1] at hNa
        have HK1 : Hid _ := hk1
        have ZF : Hid (g < wr.heap.size ∧ w.heap.size ≤ wr.heap.size ∧ ∀ q, lv.ownBlock = some q → q ≠ wr.heap.size ∧ q ≠ g) := ⟨hI.row.lt, hKw.size, fun q hq => by have := World.ownsRow.lt hO q hq; have := HG.out; omega⟩
        have KB : Hid (Keep [g] w wr) := hKw
        clear hk1 hRES hKw
        go_wp2_with fail
        refine hNa.mono ?_
        rintro e u1 ⟨rfl, hI9, k9⟩
        clear hNa hI
        have hI := hI9
        have hO9 := OwnK.keeps hO k9 (fun q hq => by have := ZF.out.2.2 q hq; simpa using this.2)
        clear hO
        have hO := hO9
        have KB9 : Hid (Keep [g] w u1) := KB.out.trans k9
        clear KB
        have KB := KB9
        clear hI9 hO9 KB9 k9
        clear c1 c2
        have ZF9 : Hid (g < u1.heap.size ∧ w.heap.size ≤ u1.heap.size ∧ ∀ q, lv.ownBlock = some q → q ≠ u1.heap.size ∧ q ≠ g) := ⟨hI.row.lt, KB.out.size, fun q hq => by have := World.ownsRow.lt hO q hq; have := HG.out; omega⟩
        clear ZF
        have st := run_store_fd (u1.alloc (.cells (fdA fdZ) 25)) u1.heap.size (fdA ((k : Int), 0)) (RowC.new u1 _ _).1 (by rw [(RowC.new u1 _ _).2]; rfl) rfl (fdA_one _)
        have bZ := below_alloc u1 (.cells (fdA ((k : Int), 0)) 25)
        have rz := RowC.new u1 (fdA ((k : Int), 0)) 25
        have hI9 := hI.later bZ
        have hO9 := hO.keep bZ
        have KB9 : Hid (Keep [g] w (u1.alloc (.cells (fdA ((k : Int), 0)) 25))) := KB.out.trans (Keep.of_below bZ)
        clear hI hO KB bZ
        go_upto_region 8 with fail
        clear st
        obtain ⟨zf, hzf⟩ : ∃ z, u1.heap.size = z := ⟨_, rfl⟩
        rw [hzf] at rz ZF9
        try simp only [hzf]
        generalize u1.alloc (.cells (fdA ((k : Int), 0)) 25) = W2 at rz hI9 hO9 KB9 ⊢
        clear hzf
        have hI := hI9
        have hO := hO9
        have KB := KB9
        have ZF := ZF9
        clear hI9 hO9 KB9 ZF9
        have ck : W2.cell? ⟨zf, 0, none⟩ = some (.int .i64 (k : Int)) := by rw [rz.cell]; rfl
        cases hok : okK k
        · by_cases d1 : (k : Int) < 1
          · have d0 : True := trivial
            clear d0
            have HC1 : Hid (okK k = false) := hok
            clear hok
            obtain ⟨a, S3, hA⟩ : ∃ a S3, numS 2 b (failS 13 p S1) = (a, S3) := ⟨_, _, rfl⟩
            have HA : Hid _ := hA
            have hal := numS_lt 2 b (failS 13 p S1)
            rw [hA] at hal
            obtain ⟨f, hf⟩ : ∃ f : Fd, ((k : Int), (a : Int)) = f := ⟨_, rfl⟩
            have HF : Hid _ := hf
            have ha0 : a = 0 := by
              have := numS_no (k := 2) (b := b) (failS_e 13 p S1 (by omega))
              rw [hA] at this
              exact (Prod.mk.inj this).1
            have hS3 : S3 = (failS 13 p S1) := by
              have := numS_no (k := 2) (b := b) (failS_e 13 p S1 (by omega))
              rw [hA] at this
              exact (Prod.mk.inj this).2
            have d3 : ¬ (1023 : Int) < (a : Int) := by omega
            have HC2 : Hid (okA a = true) := by show _ = _; rw [ha0]; rfl
            subst hS3
            clear hA ha0
            have HBD : Hid (bdF b L (p, 0, q) = (f, if behO ltF L.getLast? f = true then (failS 13 p S1) else failS 11 p (failS 13 p S1))) := by
              show _ = _
              unfold bdF
              simp only [HK1.out, HC1.out, HA.out, HC2.out, HF.out, Bool.false_eq_true, if_true, if_false]
            have hFb := refFail22 W2 g x n c b S1 13 p hI
            clear hf hal
            go_wp2_with fail
            refine hFb.mono ?_
            rintro e y1 ⟨rfl, hI9, k9⟩
            clear hFb hI
            have hI := hI9
            have hO9 := OwnK.keeps hO k9 (fun q hq => by have := ZF.out.2.2 q hq; simpa using this.2)
            clear hO
            have hO := hO9
            have KB9 : Hid (Keep [g] w y1) := KB.out.trans k9
            clear KB
            have KB := KB9
            have rz9 := rz.keepsF k9 (by have := ZF.out; simp; omega)
            clear rz
            have rz := rz9
            clear rz9
            clear hI9 hO9 KB9 k9
            clear ck
            have hNb := refNumber22 y1 g x n c b (failS 13 p S1) 2 (by omega) hI
            rw [HA.out] at hNb
            go_wp2_with fail
            refine hNb.mono ?_
            rintro e y2 ⟨rfl, hI9, k9⟩
            clear hNb hI
            have hI := hI9
            have hO9 := OwnK.keeps hO k9 (fun q hq => by have := ZF.out.2.2 q hq; simpa using this.2)
            clear hO
            have hO := hO9
            have KB9 : Hid (Keep [g] w y2) := KB.out.trans k9
            clear KB
            have KB := KB9
            have rz9 := rz.keepsF k9 (by have := ZF.out; simp; omega)
            clear rz
            have rz := rz9
            clear rz9
            clear hI9 hO9 KB9 k9
            have zc : y2.cell? ⟨zf, 1, none⟩ = some (.int .i64 0) := by rw [rz.cell]; rfl
            have fz := rz.frozen 1
            have kz := Keep.cell1 y2 zf 1 (.int .i64 (a : Int))
            have rz9 : RowC (y2.setCell ⟨zf, 1, none⟩ (.int .i64 (a : Int))) zf (fdA f) := by rw [← HF.out]; exact rz.set 1 _
            have hI9 := hI.keepZ kz ZF.out.1
            have hO9 := OwnK.keeps hO kz (fun q hq => by have := ZF.out.2.2 q hq; simpa using this.1)
            have KB9 : Hid (Keep [g] w (y2.setCell ⟨zf, 1, none⟩ (.int .i64 (a : Int)))) := KB.out.up kz ZF.out.2.1
            clear hI hO rz KB kz
            go_upto_region 11 with fail
            generalize y2.setCell ⟨zf, 1, none⟩ (.int .i64 (a : Int)) = W3 at rz9 hI9 hO9 KB9 ⊢
            clear zc fz
            have hI := hI9
            have hO := hO9
            have rz := rz9
            have KB := KB9
            clear hI9 hO9 rz9 KB9
            have ca : W3.cell? ⟨zf, 1, none⟩ = some (.int .i64 (a : Int)) := by rw [rz.cell, ← HF.out]; rfl
            have CV : Hid (∀ y, Below W3.heap.size W3 y → (bigLoad 25 (.pointer (some ⟨zf, 0, none⟩))).run Tryz.prog y = .ok (.value (.agg (fdA f))) y) := fun y hy => by
              have h9 := run_load_fd y zf (rz.kept hy).1 (by rw [(rz.kept hy).2]; rfl)
              rw [(rz.kept hy).2] at h9
              exact h9
            by_cases h0 : i = 0
            · subst h0
              have HO3 : Hid (behO ltF L.getLast? f = true) := beh_at ltF L 0 f HLL.out rfl
              go_upto_region 13 with fail
              refine wp_reliesT [Fx (.int .i64 (((0 : Nat)) : Int)), Fx (.bool false), Fx (.bool false), Fx (undef), Fx (undef), Fx (undef), Fx (undef), Fx (undef), Fx (undef), Fx (undef), Fx (undef)] (by kernel_rfl) (by kernel_rfl) ?_ ?_ ?_
              · repeat' (first | exact all_nil | apply all_cons)
                all_goals intro v y y' hv hb
                all_goals first | exact Fx_mono _ _ _ _ hv hb
              · refine ⟨?_, ?_, ?_, ?_, ?_, ?_, ?_, ?_, ?_, ?_, ?_, trivial⟩
                all_goals
                  intro ρ y9 hp ρc ρg ρf ho hd
                  have o5 : ρ (.tmp 5) = .int .i64 (((0 : Nat)) : Int) := ho 5 rfl
                  clear ho
                  simp only [depsR, depR, slotR, Fx, List.getElem?_cons_succ, List.getElem?_cons_zero, Region.binds, forall_const] at hd
                  simp only [guardR]
                  go_split_ands
                · go_simp
                · go_simp
                  try (unfold Fx; simp)
                · go_simp
                · refine ⟨fun hy => ?_, fun _ => rfl⟩
                  exfalso; simp [yieldR, slotR, undef, *] at hy
                · refine ⟨fun hy => ?_, fun _ => rfl⟩
                  exfalso; simp [yieldR, slotR, undef, *] at hy
                · refine ⟨fun hy => ?_, fun _ => rfl⟩
                  exfalso; simp [yieldR, slotR, undef, *] at hy
                · refine ⟨fun hy => ?_, fun _ => rfl⟩
                  exfalso; simp [yieldR, slotR, undef, *] at hy
                · refine ⟨fun hy => ?_, fun _ => rfl⟩
                  exfalso; simp [yieldR, slotR, undef, *] at hy
                · refine ⟨fun hy => ?_, fun _ => rfl⟩
                  exfalso; simp [yieldR, slotR, undef, *] at hy
                · refine ⟨fun hy => ?_, fun _ => rfl⟩
                  exfalso; simp [yieldR, slotR, undef, *] at hy
                · refine ⟨fun hy => ?_, fun _ => rfl⟩
                  exfalso; simp [yieldR, slotR, undef, *] at hy
              · intro us x1 hp1 hw
                simp only [owed, Fx] at hw
                obtain ⟨e0, e1, e2, e3, e4, e5, e6, e7, e8, e9, e10, -⟩ := hw
                simp only [List.length_cons, List.length_nil, List.take_succ_cons, List.take_zero, List.drop_succ_cons, List.drop_zero, asg, List.cons_append, List.nil_append, e0, e1, e2, e3, e4, e5, e6, e7, e8, e9, e10]
                clear e0 e1 e2 e3 e4 e5 e6 e7 e8 e9 e10
                have hI9 := hI.later hp1
                have hO9 := hO.keep hp1
                have rz9 := rz.kept hp1
                have KB9 : Hid (Keep [g] w x1) := KB.out.trans (Keep.of_below hp1)
                clear hI hO rz KB hp1 CV
                have hI := hI9
                have hO := hO9
                have rz := rz9
                have KB := KB9
                clear hI9 hO9 rz9 KB9
                have HE5 : Hid (bdF b L (p, 0, q) = (f, (failS 13 p S1))) := by show _ = _; rw [HBD.out]; rw [if_pos HO3.out]
                have ld := run_load_fd x1 zf rz.1 (by rw [rz.2]; rfl)
                rw [rz.2] at ld
                have bA := below_alloc x1 (.cells (fdA f) 25)
                obtain ⟨g9, c9, w9, hra, hO8, -, hg8, -⟩ := run_app1K fdE_ok (x1.alloc (.cells (fdA f) 25)) w.heap.size x1.heap.size lv L f 22 (hO.keep bA) (fd_lit_range x1 f) (by simp) (by show (L.length + 1) * 16 ≤ _; have := HN.out; have := HLL.out; have := HLT.out; omega) (by unfold maxLen; have := HN.out; have := HLL.out; have := HLT.out; omega) (Nat.le_trans KB.out.size bA.size)
                rw [HLL.out] at hra hO8
                have bB : Below w.heap.size (x1.alloc (.cells (fdA f) 25)) w9 := OwnK.below (hO.keep bA) hg8 (Nat.le_trans KB.out.size bA.size)
                have HR : Hid (RrI w9 g x n c b (failS 13 p S1)) := (hI.later bA).keepO hg8 (hO.keep bA) (by have := ZG.out; omega)
                have HO8 : Hid (OwnK fdE w9 w.heap.size (.slice (some ⟨g9, 0, none⟩) (0 + 1) c9) (L ++ [f])) := hO8
                have HK8 : Hid (Keep [g] w w9) := KB.out.appB ((bA.mono KB.out.size).trans bB)
                clear hO8 hg8 bB bA hI hO KB rz
                go_wp2_with (at_builtin; refine wpL_appG 22 rfl _ _ rfl _ w9 (by exact hra) ?_)
                go_roundw
                case rel => first | exact ⟨_, 0 + 1, L ++ [f], (failS 13 p S1), rfl, by have := HLT.out; omega, by go_num, by simp [HLL.out], HO8.out, HR.out, HK8.out, HSTEP.out f (failS 13 p S1) HE5.out⟩ | ((repeat apply Exists.intro); refine ⟨⟨_, 0 + 1, L ++ [f], (failS 13 p S1), rfl, by have := HLT.out; omega, ?_, by simp [HLL.out], HO8.out, HR.out, HK8.out, HSTEP.out f (failS 13 p S1) HE5.out⟩, rfl⟩; go_num)
                case measure => have := HLT.out; simp [intOf]; omega
            · obtain ⟨u, hu, hlast⟩ := last_get L i HLL.out (by omega)
              obtain ⟨gl, cl, rfl⟩ : ∃ gl cl, lv = .slice (some ⟨gl, 0, none⟩) i cl := by
                obtain ⟨y9, c9, rfl⟩ := (hO.isK fdE_ok).len
                obtain ⟨g9, rfl, -⟩ := OwnK.form hO (by have := HLL.out; omega)
                exact ⟨g9, c9, by rw [HLL.out]⟩
              have CU : Hid (∀ y, Below W3.heap.size W3 y → (bigLoad 25 (.pointer (some ⟨gl, (i - 1) * 2, none⟩))).run Tryz.prog y = .ok (.value (.agg (fdA u))) y) := fun y hy => by
                obtain ⟨b', o', he, -, -, -, k1, k2⟩ := fd_at ((hO.isK fdE_ok).kept hy) (i - 1) u hu
                cases he
                rw [Nat.zero_add] at k1 k2
                have h9 := run_fd_mid y _ _ k1
                rw [k2] at h9
                exact h9
              have HO3 : Hid (behO ltF L.getLast? f = ltF u f) := by show _ = _; rw [hlast]; rfl
              have wk1 : IntKind.i64.wrap ((i : Int) - 1) = ((i - 1 : Nat) : Int) := by rw [IntKind.wrap_i64]; have := HLT.out; have := HN.out; omega
              have j0 : (0 : Int) ≤ ((i - 1 : Nat) : Int) := by omega
              have j1 : ((i - 1 : Nat) : Int) < (i : Int) := by omega
              have j2 : (0 : Int) < (i : Int) := by omega
              clear hu hlast
              go_upto_region 13 with fail
              refine wp_reliesT [Fx (.int .i64 (i : Int)), Fx (.bool true), Fx (.bool true), Fx (.slice (some ⟨gl, 0, none⟩) i cl), Fx (.int .i64 (i : Int)), Fx (.int .i64 (((i - 1 : Nat)) : Int)), Fx (.pointer (some ⟨gl, (i - 1) * 2, none⟩)), Fx (.agg (fdA u)), Fx (.agg (fdA f)), Fx (.bool (ltF u f)), Fx (.bool (!ltF u f))] (by kernel_rfl) (by kernel_rfl) ?_ ?_ ?_
              · repeat' (first | exact all_nil | apply all_cons)
                all_goals intro v y y' hv hb
                all_goals first | exact Fx_mono _ _ _ _ hv hb
              · refine ⟨?_, ?_, ?_, ?_, ?_, ?_, ?_, ?_, ?_, ?_, ?_, trivial⟩
                all_goals
                  intro ρ y9 hp ρc ρg ρf ho hd
                  have o3 : ρ (.tmp 3) = .slice (some ⟨gl, 0, none⟩) i cl := ho 3 rfl
                  have o5 : ρ (.tmp 5) = .int .i64 (i : Int) := ho 5 rfl
                  have o7 : ρ (.tmp 7) = .pointer (some ⟨zf, 0, none⟩) := ho 7 rfl
                  clear ho
                  have z9 := CV.out y9 hp
                  simp only [depsR, depR, slotR, Fx, List.getElem?_cons_succ, List.getElem?_cons_zero, Region.binds, forall_const] at hd
                  simp only [guardR]
                  go_split_ands
                · go_simp
                · go_simp
                  try (unfold Fx; simp; omega)
                · go_simp
                · refine ⟨fun _ => ?_, fun hy => absurd (by simp [yieldR, slotR, *]) hy⟩
                  go_simp
                · refine ⟨fun _ => ?_, fun hy => absurd (by simp [yieldR, slotR, *]) hy⟩
                  go_simp
                · refine ⟨fun _ => ?_, fun hy => absurd (by simp [yieldR, slotR, *]) hy⟩
                  go_simp
                  try exact wk1
                · refine ⟨fun _ => ?_, fun hy => absurd (by simp [yieldR, slotR, *]) hy⟩
                  go_simp
                · refine ⟨fun _ => ?_, fun hy => absurd (by simp [yieldR, slotR, *]) hy⟩
                  have z1 := CU.out y9 hp
                  go_simp
                · refine ⟨fun _ => ?_, fun hy => absurd (by simp [yieldR, slotR, *]) hy⟩
                  go_simp
                · refine ⟨fun _ => ?_, fun hy => absurd (by simp [yieldR, slotR, *]) hy⟩
                  go_simp
                  exact (refAhead22 _ _ _).mono fun e w' ⟨q1, q2⟩ => ⟨_, q1, rfl, q2⟩
                · refine ⟨fun _ => ?_, fun hy => absurd (by simp [yieldR, slotR, *]) hy⟩
                  go_simp
              · intro us x1 hp1 hw
                simp only [owed, Fx] at hw
                obtain ⟨e0, e1, e2, e3, e4, e5, e6, e7, e8, e9, e10, -⟩ := hw
                simp only [List.length_cons, List.length_nil, List.take_succ_cons, List.take_zero, List.drop_succ_cons, List.drop_zero, asg, List.cons_append, List.nil_append, e0, e1, e2, e3, e4, e5, e6, e7, e8, e9, e10]
                clear e0 e1 e2 e3 e4 e5 e6 e7 e8 e9 e10
                have hI9 := hI.later hp1
                have hO9 := hO.keep hp1
                have rz9 := rz.kept hp1
                have KB9 : Hid (Keep [g] w x1) := KB.out.trans (Keep.of_below hp1)
                clear hI hO rz KB hp1 CV CU
                have hI := hI9
                have hO := hO9
                have rz := rz9
                have KB := KB9
                clear hI9 hO9 rz9 KB9
                cases hlt9 : ltF u f
                · have HL9 : Hid (ltF u f = false) := hlt9
                  have hFa := refFail22 x1 g x n c b (failS 13 p S1) 11 p hI
                  go_wp2_with fail
                  refine hFa.mono ?_
                  rintro e x2 ⟨rfl, hI9, k9⟩
                  clear hFa hI
                  have hI := hI9
                  have hO9 := OwnK.keeps hO k9 (fun q hq => by have := ZF.out.2.2 q hq; simpa using this.2)
                  clear hO
                  have hO := hO9
                  have KB9 : Hid (Keep [g] w x2) := KB.out.trans k9
                  clear KB
                  have KB := KB9
                  have rz9 := rz.keepsF k9 (by have := ZF.out; simp; omega)
                  clear rz
                  have rz := rz9
                  clear rz9
                  clear hI9 hO9 KB9 k9
                  have HE5 : Hid (bdF b L (p, 0, q) = (f, (failS 11 p (failS 13 p S1)))) := by show _ = _; rw [HBD.out]; rw [if_neg (by rw [HO3.out, HL9.out]; simp)]
                  have ld := run_load_fd x2 zf rz.1 (by rw [rz.2]; rfl)
                  rw [rz.2] at ld
                  have bA := below_alloc x2 (.cells (fdA f) 25)
                  obtain ⟨g9, c9, w9, hra, hO8, -, hg8, -⟩ := run_app1K fdE_ok (x2.alloc (.cells (fdA f) 25)) w.heap.size x2.heap.size (.slice (some ⟨gl, 0, none⟩) i cl) L f 22 (hO.keep bA) (fd_lit_range x2 f) (by simp) (by show (L.length + 1) * 16 ≤ _; have := HN.out; have := HLL.out; have := HLT.out; omega) (by unfold maxLen; have := HN.out; have := HLL.out; have := HLT.out; omega) (Nat.le_trans KB.out.size bA.size)
                  rw [HLL.out] at hra hO8
                  have bB : Below w.heap.size (x2.alloc (.cells (fdA f) 25)) w9 := OwnK.below (hO.keep bA) hg8 (Nat.le_trans KB.out.size bA.size)
                  have HR : Hid (RrI w9 g x n c b (failS 11 p (failS 13 p S1))) := (hI.later bA).keepO hg8 (hO.keep bA) (by have := ZG.out; omega)
                  have HO8 : Hid (OwnK fdE w9 w.heap.size (.slice (some ⟨g9, 0, none⟩) (i + 1) c9) (L ++ [f])) := hO8
                  have HK8 : Hid (Keep [g] w w9) := KB.out.appB ((bA.mono KB.out.size).trans bB)
                  clear hO8 hg8 bB bA hI hO KB rz
                  go_wp2_with (at_builtin; refine wpL_appG 22 rfl _ _ rfl _ w9 (by exact hra) ?_)
                  go_roundw
                  case rel => first | exact ⟨_, i + 1, L ++ [f], (failS 11 p (failS 13 p S1)), rfl, by have := HLT.out; omega, by go_num, by simp [HLL.out], HO8.out, HR.out, HK8.out, HSTEP.out f (failS 11 p (failS 13 p S1)) HE5.out⟩ | ((repeat apply Exists.intro); refine ⟨⟨_, i + 1, L ++ [f], (failS 11 p (failS 13 p S1)), rfl, by have := HLT.out; omega, ?_, by simp [HLL.out], HO8.out, HR.out, HK8.out, HSTEP.out f (failS 11 p (failS 13 p S1)) HE5.out⟩, rfl⟩; go_num)
                  case measure => have := HLT.out; simp [intOf]; omega
                · have HL9 : Hid (ltF u f = true) := hlt9
                  have HE5 : Hid (bdF b L (p, 0, q) = (f, (failS 13 p S1))) := by show _ = _; rw [HBD.out]; rw [if_pos (by rw [HO3.out, HL9.out])]
                  have ld := run_load_fd x1 zf rz.1 (by rw [rz.2]; rfl)
                  rw [rz.2] at ld
                  have bA := below_alloc x1 (.cells (fdA f) 25)
                  obtain ⟨g9, c9, w9, hra, hO8, -, hg8, -⟩ := run_app1K fdE_ok (x1.alloc (.cells (fdA f) 25)) w.heap.size x1.heap.size (.slice (some ⟨gl, 0, none⟩) i cl) L f 22 (hO.keep bA) (fd_lit_range x1 f) (by simp) (by show (L.length + 1) * 16 ≤ _; have := HN.out; have := HLL.out; have := HLT.out; omega) (by unfold maxLen; have := HN.out; have := HLL.out; have := HLT.out; omega) (Nat.le_trans KB.out.size bA.size)
                  rw [HLL.out] at hra hO8
                  have bB : Below w.heap.size (x1.alloc (.cells (fdA f) 25)) w9 := OwnK.below (hO.keep bA) hg8 (Nat.le_trans KB.out.size bA.size)
                  have HR : Hid (RrI w9 g x n c b (failS 13 p S1)) := (hI.later bA).keepO hg8 (hO.keep bA) (by have := ZG.out; omega)
                  have HO8 : Hid (OwnK fdE w9 w.heap.size (.slice (some ⟨g9, 0, none⟩) (i + 1) c9) (L ++ [f])) := hO8
                  have HK8 : Hid (Keep [g] w w9) := KB.out.appB ((bA.mono KB.out.size).trans bB)
                  clear hO8 hg8 bB bA hI hO KB rz
                  go_wp2_with (at_builtin; refine wpL_appG 22 rfl _ _ rfl _ w9 (by exact hra) ?_)
                  go_roundw
                  case rel => first | exact ⟨_, i + 1, L ++ [f], (failS 13 p S1), rfl, by have := HLT.out; omega, by go_num, by simp [HLL.out], HO8.out, HR.out, HK8.out, HSTEP.out f (failS 13 p S1) HE5.out⟩ | ((repeat apply Exists.intro); refine ⟨⟨_, i + 1, L ++ [f], (failS 13 p S1), rfl, by have := HLT.out; omega, ?_, by simp [HLL.out], HO8.out, HR.out, HK8.out, HSTEP.out f (failS 13 p S1) HE5.out⟩, rfl⟩; go_num)
                  case measure => have := HLT.out; simp [intOf]; omega
            
          · have d2 : (19 : Int) < (k : Int) := by have := okK_no hok; omega
            have HC1 : Hid (okK k = false) := hok
            clear hok
            obtain ⟨a, S3, hA⟩ : ∃ a S3, numS 2 b (failS 13 p S1) = (a, S3) := ⟨_, _, rfl⟩
            have HA : Hid _ := hA
            have hal := numS_lt 2 b (failS 13 p S1)
            rw [hA] at hal
            obtain ⟨f, hf⟩ : ∃ f : Fd, ((k : Int), (a : Int)) = f := ⟨_, rfl⟩
            have HF : Hid _ := hf
            have ha0 : a = 0 := by
              have := numS_no (k := 2) (b := b) (failS_e 13 p S1 (by omega))
              rw [hA] at this
              exact (Prod.mk.inj this).1
            have hS3 : S3 = (failS 13 p S1) := by
              have := numS_no (k := 2) (b := b) (failS_e 13 p S1 (by omega))
              rw [hA] at this
              exact (Prod.mk.inj this).2
            have d3 : ¬ (1023 : Int) < (a : Int) := by omega
            have HC2 : Hid (okA a = true) := by show _ = _; rw [ha0]; rfl
            subst hS3
            clear hA ha0
            have HBD : Hid (bdF b L (p, 0, q) = (f, if behO ltF L.getLast? f = true then (failS 13 p S1) else failS 11 p (failS 13 p S1))) := by
              show _ = _
              unfold bdF
              simp only [HK1.out, HC1.out, HA.out, HC2.out, HF.out, Bool.false_eq_true, if_true, if_false]
            have hFb := refFail22 W2 g x n c b S1 13 p hI
            clear hf hal
            go_wp2_with fail
            refine hFb.mono ?_
            rintro e y1 ⟨rfl, hI9, k9⟩
            clear hFb hI
            have hI := hI9
            have hO9 := OwnK.keeps hO k9 (fun q hq => by have := ZF.out.2.2 q hq; simpa using this.2)
            clear hO
            have hO := hO9
            have KB9 : Hid (Keep [g] w y1) := KB.out.trans k9
            clear KB
            have KB := KB9
            have rz9 := rz.keepsF k9 (by have := ZF.out; simp; omega)
            clear rz
            have rz := rz9
            clear rz9
            clear hI9 hO9 KB9 k9
            clear ck
            have hNb := refNumber22 y1 g x n c b (failS 13 p S1) 2 (by omega) hI
            rw [HA.out] at hNb
            go_wp2_with fail
            refine hNb.mono ?_
            rintro e y2 ⟨rfl, hI9, k9⟩
            clear hNb hI
            have hI := hI9
            have hO9 := OwnK.keeps hO k9 (fun q hq => by have := ZF.out.2.2 q hq; simpa using this.2)
            clear hO
            have hO := hO9
            have KB9 : Hid (Keep [g] w y2) := KB.out.trans k9
            clear KB
            have KB := KB9
            have rz9 := rz.keepsF k9 (by have := ZF.out; simp; omega)
            clear rz
            have rz := rz9
            clear rz9
            clear hI9 hO9 KB9 k9
            have zc : y2.cell? ⟨zf, 1, none⟩ = some (.int .i64 0) := by rw [rz.cell]; rfl
            have fz := rz.frozen 1
            have kz := Keep.cell1 y2 zf 1 (.int .i64 (a : Int))
            have rz9 : RowC (y2.setCell ⟨zf, 1, none⟩ (.int .i64 (a : Int))) zf (fdA f) := by rw [← HF.out]; exact rz.set 1 _
            have hI9 := hI.keepZ kz ZF.out.1
            have hO9 := OwnK.keeps hO kz (fun q hq => by have := ZF.out.2.2 q hq; simpa using this.1)
            have KB9 : Hid (Keep [g] w (y2.setCell ⟨zf, 1, none⟩ (.int .i64 (a : Int)))) := KB.out.up kz ZF.out.2.1
            clear hI hO rz KB kz
            go_upto_region 11 with fail
            generalize y2.setCell ⟨zf, 1, none⟩ (.int .i64 (a : Int)) = W3 at rz9 hI9 hO9 KB9 ⊢
            clear zc fz
            have hI := hI9
            have hO := hO9
            have rz := rz9
            have KB := KB9
            clear hI9 hO9 rz9 KB9
            have ca : W3.cell? ⟨zf, 1, none⟩ = some (.int .i64 (a : Int)) := by rw [rz.cell, ← HF.out]; rfl
            have CV : Hid (∀ y, Below W3.heap.size W3 y → (bigLoad 25 (.pointer (some ⟨zf, 0, none⟩))).run Tryz.prog y = .ok (.value (.agg (fdA f))) y) := fun y hy => by
              have h9 := run_load_fd y zf (rz.kept hy).1 (by rw [(rz.kept hy).2]; rfl)
              rw [(rz.kept hy).2] at h9
              exact h9
            by_cases h0 : i = 0
            · subst h0
              have HO3 : Hid (behO ltF L.getLast? f = true) := beh_at ltF L 0 f HLL.out rfl
              go_upto_region 13 with fail
              refine wp_reliesT [Fx (.int .i64 (((0 : Nat)) : Int)), Fx (.bool false), Fx (.bool false), Fx (undef), Fx (undef), Fx (undef), Fx (undef), Fx (undef), Fx (undef), Fx (undef), Fx (undef)] (by kernel_rfl) (by kernel_rfl) ?_ ?_ ?_
              · repeat' (first | exact all_nil | apply all_cons)
                all_goals intro v y y' hv hb
                all_goals first | exact Fx_mono _ _ _ _ hv hb
              · refine ⟨?_, ?_, ?_, ?_, ?_, ?_, ?_, ?_, ?_, ?_, ?_, trivial⟩
                all_goals
                  intro ρ y9 hp ρc ρg ρf ho hd
                  have o5 : ρ (.tmp 5) = .int .i64 (((0 : Nat)) : Int) := ho 5 rfl
                  clear ho
                  simp only [depsR, depR, slotR, Fx, List.getElem?_cons_succ, List.getElem?_cons_zero, Region.binds, forall_const] at hd
                  simp only [guardR]
                  go_split_ands
                · go_simp
                · go_simp
                  try (unfold Fx; simp)
                · go_simp
                · refine ⟨fun hy => ?_, fun _ => rfl⟩
                  exfalso; simp [yieldR, slotR, undef, *] at hy
                · refine ⟨fun hy => ?_, fun _ => rfl⟩
                  exfalso; simp [yieldR, slotR, undef, *] at hy
                · refine ⟨fun hy => ?_, fun _ => rfl⟩
                  exfalso; simp [yieldR, slotR, undef, *] at hy
                · refine ⟨fun hy => ?_, fun _ => rfl⟩
                  exfalso; simp [yieldR, slotR, undef, *] at hy
                · refine ⟨fun hy => ?_, fun _ => rfl⟩
                  exfalso; simp [yieldR, slotR, undef, *] at hy
                · refine ⟨fun hy => ?_, fun _ => rfl⟩
                  exfalso; simp [yieldR, slotR, undef, *] at hy
                · refine ⟨fun hy => ?_, fun _ => rfl⟩
                  exfalso; simp [yieldR, slotR, undef, *] at hy
                · refine ⟨fun hy => ?_, fun _ => rfl⟩
                  exfalso; simp [yieldR, slotR, undef, *] at hy
              · intro us x1 hp1 hw
                simp only [owed, Fx] at hw
                obtain ⟨e0, e1, e2, e3, e4, e5, e6, e7, e8, e9, e10, -⟩ := hw
                simp only [List.length_cons, List.length_nil, List.take_succ_cons, List.take_zero, List.drop_succ_cons, List.drop_zero, asg, List.cons_append, List.nil_append, e0, e1, e2, e3, e4, e5, e6, e7, e8, e9, e10]
                clear e0 e1 e2 e3 e4 e5 e6 e7 e8 e9 e10
                have hI9 := hI.later hp1
                have hO9 := hO.keep hp1
                have rz9 := rz.kept hp1
                have KB9 : Hid (Keep [g] w x1) := KB.out.trans (Keep.of_below hp1)
                clear hI hO rz KB hp1 CV
                have hI := hI9
                have hO := hO9
                have rz := rz9
                have KB := KB9
                clear hI9 hO9 rz9 KB9
                have HE5 : Hid (bdF b L (p, 0, q) = (f, (failS 13 p S1))) := by show _ = _; rw [HBD.out]; rw [if_pos HO3.out]
                have ld := run_load_fd x1 zf rz.1 (by rw [rz.2]; rfl)
                rw [rz.2] at ld
                have bA := below_alloc x1 (.cells (fdA f) 25)
                obtain ⟨g9, c9, w9, hra, hO8, -, hg8, -⟩ := run_app1K fdE_ok (x1.alloc (.cells (fdA f) 25)) w.heap.size x1.heap.size lv L f 22 (hO.keep bA) (fd_lit_range x1 f) (by simp) (by show (L.length + 1) * 16 ≤ _; have := HN.out; have := HLL.out; have := HLT.out; omega) (by unfold maxLen; have := HN.out; have := HLL.out; have := HLT.out; omega) (Nat.le_trans KB.out.size bA.size)
                rw [HLL.out] at hra hO8
                have bB : Below w.heap.size (x1.alloc (.cells (fdA f) 25)) w9 := OwnK.below (hO.keep bA) hg8 (Nat.le_trans KB.out.size bA.size)
                have HR : Hid (RrI w9 g x n c b (failS 13 p S1)) := (hI.later bA).keepO hg8 (hO.keep bA) (by have := ZG.out; omega)
                have HO8 : Hid (OwnK fdE w9 w.heap.size (.slice (some ⟨g9, 0, none⟩) (0 + 1) c9) (L ++ [f])) := hO8
                have HK8 : Hid (Keep [g] w w9) := KB.out.appB ((bA.mono KB.out.size).trans bB)
                clear hO8 hg8 bB bA hI hO KB rz
                go_wp2_with (at_builtin; refine wpL_appG 22 rfl _ _ rfl _ w9 (by exact hra) ?_)
                go_roundw
                case rel => first | exact ⟨_, 0 + 1, L ++ [f], (failS 13 p S1), rfl, by have := HLT.out; omega, by go_num, by simp [HLL.out], HO8.out, HR.out, HK8.out, HSTEP.out f (failS 13 p S1) HE5.out⟩ | ((repeat apply Exists.intro); refine ⟨⟨_, 0 + 1, L ++ [f], (failS 13 p S1), rfl, by have := HLT.out; omega, ?_, by simp [HLL.out], HO8.out, HR.out, HK8.out, HSTEP.out f (failS 13 p S1) HE5.out⟩, rfl⟩; go_num)
                case measure => have := HLT.out; simp [intOf]; omega
            · obtain ⟨u, hu, hlast⟩ := last_get L i HLL.out (by omega)
              obtain ⟨gl, cl, rfl⟩ : ∃ gl cl, lv = .slice (some ⟨gl, 0, none⟩) i cl := by
                obtain ⟨y9, c9, rfl⟩ := (hO.isK fdE_ok).len
                obtain ⟨g9, rfl, -⟩ := OwnK.form hO (by have := HLL.out; omega)
                exact ⟨g9, c9, by rw [HLL.out]⟩
              have CU : Hid (∀ y, Below W3.heap.size W3 y → (bigLoad 25 (.pointer (some ⟨gl, (i - 1) * 2, none⟩))).run Tryz.prog y = .ok (.value (.agg (fdA u))) y) := fun y hy => by
                obtain ⟨b', o', he, -, -, -, k1, k2⟩ := fd_at ((hO.isK fdE_ok).kept hy) (i - 1) u hu
                cases he
                rw [Nat.zero_add] at k1 k2
                have h9 := run_fd_mid y _ _ k1
                rw [k2] at h9
                exact h9
              have HO3 : Hid (behO ltF L.getLast? f = ltF u f) := by show _ = _; rw [hlast]; rfl
              have wk1 : IntKind.i64.wrap ((i : Int) - 1) = ((i - 1 : Nat) : Int) := by rw [IntKind.wrap_i64]; have := HLT.out; have := HN.out; omega
              have j0 : (0 : Int) ≤ ((i - 1 : Nat) : Int) := by omega
              have j1 : ((i - 1 : Nat) : Int) < (i : Int) := by omega
              have j2 : (0 : Int) < (i : Int) := by omega
              clear hu hlast
              go_upto_region 13 with fail
              refine wp_reliesT [Fx (.int .i64 (i : Int)), Fx (.bool true), Fx (.bool true), Fx (.slice (some ⟨gl, 0, none⟩) i cl), Fx (.int .i64 (i : Int)), Fx (.int .i64 (((i - 1 : Nat)) : Int)), Fx (.pointer (some ⟨gl, (i - 1) * 2, none⟩)), Fx (.agg (fdA u)), Fx (.agg (fdA f)), Fx (.bool (ltF u f)), Fx (.bool (!ltF u f))] (by kernel_rfl) (by kernel_rfl) ?_ ?_ ?_
              · repeat' (first | exact all_nil | apply all_cons)
                all_goals intro v y y' hv hb
                all_goals first | exact Fx_mono _ _ _ _ hv hb
              · refine ⟨?_, ?_, ?_, ?_, ?_, ?_, ?_, ?_, ?_, ?_, ?_, trivial⟩
                all_goals
                  intro ρ y9 hp ρc ρg ρf ho hd
                  have o3 : ρ (.tmp 3) = .slice (some ⟨gl, 0, none⟩) i cl := ho 3 rfl
                  have o5 : ρ (.tmp 5) = .int .i64 (i : Int) := ho 5 rfl
                  have o7 : ρ (.tmp 7) = .pointer (some ⟨zf, 0, none⟩) := ho 7 rfl
                  clear ho
                  have z9 := CV.out y9 hp
                  simp only [depsR, depR, slotR, Fx, List.getElem?_cons_succ, List.getElem?_cons_zero, Region.binds, forall_const] at hd
                  simp only [guardR]
                  go_split_ands
                · go_simp
                · go_simp
                  try (unfold Fx; simp; omega)
                · go_simp
                · refine ⟨fun _ => ?_, fun hy => absurd (by simp [yieldR, slotR, *]) hy⟩
                  go_simp
                · refine ⟨fun _ => ?_, fun hy => absurd (by simp [yieldR, slotR, *]) hy⟩
                  go_simp
                · refine ⟨fun _ => ?_, fun hy => absurd (by simp [yieldR, slotR, *]) hy⟩
                  go_simp
                  try exact wk1
                · refine ⟨fun _ => ?_, fun hy => absurd (by simp [yieldR, slotR, *]) hy⟩
                  go_simp
                · refine ⟨fun _ => ?_, fun hy => absurd (by simp [yieldR, slotR, *]) hy⟩
                  have z1 := CU.out y9 hp
                  go_simp
                · refine ⟨fun _ => ?_, fun hy => absurd (by simp [yieldR, slotR, *]) hy⟩
                  go_simp
                · refine ⟨fun _ => ?_, fun hy => absurd (by simp [yieldR, slotR, *]) hy⟩
                  go_simp
                  exact (refAhead22 _ _ _).mono fun e w' ⟨q1, q2⟩ => ⟨_, q1, rfl, q2⟩
                · refine ⟨fun _ => ?_, fun hy => absurd (by simp [yieldR, slotR, *]) hy⟩
                  go_simp
              · intro us x1 hp1 hw
                simp only [owed, Fx] at hw
                obtain ⟨e0, e1, e2, e3, e4, e5, e6, e7, e8, e9, e10, -⟩ := hw
                simp only [List.length_cons, List.length_nil, List.take_succ_cons, List.take_zero, List.drop_succ_cons, List.drop_zero, asg, List.cons_append, List.nil_append, e0, e1, e2, e3, e4, e5, e6, e7, e8, e9, e10]
                clear e0 e1 e2 e3 e4 e5 e6 e7 e8 e9 e10
                have hI9 := hI.later hp1
                have hO9 := hO.keep hp1
                have rz9 := rz.kept hp1
                have KB9 : Hid (Keep [g] w x1) := KB.out.trans (Keep.of_below hp1)
                clear hI hO rz KB hp1 CV CU
                have hI := hI9
                have hO := hO9
                have rz := rz9
                have KB := KB9
                clear hI9 hO9 rz9 KB9
                cases hlt9 : ltF u f
                · have HL9 : Hid (ltF u f = false) := hlt9
                  have hFa := refFail22 x1 g x n c b (failS 13 p S1) 11 p hI
                  go_wp2_with fail
                  refine hFa.mono ?_
                  rintro e x2 ⟨rfl, hI9, k9⟩
                  clear hFa hI
                  have hI := hI9
                  have hO9 := OwnK.keeps hO k9 (fun q hq => by have := ZF.out.2.2 q hq; simpa using this.2)
                  clear hO
                  have hO := hO9
                  have KB9 : Hid (Keep [g] w x2) := KB.out.trans k9
                  clear KB
                  have KB := KB9
                  have rz9 := rz.keepsF k9 (by have := ZF.out; simp; omega)
                  clear rz
                  have rz := rz9
                  clear rz9
                  clear hI9 hO9 KB9 k9
                  have HE5 : Hid (bdF b L (p, 0, q) = (f, (failS 11 p (failS 13 p S1)))) := by show _ = _; rw [HBD.out]; rw [if_neg (by rw [HO3.out, HL9.out]; simp)]
                  have ld := run_load_fd x2 zf rz.1 (by rw [rz.2]; rfl)
                  rw [rz.2] at ld
                  have bA := below_alloc x2 (.cells (fdA f) 25)
                  obtain ⟨g9, c9, w9, hra, hO8, -, hg8, -⟩ := run_app1K fdE_ok (x2.alloc (.cells (fdA f) 25)) w.heap.size x2.heap.size (.slice (some ⟨gl, 0, none⟩) i cl) L f 22 (hO.keep bA) (fd_lit_range x2 f) (by simp) (by show (L.length + 1) * 16 ≤ _; have := HN.out; have := HLL.out; have := HLT.out; omega) (by unfold maxLen; have := HN.out; have := HLL.out; have := HLT.out; omega) (Nat.le_trans KB.out.size bA.size)
                  rw [HLL.out] at hra hO8
                  have bB : Below w.heap.size (x2.alloc (.cells (fdA f) 25)) w9 := OwnK.below (hO.keep bA) hg8 (Nat.le_trans KB.out.size bA.size)
                  have HR : Hid (RrI w9 g x n c b (failS 11 p (failS 13 p S1))) := (hI.later bA).keepO hg8 (hO.keep bA) (by have := ZG.out; omega)
                  have HO8 : Hid (OwnK fdE w9 w.heap.size (.slice (some ⟨g9, 0, none⟩) (i + 1) c9) (L ++ [f])) := hO8
                  have HK8 : Hid (Keep [g] w w9) := KB.out.appB ((bA.mono KB.out.size).trans bB)
                  clear hO8 hg8 bB bA hI hO KB rz
                  go_wp2_with (at_builtin; refine wpL_appG 22 rfl _ _ rfl _ w9 (by exact hra) ?_)
                  go_roundw
                  case rel => first | exact ⟨_, i + 1, L ++ [f], (failS 11 p (failS 13 p S1)), rfl, by have := HLT.out; omega, by go_num, by simp [HLL.out], HO8.out, HR.out, HK8.out, HSTEP.out f (failS 11 p (failS 13 p S1)) HE5.out⟩ | ((repeat apply Exists.intro); refine ⟨⟨_, i + 1, L ++ [f], (failS 11 p (failS 13 p S1)), rfl, by have := HLT.out; omega, ?_, by simp [HLL.out], HO8.out, HR.out, HK8.out, HSTEP.out f (failS 11 p (failS 13 p S1)) HE5.out⟩, rfl⟩; go_num)
                  case measure => have := HLT.out; simp [intOf]; omega
                · have HL9 : Hid (ltF u f = true) := hlt9
                  have HE5 : Hid (bdF b L (p, 0, q) = (f, (failS 13 p S1))) := by show _ = _; rw [HBD.out]; rw [if_pos (by rw [HO3.out, HL9.out])]
                  have ld := run_load_fd x1 zf rz.1 (by rw [rz.2]; rfl)
                  rw [rz.2] at ld
                  have bA := below_alloc x1 (.cells (fdA f) 25)
                  obtain ⟨g9, c9, w9, hra, hO8, -, hg8, -⟩ := run_app1K fdE_ok (x1.alloc (.cells (fdA f) 25)) w.heap.size x1.heap.size (.slice (some ⟨gl, 0, none⟩) i cl) L f 22 (hO.keep bA) (fd_lit_range x1 f) (by simp) (by show (L.length + 1) * 16 ≤ _; have := HN.out; have := HLL.out; have := HLT.out; omega) (by unfold maxLen; have := HN.out; have := HLL.out; have := HLT.out; omega) (Nat.le_trans KB.out.size bA.size)
                  rw [HLL.out] at hra hO8
                  have bB : Below w.heap.size (x1.alloc (.cells (fdA f) 25)) w9 := OwnK.below (hO.keep bA) hg8 (Nat.le_trans KB.out.size bA.size)
                  have HR : Hid (RrI w9 g x n c b (failS 13 p S1)) := (hI.later bA).keepO hg8 (hO.keep bA) (by have := ZG.out; omega)
                  have HO8 : Hid (OwnK fdE w9 w.heap.size (.slice (some ⟨g9, 0, none⟩) (i + 1) c9) (L ++ [f])) := hO8
                  have HK8 : Hid (Keep [g] w w9) := KB.out.appB ((bA.mono KB.out.size).trans bB)
                  clear hO8 hg8 bB bA hI hO KB rz
                  go_wp2_with (at_builtin; refine wpL_appG 22 rfl _ _ rfl _ w9 (by exact hra) ?_)
                  go_roundw
                  case rel => first | exact ⟨_, i + 1, L ++ [f], (failS 13 p S1), rfl, by have := HLT.out; omega, by go_num, by simp [HLL.out], HO8.out, HR.out, HK8.out, HSTEP.out f (failS 13 p S1) HE5.out⟩ | ((repeat apply Exists.intro); refine ⟨⟨_, i + 1, L ++ [f], (failS 13 p S1), rfl, by have := HLT.out; omega, ?_, by simp [HLL.out], HO8.out, HR.out, HK8.out, HSTEP.out f (failS 13 p S1) HE5.out⟩, rfl⟩; go_num)
                  case measure => have := HLT.out; simp [intOf]; omega
            
        · have HC1 : Hid (okK k = true) := hok
          have hk9 := okK_yes hok
          have d1 : ¬ (k : Int) < 1 := by omega
          have d2 : ¬ (19 : Int) < (k : Int) := by omega
          clear hok hk9
          obtain ⟨a, S3, hA⟩ : ∃ a S3, numS 2 b S1 = (a, S3) := ⟨_, _, rfl⟩
          have HA : Hid _ := hA
          have hal := numS_lt 2 b S1
          rw [hA] at hal
          obtain ⟨f, hf⟩ : ∃ f : Fd, ((k : Int), (a : Int)) = f := ⟨_, rfl⟩
          have HF : Hid _ := hf
          clear hA hf
          have hNb := refNumber22 W2 g x n c b S1 2 (by omega) hI
          rw [HA.out] at hNb
          go_wp2_with fail
          refine hNb.mono ?_
          rintro e y2 ⟨rfl, hI9, k9⟩
          clear hNb hI
          have hI := hI9
          have hO9 := OwnK.keeps hO k9 (fun q hq => by have := ZF.out.2.2 q hq; simpa using this.2)
          clear hO
          have hO := hO9
          have KB9 : Hid (Keep [g] w y2) := KB.out.trans k9
          clear KB
          have KB := KB9
          have rz9 := rz.keepsF k9 (by have := ZF.out; simp; omega)
          clear rz
          have rz := rz9
          clear rz9
          clear hI9 hO9 KB9 k9
          have zc : y2.cell? ⟨zf, 1, none⟩ = some (.int .i64 0) := by rw [rz.cell]; rfl
          have fz := rz.frozen 1
          have kz := Keep.cell1 y2 zf 1 (.int .i64 (a : Int))
          have rz9 : RowC (y2.setCell ⟨zf, 1, none⟩ (.int .i64 (a : Int))) zf (fdA f) := by rw [← HF.out]; exact rz.set 1 _
          have hI9 := hI.keepZ kz ZF.out.1
          have hO9 := OwnK.keeps hO kz (fun q hq => by have := ZF.out.2.2 q hq; simpa using this.1)
          have KB9 : Hid (Keep [g] w (y2.setCell ⟨zf, 1, none⟩ (.int .i64 (a : Int)))) := KB.out.up kz ZF.out.2.1
          clear hI hO rz KB kz
          go_upto_region 11 with fail
          generalize y2.setCell ⟨zf, 1, none⟩ (.int .i64 (a : Int)) = W3 at rz9 hI9 hO9 KB9 ⊢
          clear zc fz ck
          have hI := hI9
          have hO := hO9
          have rz := rz9
          have KB := KB9
          clear hI9 hO9 rz9 KB9
          have ca : W3.cell? ⟨zf, 1, none⟩ = some (.int .i64 (a : Int)) := by rw [rz.cell, ← HF.out]; rfl
          cases hok2 : okA a
          · have HC2 : Hid (okA a = false) := hok2
            have d3 : (1023 : Int) < (a : Int) := by have := okA_no hok2; omega
            have wp1 : IntKind.i64.wrap ((p : Int) + 1) = ((p + 1 : Nat) : Int) := by rw [IntKind.wrap_i64]; have := HPL.out; omega
            clear hok2
            have HBD : Hid (bdF b L (p, 0, q) = (f, if behO ltF L.getLast? f = true then (failS 13 (p + 1) S3) else failS 11 p (failS 13 (p + 1) S3))) := by
              show _ = _
              unfold bdF
              simp only [HK1.out, HC1.out, HA.out, HC2.out, HF.out, Bool.false_eq_true, if_true, if_false]
            have hFb := refFail22 W3 g x n c b S3 13 (p + 1) hI
            go_wp2_with fail
            refine hFb.mono ?_
            rintro e y3 ⟨rfl, hI9, k9⟩
            clear hFb hI
            have hI := hI9
            have hO9 := OwnK.keeps hO k9 (fun q hq => by have := ZF.out.2.2 q hq; simpa using this.2)
            clear hO
            have hO := hO9
            have KB9 : Hid (Keep [g] w y3) := KB.out.trans k9
            clear KB
            have KB := KB9
            have rz9 := rz.keepsF k9 (by have := ZF.out; simp; omega)
            clear rz
            have rz := rz9
            clear rz9
            clear hI9 hO9 KB9 k9
            clear ca d3
            have CV : Hid (∀ y, Below y3.heap.size y3 y → (bigLoad 25 (.pointer (some ⟨zf, 0, none⟩))).run Tryz.prog y = .ok (.value (.agg (fdA f))) y) := fun y hy => by
              have h9 := run_load_fd y zf (rz.kept hy).1 (by rw [(rz.kept hy).2]; rfl)
              rw [(rz.kept hy).2] at h9
              exact h9
            by_cases h0 : i = 0
            · subst h0
              have HO3 : Hid (behO ltF L.getLast? f = true) := beh_at ltF L 0 f HLL.out rfl
              go_upto_region 13 with fail
              refine wp_reliesT [Fx (.int .i64 (((0 : Nat)) : Int)), Fx (.bool false), Fx (.bool false), Fx (undef), Fx (undef), Fx (undef), Fx (undef), Fx (undef), Fx (undef), Fx (undef), Fx (undef)] (by kernel_rfl) (by kernel_rfl) ?_ ?_ ?_
              · repeat' (first | exact all_nil | apply all_cons)
                all_goals intro v y y' hv hb
                all_goals first | exact Fx_mono _ _ _ _ hv hb
              · refine ⟨?_, ?_, ?_, ?_, ?_, ?_, ?_, ?_, ?_, ?_, ?_, trivial⟩
                all_goals
                  intro ρ y9 hp ρc ρg ρf ho hd
                  have o5 : ρ (.tmp 5) = .int .i64 (((0 : Nat)) : Int) := ho 5 rfl
                  clear ho
                  simp only [depsR, depR, slotR, Fx, List.getElem?_cons_succ, List.getElem?_cons_zero, Region.binds, forall_const] at hd
                  simp only [guardR]
                  go_split_ands
                · go_simp
                · go_simp
                  try (unfold Fx; simp)
                · go_simp
                · refine ⟨fun hy => ?_, fun _ => rfl⟩
                  exfalso; simp [yieldR, slotR, undef, *] at hy
                · refine ⟨fun hy => ?_, fun _ => rfl⟩
                  exfalso; simp [yieldR, slotR, undef, *] at hy
                · refine ⟨fun hy => ?_, fun _ => rfl⟩
                  exfalso; simp [yieldR, slotR, undef, *] at hy
                · refine ⟨fun hy => ?_, fun _ => rfl⟩
                  exfalso; simp [yieldR, slotR, undef, *] at hy
                · refine ⟨fun hy => ?_, fun _ => rfl⟩
                  exfalso; simp [yieldR, slotR, undef, *] at hy
                · refine ⟨fun hy => ?_, fun _ => rfl⟩
                  exfalso; simp [yieldR, slotR, undef, *] at hy
                · refine ⟨fun hy => ?_, fun _ => rfl⟩
                  exfalso; simp [yieldR, slotR, undef, *] at hy
                · refine ⟨fun hy => ?_, fun _ => rfl⟩
                  exfalso; simp [yieldR, slotR, undef, *] at hy
              · intro us x1 hp1 hw
                simp only [owed, Fx] at hw
                obtain ⟨e0, e1, e2, e3, e4, e5, e6, e7, e8, e9, e10, -⟩ := hw
                simp only [List.length_cons, List.length_nil, List.take_succ_cons, List.take_zero, List.drop_succ_cons, List.drop_zero, asg, List.cons_append, List.nil_append, e0, e1, e2, e3, e4, e5, e6, e7, e8, e9, e10]
                clear e0 e1 e2 e3 e4 e5 e6 e7 e8 e9 e10
                have hI9 := hI.later hp1
                have hO9 := hO.keep hp1
                have rz9 := rz.kept hp1
                have KB9 : Hid (Keep [g] w x1) := KB.out.trans (Keep.of_below hp1)
                clear hI hO rz KB hp1 CV
                have hI := hI9
                have hO := hO9
                have rz := rz9
                have KB := KB9
                clear hI9 hO9 rz9 KB9
                have HE5 : Hid (bdF b L (p, 0, q) = (f, (failS 13 (p + 1) S3))) := by show _ = _; rw [HBD.out]; rw [if_pos HO3.out]
                have ld := run_load_fd x1 zf rz.1 (by rw [rz.2]; rfl)
                rw [rz.2] at ld
                have bA := below_alloc x1 (.cells (fdA f) 25)
                obtain ⟨g9, c9, w9, hra, hO8, -, hg8, -⟩ := run_app1K fdE_ok (x1.alloc (.cells (fdA f) 25)) w.heap.size x1.heap.size lv L f 22 (hO.keep bA) (fd_lit_range x1 f) (by simp) (by show (L.length + 1) * 16 ≤ _; have := HN.out; have := HLL.out; have := HLT.out; omega) (by unfold maxLen; have := HN.out; have := HLL.out; have := HLT.out; omega) (Nat.le_trans KB.out.size bA.size)
                rw [HLL.out] at hra hO8
                have bB : Below w.heap.size (x1.alloc (.cells (fdA f) 25)) w9 := OwnK.below (hO.keep bA) hg8 (Nat.le_trans KB.out.size bA.size)
                have HR : Hid (RrI w9 g x n c b (failS 13 (p + 1) S3)) := (hI.later bA).keepO hg8 (hO.keep bA) (by have := ZG.out; omega)
                have HO8 : Hid (OwnK fdE w9 w.heap.size (.slice (some ⟨g9, 0, none⟩) (0 + 1) c9) (L ++ [f])) := hO8
                have HK8 : Hid (Keep [g] w w9) := KB.out.appB ((bA.mono KB.out.size).trans bB)
                clear hO8 hg8 bB bA hI hO KB rz
                go_wp2_with (at_builtin; refine wpL_appG 22 rfl _ _ rfl _ w9 (by exact hra) ?_)
                go_roundw
                case rel => first | exact ⟨_, 0 + 1, L ++ [f], (failS 13 (p + 1) S3), rfl, by have := HLT.out; omega, by go_num, by simp [HLL.out], HO8.out, HR.out, HK8.out, HSTEP.out f (failS 13 (p + 1) S3) HE5.out⟩ | ((repeat apply Exists.intro); refine ⟨⟨_, 0 + 1, L ++ [f], (failS 13 (p + 1) S3), rfl, by have := HLT.out; omega, ?_, by simp [HLL.out], HO8.out, HR.out, HK8.out, HSTEP.out f (failS 13 (p + 1) S3) HE5.out⟩, rfl⟩; go_num)
                case measure => have := HLT.out; simp [intOf]; omega
            · obtain ⟨u, hu, hlast⟩ := last_get L i HLL.out (by omega)
              obtain ⟨gl, cl, rfl⟩ : ∃ gl cl, lv = .slice (some ⟨gl, 0, none⟩) i cl := by
                obtain ⟨y9, c9, rfl⟩ := (hO.isK fdE_ok).len
                obtain ⟨g9, rfl, -⟩ := OwnK.form hO (by have := HLL.out; omega)
                exact ⟨g9, c9, by rw [HLL.out]⟩
              have CU : Hid (∀ y, Below y3.heap.size y3 y → (bigLoad 25 (.pointer (some ⟨gl, (i - 1) * 2, none⟩))).run Tryz.prog y = .ok (.value (.agg (fdA u))) y) := fun y hy => by
                obtain ⟨b', o', he, -, -, -, k1, k2⟩ := fd_at ((hO.isK fdE_ok).kept hy) (i - 1) u hu
                cases he
                rw [Nat.zero_add] at k1 k2
                have h9 := run_fd_mid y _ _ k1
                rw [k2] at h9
                exact h9
              have HO3 : Hid (behO ltF L.getLast? f = ltF u f) := by show _ = _; rw [hlast]; rfl
              have wk1 : IntKind.i64.wrap ((i : Int) - 1) = ((i - 1 : Nat) : Int) := by rw [IntKind.wrap_i64]; have := HLT.out; have := HN.out; omega
              have j0 : (0 : Int) ≤ ((i - 1 : Nat) : Int) := by omega
              have j1 : ((i - 1 : Nat) : Int) < (i : Int) := by omega
              have j2 : (0 : Int) < (i : Int) := by omega
              clear hu hlast
              go_upto_region 13 with fail
              refine wp_reliesT [Fx (.int .i64 (i : Int)), Fx (.bool true), Fx (.bool true), Fx (.slice (some ⟨gl, 0, none⟩) i cl), Fx (.int .i64 (i : Int)), Fx (.int .i64 (((i - 1 : Nat)) : Int)), Fx (.pointer (some ⟨gl, (i - 1) * 2, none⟩)), Fx (.agg (fdA u)), Fx (.agg (fdA f)), Fx (.bool (ltF u f)), Fx (.bool (!ltF u f))] (by kernel_rfl) (by kernel_rfl) ?_ ?_ ?_
              · repeat' (first | exact all_nil | apply all_cons)
                all_goals intro v y y' hv hb
                all_goals first | exact Fx_mono _ _ _ _ hv hb
              · refine ⟨?_, ?_, ?_, ?_, ?_, ?_, ?_, ?_, ?_, ?_, ?_, trivial⟩
                all_goals
                  intro ρ y9 hp ρc ρg ρf ho hd
                  have o3 : ρ (.tmp 3) = .slice (some ⟨gl, 0, none⟩) i cl := ho 3 rfl
                  have o5 : ρ (.tmp 5) = .int .i64 (i : Int) := ho 5 rfl
                  have o7 : ρ (.tmp 7) = .pointer (some ⟨zf, 0, none⟩) := ho 7 rfl
                  clear ho
                  have z9 := CV.out y9 hp
                  simp only [depsR, depR, slotR, Fx, List.getElem?_cons_succ, List.getElem?_cons_zero, Region.binds, forall_const] at hd
                  simp only [guardR]
                  go_split_ands
                · go_simp
                · go_simp
                  try (unfold Fx; simp; omega)
                · go_simp
                · refine ⟨fun _ => ?_, fun hy => absurd (by simp [yieldR, slotR, *]) hy⟩
                  go_simp
                · refine ⟨fun _ => ?_, fun hy => absurd (by simp [yieldR, slotR, *]) hy⟩
                  go_simp
                · refine ⟨fun _ => ?_, fun hy => absurd (by simp [yieldR, slotR, *]) hy⟩
                  go_simp
                  try exact wk1
                · refine ⟨fun _ => ?_, fun hy => absurd (by simp [yieldR, slotR, *]) hy⟩
                  go_simp
                · refine ⟨fun _ => ?_, fun hy => absurd (by simp [yieldR, slotR, *]) hy⟩
                  have z1 := CU.out y9 hp
                  go_simp
                · refine ⟨fun _ => ?_, fun hy => absurd (by simp [yieldR, slotR, *]) hy⟩
                  go_simp
                · refine ⟨fun _ => ?_, fun hy => absurd (by simp [yieldR, slotR, *]) hy⟩
                  go_simp
                  exact (refAhead22 _ _ _).mono fun e w' ⟨q1, q2⟩ => ⟨_, q1, rfl, q2⟩
                · refine ⟨fun _ => ?_, fun hy => absurd (by simp [yieldR, slotR, *]) hy⟩
                  go_simp
              · intro us x1 hp1 hw
                simp only [owed, Fx] at hw
                obtain ⟨e0, e1, e2, e3, e4, e5, e6, e7, e8, e9, e10, -⟩ := hw
                simp only [List.length_cons, List.length_nil, List.take_succ_cons, List.take_zero, List.drop_succ_cons, List.drop_zero, asg, List.cons_append, List.nil_append, e0, e1, e2, e3, e4, e5, e6, e7, e8, e9, e10]
                clear e0 e1 e2 e3 e4 e5 e6 e7 e8 e9 e10
                have hI9 := hI.later hp1
                have hO9 := hO.keep hp1
                have rz9 := rz.kept hp1
                have KB9 : Hid (Keep [g] w x1) := KB.out.trans (Keep.of_below hp1)
                clear hI hO rz KB hp1 CV CU
                have hI := hI9
                have hO := hO9
                have rz := rz9
                have KB := KB9
                clear hI9 hO9 rz9 KB9
                cases hlt9 : ltF u f
                · have HL9 : Hid (ltF u f = false) := hlt9
                  have hFa := refFail22 x1 g x n c b (failS 13 (p + 1) S3) 11 p hI
                  go_wp2_with fail
                  refine hFa.mono ?_
                  rintro e x2 ⟨rfl, hI9, k9⟩
                  clear hFa hI
                  have hI := hI9
                  have hO9 := OwnK.keeps hO k9 (fun q hq => by have := ZF.out.2.2 q hq; simpa using this.2)
                  clear hO
                  have hO := hO9
                  have KB9 : Hid (Keep [g] w x2) := KB.out.trans k9
                  clear KB
                  have KB := KB9
                  have rz9 := rz.keepsF k9 (by have := ZF.out; simp; omega)
                  clear rz
                  have rz := rz9
                  clear rz9
                  clear hI9 hO9 KB9 k9
                  have HE5 : Hid (bdF b L (p, 0, q) = (f, (failS 11 p (failS 13 (p + 1) S3)))) := by show _ = _; rw [HBD.out]; rw [if_neg (by rw [HO3.out, HL9.out]; simp)]
                  have ld := run_load_fd x2 zf rz.1 (by rw [rz.2]; rfl)
                  rw [rz.2] at ld
                  have bA := below_alloc x2 (.cells (fdA f) 25)
                  obtain ⟨g9, c9, w9, hra, hO8, -, hg8, -⟩ := run_app1K fdE_ok (x2.alloc (.cells (fdA f) 25)) w.heap.size x2.heap.size (.slice (some ⟨gl, 0, none⟩) i cl) L f 22 (hO.keep bA) (fd_lit_range x2 f) (by simp) (by show (L.length + 1) * 16 ≤ _; have := HN.out; have := HLL.out; have := HLT.out; omega) (by unfold maxLen; have := HN.out; have := HLL.out; have := HLT.out; omega) (Nat.le_trans KB.out.size bA.size)
                  rw [HLL.out] at hra hO8
                  have bB : Below w.heap.size (x2.alloc (.cells (fdA f) 25)) w9 := OwnK.below (hO.keep bA) hg8 (Nat.le_trans KB.out.size bA.size)
                  have HR : Hid (RrI w9 g x n c b (failS 11 p (failS 13 (p + 1) S3))) := (hI.later bA).keepO hg8 (hO.keep bA) (by have := ZG.out; omega)
                  have HO8 : Hid (OwnK fdE w9 w.heap.size (.slice (some ⟨g9, 0, none⟩) (i + 1) c9) (L ++ [f])) := hO8
                  have HK8 : Hid (Keep [g] w w9) := KB.out.appB ((bA.mono KB.out.size).trans bB)
                  clear hO8 hg8 bB bA hI hO KB rz
                  go_wp2_with (at_builtin; refine wpL_appG 22 rfl _ _ rfl _ w9 (by exact hra) ?_)
                  go_roundw
                  case rel => first | exact ⟨_, i + 1, L ++ [f], (failS 11 p (failS 13 (p + 1) S3)), rfl, by have := HLT.out; omega, by go_num, by simp [HLL.out], HO8.out, HR.out, HK8.out, HSTEP.out f (failS 11 p (failS 13 (p + 1) S3)) HE5.out⟩ | ((repeat apply Exists.intro); refine ⟨⟨_, i + 1, L ++ [f], (failS 11 p (failS 13 (p + 1) S3)), rfl, by have := HLT.out; omega, ?_, by simp [HLL.out], HO8.out, HR.out, HK8.out, HSTEP.out f (failS 11 p (failS 13 (p + 1) S3)) HE5.out⟩, rfl⟩; go_num)
                  case measure => have := HLT.out; simp [intOf]; omega
                · have HL9 : Hid (ltF u f = true) := hlt9
                  have HE5 : Hid (bdF b L (p, 0, q) = (f, (failS 13 (p + 1) S3))) := by show _ = _; rw [HBD.out]; rw [if_pos (by rw [HO3.out, HL9.out])]
                  have ld := run_load_fd x1 zf rz.1 (by rw [rz.2]; rfl)
                  rw [rz.2] at ld
                  have bA := below_alloc x1 (.cells (fdA f) 25)
                  obtain ⟨g9, c9, w9, hra, hO8, -, hg8, -⟩ := run_app1K fdE_ok (x1.alloc (.cells (fdA f) 25)) w.heap.size x1.heap.size (.slice (some ⟨gl, 0, none⟩) i cl) L f 22 (hO.keep bA) (fd_lit_range x1 f) (by simp) (by show (L.length + 1) * 16 ≤ _; have := HN.out; have := HLL.out; have := HLT.out; omega) (by unfold maxLen; have := HN.out; have := HLL.out; have := HLT.out; omega) (Nat.le_trans KB.out.size bA.size)
                  rw [HLL.out] at hra hO8
                  have bB : Below w.heap.size (x1.alloc (.cells (fdA f) 25)) w9 := OwnK.below (hO.keep bA) hg8 (Nat.le_trans KB.out.size bA.size)
                  have HR : Hid (RrI w9 g x n c b (failS 13 (p + 1) S3)) := (hI.later bA).keepO hg8 (hO.keep bA) (by have := ZG.out; omega)
                  have HO8 : Hid (OwnK fdE w9 w.heap.size (.slice (some ⟨g9, 0, none⟩) (i + 1) c9) (L ++ [f])) := hO8
                  have HK8 : Hid (Keep [g] w w9) := KB.out.appB ((bA.mono KB.out.size).trans bB)
                  clear hO8 hg8 bB bA hI hO KB rz
                  go_wp2_with (at_builtin; refine wpL_appG 22 rfl _ _ rfl _ w9 (by exact hra) ?_)
                  go_roundw
                  case rel => first | exact ⟨_, i + 1, L ++ [f], (failS 13 (p + 1) S3), rfl, by have := HLT.out; omega, by go_num, by simp [HLL.out], HO8.out, HR.out, HK8.out, HSTEP.out f (failS 13 (p + 1) S3) HE5.out⟩ | ((repeat apply Exists.intro); refine ⟨⟨_, i + 1, L ++ [f], (failS 13 (p + 1) S3), rfl, by have := HLT.out; omega, ?_, by simp [HLL.out], HO8.out, HR.out, HK8.out, HSTEP.out f (failS 13 (p + 1) S3) HE5.out⟩, rfl⟩; go_num)
                  case measure => have := HLT.out; simp [intOf]; omega
          · have HC2 : Hid (okA a = true) := hok2
            have d3 : ¬ (1023 : Int) < (a : Int) := by have := okA_yes hok2; omega
            clear hok2
            have HBD : Hid (bdF b L (p, 0, q) = (f, if behO ltF L.getLast? f = true then S3 else failS 11 p S3)) := by
              show _ = _
              unfold bdF
              simp only [HK1.out, HC1.out, HA.out, HC2.out, HF.out, Bool.false_eq_true, if_true, if_false]
            have CV : Hid (∀ y, Below W3.heap.size W3 y → (bigLoad 25 (.pointer (some ⟨zf, 0, none⟩))).run Tryz.prog y = .ok (.value (.agg (fdA f))) y) := fun y hy => by
              have h9 := run_load_fd y zf (rz.kept hy).1 (by rw [(rz.kept hy).2]; rfl)
              rw [(rz.kept hy).2] at h9
              exact h9
            by_cases h0 : i = 0
            · subst h0
              have HO3 : Hid (behO ltF L.getLast? f = true) := beh_at ltF L 0 f HLL.out rfl
              go_upto_region 13 with fail
              refine wp_reliesT [Fx (.int .i64 (((0 : Nat)) : Int)), Fx (.bool false), Fx (.bool false), Fx (undef), Fx (undef), Fx (undef), Fx (undef), Fx (undef), Fx (undef), Fx (undef), Fx (undef)] (by kernel_rfl) (by kernel_rfl) ?_ ?_ ?_
              · repeat' (first | exact all_nil | apply all_cons)
                all_goals intro v y y' hv hb
                all_goals first | exact Fx_mono _ _ _ _ hv hb
              · refine ⟨?_, ?_, ?_, ?_, ?_, ?_, ?_, ?_, ?_, ?_, ?_, trivial⟩
                all_goals
                  intro ρ y9 hp ρc ρg ρf ho hd
                  have o5 : ρ (.tmp 5) = .int .i64 (((0 : Nat)) : Int) := ho 5 rfl
                  clear ho
                  simp only [depsR, depR, slotR, Fx, List.getElem?_cons_succ, List.getElem?_cons_zero, Region.binds, forall_const] at hd
                  simp only [guardR]
                  go_split_ands
                · go_simp
                · go_simp
                  try (unfold Fx; simp)
                · go_simp
                · refine ⟨fun hy => ?_, fun _ => rfl⟩
                  exfalso; simp [yieldR, slotR, undef, *] at hy
                · refine ⟨fun hy => ?_, fun _ => rfl⟩
                  exfalso; simp [yieldR, slotR, undef, *] at hy
                · refine ⟨fun hy => ?_, fun _ => rfl⟩
                  exfalso; simp [yieldR, slotR, undef, *] at hy
                · refine ⟨fun hy => ?_, fun _ => rfl⟩
                  exfalso; simp [yieldR, slotR, undef, *] at hy
                · refine ⟨fun hy => ?_, fun _ => rfl⟩
                  exfalso; simp [yieldR, slotR, undef, *] at hy
                · refine ⟨fun hy => ?_, fun _ => rfl⟩
                  exfalso; simp [yieldR, slotR, undef, *] at hy
                · refine ⟨fun hy => ?_, fun _ => rfl⟩
                  exfalso; simp [yieldR, slotR, undef, *] at hy
                · refine ⟨fun hy => ?_, fun _ => rfl⟩
                  exfalso; simp [yieldR, slotR, undef, *] at hy
              · intro us x1 hp1 hw
                simp only [owed, Fx] at hw
                obtain ⟨e0, e1, e2, e3, e4, e5, e6, e7, e8, e9, e10, -⟩ := hw
                simp only [List.length_cons, List.length_nil, List.take_succ_cons, List.take_zero, List.drop_succ_cons, List.drop_zero, asg, List.cons_append, List.nil_append, e0, e1, e2, e3, e4, e5, e6, e7, e8, e9, e10]
                clear e0 e1 e2 e3 e4 e5 e6 e7 e8 e9 e10
                have hI9 := hI.later hp1
                have hO9 := hO.keep hp1
                have rz9 := rz.kept hp1
                have KB9 : Hid (Keep [g] w x1) := KB.out.trans (Keep.of_below hp1)
                clear hI hO rz KB hp1 CV
                have hI := hI9
                have hO := hO9
                have rz := rz9
                have KB := KB9
                clear hI9 hO9 rz9 KB9
                have HE5 : Hid (bdF b L (p, 0, q) = (f, S3)) := by show _ = _; rw [HBD.out]; rw [if_pos HO3.out]
                have ld := run_load_fd x1 zf rz.1 (by rw [rz.2]; rfl)
                rw [rz.2] at ld
                have bA := below_alloc x1 (.cells (fdA f) 25)
                obtain ⟨g9, c9, w9, hra, hO8, -, hg8, -⟩ := run_app1K fdE_ok (x1.alloc (.cells (fdA f) 25)) w.heap.size x1.heap.size lv L f 22 (hO.keep bA) (fd_lit_range x1 f) (by simp) (by show (L.length + 1) * 16 ≤ _; have := HN.out; have := HLL.out; have := HLT.out; omega) (by unfold maxLen; have := HN.out; have := HLL.out; have := HLT.out; omega) (Nat.le_trans KB.out.size bA.size)
                rw [HLL.out] at hra hO8
                have bB : Below w.heap.size (x1.alloc (.cells (fdA f) 25)) w9 := OwnK.below (hO.keep bA) hg8 (Nat.le_trans KB.out.size bA.size)
                have HR : Hid (RrI w9 g x n c b S3) := (hI.later bA).keepO hg8 (hO.keep bA) (by have := ZG.out; omega)
                have HO8 : Hid (OwnK fdE w9 w.heap.size (.slice (some ⟨g9, 0, none⟩) (0 + 1) c9) (L ++ [f])) := hO8
                have HK8 : Hid (Keep [g] w w9) := KB.out.appB ((bA.mono KB.out.size).trans bB)
                clear hO8 hg8 bB bA hI hO KB rz
                go_wp2_with (at_builtin; refine wpL_appG 22 rfl _ _ rfl _ w9 (by exact hra) ?_)
                go_roundw
                case rel => first | exact ⟨_, 0 + 1, L ++ [f], S3, rfl, by have := HLT.out; omega, by go_num, by simp [HLL.out], HO8.out, HR.out, HK8.out, HSTEP.out f S3 HE5.out⟩ | ((repeat apply Exists.intro); refine ⟨⟨_, 0 + 1, L ++ [f], S3, rfl, by have := HLT.out; omega, ?_, by simp [HLL.out], HO8.out, HR.out, HK8.out, HSTEP.out f S3 HE5.out⟩, rfl⟩; go_num)
                case measure => have := HLT.out; simp [intOf]; omega
            · obtain ⟨u, hu, hlast⟩ := last_get L i HLL.out (by omega)
              obtain ⟨gl, cl, rfl⟩ : ∃ gl cl, lv = .slice (some ⟨gl, 0, none⟩) i cl := by
                obtain ⟨y9, c9, rfl⟩ := (hO.isK fdE_ok).len
                obtain ⟨g9, rfl, -⟩ := OwnK.form hO (by have := HLL.out; omega)
                exact ⟨g9, c9, by rw [HLL.out]⟩
              have CU : Hid (∀ y, Below W3.heap.size W3 y → (bigLoad 25 (.pointer (some ⟨gl, (i - 1) * 2, none⟩))).run Tryz.prog y = .ok (.value (.agg (fdA u))) y) := fun y hy => by
                obtain ⟨b', o', he, -, -, -, k1, k2⟩ := fd_at ((hO.isK fdE_ok).kept hy) (i - 1) u hu
                cases he
                rw [Nat.zero_add] at k1 k2
                have h9 := run_fd_mid y _ _ k1
                rw [k2] at h9
                exact h9
              have HO3 : Hid (behO ltF L.getLast? f = ltF u f) := by show _ = _; rw [hlast]; rfl
              have wk1 : IntKind.i64.wrap ((i : Int) - 1) = ((i - 1 : Nat) : Int) := by rw [IntKind.wrap_i64]; have := HLT.out; have := HN.out; omega
              have j0 : (0 : Int) ≤ ((i - 1 : Nat) : Int) := by omega
              have j1 : ((i - 1 : Nat) : Int) < (i : Int) := by omega
              have j2 : (0 : Int) < (i : Int) := by omega
              clear hu hlast
              go_upto_region 13 with fail
              refine wp_reliesT [Fx (.int .i64 (i : Int)), Fx (.bool true), Fx (.bool true), Fx (.slice (some ⟨gl, 0, none⟩) i cl), Fx (.int .i64 (i : Int)), Fx (.int .i64 (((i - 1 : Nat)) : Int)), Fx (.pointer (some ⟨gl, (i - 1) * 2, none⟩)), Fx (.agg (fdA u)), Fx (.agg (fdA f)), Fx (.bool (ltF u f)), Fx (.bool (!ltF u f))] (by kernel_rfl) (by kernel_rfl) ?_ ?_ ?_
              · repeat' (first | exact all_nil | apply all_cons)
                all_goals intro v y y' hv hb
                all_goals first | exact Fx_mono _ _ _ _ hv hb
              · refine ⟨?_, ?_, ?_, ?_, ?_, ?_, ?_, ?_, ?_, ?_, ?_, trivial⟩
                all_goals
                  intro ρ y9 hp ρc ρg ρf ho hd
                  have o3 : ρ (.tmp 3) = .slice (some ⟨gl, 0, none⟩) i cl := ho 3 rfl
                  have o5 : ρ (.tmp 5) = .int .i64 (i : Int) := ho 5 rfl
                  have o7 : ρ (.tmp 7) = .pointer (some ⟨zf, 0, none⟩) := ho 7 rfl
                  clear ho
                  have z9 := CV.out y9 hp
                  simp only [depsR, depR, slotR, Fx, List.getElem?_cons_succ, List.getElem?_cons_zero, Region.binds, forall_const] at hd
                  simp only [guardR]
                  go_split_ands
                · go_simp
                · go_simp
                  try (unfold Fx; simp; omega)
                · go_simp
                · refine ⟨fun _ => ?_, fun hy => absurd (by simp [yieldR, slotR, *]) hy⟩
                  go_simp
                · refine ⟨fun _ => ?_, fun hy => absurd (by simp [yieldR, slotR, *]) hy⟩
                  go_simp
                · refine ⟨fun _ => ?_, fun hy => absurd (by simp [yieldR, slotR, *]) hy⟩
                  go_simp
                  try exact wk1
                · refine ⟨fun _ => ?_, fun hy => absurd (by simp [yieldR, slotR, *]) hy⟩
                  go_simp
                · refine ⟨fun _ => ?_, fun hy => absurd (by simp [yieldR, slotR, *]) hy⟩
                  have z1 := CU.out y9 hp
                  go_simp
                · refine ⟨fun _ => ?_, fun hy => absurd (by simp [yieldR, slotR, *]) hy⟩
                  go_simp
                · refine ⟨fun _ => ?_, fun hy => absurd (by simp [yieldR, slotR, *]) hy⟩
                  go_simp
                  exact (refAhead22 _ _ _).mono fun e w' ⟨q1, q2⟩ => ⟨_, q1, rfl, q2⟩
                · refine ⟨fun _ => ?_, fun hy => absurd (by simp [yieldR, slotR, *]) hy⟩
                  go_simp
              · intro us x1 hp1 hw
                simp only [owed, Fx] at hw
                obtain ⟨e0, e1, e2, e3, e4, e5, e6, e7, e8, e9, e10, -⟩ := hw
                simp only [List.length_cons, List.length_nil, List.take_succ_cons, List.take_zero, List.drop_succ_cons, List.drop_zero, asg, List.cons_append, List.nil_append, e0, e1, e2, e3, e4, e5, e6, e7, e8, e9, e10]
                clear e0 e1 e2 e3 e4 e5 e6 e7 e8 e9 e10
                have hI9 := hI.later hp1
                have hO9 := hO.keep hp1
                have rz9 := rz.kept hp1
                have KB9 : Hid (Keep [g] w x1) := KB.out.trans (Keep.of_below hp1)
                clear hI hO rz KB hp1 CV CU
                have hI := hI9
                have hO := hO9
                have rz := rz9
                have KB := KB9
                clear hI9 hO9 rz9 KB9
                cases hlt9 : ltF u f
                · have HL9 : Hid (ltF u f = false) := hlt9
                  have hFa := refFail22 x1 g x n c b S3 11 p hI
                  go_wp2_with fail
                  refine hFa.mono ?_
                  rintro e x2 ⟨rfl, hI9, k9⟩
                  clear hFa hI
                  have hI := hI9
                  have hO9 := OwnK.keeps hO k9 (fun q hq => by have := ZF.out.2.2 q hq; simpa using this.2)
                  clear hO
                  have hO := hO9
                  have KB9 : Hid (Keep [g] w x2) := KB.out.trans k9
                  clear KB
                  have KB := KB9
                  have rz9 := rz.keepsF k9 (by have := ZF.out; simp; omega)
                  clear rz
                  have rz := rz9
                  clear rz9
                  clear hI9 hO9 KB9 k9
                  have HE5 : Hid (bdF b L (p, 0, q) = (f, (failS 11 p S3))) := by show _ = _; rw [HBD.out]; rw [if_neg (by rw [HO3.out, HL9.out]; simp)]
                  have ld := run_load_fd x2 zf rz.1 (by rw [rz.2]; rfl)
                  rw [rz.2] at ld
                  have bA := below_alloc x2 (.cells (fdA f) 25)
                  obtain ⟨g9, c9, w9, hra, hO8, -, hg8, -⟩ := run_app1K fdE_ok (x2.alloc (.cells (fdA f) 25)) w.heap.size x2.heap.size (.slice (some ⟨gl, 0, none⟩) i cl) L f 22 (hO.keep bA) (fd_lit_range x2 f) (by simp) (by show (L.length + 1) * 16 ≤ _; have := HN.out; have := HLL.out; have := HLT.out; omega) (by unfold maxLen; have := HN.out; have := HLL.out; have := HLT.out; omega) (Nat.le_trans KB.out.size bA.size)
                  rw [HLL.out] at hra hO8
                  have bB : Below w.heap.size (x2.alloc (.cells (fdA f) 25)) w9 := OwnK.below (hO.keep bA) hg8 (Nat.le_trans KB.out.size bA.size)
                  have HR : Hid (RrI w9 g x n c b (failS 11 p S3)) := (hI.later bA).keepO hg8 (hO.keep bA) (by have := ZG.out; omega)
                  have HO8 : Hid (OwnK fdE w9 w.heap.size (.slice (some ⟨g9, 0, none⟩) (i + 1) c9) (L ++ [f])) := hO8
                  have HK8 : Hid (Keep [g] w w9) := KB.out.appB ((bA.mono KB.out.size).trans bB)
                  clear hO8 hg8 bB bA hI hO KB rz
                  go_wp2_with (at_builtin; refine wpL_appG 22 rfl _ _ rfl _ w9 (by exact hra) ?_)
                  go_roundw
                  case rel => first | exact ⟨_, i + 1, L ++ [f], (failS 11 p S3), rfl, by have := HLT.out; omega, by go_num, by simp [HLL.out], HO8.out, HR.out, HK8.out, HSTEP.out f (failS 11 p S3) HE5.out⟩ | ((repeat apply Exists.intro); refine ⟨⟨_, i + 1, L ++ [f], (failS 11 p S3), rfl, by have := HLT.out; omega, ?_, by simp [HLL.out], HO8.out, HR.out, HK8.out, HSTEP.out f (failS 11 p S3) HE5.out⟩, rfl⟩; go_num)
                  case measure => have := HLT.out; simp [intOf]; omega
                · have HL9 : Hid (ltF u f = true) := hlt9
                  have HE5 : Hid (bdF b L (p, 0, q) = (f, S3)) := by show _ = _; rw [HBD.out]; rw [if_pos (by rw [HO3.out, HL9.out])]
                  have ld := run_load_fd x1 zf rz.1 (by rw [rz.2]; rfl)
                  rw [rz.2] at ld
                  have bA := below_alloc x1 (.cells (fdA f) 25)
                  obtain ⟨g9, c9, w9, hra, hO8, -, hg8, -⟩ := run_app1K fdE_ok (x1.alloc (.cells (fdA f) 25)) w.heap.size x1.heap.size (.slice (some ⟨gl, 0, none⟩) i cl) L f 22 (hO.keep bA) (fd_lit_range x1 f) (by simp) (by show (L.length + 1) * 16 ≤ _; have := HN.out; have := HLL.out; have := HLT.out; omega) (by unfold maxLen; have := HN.out; have := HLL.out; have := HLT.out; omega) (Nat.le_trans KB.out.size bA.size)
                  rw [HLL.out] at hra hO8
                  have bB : Below w.heap.size (x1.alloc (.cells (fdA f) 25)) w9 := OwnK.below (hO.keep bA) hg8 (Nat.le_trans KB.out.size bA.size)
                  have HR : Hid (RrI w9 g x n c b S3) := (hI.later bA).keepO hg8 (hO.keep bA) (by have := ZG.out; omega)
                  have HO8 : Hid (OwnK fdE w9 w.heap.size (.slice (some ⟨g9, 0, none⟩) (i + 1) c9) (L ++ [f])) := hO8
                  have HK8 : Hid (Keep [g] w w9) := KB.out.appB ((bA.mono KB.out.size).trans bB)
                  clear hO8 hg8 bB bA hI hO KB rz
                  go_wp2_with (at_builtin; refine wpL_appG 22 rfl _ _ rfl _ w9 (by exact hra) ?_)
                  go_roundw
                  case rel => first | exact ⟨_, i + 1, L ++ [f], S3, rfl, by have := HLT.out; omega, by go_num, by simp [HLL.out], HO8.out, HR.out, HK8.out, HSTEP.out f S3 HE5.out⟩ | ((repeat apply Exists.intro); refine ⟨⟨_, i + 1, L ++ [f], S3, rfl, by have := HLT.out; omega, ?_, by simp [HLL.out], HO8.out, HR.out, HK8.out, HSTEP.out f S3 HE5.out⟩, rfl⟩; go_num)
                  case measure => have := HLT.out; simp [intOf]; omega
          
      · have he' : ¬ ((e0 : Nat) : Int) = 0 := by omega
        have c2 : wr.cell? ⟨g, 2, none⟩ = some (.int .i64 (e0 : Int)) := by rw [hI.row.cell]; rfl
        rw [loopS_no (S := (p, e0, q)) hT0] at hRES
        subst hRES
        go_wp2
        go_ret
        exact ⟨_, rfl, hO, hI, hKw⟩
    · obtain rfl : N = i := by omega
      have i0 : ¬ (N : Int) < (N : Int) := by omega
      rw [Nat.sub_self] at hRES
      have hR : (L, T) = RES := hRES
      subst hR
      clear hRES
      go_wp2
      go_ret
      exact ⟨_, rfl, hO, hI, hKw⟩
end Go.Proofs.YtklbdhpnbjhgkaaGreatDoor
