import Derived.Test.YtadnfiikfhdphaaQAns
import Derived.Test.YtadnfiikfhdphaaQStay5
import Derived.Test.YtadnfiikfhdphaaQStn
import Derived.Test.YtadnfiikfhdphaaQDsg
import Derived.Test.YtadnfiikfhdphaaQDvk
import Derived.Test.YtadnfiikfhdphaaQOpenDev
namespace Go.Proofs.Ytadnfiikfhdphaa
open Go.RowKit

/-! DeviceScript -/
theorem rg_on5 {w x : World} {b o k : Nat} {a : Array Value} (hp : Below w.heap.size w x) (hl : b < w.heap.size) (h1 : rgOk w b o k = true) (h2 : rg w b o k = a) : rgOk x b o k = true ∧ rg x b o k = a := by
  obtain ⟨e1, e2⟩ := rg_later hp hl o k
  exact ⟨by rw [e1]; exact h1, by rw [e2]; exact h2⟩
theorem row_cells5 {W : World} {B : Nat} {T : Nat → Option Th} {g : Nat} {b : Bk} (h : Ga W B T) (hk : T 16 = some (thRow g (bkA b))) : W.cell? ⟨g, 0, none⟩ = some b.S.v ∧ True := by
  have hR := h.isRow hk
  exact ⟨by rw [hR.cell 0]; rfl, trivial⟩
theorem map_set5 {ps : List Pr5} {k : Nat} {p q : Pr5} (f : Pr5 → Value) (hp : ps[k]? = some p) (he : f q = f p) : (ps.set k q).map f = ps.map f := by
  rw [List.map_set, he]
  apply List.ext_getElem?
  intro j
  rw [List.getElem?_set]
  split
  · rename_i hj; subst hj
    split
    · rw [List.getElem?_map, hp]; rfl
    · rename_i hj; rw [List.getElem?_eq_none (by omega)]
  · rfl
def s165 : Sc := upd secZ 0 165
def s166 : Sc := upd secZ 0 166
@[go_sem] theorem run_secB165 (w : World) : (secBuild1 (.int .u8 165)).run Try.prog w = .ok (.value (.agg (secA s165))) w := by
  simp only [secBuild1, Sem.run_bind]
  rw [run_build w 27 #[(0, .int .u8 165)] (secA s165) (by kernel_rfl)]; rfl
@[go_sem] theorem run_secB166 (w : World) : (secBuild1 (.int .u8 166)).run Try.prog w = .ok (.value (.agg (secA s166))) w := by
  simp only [secBuild1, Sem.run_bind]
  rw [run_build w 27 #[(0, .int .u8 166)] (secA s166) (by kernel_rfl)]; rfl
set_option linter.unusedSimpArgs false in
set_option linter.unusedVariables false in
set_option maxRecDepth 100000 in
set_option maxHeartbeats 16000000 in
theorem lawDevScript_any (n0 : Int) (xf : Option Addr) (nf cf : Nat) (fs : List UInt8) (xs : Option Addr) (ns cs : Nat) (os : List OpF) (w : World) (hnf : fs.length = nf) (hf : IsB w (.slice xf nf cf) fs) (hns : os.length = ns) (hmax : ns ≤ 1048576) (hO : IsOpFs w (.slice xs ns cs) os) (hob : ∀ o ∈ os, o.bs.length ≤ 1048576) (hn0 : -9223372036854775808 ≤ n0) (hn1 : n0 ≤ 9223372036854775807) :
    Calls Try.prog 3 #[.int .i64 n0, .slice xf nf cf, .slice xs ns cs] w fun e w' => e = .returned (.bool true) ∧ Below w.heap.size w w' := by
  go_enter Try.func3, Try.ntmps3
  go_upto_region 1 with fail
  rename_i Q1 K1 hK1 K2 hK2
  have hrest : ∀ (N : Nat) (hN : N ≤ 1030) (u20 u21 u22 u23 u24 u25 : Value), K1 { tmps := #[.int .i64 (N : Int), .slice xf nf cf, .slice xs ns cs, undef, undef, undef, .bool false, undef, undef, undef, undef, undef, undef, undef, undef, undef, undef, undef, undef, undef, u20, u21, u22, u23, u24, u25, undef, undef, undef, undef, undef, undef, undef, undef, undef, undef, undef, undef, undef, undef, undef, undef, undef, undef, undef, undef, undef, undef, undef, undef, undef, undef, undef, undef, undef, undef, undef, undef, undef, undef, undef, undef, undef, undef, undef, undef, undef, undef, undef, undef, undef, undef, undef, undef, undef, undef, undef, undef, undef, undef, undef, undef, undef, undef, undef, undef, undef, undef, undef, undef, undef, undef, undef, undef, undef, undef, undef, undef, undef, undef, undef, undef, undef, undef, undef, undef, undef, undef, undef, undef, undef, undef, undef, undef, undef, undef, undef, undef, undef, undef, undef, undef, undef, undef, undef, undef, undef, undef, undef, undef, undef, undef, undef, undef, undef, undef, undef, undef, undef, undef, undef, undef, undef, undef, undef, undef, undef, undef, undef, undef, undef, undef, undef, undef, undef, undef, undef, undef, undef, undef, undef, undef, undef, undef, undef, undef, undef, undef, undef, undef, undef, undef, undef, undef, undef, undef, undef, undef, undef, undef, undef, undef, undef, undef, undef, undef, undef, undef, undef, undef, undef, undef, undef, undef, undef], defers := [] } w := by
    intro N hN u20 u21 u22 u23 u24 u25
    refine hK1 _ _ ?_
    clear hK1 hK2 hn0 hn1
    have HF : Hid (IsB w (.slice xf nf cf) fs) := hf
    clear hf
    go_wp2_with fail
    go_at_call 4
    refine (fill_any N (by omega) xf cf nf fs w hnf HF.out).mono ?_
    rintro e w1 ⟨y1, c1, rfl, hO1, hb1⟩
    have hA1 := below_alloc w1 (.cells (secA s165) 27)
    obtain ⟨g, cg, w2, hr2, hO2, -, hg2, -⟩ := run_app1K secE_ok (w1.alloc (.cells (secA s165) 27)) w.heap.size w1.heap.size (.slice y1 N c1) (fillL N fs) s165 24 (hO1.keep hA1) (fun j u hu => by
      rw [Nat.zero_add, cell_of_row _ _ j _ _ _ (heap_alloc_last w1 _), ← Array.getElem?_toList]
      simpa [secE] using hu) (by simp) (by rw [fillL_len]; show (N + 1) * 64 ≤ _; omega) (by rw [fillL_len]; unfold maxLen; omega) (by have := hb1.size; simp; omega)
    rw [fillL_len] at hr2 hO2
    have hT9 : secE.S = 24 := rfl
    rw [hT9] at hr2
    have hB2 : Below w.heap.size w w2 := by
      have hk := (Keep.of_grown (F := (Value.slice y1 N c1).ownBlock.toList) hg2 (fun q hq => by rw [hq]; simp)).below (B := w.heap.size) (fun q hq => (World.ownsRow.lt hO1 q (by simpa using hq)).1) (by have := hb1.size; simp; omega)
      exact hb1.trans ((hA1.mono hb1.size).trans hk)
    have g2 := (Ga.start (W := w) (B := w.heap.size) (Nat.le_refl _)).newK 0 hB2 hO2
    have hcut := hO2.cut secE_ok N (by omega)
    rw [List.take_left' (fillL_len N fs)] at hcut
    have hcg : N + 1 ≤ cg := by
      obtain ⟨cur, a1, a2, a3, a4, a5, a6, a7⟩ := hO2.heap
      omega
    have FC : Hid ((N : Int) ≤ (cg : Int)) := by show _ ≤ _; omega
    clear hg2 hO1 hb1 hA1
    go_upto_region 4 with (at_builtin; refine wpL_appT 24 rfl _ _ rfl _ w2 (by exact hr2) ?_)
    clear hr2 hT9
    have hq9 : (N : Int) ≤ (cg : Int) := by omega
    go_wp2_with fail
    go_at_call 5
    refine (devOk.new w2 (some ⟨g, 0, none⟩) N cg (fillL N fs) (fillL_len _ _) (hcut.isK secE_ok) (by omega)).mono ?_
    rintro e w3 ⟨hb3, h3⟩
    clear hcut hO2 hq9
    by_cases hyes : 64 ≤ N ∧ N ≤ 1024
    · obtain ⟨-, -, d, FD, RD, rfl, hD, hRD⟩ := h3.resolve_right (fun h9 => h9.1 hyes)
      obtain ⟨da, rfl⟩ := devOk.ptr hD
      have g3 := g2.add (k := 1) (t' := thD (.pointer (some da)) (newS (fillL N fs))) hb3 ⟨FD, RD, hD, fun q hq => hRD q (devOk.sub hD q hq), hRD⟩
      clear h3
      have hB3 : Below w.heap.size w w3 := hB2.trans (hb3.mono hB2.size)
      go_wp2_with fail
      go_at_call 4
      refine (fill_any N (by omega) xf cf nf fs w3 hnf (HF.out.kept hB3)).mono ?_
      rintro e w4 ⟨y4, c4, rfl, hO4, hb4⟩
      have g4 := g3.later hb4
      have hB4 : Below w.heap.size w w4 := hB3.trans (hb4.mono hB3.size)
      go_wp2_with fail
      go_at_call 6
      refine (refNew_any w4 y4 N c4 (fillL N fs) (fillL_len _ _) (hO4.isK secE_ok) (by omega)).mono ?_
      rintro e w5 ⟨hb5, h5⟩
      have hB5 : Below w.heap.size w w5 := hB4.trans (hb5.mono hB4.size)
      obtain ⟨-, -, rr, FR, rfl, hRf⟩ := h5.resolve_right (fun h9 => h9.1 hyes)
      have g5 := g4.add (k := 2) (t' := thRf w.heap.size rr (newS (fillL N fs))) hb5 ⟨FR, FR, ⟨hRf.leB hB4.size, rfl⟩, fun q hq => (hRf.lt q hq).1, fun q hq => (hRf.lt q hq).1⟩
      have t0 : updT (updT (updT (fun _ => none) 0 (thK secE w.heap.size (.slice (some ⟨g, 0, none⟩) (N + 1) cg) (fillL N fs ++ [s165]))) 1 (thD (.pointer (some da)) (newS (fillL N fs)))) 2 (thRf w.heap.size rr (newS (fillL N fs))) 0 = some (thK secE w.heap.size (.slice (some ⟨g, 0, none⟩) (N + 1) cg) (fillL N fs ++ [s165])) := by simp [updT]
      have t1 : updT (updT (updT (fun _ => none) 0 (thK secE w.heap.size (.slice (some ⟨g, 0, none⟩) (N + 1) cg) (fillL N fs ++ [s165]))) 1 (thD (.pointer (some da)) (newS (fillL N fs)))) 2 (thRf w.heap.size rr (newS (fillL N fs))) 1 = some (thD (.pointer (some da)) (newS (fillL N fs))) := by simp [updT]
      have t2 : updT (updT (updT (fun _ => none) 0 (thK secE w.heap.size (.slice (some ⟨g, 0, none⟩) (N + 1) cg) (fillL N fs ++ [s165]))) 1 (thD (.pointer (some da)) (newS (fillL N fs)))) 2 (thRf w.heap.size rr (newS (fillL N fs))) 2 = some (thRf w.heap.size rr (newS (fillL N fs))) := by simp [updT]
      generalize updT (updT (updT (fun _ => none) 0 (thK secE w.heap.size (.slice (some ⟨g, 0, none⟩) (N + 1) cg) (fillL N fs ++ [s165]))) 1 (thD (.pointer (some da)) (newS (fillL N fs)))) 2 (thRf w.heap.size rr (newS (fillL N fs))) = T5 at g5 t0 t1 t2
      have hl5 := g5.isK t0
      have hcut5 := hl5.cut secE_ok N (by omega)
      rw [List.take_left' (fillL_len N fs)] at hcut5
      obtain ⟨ok1, rg1⟩ := rg_of (hl5.range secE_ok N s165 (by rw [List.getElem?_append_right (by simp [fillL_len]), fillL_len]; simp)) (secE_ok.len _)
      have e1 : secE.k = 64 := rfl
      have e2 : (secE.enc s165).toArray = secA s165 := by simp only [secE, Array.toArray_toList]
      rw [e2] at rg1
      rw [e1] at ok1 rg1
      have HRG : Hid (rgOk w5 g (N * 64) 64 = true ∧ rg w5 g (N * 64) 64 = secA s165) := ⟨ok1, rg1⟩
      have HLT : Hid (g < w5.heap.size) := (World.ownsRow.lt hl5 g rfl).2
      have HCUT : Hid (OwnK secE w5 w.heap.size (.slice (some ⟨g, 0, none⟩) N cg) (fillL N fs)) := hcut5
      have HEQ : Hid (secEq s165 s165 = true) := by show _ = _; rw [secEq_dec]; simp
      have FN : Hid ((N : Int) < (N : Int) + 1) := by show _ < _; omega
      have HF0 : Hid (IsB w (.slice xf nf cf) fs) := HF.out
      have HF : Hid (IsB w5 (.slice xf nf cf) fs) := HF0.out.kept hB5
      have HGA : Hid (Ga w5 w.heap.size T5) := g5
      have HT : Hid (T5 0 = some (thK secE w.heap.size (.slice (some ⟨g, 0, none⟩) (N + 1) cg) (fillL N fs ++ [s165])) ∧ T5 1 = some (thD (.pointer (some da)) (newS (fillL N fs))) ∧ T5 2 = some (thRf w.heap.size rr (newS (fillL N fs))) ) := ⟨t0, t1, t2⟩
      have HB5 : Hid (Below w.heap.size w w5) := hB5
      clear g2 g3 g4 g5 hb3 hb4 hb5 hB2 hB3 hB4 hB5 hO4 h5 hl5 hcut5 ok1 rg1 e1 e2 t0 t1 t2 hRf hD hRD
      go_upto_region 6 with fail
      refine wp_relies [Fx (.bool true), Fx (.bool false), Fx (.bool false), Fx (.int .i64 (0)), Fx (.int .i64 (0)), Fx (.bool false), Fx (.bool false), Fx (.bool false), Fx (.pointer (some da)), Fx (.bool false), Fx (.pointer (some ⟨rr, 0, none⟩)), Fx (.bool false), Fx (.bool false), Fx (.bool false), Fx (.bool false), Fx (.slice (some ⟨g, 0, none⟩) (N + 1) cg), Fx (.int .i64 ((N : Int))), Fx (.slice (some ⟨g, 0, none⟩) N cg), Fx (.int .i64 ((N : Int))), Fx (.slice xf nf cf), SlD secE N (fillL N fs), Fx (.bool true), Fx (.bool false), Fx (.bool false), Fx (.bool false), Fx (.slice (some ⟨g, 0, none⟩) (N + 1) cg), Fx (.int .i64 ((N : Int))), Fx (.pointer (some ⟨g, N * 64, none⟩)), Fx (.agg (secA s165)), Fx (.agg (secA s165)), Fx (.bool false), Fx (.bool false)] (by kernel_rfl) (by kernel_rfl) ?_ ?_ ?_
      · repeat' (first | exact all_nil | apply all_cons)
        all_goals intro v y y' hv hb
        all_goals first | exact Fx_mono _ _ _ _ hv hb | exact SlD.keep hv hb
      · refine ⟨?_, ?_, ?_, ?_, ?_, ?_, ?_, ?_, ?_, ?_, ?_, ?_, ?_, ?_, ?_, ?_, ?_, ?_, ?_, ?_, ?_, ?_, ?_, ?_, ?_, ?_, ?_, ?_, ?_, ?_, ?_, ?_, trivial⟩
        all_goals
          intro ρ x hp ρc ρg ρf ho hd
          have o0 : ρ (.tmp 0) = .int .i64 ((N : Int)) := ho 0 rfl
          have o1 : ρ (.tmp 1) = .slice xf nf cf := ho 1 rfl
          have o7 : ρ (.tmp 7) = .slice (some ⟨g, 0, none⟩) (N + 1) cg := ho 7 rfl
          have o8 : ρ (.tmp 8) = .pointer (some da) := ho 8 rfl
          have o9 : ρ (.tmp 9) = .int .i64 (0) := ho 9 rfl
          have o10 : ρ (.tmp 10) = .pointer (some ⟨rr, 0, none⟩) := ho 10 rfl
          have o11 : ρ (.tmp 11) = .int .i64 (0) := ho 11 rfl
          clear ho
          obtain ⟨z1, z2⟩ := rg_on5 hp HLT.out HRG.out.1 HRG.out.2
          have hEq := HEQ.out
          simp only [depsR, depR, slotR, Fx, List.getElem?_cons_succ, List.getElem?_cons_zero, Region.binds, forall_const] at hd
          simp only [guardR]
          go_split_ands
        · go_simp
          refine (knownDev devOk devNil x).mono ?_
          rintro e x' ⟨rfl, hb⟩
          exact ⟨_, rfl, rfl, hb⟩
        · go_simp
        · go_simp
        · refine ⟨fun _ => ?_, fun hy => absurd (by simp [yieldR, slotR, *]) hy⟩
          go_simp
        · refine ⟨fun _ => ?_, fun hy => absurd (by simp [yieldR, slotR, *]) hy⟩
          go_simp
        · refine ⟨fun _ => ?_, fun hy => absurd (by simp [yieldR, slotR, *]) hy⟩
          go_simp
        · go_simp
        · go_simp
        · refine ⟨fun _ => ?_, fun hy => absurd (by simp [yieldR, slotR, *]) hy⟩
          go_simp
        · refine ⟨fun _ => ?_, fun hy => absurd (by simp [yieldR, slotR, *]) hy⟩
          go_simp
        · refine ⟨fun _ => ?_, fun hy => absurd (by simp [yieldR, slotR, *]) hy⟩
          go_simp
        · refine ⟨fun _ => ?_, fun hy => absurd (by simp [yieldR, slotR, *]) hy⟩
          go_simp
        · refine ⟨fun _ => ?_, fun hy => absurd (by simp [yieldR, slotR, *]) hy⟩
          go_simp
        · go_simp
        · go_simp
        · refine ⟨fun _ => ?_, fun hy => absurd (by simp [yieldR, slotR, *]) hy⟩
          go_simp
        · refine ⟨fun _ => ?_, fun hy => absurd (by simp [yieldR, slotR, *]) hy⟩
          go_simp
        · refine ⟨fun _ => ?_, fun hy => absurd (by simp [yieldR, slotR, *]) hy⟩
          have hq := FN.out
          have hq2 := FC.out
          go_simp
        · refine ⟨fun _ => ?_, fun hy => absurd (by simp [yieldR, slotR, *]) hy⟩
          go_simp
        · refine ⟨fun _ => ?_, fun hy => absurd (by simp [yieldR, slotR, *]) hy⟩
          go_simp
        · refine ⟨fun _ => ?_, fun hy => absurd (by simp [yieldR, slotR, *]) hy⟩
          go_simp
          refine (fill_any N (by omega) xf cf nf fs x hnf (HF.out.kept hp)).mono ?_
          rintro e x' ⟨y9, c9, rfl, ho9, hb⟩
          exact ⟨_, rfl, ⟨y9, c9, rfl, ho9.le (Nat.zero_le _)⟩, hb⟩
        · refine ⟨fun _ => ?_, fun hy => absurd (by simp [yieldR, slotR, *]) hy⟩
          obtain ⟨y9, c9, hv, ho9⟩ : SlD secE N (fillL N fs) (ρ (.tmp 66)) x := by first | exact hd.2.1 | exact hd.1 | assumption
          go_simp
          refine (sameS_any (some ⟨g, 0, none⟩) y9 cg c9 N N (fillL N fs) (fillL N fs) x (fillL_len _ _) (fillL_len _ _) (OwnK.isK secE_ok (OwnK.keep HCUT.out hp)) (OwnK.isK secE_ok ho9) (by omega)).mono ?_
          rintro e x' ⟨rfl, hb⟩
          exact ⟨_, rfl, by rw [decide_eq_true rfl]; rfl, hb⟩
        · refine ⟨fun _ => ?_, fun hy => absurd (by simp [yieldR, slotR, *]) hy⟩
          go_simp
        · go_simp
        · go_simp
        · refine ⟨fun _ => ?_, fun hy => absurd (by simp [yieldR, slotR, *]) hy⟩
          go_simp
        · refine ⟨fun _ => ?_, fun hy => absurd (by simp [yieldR, slotR, *]) hy⟩
          go_simp
        · refine ⟨fun _ => ?_, fun hy => absurd (by simp [yieldR, slotR, *]) hy⟩
          have hq := FN.out
          have hq2 := FC.out
          go_simp
        · refine ⟨fun _ => ?_, fun hy => absurd (by simp [yieldR, slotR, *]) hy⟩
          go_simp
        · refine ⟨fun _ => ?_, fun hy => absurd (by simp [yieldR, slotR, *]) hy⟩
          go_simp
        · refine ⟨fun _ => ?_, fun hy => absurd (by simp [yieldR, slotR, *]) hy⟩
          go_simp
        · go_simp
      · intro vs x6 hp hw
        simp only [owed, Fx] at hw
        obtain ⟨e0, e1, e2, e3, e4, e5, e6, e7, e8, e9, e10, e11, e12, e13, e14, e15, e16, e17, e18, e19, ⟨y20, c20, e20, -⟩, e21, e22, e23, e24, e25, e26, e27, e28, e29, e30, e31, -⟩ := hw
        simp only [List.length_cons, List.length_nil, List.take_succ_cons, List.take_nil, List.drop_succ_cons, List.drop_nil, asg, List.cons_append, List.nil_append, e0, e1, e2, e3, e4, e5, e6, e7, e8, e9, e10, e11, e12, e13, e14, e15, e16, e17, e18, e19, e20, e21, e22, e23, e24, e25, e26, e27, e28, e29, e30, e31]
        clear e0 e1 e2 e3 e4 e5 e6 e7 e8 e9 e10 e11 e12 e13 e14 e15 e16 e17 e18 e19 e20 e21 e22 e23 e24 e25 e26 e27 e28 e29 e30 e31
        have HA6 : Hid (Ga x6 w.heap.size T5 ∧ Below w.heap.size w x6) := ⟨HGA.out.later hp, HB5.out.trans (hp.mono (Below.size HB5.out))⟩
        clear hp HGA HB5 HRG HLT HCUT HEQ
        go_wp2
        go_loopw [12] (fun iv wr => ∃ (i : Nat) (T : Nat → Option Th) (ms : List Sc), i ≤ N + 1 ∧ iv = .int .i64 i ∧ ms.length = N + 1 ∧ Ga wr w.heap.size T ∧ T 0 = some (thK secE w.heap.size (.slice (some ⟨g, 0, none⟩) (N + 1) cg) ms) ∧ T 1 = some (thD (.pointer (some da)) (newS (fillL N fs))) ∧ T 2 = some (thRf w.heap.size rr (newS (fillL N fs))) ∧ Below w.heap.size w wr) (fun iv _ => N + 1 - (intOf iv).toNat)
        case atStart => exact ⟨0, T5, _, by omega, rfl, by simp [fillL_len], HA6.out.1, HT.out.1, HT.out.2.1, HT.out.2.2, HA6.out.2⟩
        case round =>
          clear HA6 HT
          obtain ⟨i, Ti, ms, hi, rfl, hms, hG, t0, t1, t2, hBw⟩ := hrel
          by_cases hlt : i < N + 1
          · have hlt' : (i : Int) < (N : Int) + 1 := by omega
            have hl := hG.isK t0
            have hst := secStore_mid hl i s166 (by omega)
            have hput := secPut hl i s166 (by omega)
            obtain ⟨hG2, hK2⟩ := hG.putK (v' := .slice (some ⟨g, 0, none⟩) (N + 1) cg) (ds' := ms.set i s166) (W' := wr.setCells g (i * 64) (secA s166).toList) t0 (Keep.of_grown (grown_setC wr g (i * 64) _) (fun q hq => by cases hq; simp [Value.ownBlock])) hput (fun q hq => .inl hq)
            have hB9 := hBw.trans (hG.below hK2)
            have HR : Hid _ := And.intro hG2 (And.intro (updT_same Ti 0 (thK secE w.heap.size (.slice (some ⟨g, 0, none⟩) (N + 1) cg) (ms.set i s166))) (And.intro ((updT_ne Ti 0 1 (thK secE w.heap.size (.slice (some ⟨g, 0, none⟩) (N + 1) cg) (ms.set i s166)) (by omega)).trans t1) (And.intro ((updT_ne Ti 0 2 (thK secE w.heap.size (.slice (some ⟨g, 0, none⟩) (N + 1) cg) (ms.set i s166)) (by omega)).trans t2) hB9)))
            clear hG hl hput hG2 hK2 hB9 hBw t0 t1 t2
            generalize wr.setCells g (i * 64) (secA s166).toList = X1 at hst HR
            go_wp2
            go_roundw
            case rel =>
              obtain ⟨r1, r2, r3, r4, r5⟩ := HR.out
              exact ⟨i + 1, _, _, by omega, by go_num, by rw [List.length_set]; exact hms, r1, r2, r3, r4, r5⟩
            case measure => simp [intOf]; omega
          · obtain rfl : N + 1 = i := by omega
            have hlt' : ¬ ((N : Int) + 1) < (N : Int) + 1 := by omega
            obtain ⟨T0, hI0⟩ := inv5_start hG t1 t2 (⟨by simp [newS], Nat.le_refl _, Nat.le_refl _, Nat.le_refl _⟩ : Lim 0 (newS (fillL N fs)))
            have hW0 : Below w.heap.size w (((wr.alloc (.cells #[.pointer (some da)] 28)).alloc (.cells #[.pointer (some ⟨rr, 0, none⟩)] 32)).alloc (.cells #[.slice none 0 0, .slice none 0 0, .slice none 0 0, .slice none 0 0] 43)) := ((hBw.alloc hG.size _).alloc (by have := hG.size; simp; omega) _).alloc (by have := hG.size; simp; omega) _
            have HI0 : Hid _ := And.intro hI0 hW0
            clear hI0 hW0 hG hBw t0 t1 t2 hms
            go_wp2
            obtain ⟨gk, hgk⟩ : ∃ q, wr.heap.size + 1 + 1 = q := ⟨_, rfl⟩
            rw [hgk] at HI0
            try rw [hgk]
            try simp only [hgk]
            go_loopw [13, 14, 16] (fun dv rv iv wr => ∃ (i np : Nat) (T : Nat → Option Th) (ps : List Pr5) (b : Bk), i ≤ ns ∧ iv = .int .i64 i ∧ Inv5 w.heap.size wr dv rv gk i np T ps b ∧ Below w.heap.size w wr) (fun _ _ iv _ => ns - (intOf iv).toNat)
            case atStart => exact ⟨0, 1, T0, _, _, by omega, rfl, HI0.out.1, HI0.out.2⟩
            case round =>
              clear HI0 hgk
              obtain ⟨i, np, T, ps, b, hi, rfl, hI, hB⟩ := hrel
              obtain ⟨gd, cd, hdv, -⟩ := OwnG.form (hI.g.ga.isG hI.ds) (List.ne_nil_of_length_pos (by rw [List.length_map, hI.len]; exact hI.n1))
              obtain ⟨gr, cr, hrv, -⟩ := OwnG.form (hI.g.ga.isG hI.rs) (List.ne_nil_of_length_pos (by rw [List.length_map, hI.len]; exact hI.n1))
              rw [List.length_map, hI.len] at hdv hrv
              subst hdv hrv
              have hlen := hI.len
              have hn1 := hI.n1
              have hn3 := hI.n3
              have hbg := hI.ggk
              by_cases hlt : i < ns
              · have hlt' : (i : Int) < (ns : Int) := by omega
                obtain ⟨o, ho⟩ : ∃ q, os[i]? = some q := ⟨_, List.getElem?_eq_getElem (by omega)⟩
                obtain ⟨bl, of, hxs, hbl, hOp⟩ : ∃ bl of, xs = some ⟨bl, of, none⟩ ∧ bl < w.heap.size ∧ OpFAt w bl (of + i * 5) o := by
                  obtain ⟨x', c', ex, hc⟩ := hO
                  obtain ⟨b9, p9, h1, h2, h3⟩ := hc i o ho
                  exact ⟨b9, p9, by rw [← h1]; exact (Value.slice.inj ex).1, h2, h3⟩
                subst hxs
                obtain ⟨s0, s1, s2, s3, s4, hbs, hbc, hkd, hon, hat⟩ := hOp
                have hnb4 := hob o (List.mem_of_getElem? ho)
                have hby : o.bs ≠ [] → ∀ x, o.y = some x → x.block < w.heap.size := fun hne x hx => by
                  obtain ⟨b9, o9, h1, h2, -⟩ := hbs.spot 0 (by rw [List.length_map]; exact List.length_pos_iff.2 hne)
                  rw [h1] at hx; cases hx; exact h2
                obtain ⟨nb, hnb⟩ : ∃ q, o.bs.length = q := ⟨_, rfl⟩
                rw [hnb] at s4 hbs hbc hnb4
                have hnbc := hbc
                have hnb4 : nb ≤ 4194304 := by omega
                have s0 := (hB.cell (p := ⟨bl, of + i * 5, none⟩) hbl).trans s0
                have s1 := (hB.cell (p := ⟨bl, of + i * 5 + 1, none⟩) hbl).trans s1
                have s2 := (hB.cell (p := ⟨bl, of + i * 5 + 2, none⟩) hbl).trans s2
                have s3 := (hB.cell (p := ⟨bl, of + i * 5 + 3, none⟩) hbl).trans s3
                have s4 := (hB.cell (p := ⟨bl, of + i * 5 + 4, none⟩) hbl).trans s4
                have Hbs : Hid (IsG w (.slice o.y nb o.c) (o.bs.map Value.bool) ∧ (o.bs ≠ [] → ∀ x, o.y = some x → x.block < w.heap.size)) := ⟨hbs, hby⟩
                have Hat : Hid (-9223372036854775808 ≤ o.at_ ∧ o.at_ ≤ 9223372036854775807) := hat
                have Heq : Hid (∀ p ∈ ps, p.sd = p.sr ∧ Lim i p.sd ∧ ∃ a, p.d = .pointer (some a)) := hI.eq
                have Hbk : Hid (BkOk i b) := hI.bk
                obtain ⟨⟨yS, nS, cS⟩, hbS⟩ : ∃ q, b.S = q := ⟨_, rfl⟩
                have hcS : nS ≤ 2097152 := by have h1 := hI.g.nS.1; have h2 := hI.bk.cS; rw [hbS] at h1; simp only at h1; omega
                have gX := hI.g.ga.newRow 56 (c := #[.int .i64 o.kind, .int .i64 o.on, .int .i64 o.at_, .int .u8 (o.v.toNat : Int), .slice o.y nb o.c]) (below_alloc wr (.cells #[.int .i64 o.kind, .int .i64 o.on, .int .i64 o.at_, .int .u8 (o.v.toNat : Int), .slice o.y nb o.c] 46)) (RowC.new _ _ _) (Nat.le_refl _)
                have hRw := RowC.new wr #[.int .i64 o.kind, .int .i64 o.on, .int .i64 o.at_, .int .u8 (o.v.toNat : Int), .slice o.y nb o.c] 46
                have c0 : (wr.alloc (.cells #[.int .i64 o.kind, .int .i64 o.on, .int .i64 o.at_, .int .u8 (o.v.toNat : Int), .slice o.y nb o.c] 46)).cell? ⟨wr.heap.size, 0, none⟩ = some (.int .i64 o.kind) := by rw [hRw.cell 0]; rfl
                have c1 : (wr.alloc (.cells #[.int .i64 o.kind, .int .i64 o.on, .int .i64 o.at_, .int .u8 (o.v.toNat : Int), .slice o.y nb o.c] 46)).cell? ⟨wr.heap.size, 1, none⟩ = some (.int .i64 o.on) := by rw [hRw.cell 1]; rfl
                have HGX : Hid (G5 (wr.alloc (.cells #[.int .i64 o.kind, .int .i64 o.on, .int .i64 o.at_, .int .u8 (o.v.toNat : Int), .slice o.y nb o.c] 46)) w.heap.size (updT T 56 (thRow wr.heap.size #[.int .i64 o.kind, .int .i64 o.on, .int .i64 o.at_, .int .u8 (o.v.toNat : Int), .slice o.y nb o.c])) ps b (bkA b) ∧ updT T 56 (thRow wr.heap.size #[.int .i64 o.kind, .int .i64 o.on, .int .i64 o.at_, .int .u8 (o.v.toNat : Int), .slice o.y nb o.c]) 0 = some (thG 28 w.heap.size (.slice (some ⟨gd, 0, none⟩) np cd) (ps.map Pr5.d)) ∧ updT T 56 (thRow wr.heap.size #[.int .i64 o.kind, .int .i64 o.on, .int .i64 o.at_, .int .u8 (o.v.toNat : Int), .slice o.y nb o.c]) 8 = some (thG 32 w.heap.size (.slice (some ⟨gr, 0, none⟩) np cr) (ps.map rV)) ∧ updT T 56 (thRow wr.heap.size #[.int .i64 o.kind, .int .i64 o.on, .int .i64 o.at_, .int .u8 (o.v.toNat : Int), .slice o.y nb o.c]) 56 = some (thRow wr.heap.size #[.int .i64 o.kind, .int .i64 o.on, .int .i64 o.at_, .int .u8 (o.v.toNat : Int), .slice o.y nb o.c]) ∧ Below w.heap.size w (wr.alloc (.cells #[.int .i64 o.kind, .int .i64 o.on, .int .i64 o.at_, .int .u8 (o.v.toNat : Int), .slice o.y nb o.c] 46))) :=
                  ⟨hI.g.side0 (.inr (.inr rfl)) gX, by rw [updT_ne _ _ _ _ (by omega)]; exact hI.ds, by rw [updT_ne _ _ _ _ (by omega)]; exact hI.rs, updT_same _ _ _, hB.alloc hI.g.ga.size _⟩
                clear gX hRw hI hB hbs hby hat ho hbc
                go_upto_region 21 with fail
                clear s0 s1 s2 s3 s4
                obtain ⟨no, hno⟩ : ∃ q, wr.heap.size = q := ⟨_, rfl⟩
                rw [hno] at c0 c1 HGX
                simp only [hno]
                generalize updT T 56 (thRow no #[.int .i64 o.kind, .int .i64 o.on, .int .i64 o.at_, .int .u8 (o.v.toNat : Int), .slice o.y nb o.c]) = TX at HGX
                generalize wr.alloc (.cells #[.int .i64 o.kind, .int .i64 o.on, .int .i64 o.at_, .int .u8 (o.v.toNat : Int), .slice o.y nb o.c] 46) = X at c0 c1 HGX ⊢
                obtain ⟨hon0, hon1⟩ := hon
                have hnz : (np : Int) ≠ 0 := by omega
                by_cases hneg : (o.on.tmod (np : Int)) < 0
                · obtain ⟨kk, hkk, hkn⟩ : ∃ kk : Nat, o.on.tmod (np : Int) + (np : Int) = (kk : Int) ∧ kk < np := by
                    have h1 := Int.lt_tmod_of_pos o.on (b := (np : Int)) (by omega)
                    exact ⟨(o.on.tmod (np : Int) + (np : Int)).toNat, by omega, by omega⟩
                  have FK : Hid ((kk : Int) < (np : Int)) := by show _ < _; omega
                  obtain ⟨p0, hp0⟩ : ∃ q, ps[kk]? = some q := ⟨_, List.getElem?_eq_getElem (by omega)⟩
                  obtain ⟨hpe, hpl, pa, hpd⟩ := Heq.out p0 (List.mem_of_getElem? hp0)
                  obtain ⟨pd, pr, psd, psr⟩ := p0
                  simp only at hpe hpd hpl
                  subst hpe hpd
                  have Hp : Hid (ps[kk]? = some ⟨.pointer (some pa), pr, psd, psd⟩) := hp0
                  have HL : Hid (Lim i psd ∧ BkOk i b) := ⟨hpl, Hbk.out⟩
                  obtain ⟨hGX, hdsX, hrsX, h56X, hBX⟩ := HGX.out
                  obtain ⟨k0, -⟩ := row_cells5 hGX.ga hGX.book
                  rw [hbg] at k0
                  have qs : X.cell? ⟨gk, 0, none⟩ = some (.slice yS nS cS) := by rw [k0, hbS]; rfl
                  have q0 := c0
                  clear hGX hdsX hrsX h56X hBX k0 hp0 hpl
                  go_upto_region 24 with fail
                  obtain ⟨b1, hb1⟩ : ∃ q, decide (o.kind > 4) = q := ⟨_, rfl⟩
                  obtain ⟨b2, hb2⟩ : ∃ q, (b1 && decide (o.kind < 7)) = q := ⟨_, rfl⟩
                  obtain ⟨b3, hb3⟩ : ∃ q, (b2 && decide ((nS : Int) > 20)) = q := ⟨_, rfl⟩
                  refine wp_plains [Fx (.pointer (some ⟨no, 0, none⟩)), Fx (.int .i64 (o.kind)), Fx (.bool b1), Fx (.bool b1), Fx (bif b1 then .pointer (some ⟨no, 0, none⟩) else undef), Fx (bif b1 then .int .i64 (o.kind) else undef), Fx (bif b1 then .bool (decide (o.kind < 7)) else undef), Fx (.bool b2), Fx (.bool b2), Fx (bif b2 then .pointer (some ⟨gk, 0, none⟩) else undef), Fx (bif b2 then .pointer (some ⟨gk, 0, none⟩) else undef), Fx (bif b2 then .pointer (some ⟨gk, 0, none⟩) else undef), Fx (bif b2 then .slice yS nS cS else undef), Fx (bif b2 then .int .i64 ((nS : Int)) else undef), Fx (bif b2 then .bool (decide ((nS : Int) > 20)) else undef), Fx (.bool b3)] (by kernel_rfl) (by kernel_rfl) ?_ ?_ ?_
                  · repeat' (first | exact all_nil | apply all_cons)
                    all_goals intro v y y' hv hb
                    all_goals first | exact Fx_mono _ _ _ _ hv hb
                  · refine ⟨?_, ?_, ?_, ?_, ?_, ?_, ?_, ?_, ?_, ?_, ?_, ?_, ?_, ?_, ?_, ?_, trivial⟩
                    all_goals
                      intro ρ x hp ρc ρg ρf ho hd
                      have o15 : ρ (.tmp 15) = .pointer (some ⟨gk, 0, none⟩) := ho 15 rfl
                      have o17 : ρ (.tmp 17) = .pointer (some ⟨no, 0, none⟩) := ho 17 rfl
                      clear ho
                      have k0 := cell_later hp q0
                      have ks := cell_later hp qs
                      simp only [depsR, depR, slotR, Fx, List.getElem?_cons_succ, List.getElem?_cons_zero, Region.binds, forall_const] at hd
                      simp only [guardR]
                      go_split_ands
                    · go_simp
                    · go_simp
                    · go_simp
                      try exact congrArg Value.bool hb1
                    · go_simp
                    · refine ⟨fun hy => ?_, fun hy => ?_⟩
                      · obtain rfl : b1 = true := by cases b1 <;> first | rfl | (exfalso; simp [yieldR, slotR, undef, *] at hy)
                        go_simp
                      · obtain rfl : b1 = false := by cases b1 <;> first | rfl | (exfalso; simp [yieldR, slotR, undef, *] at hy)
                        rfl
                    · refine ⟨fun hy => ?_, fun hy => ?_⟩
                      · obtain rfl : b1 = true := by cases b1 <;> first | rfl | (exfalso; simp [yieldR, slotR, undef, *] at hy)
                        go_simp
                      · obtain rfl : b1 = false := by cases b1 <;> first | rfl | (exfalso; simp [yieldR, slotR, undef, *] at hy)
                        rfl
                    · refine ⟨fun hy => ?_, fun hy => ?_⟩
                      · obtain rfl : b1 = true := by cases b1 <;> first | rfl | (exfalso; simp [yieldR, slotR, undef, *] at hy)
                        go_simp
                      · obtain rfl : b1 = false := by cases b1 <;> first | rfl | (exfalso; simp [yieldR, slotR, undef, *] at hy)
                        rfl
                    · cases hbb : b1
                      · subst hbb; go_simp; try (simp only [Bool.false_and] at hb2; rw [← hb2]; first | rfl | simp [Fx])
                      · subst hbb; go_simp; try (simp only [Bool.true_and] at hb2; exact congrArg Value.bool hb2)
                    · go_simp
                    · refine ⟨fun hy => ?_, fun hy => ?_⟩
                      · obtain rfl : b2 = true := by cases b2 <;> first | rfl | (exfalso; simp [yieldR, slotR, undef, *] at hy)
                        go_simp
                      · obtain rfl : b2 = false := by cases b2 <;> first | rfl | (exfalso; simp [yieldR, slotR, undef, *] at hy)
                        rfl
                    · refine ⟨fun hy => ?_, fun hy => ?_⟩
                      · obtain rfl : b2 = true := by cases b2 <;> first | rfl | (exfalso; simp [yieldR, slotR, undef, *] at hy)
                        go_simp
                      · obtain rfl : b2 = false := by cases b2 <;> first | rfl | (exfalso; simp [yieldR, slotR, undef, *] at hy)
                        rfl
                    · refine ⟨fun hy => ?_, fun hy => ?_⟩
                      · obtain rfl : b2 = true := by cases b2 <;> first | rfl | (exfalso; simp [yieldR, slotR, undef, *] at hy)
                        go_simp
                      · obtain rfl : b2 = false := by cases b2 <;> first | rfl | (exfalso; simp [yieldR, slotR, undef, *] at hy)
                        rfl
                    · refine ⟨fun hy => ?_, fun hy => ?_⟩
                      · obtain rfl : b2 = true := by cases b2 <;> first | rfl | (exfalso; simp [yieldR, slotR, undef, *] at hy)
                        go_simp
                      · obtain rfl : b2 = false := by cases b2 <;> first | rfl | (exfalso; simp [yieldR, slotR, undef, *] at hy)
                        rfl
                    · refine ⟨fun hy => ?_, fun hy => ?_⟩
                      · obtain rfl : b2 = true := by cases b2 <;> first | rfl | (exfalso; simp [yieldR, slotR, undef, *] at hy)
                        go_simp
                      · obtain rfl : b2 = false := by cases b2 <;> first | rfl | (exfalso; simp [yieldR, slotR, undef, *] at hy)
                        rfl
                    · refine ⟨fun hy => ?_, fun hy => ?_⟩
                      · obtain rfl : b2 = true := by cases b2 <;> first | rfl | (exfalso; simp [yieldR, slotR, undef, *] at hy)
                        go_simp
                      · obtain rfl : b2 = false := by cases b2 <;> first | rfl | (exfalso; simp [yieldR, slotR, undef, *] at hy)
                        rfl
                    · cases hbb : b2
                      · subst hbb; go_simp; try (simp only [Bool.false_and] at hb3; rw [← hb3]; first | rfl | simp [Fx])
                      · subst hbb; go_simp; try (simp only [Bool.true_and] at hb3; exact congrArg Value.bool hb3)
                  · intro vs xA hp hw
                    simp only [owed, Fx] at hw
                    obtain ⟨e0, e1, e2, e3, e4, e5, e6, e7, e8, e9, e10, e11, e12, e13, e14, e15, -⟩ := hw
                    simp only [List.length_cons, List.length_nil, List.take_succ_cons, List.take_nil, List.drop_succ_cons, List.drop_nil, asg, List.cons_append, List.nil_append, e0, e1, e2, e3, e4, e5, e6, e7, e8, e9, e10, e11, e12, e13, e14, e15]
                    clear e0 e1 e2 e3 e4 e5 e6 e7 e8 e9 e10 e11 e12 e13 e14 e15
                    cases b3
                    · obtain ⟨W1, hW1⟩ : ∃ q, q = xA := ⟨_, rfl⟩
                      obtain ⟨kq, hkq⟩ : ∃ q, q = o.kind := ⟨_, rfl⟩
                      have HG1 : Hid (G5 W1 w.heap.size TX ps b (bkA b) ∧ TX 0 = some (thG 28 w.heap.size (.slice (some ⟨gd, 0, none⟩) np cd) (ps.map Pr5.d)) ∧ TX 8 = some (thG 32 w.heap.size (.slice (some ⟨gr, 0, none⟩) np cr) (ps.map rV)) ∧ TX 56 = some (thRow no #[.int .i64 kq, .int .i64 o.on, .int .i64 o.at_, .int .u8 (o.v.toNat : Int), .slice o.y nb o.c]) ∧ Below w.heap.size w W1) := by
                        rw [hW1, hkq]
                        obtain ⟨h1, h2, h3, h4, h5⟩ := HGX.out
                        exact ⟨h1.later hp, h2, h3, h4, h5.trans (hp.mono h5.size)⟩
                      rw [← hW1]
                      clear hb1 hb2 hb3 hp q0 qs HGX hW1 hkq Hbk c0
                      obtain ⟨hG1, hds1, hrs1, h56, hB1⟩ := HG1.out
                      have qd : W1.cell? ⟨gd, kk, none⟩ = some (.pointer (some pa)) := (hG1.ga.isG hds1).cell kk _ (by rw [List.getElem?_map, Hp.out]; rfl)
                      have qr : W1.cell? ⟨gr, kk, none⟩ = some (.pointer (some ⟨pr, 0, none⟩)) := (hG1.ga.isG hrs1).cell kk _ (by rw [List.getElem?_map, Hp.out]; rfl)
                      have hrow := hG1.ga.isRow h56
                      have q0 : W1.cell? ⟨no, 0, none⟩ = some (.int .i64 kq) := by rw [hrow.cell 0]; rfl
                      have q1 : W1.cell? ⟨no, 1, none⟩ = some (.int .i64 o.on) := by rw [hrow.cell 1]; rfl
                      have q2 : W1.cell? ⟨no, 2, none⟩ = some (.int .i64 o.at_) := by rw [hrow.cell 2]; rfl
                      have q3 : W1.cell? ⟨no, 3, none⟩ = some (.int .u8 (o.v.toNat : Int)) := by rw [hrow.cell 3]; rfl
                      have q4 : W1.cell? ⟨no, 4, none⟩ = some (.slice o.y nb o.c) := by rw [hrow.cell 4]; rfl
                      clear hG1 hds1 hrs1 h56 hB1 hrow
                      go_upto_region 26 with fail
                      refine wp_reliesT [Fx (.slice (some ⟨gd, 0, none⟩) np cd), Fx (.int .i64 ((kk : Int))), Fx (.pointer (some ⟨gd, kk, none⟩)), Fx (.pointer (some pa)), Fx (.bool false), Fx (.bool false), Fx (.slice (some ⟨gd, 0, none⟩) np cd), Fx (.int .i64 ((kk : Int))), Fx (.pointer (some ⟨gd, kk, none⟩)), Fx (.pointer (some pa)), Fx (.slice (some ⟨gr, 0, none⟩) np cr), Fx (.int .i64 ((kk : Int))), Fx (.pointer (some ⟨gr, kk, none⟩)), Fx (.pointer (some ⟨pr, 0, none⟩)), Fx (.agg #[.int .i64 kq, .int .i64 o.on, .int .i64 o.at_, .int .u8 (o.v.toNat : Int), .slice o.y nb o.c]), Fx (.pointer (some ⟨gk, 0, none⟩))] (by kernel_rfl) (by kernel_rfl) ?_ ?_ ?_
                      · repeat' (first | exact all_nil | apply all_cons)
                        all_goals intro v y y' hv hb
                        all_goals first | exact Fx_mono _ _ _ _ hv hb
                      · refine ⟨?_, ?_, ?_, ?_, ?_, ?_, ?_, ?_, ?_, ?_, ?_, ?_, ?_, ?_, ?_, ?_, trivial⟩
                        all_goals
                          intro ρ x hp ρc ρg ρf ho hd
                          have o13 : ρ (.tmp 13) = .slice (some ⟨gd, 0, none⟩) np cd := ho 13 rfl
                          have o14 : ρ (.tmp 14) = .slice (some ⟨gr, 0, none⟩) np cr := ho 14 rfl
                          have o15 : ρ (.tmp 15) = .pointer (some ⟨gk, 0, none⟩) := ho 15 rfl
                          have o17 : ρ (.tmp 17) = .pointer (some ⟨no, 0, none⟩) := ho 17 rfl
                          have o18 : ρ (.tmp 18) = .int .i64 ((kk : Int)) := ho 18 rfl
                          clear ho
                          have k0 := cell_later hp q0
                          have k1 := cell_later hp q1
                          have k2 := cell_later hp q2
                          have k3 := cell_later hp q3
                          have k4 := cell_later hp q4
                          have kd := cell_later hp qd
                          have kr := cell_later hp qr
                          simp only [depsR, depR, slotR, Fx, List.getElem?_cons_succ, List.getElem?_cons_zero, Region.binds, forall_const] at hd
                          simp only [guardR]
                          go_split_ands
                        · go_simp
                        · go_simp
                        · have hq := FK.out
                          go_simp
                        · go_simp
                        · go_simp
                        · go_simp
                        · refine ⟨fun _ => ?_, fun hy => absurd (by simp [yieldR, slotR, *]) hy⟩
                          go_simp
                        · refine ⟨fun _ => ?_, fun hy => absurd (by simp [yieldR, slotR, *]) hy⟩
                          go_simp
                        · refine ⟨fun _ => ?_, fun hy => absurd (by simp [yieldR, slotR, *]) hy⟩
                          have hq := FK.out
                          go_simp
                        · refine ⟨fun _ => ?_, fun hy => absurd (by simp [yieldR, slotR, *]) hy⟩
                          go_simp
                        · refine ⟨fun _ => ?_, fun hy => absurd (by simp [yieldR, slotR, *]) hy⟩
                          go_simp
                        · refine ⟨fun _ => ?_, fun hy => absurd (by simp [yieldR, slotR, *]) hy⟩
                          go_simp
                        · refine ⟨fun _ => ?_, fun hy => absurd (by simp [yieldR, slotR, *]) hy⟩
                          have hq := FK.out
                          go_simp
                        · refine ⟨fun _ => ?_, fun hy => absurd (by simp [yieldR, slotR, *]) hy⟩
                          go_simp
                        · refine ⟨fun _ => ?_, fun hy => absurd (by simp [yieldR, slotR, *]) hy⟩
                          go_simp
                        · refine ⟨fun _ => ?_, fun hy => absurd (by simp [yieldR, slotR, *]) hy⟩
                          go_simp
                      · intro vs x1 hp hw
                        simp only [owed, Fx] at hw
                        obtain ⟨e0, e1, e2, e3, e4, e5, e6, e7, e8, e9, e10, e11, e12, e13, e14, e15, -⟩ := hw
                        simp only [List.length_cons, List.length_nil, List.take_succ_cons, List.take_zero, List.drop_succ_cons, List.drop_zero, asg, List.cons_append, List.nil_append, e0, e1, e2, e3, e4, e5, e6, e7, e8, e9, e10, e11, e12, e13, e14, e15]
                        clear e0 e1 e2 e3 e4 e5 e6 e7 e8 e9 e10 e11 e12 e13 e14 e15
                        obtain ⟨hG1, hds1, hrs1, h56, hB1⟩ := HG1.out
                        have hG2 := hG1.later hp
                        have hB2 : Below w.heap.size w x1 := hB1.trans (hp.mono hB1.size)
                        have hbs2 : IsG x1 (.slice o.y nb o.c) (o.bs.map Value.bool) := isG_belowB Hbs.out.1 hB2 (Nat.le_refl _) (fun h9 => Hbs.out.2 (fun e9 => h9 (by rw [e9]; rfl)))
                        have hans := answered5 kq o.on o.at_ o.v o.y nb o.c o.bs hG2 Hp.out HL.out.1 (by omega) HL.out.2 Hat.out.1 Hat.out.2 hnb hnb4 hnbc hbs2 Hbs.out.2
                        rw [hbg] at hans
                        clear q0 q1 q2 q3 q4 qd qr hp hG1
                        go_wp2_with fail
                        go_at_call 9
                        refine hans.mono ?_
                        rintro e w9 ⟨rfl, T9, st9, b9, hG9, hg9, hL9, hb9, hs9, hB9⟩
                        have hBB9 : Below w.heap.size w w9 := hB2.trans hB9
                        have hds9 : T9 0 = some (thG 28 w.heap.size (.slice (some ⟨gd, 0, none⟩) np cd) (ps.map Pr5.d)) := hs9.1.trans hds1
                        have hrs9 : T9 8 = some (thG 32 w.heap.size (.slice (some ⟨gr, 0, none⟩) np cr) (ps.map rV)) := hs9.2.1.trans hrs1
                        have hrow := hG9.ga.isRow (hs9.2.2.trans h56)
                        have q0 : w9.cell? ⟨no, 0, none⟩ = some (.int .i64 kq) := by rw [hrow.cell 0]; rfl
                        obtain ⟨p9, hp9⟩ : ∃ q : Pr5, (⟨.pointer (some pa), pr, st9, st9⟩ : Pr5) = q := ⟨_, rfl⟩
                        rw [hp9] at hG9
                        have e1 : (ps.set kk p9).map Pr5.d = ps.map Pr5.d := map_set5 Pr5.d Hp.out (by rw [← hp9])
                        have e2 : (ps.set kk p9).map rV = ps.map rV := map_set5 rV Hp.out (by rw [← hp9]; rfl)
                        have hlen9 : (ps.set kk p9).length = np := by rw [List.length_set]; exact hlen
                        have heq9 : ∀ p ∈ ps.set kk p9, p.sd = p.sr ∧ Lim (i + 1) p.sd ∧ ∃ a, p.d = .pointer (some a) := fun p hp => by
                          rcases List.mem_or_eq_of_mem_set hp with h9 | h9
                          · exact ⟨(Heq.out p h9).1, (Heq.out p h9).2.1.up, (Heq.out p h9).2.2⟩
                          · rw [h9, ← hp9]; exact ⟨rfl, hL9, pa, rfl⟩
                        have HI : Hid (Inv5 w.heap.size w9 (.slice (some ⟨gd, 0, none⟩) np cd) (.slice (some ⟨gr, 0, none⟩) np cr) gk (i + 1) np T9 (ps.set kk p9) b9 ∧ Below w.heap.size w w9) := ⟨⟨hG9, by rw [e1]; exact hds9, by rw [e2]; exact hrs9, hlen9, hn1, hn3, heq9, hb9, hg9.trans hbg⟩, hBB9⟩
                        clear hds9 hrs9 hrow hs9 hB9 hBB9 heq9 hb9 hB2 hbs2 hans hG2 hds1 hrs1 h56 hB1 HG1 HL Heq
                        by_cases h9 : kq = 9
                        · subst h9
                          by_cases hn2 : np < 3
                          · have hn2' : (np : Int) < 3 := by omega
                            have hpk : (ps.set kk p9)[kk]? = some p9 := set_getk Hp.out
                            have hl9 : Lim 1099511627776 p9.sd := by rw [← hp9]; exact hL9.le (by omega)
                            have hl9r : Lim 1099511627776 p9.sr := by rw [← hp9]; exact hL9.le (by omega)
                            have ed : p9.d = .pointer (some pa) := by rw [← hp9]
                            have er : p9.r = pr := by rw [← hp9]
                            have es : p9.sr = p9.sd := by rw [← hp9]
                            have hcD := HI.out.1.g.copyD hpk hlen9 hl9
                            rw [ed] at hcD
                            have qd : w9.cell? ⟨gd, kk, none⟩ = some (.pointer (some pa)) := (HI.out.1.g.ga.isG HI.out.1.ds).cell kk _ (by rw [List.getElem?_map, hpk]; simp [ed])
                            have hkk' : (kk : Int) < (np : Int) := by omega
                            clear hG9
                            go_wp2_with fail
                            go_at_call 10
                            refine hcD.mono ?_
                            rintro e w10 ⟨a9, TA, rfl, hGA, hTA, hsA, hbA⟩
                            have hgA := hGA.ga.later (below_alloc w10 (.cells #[.pointer (some a9)] 28))
                            have hdsA := hsA.1.trans HI.out.1.ds
                            obtain ⟨gd2, cd2, w11, hrA, hOA, hKA, hgwA⟩ := appLies eltDp (w10.alloc (.cells #[.pointer (some a9)] 28)) w.heap.size (some ⟨gd, 0, none⟩) np cd ((ps.set kk p9).map Pr5.d) [.pointer (some a9)] w10.heap.size 1 37 (hgA.isG hdsA) (by rw [List.length_map]; exact hlen9) rfl (fun j u hu => by
                              rcases j with _ | j
                              · simp at hu; subst hu; exact cell_of_row _ _ 0 _ _ _ (heap_alloc_last w10 _)
                              · simp at hu) (fun u hu => by simp at hu; subst hu; rfl) (by omega) hgA.size (by omega) (by unfold maxLen; omega)
                            obtain ⟨hgB, hkB⟩ := hgA.putG (v' := .slice (some ⟨gd2, 0, none⟩) (np + 1) cd2) hdsA hKA hOA (fun q hq => by
                              have e : gd2 = q := by simpa [Value.ownBlock] using hq
                              subst e; exact hgwA)
                            have hGB := (hGA.later (below_alloc w10 (.cells #[.pointer (some a9)] 28))).side0 (.inl rfl) hgB
                            have hB11 : Below w.heap.size w w11 := HI.out.2.trans ((hbA.mono HI.out.1.g.ga.size).trans (((below_alloc w10 (.cells #[.pointer (some a9)] 28)).mono hGA.ga.size).trans (hgA.below hkB)))
                            have hcR := hGB.copyR hpk hlen9 hl9r (d := .pointer (some a9)) (st := p9.sd) (by rw [updT_ne _ _ _ _ (by omega)]; exact hTA)
                            rw [er] at hcR
                            have hrsB : updT TA 0 (thG 28 w.heap.size (.slice (some ⟨gd2, 0, none⟩) (np + 1) cd2) ((ps.set kk p9).map Pr5.d ++ [.pointer (some a9)])) 8 = some (thG 32 w.heap.size (.slice (some ⟨gr, 0, none⟩) np cr) ((ps.set kk p9).map rV)) := by rw [updT_ne _ _ _ _ (by omega)]; exact hsA.2.1.trans HI.out.1.rs
                            have qr : w11.cell? ⟨gr, kk, none⟩ = some (.pointer (some ⟨pr, 0, none⟩)) := (hGB.ga.isG hrsB).cell kk _ (by rw [List.getElem?_map, hpk]; simp [rV, er])
                            clear hcD hKA hgA hkB hgB
                            go_upto_region 30 with (at_builtin; refine wpL_appG 37 rfl _ _ rfl _ w11 (by exact hrA) ?_)
                            clear hrA qd q0
                            go_wp2_with fail
                            go_at_call 11
                            refine hcR.mono ?_
                            rintro e w12 ⟨r9, TC, rfl, hGC, hsC, hbC⟩
                            have hgC := hGC.ga.later (below_alloc w12 (.cells #[.pointer (some ⟨r9, 0, none⟩)] 32))
                            have hrsC := hsC.2.1.trans hrsB
                            have hdsC : TC 0 = some (thG 28 w.heap.size (.slice (some ⟨gd2, 0, none⟩) (np + 1) cd2) ((ps.set kk p9).map Pr5.d ++ [.pointer (some a9)])) := hsC.1.trans (updT_same _ _ _)
                            obtain ⟨gr2, cr2, w13, hrC, hOC, hKC, hgwC⟩ := appLies eltRp (w12.alloc (.cells #[.pointer (some ⟨r9, 0, none⟩)] 32)) w.heap.size (some ⟨gr, 0, none⟩) np cr ((ps.set kk p9).map rV) [.pointer (some ⟨r9, 0, none⟩)] w12.heap.size 1 38 (hgC.isG hrsC) (by rw [List.length_map]; exact hlen9) rfl (fun j u hu => by
                              rcases j with _ | j
                              · simp at hu; subst hu; exact cell_of_row _ _ 0 _ _ _ (heap_alloc_last w12 _)
                              · simp at hu) (fun u hu => by simp at hu; subst hu; rfl) (by omega) hgC.size (by omega) (by unfold maxLen; omega)
                            obtain ⟨hgD, hkD⟩ := hgC.putG (v' := .slice (some ⟨gr2, 0, none⟩) (np + 1) cr2) hrsC hKC hOC (fun q hq => by
                              have e : gr2 = q := by simpa [Value.ownBlock] using hq
                              subst e; exact hgwC)
                            have hGD := (hGC.later (below_alloc w12 (.cells #[.pointer (some ⟨r9, 0, none⟩)] 32))).side0 (.inr (.inl rfl)) hgD
                            have hB13 : Below w.heap.size w w13 := hB11.trans ((hbC.mono hGB.ga.size).trans (((below_alloc w12 (.cells #[.pointer (some ⟨r9, 0, none⟩)] 32)).mono hGC.ga.size).trans (hgC.below hkD)))
                            have HJ : Hid (Inv5 w.heap.size w13 (.slice (some ⟨gd2, 0, none⟩) (np + 1) cd2) (.slice (some ⟨gr2, 0, none⟩) (np + 1) cr2) gk (i + 1) (np + 1) _ ((ps.set kk p9) ++ [⟨.pointer (some a9), r9, p9.sd, p9.sr⟩]) b9 ∧ Below w.heap.size w w13) := ⟨⟨hGD, by rw [updT_ne _ _ _ _ (by omega), List.map_append]; exact hdsC, by rw [List.map_append]; exact updT_same _ _ _, by rw [List.length_append, hlen9]; rfl, by omega, by omega, fun p hp => by
                              rcases List.mem_append.1 hp with h9 | h9
                              · exact HI.out.1.eq p h9
                              · obtain rfl : p = ⟨.pointer (some a9), r9, p9.sd, p9.sr⟩ := by simpa using h9
                                exact ⟨es.symm, by rw [← hp9]; exact hL9, a9, rfl⟩, HI.out.1.bk, HI.out.1.ggk⟩, hB13⟩
                            clear HI hcR hKC hgC hkD hgD hGD hB13 hB11 hGC hGB hGA
                            go_wp2_with (at_builtin; refine wpL_appG 38 rfl _ _ rfl _ w13 (by exact hrC) ?_)
                            go_roundw
                            case rel => exact ⟨i + 1, np + 1, _, _, _, by omega, by go_num, HJ.out.1, HJ.out.2⟩
                            case measure => simp [intOf]; omega
                          · have hn2' : ¬ (np : Int) < 3 := by omega
                            clear hG9
                            go_wp2
                            go_roundw
                            case rel => exact ⟨i + 1, np, _, _, _, by omega, by go_num, HI.out.1, HI.out.2⟩
                            case measure => simp [intOf]; omega
                        · clear hG9
                          go_wp2
                          go_roundw
                          case rel => exact ⟨i + 1, np, _, _, _, by omega, by go_num, HI.out.1, HI.out.2⟩
                          case measure => simp [intOf]; omega
                    · obtain ⟨W1, hW1⟩ : ∃ q, q = xA.setCell ⟨no, 0, none⟩ (.int .i64 8) := ⟨_, rfl⟩
                      obtain ⟨kq, hkq⟩ : ∃ q : Int, q = 8 := ⟨_, rfl⟩
                      obtain ⟨T1, HG1⟩ : ∃ T1, Hid (G5 W1 w.heap.size T1 ps b (bkA b) ∧ T1 0 = some (thG 28 w.heap.size (.slice (some ⟨gd, 0, none⟩) np cd) (ps.map Pr5.d)) ∧ T1 8 = some (thG 32 w.heap.size (.slice (some ⟨gr, 0, none⟩) np cr) (ps.map rV)) ∧ T1 56 = some (thRow no #[.int .i64 kq, .int .i64 o.on, .int .i64 o.at_, .int .u8 (o.v.toNat : Int), .slice o.y nb o.c]) ∧ Below w.heap.size w W1) := by
                        rw [hW1, hkq]
                        obtain ⟨h1, h2, h3, h4, h5⟩ := HGX.out
                        have g1 := h1.later hp
                        obtain ⟨g9, hk9⟩ := g1.ga.putRow h4 (keep_setCell xA no 0 (.int .i64 8)) ((g1.ga.isRow h4).set 0 (.int .i64 8))
                        refine ⟨_, g1.side0 (.inr (.inr rfl)) g9, by rw [updT_ne _ _ _ _ (by omega)]; exact h2, by rw [updT_ne _ _ _ _ (by omega)]; exact h3, updT_same _ _ _, (h5.trans (hp.mono h5.size)).trans (g1.ga.below hk9)⟩
                      have kc := cell_later hp q0
                      have kf : xA.frozen? ⟨no, 0, none⟩ = false := by
                        obtain ⟨h1, h2, h3, h4, h5⟩ := HGX.out
                        exact ((h1.later hp).ga.isRow h4).frozen 0
                      clear hb1 hb2 hb3 hp q0 qs HGX Hbk c0 hkq
                      go_upto_region 26 with fail
                      rw [← hW1]
                      clear hW1 kc kf
                      obtain ⟨hG1, hds1, hrs1, h56, hB1⟩ := HG1.out
                      have qd : W1.cell? ⟨gd, kk, none⟩ = some (.pointer (some pa)) := (hG1.ga.isG hds1).cell kk _ (by rw [List.getElem?_map, Hp.out]; rfl)
                      have qr : W1.cell? ⟨gr, kk, none⟩ = some (.pointer (some ⟨pr, 0, none⟩)) := (hG1.ga.isG hrs1).cell kk _ (by rw [List.getElem?_map, Hp.out]; rfl)
                      have hrow := hG1.ga.isRow h56
                      have q0 : W1.cell? ⟨no, 0, none⟩ = some (.int .i64 kq) := by rw [hrow.cell 0]; rfl
                      have q1 : W1.cell? ⟨no, 1, none⟩ = some (.int .i64 o.on) := by rw [hrow.cell 1]; rfl
                      have q2 : W1.cell? ⟨no, 2, none⟩ = some (.int .i64 o.at_) := by rw [hrow.cell 2]; rfl
                      have q3 : W1.cell? ⟨no, 3, none⟩ = some (.int .u8 (o.v.toNat : Int)) := by rw [hrow.cell 3]; rfl
                      have q4 : W1.cell? ⟨no, 4, none⟩ = some (.slice o.y nb o.c) := by rw [hrow.cell 4]; rfl
                      clear hG1 hds1 hrs1 h56 hB1 hrow
                      refine wp_reliesT [Fx (.slice (some ⟨gd, 0, none⟩) np cd), Fx (.int .i64 ((kk : Int))), Fx (.pointer (some ⟨gd, kk, none⟩)), Fx (.pointer (some pa)), Fx (.bool false), Fx (.bool false), Fx (.slice (some ⟨gd, 0, none⟩) np cd), Fx (.int .i64 ((kk : Int))), Fx (.pointer (some ⟨gd, kk, none⟩)), Fx (.pointer (some pa)), Fx (.slice (some ⟨gr, 0, none⟩) np cr), Fx (.int .i64 ((kk : Int))), Fx (.pointer (some ⟨gr, kk, none⟩)), Fx (.pointer (some ⟨pr, 0, none⟩)), Fx (.agg #[.int .i64 kq, .int .i64 o.on, .int .i64 o.at_, .int .u8 (o.v.toNat : Int), .slice o.y nb o.c]), Fx (.pointer (some ⟨gk, 0, none⟩))] (by kernel_rfl) (by kernel_rfl) ?_ ?_ ?_
                      · repeat' (first | exact all_nil | apply all_cons)
                        all_goals intro v y y' hv hb
                        all_goals first | exact Fx_mono _ _ _ _ hv hb
                      · refine ⟨?_, ?_, ?_, ?_, ?_, ?_, ?_, ?_, ?_, ?_, ?_, ?_, ?_, ?_, ?_, ?_, trivial⟩
                        all_goals
                          intro ρ x hp ρc ρg ρf ho hd
                          have o13 : ρ (.tmp 13) = .slice (some ⟨gd, 0, none⟩) np cd := ho 13 rfl
                          have o14 : ρ (.tmp 14) = .slice (some ⟨gr, 0, none⟩) np cr := ho 14 rfl
                          have o15 : ρ (.tmp 15) = .pointer (some ⟨gk, 0, none⟩) := ho 15 rfl
                          have o17 : ρ (.tmp 17) = .pointer (some ⟨no, 0, none⟩) := ho 17 rfl
                          have o18 : ρ (.tmp 18) = .int .i64 ((kk : Int)) := ho 18 rfl
                          clear ho
                          have k0 := cell_later hp q0
                          have k1 := cell_later hp q1
                          have k2 := cell_later hp q2
                          have k3 := cell_later hp q3
                          have k4 := cell_later hp q4
                          have kd := cell_later hp qd
                          have kr := cell_later hp qr
                          simp only [depsR, depR, slotR, Fx, List.getElem?_cons_succ, List.getElem?_cons_zero, Region.binds, forall_const] at hd
                          simp only [guardR]
                          go_split_ands
                        · go_simp
                        · go_simp
                        · have hq := FK.out
                          go_simp
                        · go_simp
                        · go_simp
                        · go_simp
                        · refine ⟨fun _ => ?_, fun hy => absurd (by simp [yieldR, slotR, *]) hy⟩
                          go_simp
                        · refine ⟨fun _ => ?_, fun hy => absurd (by simp [yieldR, slotR, *]) hy⟩
                          go_simp
                        · refine ⟨fun _ => ?_, fun hy => absurd (by simp [yieldR, slotR, *]) hy⟩
                          have hq := FK.out
                          go_simp
                        · refine ⟨fun _ => ?_, fun hy => absurd (by simp [yieldR, slotR, *]) hy⟩
                          go_simp
                        · refine ⟨fun _ => ?_, fun hy => absurd (by simp [yieldR, slotR, *]) hy⟩
                          go_simp
                        · refine ⟨fun _ => ?_, fun hy => absurd (by simp [yieldR, slotR, *]) hy⟩
                          go_simp
                        · refine ⟨fun _ => ?_, fun hy => absurd (by simp [yieldR, slotR, *]) hy⟩
                          have hq := FK.out
                          go_simp
                        · refine ⟨fun _ => ?_, fun hy => absurd (by simp [yieldR, slotR, *]) hy⟩
                          go_simp
                        · refine ⟨fun _ => ?_, fun hy => absurd (by simp [yieldR, slotR, *]) hy⟩
                          go_simp
                        · refine ⟨fun _ => ?_, fun hy => absurd (by simp [yieldR, slotR, *]) hy⟩
                          go_simp
                      · intro vs x1 hp hw
                        simp only [owed, Fx] at hw
                        obtain ⟨e0, e1, e2, e3, e4, e5, e6, e7, e8, e9, e10, e11, e12, e13, e14, e15, -⟩ := hw
                        simp only [List.length_cons, List.length_nil, List.take_succ_cons, List.take_zero, List.drop_succ_cons, List.drop_zero, asg, List.cons_append, List.nil_append, e0, e1, e2, e3, e4, e5, e6, e7, e8, e9, e10, e11, e12, e13, e14, e15]
                        clear e0 e1 e2 e3 e4 e5 e6 e7 e8 e9 e10 e11 e12 e13 e14 e15
                        obtain ⟨hG1, hds1, hrs1, h56, hB1⟩ := HG1.out
                        have hG2 := hG1.later hp
                        have hB2 : Below w.heap.size w x1 := hB1.trans (hp.mono hB1.size)
                        have hbs2 : IsG x1 (.slice o.y nb o.c) (o.bs.map Value.bool) := isG_belowB Hbs.out.1 hB2 (Nat.le_refl _) (fun h9 => Hbs.out.2 (fun e9 => h9 (by rw [e9]; rfl)))
                        have hans := answered5 kq o.on o.at_ o.v o.y nb o.c o.bs hG2 Hp.out HL.out.1 (by omega) HL.out.2 Hat.out.1 Hat.out.2 hnb hnb4 hnbc hbs2 Hbs.out.2
                        rw [hbg] at hans
                        clear q0 q1 q2 q3 q4 qd qr hp hG1
                        go_wp2_with fail
                        go_at_call 9
                        refine hans.mono ?_
                        rintro e w9 ⟨rfl, T9, st9, b9, hG9, hg9, hL9, hb9, hs9, hB9⟩
                        have hBB9 : Below w.heap.size w w9 := hB2.trans hB9
                        have hds9 : T9 0 = some (thG 28 w.heap.size (.slice (some ⟨gd, 0, none⟩) np cd) (ps.map Pr5.d)) := hs9.1.trans hds1
                        have hrs9 : T9 8 = some (thG 32 w.heap.size (.slice (some ⟨gr, 0, none⟩) np cr) (ps.map rV)) := hs9.2.1.trans hrs1
                        have hrow := hG9.ga.isRow (hs9.2.2.trans h56)
                        have q0 : w9.cell? ⟨no, 0, none⟩ = some (.int .i64 kq) := by rw [hrow.cell 0]; rfl
                        obtain ⟨p9, hp9⟩ : ∃ q : Pr5, (⟨.pointer (some pa), pr, st9, st9⟩ : Pr5) = q := ⟨_, rfl⟩
                        rw [hp9] at hG9
                        have e1 : (ps.set kk p9).map Pr5.d = ps.map Pr5.d := map_set5 Pr5.d Hp.out (by rw [← hp9])
                        have e2 : (ps.set kk p9).map rV = ps.map rV := map_set5 rV Hp.out (by rw [← hp9]; rfl)
                        have hlen9 : (ps.set kk p9).length = np := by rw [List.length_set]; exact hlen
                        have heq9 : ∀ p ∈ ps.set kk p9, p.sd = p.sr ∧ Lim (i + 1) p.sd ∧ ∃ a, p.d = .pointer (some a) := fun p hp => by
                          rcases List.mem_or_eq_of_mem_set hp with h9 | h9
                          · exact ⟨(Heq.out p h9).1, (Heq.out p h9).2.1.up, (Heq.out p h9).2.2⟩
                          · rw [h9, ← hp9]; exact ⟨rfl, hL9, pa, rfl⟩
                        have HI : Hid (Inv5 w.heap.size w9 (.slice (some ⟨gd, 0, none⟩) np cd) (.slice (some ⟨gr, 0, none⟩) np cr) gk (i + 1) np T9 (ps.set kk p9) b9 ∧ Below w.heap.size w w9) := ⟨⟨hG9, by rw [e1]; exact hds9, by rw [e2]; exact hrs9, hlen9, hn1, hn3, heq9, hb9, hg9.trans hbg⟩, hBB9⟩
                        clear hds9 hrs9 hrow hs9 hB9 hBB9 heq9 hb9 hB2 hbs2 hans hG2 hds1 hrs1 h56 hB1 HG1 HL Heq
                        by_cases h9 : kq = 9
                        · subst h9
                          by_cases hn2 : np < 3
                          · have hn2' : (np : Int) < 3 := by omega
                            have hpk : (ps.set kk p9)[kk]? = some p9 := set_getk Hp.out
                            have hl9 : Lim 1099511627776 p9.sd := by rw [← hp9]; exact hL9.le (by omega)
                            have hl9r : Lim 1099511627776 p9.sr := by rw [← hp9]; exact hL9.le (by omega)
                            have ed : p9.d = .pointer (some pa) := by rw [← hp9]
                            have er : p9.r = pr := by rw [← hp9]
                            have es : p9.sr = p9.sd := by rw [← hp9]
                            have hcD := HI.out.1.g.copyD hpk hlen9 hl9
                            rw [ed] at hcD
                            have qd : w9.cell? ⟨gd, kk, none⟩ = some (.pointer (some pa)) := (HI.out.1.g.ga.isG HI.out.1.ds).cell kk _ (by rw [List.getElem?_map, hpk]; simp [ed])
                            have hkk' : (kk : Int) < (np : Int) := by omega
                            clear hG9
                            go_wp2_with fail
                            go_at_call 10
                            refine hcD.mono ?_
                            rintro e w10 ⟨a9, TA, rfl, hGA, hTA, hsA, hbA⟩
                            have hgA := hGA.ga.later (below_alloc w10 (.cells #[.pointer (some a9)] 28))
                            have hdsA := hsA.1.trans HI.out.1.ds
                            obtain ⟨gd2, cd2, w11, hrA, hOA, hKA, hgwA⟩ := appLies eltDp (w10.alloc (.cells #[.pointer (some a9)] 28)) w.heap.size (some ⟨gd, 0, none⟩) np cd ((ps.set kk p9).map Pr5.d) [.pointer (some a9)] w10.heap.size 1 37 (hgA.isG hdsA) (by rw [List.length_map]; exact hlen9) rfl (fun j u hu => by
                              rcases j with _ | j
                              · simp at hu; subst hu; exact cell_of_row _ _ 0 _ _ _ (heap_alloc_last w10 _)
                              · simp at hu) (fun u hu => by simp at hu; subst hu; rfl) (by omega) hgA.size (by omega) (by unfold maxLen; omega)
                            obtain ⟨hgB, hkB⟩ := hgA.putG (v' := .slice (some ⟨gd2, 0, none⟩) (np + 1) cd2) hdsA hKA hOA (fun q hq => by
                              have e : gd2 = q := by simpa [Value.ownBlock] using hq
                              subst e; exact hgwA)
                            have hGB := (hGA.later (below_alloc w10 (.cells #[.pointer (some a9)] 28))).side0 (.inl rfl) hgB
                            have hB11 : Below w.heap.size w w11 := HI.out.2.trans ((hbA.mono HI.out.1.g.ga.size).trans (((below_alloc w10 (.cells #[.pointer (some a9)] 28)).mono hGA.ga.size).trans (hgA.below hkB)))
                            have hcR := hGB.copyR hpk hlen9 hl9r (d := .pointer (some a9)) (st := p9.sd) (by rw [updT_ne _ _ _ _ (by omega)]; exact hTA)
                            rw [er] at hcR
                            have hrsB : updT TA 0 (thG 28 w.heap.size (.slice (some ⟨gd2, 0, none⟩) (np + 1) cd2) ((ps.set kk p9).map Pr5.d ++ [.pointer (some a9)])) 8 = some (thG 32 w.heap.size (.slice (some ⟨gr, 0, none⟩) np cr) ((ps.set kk p9).map rV)) := by rw [updT_ne _ _ _ _ (by omega)]; exact hsA.2.1.trans HI.out.1.rs
                            have qr : w11.cell? ⟨gr, kk, none⟩ = some (.pointer (some ⟨pr, 0, none⟩)) := (hGB.ga.isG hrsB).cell kk _ (by rw [List.getElem?_map, hpk]; simp [rV, er])
                            clear hcD hKA hgA hkB hgB
                            go_upto_region 30 with (at_builtin; refine wpL_appG 37 rfl _ _ rfl _ w11 (by exact hrA) ?_)
                            clear hrA qd q0
                            go_wp2_with fail
                            go_at_call 11
                            refine hcR.mono ?_
                            rintro e w12 ⟨r9, TC, rfl, hGC, hsC, hbC⟩
                            have hgC := hGC.ga.later (below_alloc w12 (.cells #[.pointer (some ⟨r9, 0, none⟩)] 32))
                            have hrsC := hsC.2.1.trans hrsB
                            have hdsC : TC 0 = some (thG 28 w.heap.size (.slice (some ⟨gd2, 0, none⟩) (np + 1) cd2) ((ps.set kk p9).map Pr5.d ++ [.pointer (some a9)])) := hsC.1.trans (updT_same _ _ _)
                            obtain ⟨gr2, cr2, w13, hrC, hOC, hKC, hgwC⟩ := appLies eltRp (w12.alloc (.cells #[.pointer (some ⟨r9, 0, none⟩)] 32)) w.heap.size (some ⟨gr, 0, none⟩) np cr ((ps.set kk p9).map rV) [.pointer (some ⟨r9, 0, none⟩)] w12.heap.size 1 38 (hgC.isG hrsC) (by rw [List.length_map]; exact hlen9) rfl (fun j u hu => by
                              rcases j with _ | j
                              · simp at hu; subst hu; exact cell_of_row _ _ 0 _ _ _ (heap_alloc_last w12 _)
                              · simp at hu) (fun u hu => by simp at hu; subst hu; rfl) (by omega) hgC.size (by omega) (by unfold maxLen; omega)
                            obtain ⟨hgD, hkD⟩ := hgC.putG (v' := .slice (some ⟨gr2, 0, none⟩) (np + 1) cr2) hrsC hKC hOC (fun q hq => by
                              have e : gr2 = q := by simpa [Value.ownBlock] using hq
                              subst e; exact hgwC)
                            have hGD := (hGC.later (below_alloc w12 (.cells #[.pointer (some ⟨r9, 0, none⟩)] 32))).side0 (.inr (.inl rfl)) hgD
                            have hB13 : Below w.heap.size w w13 := hB11.trans ((hbC.mono hGB.ga.size).trans (((below_alloc w12 (.cells #[.pointer (some ⟨r9, 0, none⟩)] 32)).mono hGC.ga.size).trans (hgC.below hkD)))
                            have HJ : Hid (Inv5 w.heap.size w13 (.slice (some ⟨gd2, 0, none⟩) (np + 1) cd2) (.slice (some ⟨gr2, 0, none⟩) (np + 1) cr2) gk (i + 1) (np + 1) _ ((ps.set kk p9) ++ [⟨.pointer (some a9), r9, p9.sd, p9.sr⟩]) b9 ∧ Below w.heap.size w w13) := ⟨⟨hGD, by rw [updT_ne _ _ _ _ (by omega), List.map_append]; exact hdsC, by rw [List.map_append]; exact updT_same _ _ _, by rw [List.length_append, hlen9]; rfl, by omega, by omega, fun p hp => by
                              rcases List.mem_append.1 hp with h9 | h9
                              · exact HI.out.1.eq p h9
                              · obtain rfl : p = ⟨.pointer (some a9), r9, p9.sd, p9.sr⟩ := by simpa using h9
                                exact ⟨es.symm, by rw [← hp9]; exact hL9, a9, rfl⟩, HI.out.1.bk, HI.out.1.ggk⟩, hB13⟩
                            clear HI hcR hKC hgC hkD hgD hGD hB13 hB11 hGC hGB hGA
                            go_wp2_with (at_builtin; refine wpL_appG 38 rfl _ _ rfl _ w13 (by exact hrC) ?_)
                            go_roundw
                            case rel => exact ⟨i + 1, np + 1, _, _, _, by omega, by go_num, HJ.out.1, HJ.out.2⟩
                            case measure => simp [intOf]; omega
                          · have hn2' : ¬ (np : Int) < 3 := by omega
                            clear hG9
                            go_wp2
                            go_roundw
                            case rel => exact ⟨i + 1, np, _, _, _, by omega, by go_num, HI.out.1, HI.out.2⟩
                            case measure => simp [intOf]; omega
                        · clear hG9
                          go_wp2
                          go_roundw
                          case rel => exact ⟨i + 1, np, _, _, _, by omega, by go_num, HI.out.1, HI.out.2⟩
                          case measure => simp [intOf]; omega
                · obtain ⟨kk, hkk, hkn⟩ : ∃ kk : Nat, o.on.tmod (np : Int) = (kk : Int) ∧ kk < np := by
                    have h1 := Int.tmod_lt_of_pos o.on (b := (np : Int)) (by omega)
                    exact ⟨(o.on.tmod (np : Int)).toNat, by omega, by omega⟩
                  have FK : Hid ((kk : Int) < (np : Int)) := by show _ < _; omega
                  obtain ⟨p0, hp0⟩ : ∃ q, ps[kk]? = some q := ⟨_, List.getElem?_eq_getElem (by omega)⟩
                  obtain ⟨hpe, hpl, pa, hpd⟩ := Heq.out p0 (List.mem_of_getElem? hp0)
                  obtain ⟨pd, pr, psd, psr⟩ := p0
                  simp only at hpe hpd hpl
                  subst hpe hpd
                  have Hp : Hid (ps[kk]? = some ⟨.pointer (some pa), pr, psd, psd⟩) := hp0
                  have HL : Hid (Lim i psd ∧ BkOk i b) := ⟨hpl, Hbk.out⟩
                  obtain ⟨hGX, hdsX, hrsX, h56X, hBX⟩ := HGX.out
                  obtain ⟨k0, -⟩ := row_cells5 hGX.ga hGX.book
                  rw [hbg] at k0
                  have qs : X.cell? ⟨gk, 0, none⟩ = some (.slice yS nS cS) := by rw [k0, hbS]; rfl
                  have q0 := c0
                  clear hGX hdsX hrsX h56X hBX k0 hp0 hpl
                  go_upto_region 24 with fail
                  obtain ⟨b1, hb1⟩ : ∃ q, decide (o.kind > 4) = q := ⟨_, rfl⟩
                  obtain ⟨b2, hb2⟩ : ∃ q, (b1 && decide (o.kind < 7)) = q := ⟨_, rfl⟩
                  obtain ⟨b3, hb3⟩ : ∃ q, (b2 && decide ((nS : Int) > 20)) = q := ⟨_, rfl⟩
                  refine wp_plains [Fx (.pointer (some ⟨no, 0, none⟩)), Fx (.int .i64 (o.kind)), Fx (.bool b1), Fx (.bool b1), Fx (bif b1 then .pointer (some ⟨no, 0, none⟩) else undef), Fx (bif b1 then .int .i64 (o.kind) else undef), Fx (bif b1 then .bool (decide (o.kind < 7)) else undef), Fx (.bool b2), Fx (.bool b2), Fx (bif b2 then .pointer (some ⟨gk, 0, none⟩) else undef), Fx (bif b2 then .pointer (some ⟨gk, 0, none⟩) else undef), Fx (bif b2 then .pointer (some ⟨gk, 0, none⟩) else undef), Fx (bif b2 then .slice yS nS cS else undef), Fx (bif b2 then .int .i64 ((nS : Int)) else undef), Fx (bif b2 then .bool (decide ((nS : Int) > 20)) else undef), Fx (.bool b3)] (by kernel_rfl) (by kernel_rfl) ?_ ?_ ?_
                  · repeat' (first | exact all_nil | apply all_cons)
                    all_goals intro v y y' hv hb
                    all_goals first | exact Fx_mono _ _ _ _ hv hb
                  · refine ⟨?_, ?_, ?_, ?_, ?_, ?_, ?_, ?_, ?_, ?_, ?_, ?_, ?_, ?_, ?_, ?_, trivial⟩
                    all_goals
                      intro ρ x hp ρc ρg ρf ho hd
                      have o15 : ρ (.tmp 15) = .pointer (some ⟨gk, 0, none⟩) := ho 15 rfl
                      have o17 : ρ (.tmp 17) = .pointer (some ⟨no, 0, none⟩) := ho 17 rfl
                      clear ho
                      have k0 := cell_later hp q0
                      have ks := cell_later hp qs
                      simp only [depsR, depR, slotR, Fx, List.getElem?_cons_succ, List.getElem?_cons_zero, Region.binds, forall_const] at hd
                      simp only [guardR]
                      go_split_ands
                    · go_simp
                    · go_simp
                    · go_simp
                      try exact congrArg Value.bool hb1
                    · go_simp
                    · refine ⟨fun hy => ?_, fun hy => ?_⟩
                      · obtain rfl : b1 = true := by cases b1 <;> first | rfl | (exfalso; simp [yieldR, slotR, undef, *] at hy)
                        go_simp
                      · obtain rfl : b1 = false := by cases b1 <;> first | rfl | (exfalso; simp [yieldR, slotR, undef, *] at hy)
                        rfl
                    · refine ⟨fun hy => ?_, fun hy => ?_⟩
                      · obtain rfl : b1 = true := by cases b1 <;> first | rfl | (exfalso; simp [yieldR, slotR, undef, *] at hy)
                        go_simp
                      · obtain rfl : b1 = false := by cases b1 <;> first | rfl | (exfalso; simp [yieldR, slotR, undef, *] at hy)
                        rfl
                    · refine ⟨fun hy => ?_, fun hy => ?_⟩
                      · obtain rfl : b1 = true := by cases b1 <;> first | rfl | (exfalso; simp [yieldR, slotR, undef, *] at hy)
                        go_simp
                      · obtain rfl : b1 = false := by cases b1 <;> first | rfl | (exfalso; simp [yieldR, slotR, undef, *] at hy)
                        rfl
                    · cases hbb : b1
                      · subst hbb; go_simp; try (simp only [Bool.false_and] at hb2; rw [← hb2]; first | rfl | simp [Fx])
                      · subst hbb; go_simp; try (simp only [Bool.true_and] at hb2; exact congrArg Value.bool hb2)
                    · go_simp
                    · refine ⟨fun hy => ?_, fun hy => ?_⟩
                      · obtain rfl : b2 = true := by cases b2 <;> first | rfl | (exfalso; simp [yieldR, slotR, undef, *] at hy)
                        go_simp
                      · obtain rfl : b2 = false := by cases b2 <;> first | rfl | (exfalso; simp [yieldR, slotR, undef, *] at hy)
                        rfl
                    · refine ⟨fun hy => ?_, fun hy => ?_⟩
                      · obtain rfl : b2 = true := by cases b2 <;> first | rfl | (exfalso; simp [yieldR, slotR, undef, *] at hy)
                        go_simp
                      · obtain rfl : b2 = false := by cases b2 <;> first | rfl | (exfalso; simp [yieldR, slotR, undef, *] at hy)
                        rfl
                    · refine ⟨fun hy => ?_, fun hy => ?_⟩
                      · obtain rfl : b2 = true := by cases b2 <;> first | rfl | (exfalso; simp [yieldR, slotR, undef, *] at hy)
                        go_simp
                      · obtain rfl : b2 = false := by cases b2 <;> first | rfl | (exfalso; simp [yieldR, slotR, undef, *] at hy)
                        rfl
                    · refine ⟨fun hy => ?_, fun hy => ?_⟩
                      · obtain rfl : b2 = true := by cases b2 <;> first | rfl | (exfalso; simp [yieldR, slotR, undef, *] at hy)
                        go_simp
                      · obtain rfl : b2 = false := by cases b2 <;> first | rfl | (exfalso; simp [yieldR, slotR, undef, *] at hy)
                        rfl
                    · refine ⟨fun hy => ?_, fun hy => ?_⟩
                      · obtain rfl : b2 = true := by cases b2 <;> first | rfl | (exfalso; simp [yieldR, slotR, undef, *] at hy)
                        go_simp
                      · obtain rfl : b2 = false := by cases b2 <;> first | rfl | (exfalso; simp [yieldR, slotR, undef, *] at hy)
                        rfl
                    · refine ⟨fun hy => ?_, fun hy => ?_⟩
                      · obtain rfl : b2 = true := by cases b2 <;> first | rfl | (exfalso; simp [yieldR, slotR, undef, *] at hy)
                        go_simp
                      · obtain rfl : b2 = false := by cases b2 <;> first | rfl | (exfalso; simp [yieldR, slotR, undef, *] at hy)
                        rfl
                    · cases hbb : b2
                      · subst hbb; go_simp; try (simp only [Bool.false_and] at hb3; rw [← hb3]; first | rfl | simp [Fx])
                      · subst hbb; go_simp; try (simp only [Bool.true_and] at hb3; exact congrArg Value.bool hb3)
                  · intro vs xA hp hw
                    simp only [owed, Fx] at hw
                    obtain ⟨e0, e1, e2, e3, e4, e5, e6, e7, e8, e9, e10, e11, e12, e13, e14, e15, -⟩ := hw
                    simp only [List.length_cons, List.length_nil, List.take_succ_cons, List.take_nil, List.drop_succ_cons, List.drop_nil, asg, List.cons_append, List.nil_append, e0, e1, e2, e3, e4, e5, e6, e7, e8, e9, e10, e11, e12, e13, e14, e15]
                    clear e0 e1 e2 e3 e4 e5 e6 e7 e8 e9 e10 e11 e12 e13 e14 e15
                    cases b3
                    · obtain ⟨W1, hW1⟩ : ∃ q, q = xA := ⟨_, rfl⟩
                      obtain ⟨kq, hkq⟩ : ∃ q, q = o.kind := ⟨_, rfl⟩
                      have HG1 : Hid (G5 W1 w.heap.size TX ps b (bkA b) ∧ TX 0 = some (thG 28 w.heap.size (.slice (some ⟨gd, 0, none⟩) np cd) (ps.map Pr5.d)) ∧ TX 8 = some (thG 32 w.heap.size (.slice (some ⟨gr, 0, none⟩) np cr) (ps.map rV)) ∧ TX 56 = some (thRow no #[.int .i64 kq, .int .i64 o.on, .int .i64 o.at_, .int .u8 (o.v.toNat : Int), .slice o.y nb o.c]) ∧ Below w.heap.size w W1) := by
                        rw [hW1, hkq]
                        obtain ⟨h1, h2, h3, h4, h5⟩ := HGX.out
                        exact ⟨h1.later hp, h2, h3, h4, h5.trans (hp.mono h5.size)⟩
                      rw [← hW1]
                      clear hb1 hb2 hb3 hp q0 qs HGX hW1 hkq Hbk c0
                      obtain ⟨hG1, hds1, hrs1, h56, hB1⟩ := HG1.out
                      have qd : W1.cell? ⟨gd, kk, none⟩ = some (.pointer (some pa)) := (hG1.ga.isG hds1).cell kk _ (by rw [List.getElem?_map, Hp.out]; rfl)
                      have qr : W1.cell? ⟨gr, kk, none⟩ = some (.pointer (some ⟨pr, 0, none⟩)) := (hG1.ga.isG hrs1).cell kk _ (by rw [List.getElem?_map, Hp.out]; rfl)
                      have hrow := hG1.ga.isRow h56
                      have q0 : W1.cell? ⟨no, 0, none⟩ = some (.int .i64 kq) := by rw [hrow.cell 0]; rfl
                      have q1 : W1.cell? ⟨no, 1, none⟩ = some (.int .i64 o.on) := by rw [hrow.cell 1]; rfl
                      have q2 : W1.cell? ⟨no, 2, none⟩ = some (.int .i64 o.at_) := by rw [hrow.cell 2]; rfl
                      have q3 : W1.cell? ⟨no, 3, none⟩ = some (.int .u8 (o.v.toNat : Int)) := by rw [hrow.cell 3]; rfl
                      have q4 : W1.cell? ⟨no, 4, none⟩ = some (.slice o.y nb o.c) := by rw [hrow.cell 4]; rfl
                      clear hG1 hds1 hrs1 h56 hB1 hrow
                      go_upto_region 26 with fail
                      refine wp_reliesT [Fx (.slice (some ⟨gd, 0, none⟩) np cd), Fx (.int .i64 ((kk : Int))), Fx (.pointer (some ⟨gd, kk, none⟩)), Fx (.pointer (some pa)), Fx (.bool false), Fx (.bool false), Fx (.slice (some ⟨gd, 0, none⟩) np cd), Fx (.int .i64 ((kk : Int))), Fx (.pointer (some ⟨gd, kk, none⟩)), Fx (.pointer (some pa)), Fx (.slice (some ⟨gr, 0, none⟩) np cr), Fx (.int .i64 ((kk : Int))), Fx (.pointer (some ⟨gr, kk, none⟩)), Fx (.pointer (some ⟨pr, 0, none⟩)), Fx (.agg #[.int .i64 kq, .int .i64 o.on, .int .i64 o.at_, .int .u8 (o.v.toNat : Int), .slice o.y nb o.c]), Fx (.pointer (some ⟨gk, 0, none⟩))] (by kernel_rfl) (by kernel_rfl) ?_ ?_ ?_
                      · repeat' (first | exact all_nil | apply all_cons)
                        all_goals intro v y y' hv hb
                        all_goals first | exact Fx_mono _ _ _ _ hv hb
                      · refine ⟨?_, ?_, ?_, ?_, ?_, ?_, ?_, ?_, ?_, ?_, ?_, ?_, ?_, ?_, ?_, ?_, trivial⟩
                        all_goals
                          intro ρ x hp ρc ρg ρf ho hd
                          have o13 : ρ (.tmp 13) = .slice (some ⟨gd, 0, none⟩) np cd := ho 13 rfl
                          have o14 : ρ (.tmp 14) = .slice (some ⟨gr, 0, none⟩) np cr := ho 14 rfl
                          have o15 : ρ (.tmp 15) = .pointer (some ⟨gk, 0, none⟩) := ho 15 rfl
                          have o17 : ρ (.tmp 17) = .pointer (some ⟨no, 0, none⟩) := ho 17 rfl
                          have o18 : ρ (.tmp 18) = .int .i64 ((kk : Int)) := ho 18 rfl
                          clear ho
                          have k0 := cell_later hp q0
                          have k1 := cell_later hp q1
                          have k2 := cell_later hp q2
                          have k3 := cell_later hp q3
                          have k4 := cell_later hp q4
                          have kd := cell_later hp qd
                          have kr := cell_later hp qr
                          simp only [depsR, depR, slotR, Fx, List.getElem?_cons_succ, List.getElem?_cons_zero, Region.binds, forall_const] at hd
                          simp only [guardR]
                          go_split_ands
                        · go_simp
                        · go_simp
                        · have hq := FK.out
                          go_simp
                        · go_simp
                        · go_simp
                        · go_simp
                        · refine ⟨fun _ => ?_, fun hy => absurd (by simp [yieldR, slotR, *]) hy⟩
                          go_simp
                        · refine ⟨fun _ => ?_, fun hy => absurd (by simp [yieldR, slotR, *]) hy⟩
                          go_simp
                        · refine ⟨fun _ => ?_, fun hy => absurd (by simp [yieldR, slotR, *]) hy⟩
                          have hq := FK.out
                          go_simp
                        · refine ⟨fun _ => ?_, fun hy => absurd (by simp [yieldR, slotR, *]) hy⟩
                          go_simp
                        · refine ⟨fun _ => ?_, fun hy => absurd (by simp [yieldR, slotR, *]) hy⟩
                          go_simp
                        · refine ⟨fun _ => ?_, fun hy => absurd (by simp [yieldR, slotR, *]) hy⟩
                          go_simp
                        · refine ⟨fun _ => ?_, fun hy => absurd (by simp [yieldR, slotR, *]) hy⟩
                          have hq := FK.out
                          go_simp
                        · refine ⟨fun _ => ?_, fun hy => absurd (by simp [yieldR, slotR, *]) hy⟩
                          go_simp
                        · refine ⟨fun _ => ?_, fun hy => absurd (by simp [yieldR, slotR, *]) hy⟩
                          go_simp
                        · refine ⟨fun _ => ?_, fun hy => absurd (by simp [yieldR, slotR, *]) hy⟩
                          go_simp
                      · intro vs x1 hp hw
                        simp only [owed, Fx] at hw
                        obtain ⟨e0, e1, e2, e3, e4, e5, e6, e7, e8, e9, e10, e11, e12, e13, e14, e15, -⟩ := hw
                        simp only [List.length_cons, List.length_nil, List.take_succ_cons, List.take_zero, List.drop_succ_cons, List.drop_zero, asg, List.cons_append, List.nil_append, e0, e1, e2, e3, e4, e5, e6, e7, e8, e9, e10, e11, e12, e13, e14, e15]
                        clear e0 e1 e2 e3 e4 e5 e6 e7 e8 e9 e10 e11 e12 e13 e14 e15
                        obtain ⟨hG1, hds1, hrs1, h56, hB1⟩ := HG1.out
                        have hG2 := hG1.later hp
                        have hB2 : Below w.heap.size w x1 := hB1.trans (hp.mono hB1.size)
                        have hbs2 : IsG x1 (.slice o.y nb o.c) (o.bs.map Value.bool) := isG_belowB Hbs.out.1 hB2 (Nat.le_refl _) (fun h9 => Hbs.out.2 (fun e9 => h9 (by rw [e9]; rfl)))
                        have hans := answered5 kq o.on o.at_ o.v o.y nb o.c o.bs hG2 Hp.out HL.out.1 (by omega) HL.out.2 Hat.out.1 Hat.out.2 hnb hnb4 hnbc hbs2 Hbs.out.2
                        rw [hbg] at hans
                        clear q0 q1 q2 q3 q4 qd qr hp hG1
                        go_wp2_with fail
                        go_at_call 9
                        refine hans.mono ?_
                        rintro e w9 ⟨rfl, T9, st9, b9, hG9, hg9, hL9, hb9, hs9, hB9⟩
                        have hBB9 : Below w.heap.size w w9 := hB2.trans hB9
                        have hds9 : T9 0 = some (thG 28 w.heap.size (.slice (some ⟨gd, 0, none⟩) np cd) (ps.map Pr5.d)) := hs9.1.trans hds1
                        have hrs9 : T9 8 = some (thG 32 w.heap.size (.slice (some ⟨gr, 0, none⟩) np cr) (ps.map rV)) := hs9.2.1.trans hrs1
                        have hrow := hG9.ga.isRow (hs9.2.2.trans h56)
                        have q0 : w9.cell? ⟨no, 0, none⟩ = some (.int .i64 kq) := by rw [hrow.cell 0]; rfl
                        obtain ⟨p9, hp9⟩ : ∃ q : Pr5, (⟨.pointer (some pa), pr, st9, st9⟩ : Pr5) = q := ⟨_, rfl⟩
                        rw [hp9] at hG9
                        have e1 : (ps.set kk p9).map Pr5.d = ps.map Pr5.d := map_set5 Pr5.d Hp.out (by rw [← hp9])
                        have e2 : (ps.set kk p9).map rV = ps.map rV := map_set5 rV Hp.out (by rw [← hp9]; rfl)
                        have hlen9 : (ps.set kk p9).length = np := by rw [List.length_set]; exact hlen
                        have heq9 : ∀ p ∈ ps.set kk p9, p.sd = p.sr ∧ Lim (i + 1) p.sd ∧ ∃ a, p.d = .pointer (some a) := fun p hp => by
                          rcases List.mem_or_eq_of_mem_set hp with h9 | h9
                          · exact ⟨(Heq.out p h9).1, (Heq.out p h9).2.1.up, (Heq.out p h9).2.2⟩
                          · rw [h9, ← hp9]; exact ⟨rfl, hL9, pa, rfl⟩
                        have HI : Hid (Inv5 w.heap.size w9 (.slice (some ⟨gd, 0, none⟩) np cd) (.slice (some ⟨gr, 0, none⟩) np cr) gk (i + 1) np T9 (ps.set kk p9) b9 ∧ Below w.heap.size w w9) := ⟨⟨hG9, by rw [e1]; exact hds9, by rw [e2]; exact hrs9, hlen9, hn1, hn3, heq9, hb9, hg9.trans hbg⟩, hBB9⟩
                        clear hds9 hrs9 hrow hs9 hB9 hBB9 heq9 hb9 hB2 hbs2 hans hG2 hds1 hrs1 h56 hB1 HG1 HL Heq
                        by_cases h9 : kq = 9
                        · subst h9
                          by_cases hn2 : np < 3
                          · have hn2' : (np : Int) < 3 := by omega
                            have hpk : (ps.set kk p9)[kk]? = some p9 := set_getk Hp.out
                            have hl9 : Lim 1099511627776 p9.sd := by rw [← hp9]; exact hL9.le (by omega)
                            have hl9r : Lim 1099511627776 p9.sr := by rw [← hp9]; exact hL9.le (by omega)
                            have ed : p9.d = .pointer (some pa) := by rw [← hp9]
                            have er : p9.r = pr := by rw [← hp9]
                            have es : p9.sr = p9.sd := by rw [← hp9]
                            have hcD := HI.out.1.g.copyD hpk hlen9 hl9
                            rw [ed] at hcD
                            have qd : w9.cell? ⟨gd, kk, none⟩ = some (.pointer (some pa)) := (HI.out.1.g.ga.isG HI.out.1.ds).cell kk _ (by rw [List.getElem?_map, hpk]; simp [ed])
                            have hkk' : (kk : Int) < (np : Int) := by omega
                            clear hG9
                            go_wp2_with fail
                            go_at_call 10
                            refine hcD.mono ?_
                            rintro e w10 ⟨a9, TA, rfl, hGA, hTA, hsA, hbA⟩
                            have hgA := hGA.ga.later (below_alloc w10 (.cells #[.pointer (some a9)] 28))
                            have hdsA := hsA.1.trans HI.out.1.ds
                            obtain ⟨gd2, cd2, w11, hrA, hOA, hKA, hgwA⟩ := appLies eltDp (w10.alloc (.cells #[.pointer (some a9)] 28)) w.heap.size (some ⟨gd, 0, none⟩) np cd ((ps.set kk p9).map Pr5.d) [.pointer (some a9)] w10.heap.size 1 37 (hgA.isG hdsA) (by rw [List.length_map]; exact hlen9) rfl (fun j u hu => by
                              rcases j with _ | j
                              · simp at hu; subst hu; exact cell_of_row _ _ 0 _ _ _ (heap_alloc_last w10 _)
                              · simp at hu) (fun u hu => by simp at hu; subst hu; rfl) (by omega) hgA.size (by omega) (by unfold maxLen; omega)
                            obtain ⟨hgB, hkB⟩ := hgA.putG (v' := .slice (some ⟨gd2, 0, none⟩) (np + 1) cd2) hdsA hKA hOA (fun q hq => by
                              have e : gd2 = q := by simpa [Value.ownBlock] using hq
                              subst e; exact hgwA)
                            have hGB := (hGA.later (below_alloc w10 (.cells #[.pointer (some a9)] 28))).side0 (.inl rfl) hgB
                            have hB11 : Below w.heap.size w w11 := HI.out.2.trans ((hbA.mono HI.out.1.g.ga.size).trans (((below_alloc w10 (.cells #[.pointer (some a9)] 28)).mono hGA.ga.size).trans (hgA.below hkB)))
                            have hcR := hGB.copyR hpk hlen9 hl9r (d := .pointer (some a9)) (st := p9.sd) (by rw [updT_ne _ _ _ _ (by omega)]; exact hTA)
                            rw [er] at hcR
                            have hrsB : updT TA 0 (thG 28 w.heap.size (.slice (some ⟨gd2, 0, none⟩) (np + 1) cd2) ((ps.set kk p9).map Pr5.d ++ [.pointer (some a9)])) 8 = some (thG 32 w.heap.size (.slice (some ⟨gr, 0, none⟩) np cr) ((ps.set kk p9).map rV)) := by rw [updT_ne _ _ _ _ (by omega)]; exact hsA.2.1.trans HI.out.1.rs
                            have qr : w11.cell? ⟨gr, kk, none⟩ = some (.pointer (some ⟨pr, 0, none⟩)) := (hGB.ga.isG hrsB).cell kk _ (by rw [List.getElem?_map, hpk]; simp [rV, er])
                            clear hcD hKA hgA hkB hgB
                            go_upto_region 30 with (at_builtin; refine wpL_appG 37 rfl _ _ rfl _ w11 (by exact hrA) ?_)
                            clear hrA qd q0
                            go_wp2_with fail
                            go_at_call 11
                            refine hcR.mono ?_
                            rintro e w12 ⟨r9, TC, rfl, hGC, hsC, hbC⟩
                            have hgC := hGC.ga.later (below_alloc w12 (.cells #[.pointer (some ⟨r9, 0, none⟩)] 32))
                            have hrsC := hsC.2.1.trans hrsB
                            have hdsC : TC 0 = some (thG 28 w.heap.size (.slice (some ⟨gd2, 0, none⟩) (np + 1) cd2) ((ps.set kk p9).map Pr5.d ++ [.pointer (some a9)])) := hsC.1.trans (updT_same _ _ _)
                            obtain ⟨gr2, cr2, w13, hrC, hOC, hKC, hgwC⟩ := appLies eltRp (w12.alloc (.cells #[.pointer (some ⟨r9, 0, none⟩)] 32)) w.heap.size (some ⟨gr, 0, none⟩) np cr ((ps.set kk p9).map rV) [.pointer (some ⟨r9, 0, none⟩)] w12.heap.size 1 38 (hgC.isG hrsC) (by rw [List.length_map]; exact hlen9) rfl (fun j u hu => by
                              rcases j with _ | j
                              · simp at hu; subst hu; exact cell_of_row _ _ 0 _ _ _ (heap_alloc_last w12 _)
                              · simp at hu) (fun u hu => by simp at hu; subst hu; rfl) (by omega) hgC.size (by omega) (by unfold maxLen; omega)
                            obtain ⟨hgD, hkD⟩ := hgC.putG (v' := .slice (some ⟨gr2, 0, none⟩) (np + 1) cr2) hrsC hKC hOC (fun q hq => by
                              have e : gr2 = q := by simpa [Value.ownBlock] using hq
                              subst e; exact hgwC)
                            have hGD := (hGC.later (below_alloc w12 (.cells #[.pointer (some ⟨r9, 0, none⟩)] 32))).side0 (.inr (.inl rfl)) hgD
                            have hB13 : Below w.heap.size w w13 := hB11.trans ((hbC.mono hGB.ga.size).trans (((below_alloc w12 (.cells #[.pointer (some ⟨r9, 0, none⟩)] 32)).mono hGC.ga.size).trans (hgC.below hkD)))
                            have HJ : Hid (Inv5 w.heap.size w13 (.slice (some ⟨gd2, 0, none⟩) (np + 1) cd2) (.slice (some ⟨gr2, 0, none⟩) (np + 1) cr2) gk (i + 1) (np + 1) _ ((ps.set kk p9) ++ [⟨.pointer (some a9), r9, p9.sd, p9.sr⟩]) b9 ∧ Below w.heap.size w w13) := ⟨⟨hGD, by rw [updT_ne _ _ _ _ (by omega), List.map_append]; exact hdsC, by rw [List.map_append]; exact updT_same _ _ _, by rw [List.length_append, hlen9]; rfl, by omega, by omega, fun p hp => by
                              rcases List.mem_append.1 hp with h9 | h9
                              · exact HI.out.1.eq p h9
                              · obtain rfl : p = ⟨.pointer (some a9), r9, p9.sd, p9.sr⟩ := by simpa using h9
                                exact ⟨es.symm, by rw [← hp9]; exact hL9, a9, rfl⟩, HI.out.1.bk, HI.out.1.ggk⟩, hB13⟩
                            clear HI hcR hKC hgC hkD hgD hGD hB13 hB11 hGC hGB hGA
                            go_wp2_with (at_builtin; refine wpL_appG 38 rfl _ _ rfl _ w13 (by exact hrC) ?_)
                            go_roundw
                            case rel => exact ⟨i + 1, np + 1, _, _, _, by omega, by go_num, HJ.out.1, HJ.out.2⟩
                            case measure => simp [intOf]; omega
                          · have hn2' : ¬ (np : Int) < 3 := by omega
                            clear hG9
                            go_wp2
                            go_roundw
                            case rel => exact ⟨i + 1, np, _, _, _, by omega, by go_num, HI.out.1, HI.out.2⟩
                            case measure => simp [intOf]; omega
                        · clear hG9
                          go_wp2
                          go_roundw
                          case rel => exact ⟨i + 1, np, _, _, _, by omega, by go_num, HI.out.1, HI.out.2⟩
                          case measure => simp [intOf]; omega
                    · obtain ⟨W1, hW1⟩ : ∃ q, q = xA.setCell ⟨no, 0, none⟩ (.int .i64 8) := ⟨_, rfl⟩
                      obtain ⟨kq, hkq⟩ : ∃ q : Int, q = 8 := ⟨_, rfl⟩
                      obtain ⟨T1, HG1⟩ : ∃ T1, Hid (G5 W1 w.heap.size T1 ps b (bkA b) ∧ T1 0 = some (thG 28 w.heap.size (.slice (some ⟨gd, 0, none⟩) np cd) (ps.map Pr5.d)) ∧ T1 8 = some (thG 32 w.heap.size (.slice (some ⟨gr, 0, none⟩) np cr) (ps.map rV)) ∧ T1 56 = some (thRow no #[.int .i64 kq, .int .i64 o.on, .int .i64 o.at_, .int .u8 (o.v.toNat : Int), .slice o.y nb o.c]) ∧ Below w.heap.size w W1) := by
                        rw [hW1, hkq]
                        obtain ⟨h1, h2, h3, h4, h5⟩ := HGX.out
                        have g1 := h1.later hp
                        obtain ⟨g9, hk9⟩ := g1.ga.putRow h4 (keep_setCell xA no 0 (.int .i64 8)) ((g1.ga.isRow h4).set 0 (.int .i64 8))
                        refine ⟨_, g1.side0 (.inr (.inr rfl)) g9, by rw [updT_ne _ _ _ _ (by omega)]; exact h2, by rw [updT_ne _ _ _ _ (by omega)]; exact h3, updT_same _ _ _, (h5.trans (hp.mono h5.size)).trans (g1.ga.below hk9)⟩
                      have kc := cell_later hp q0
                      have kf : xA.frozen? ⟨no, 0, none⟩ = false := by
                        obtain ⟨h1, h2, h3, h4, h5⟩ := HGX.out
                        exact ((h1.later hp).ga.isRow h4).frozen 0
                      clear hb1 hb2 hb3 hp q0 qs HGX Hbk c0 hkq
                      go_upto_region 26 with fail
                      rw [← hW1]
                      clear hW1 kc kf
                      obtain ⟨hG1, hds1, hrs1, h56, hB1⟩ := HG1.out
                      have qd : W1.cell? ⟨gd, kk, none⟩ = some (.pointer (some pa)) := (hG1.ga.isG hds1).cell kk _ (by rw [List.getElem?_map, Hp.out]; rfl)
                      have qr : W1.cell? ⟨gr, kk, none⟩ = some (.pointer (some ⟨pr, 0, none⟩)) := (hG1.ga.isG hrs1).cell kk _ (by rw [List.getElem?_map, Hp.out]; rfl)
                      have hrow := hG1.ga.isRow h56
                      have q0 : W1.cell? ⟨no, 0, none⟩ = some (.int .i64 kq) := by rw [hrow.cell 0]; rfl
                      have q1 : W1.cell? ⟨no, 1, none⟩ = some (.int .i64 o.on) := by rw [hrow.cell 1]; rfl
                      have q2 : W1.cell? ⟨no, 2, none⟩ = some (.int .i64 o.at_) := by rw [hrow.cell 2]; rfl
                      have q3 : W1.cell? ⟨no, 3, none⟩ = some (.int .u8 (o.v.toNat : Int)) := by rw [hrow.cell 3]; rfl
                      have q4 : W1.cell? ⟨no, 4, none⟩ = some (.slice o.y nb o.c) := by rw [hrow.cell 4]; rfl
                      clear hG1 hds1 hrs1 h56 hB1 hrow
                      refine wp_reliesT [Fx (.slice (some ⟨gd, 0, none⟩) np cd), Fx (.int .i64 ((kk : Int))), Fx (.pointer (some ⟨gd, kk, none⟩)), Fx (.pointer (some pa)), Fx (.bool false), Fx (.bool false), Fx (.slice (some ⟨gd, 0, none⟩) np cd), Fx (.int .i64 ((kk : Int))), Fx (.pointer (some ⟨gd, kk, none⟩)), Fx (.pointer (some pa)), Fx (.slice (some ⟨gr, 0, none⟩) np cr), Fx (.int .i64 ((kk : Int))), Fx (.pointer (some ⟨gr, kk, none⟩)), Fx (.pointer (some ⟨pr, 0, none⟩)), Fx (.agg #[.int .i64 kq, .int .i64 o.on, .int .i64 o.at_, .int .u8 (o.v.toNat : Int), .slice o.y nb o.c]), Fx (.pointer (some ⟨gk, 0, none⟩))] (by kernel_rfl) (by kernel_rfl) ?_ ?_ ?_
                      · repeat' (first | exact all_nil | apply all_cons)
                        all_goals intro v y y' hv hb
                        all_goals first | exact Fx_mono _ _ _ _ hv hb
                      · refine ⟨?_, ?_, ?_, ?_, ?_, ?_, ?_, ?_, ?_, ?_, ?_, ?_, ?_, ?_, ?_, ?_, trivial⟩
                        all_goals
                          intro ρ x hp ρc ρg ρf ho hd
                          have o13 : ρ (.tmp 13) = .slice (some ⟨gd, 0, none⟩) np cd := ho 13 rfl
                          have o14 : ρ (.tmp 14) = .slice (some ⟨gr, 0, none⟩) np cr := ho 14 rfl
                          have o15 : ρ (.tmp 15) = .pointer (some ⟨gk, 0, none⟩) := ho 15 rfl
                          have o17 : ρ (.tmp 17) = .pointer (some ⟨no, 0, none⟩) := ho 17 rfl
                          have o18 : ρ (.tmp 18) = .int .i64 ((kk : Int)) := ho 18 rfl
                          clear ho
                          have k0 := cell_later hp q0
                          have k1 := cell_later hp q1
                          have k2 := cell_later hp q2
                          have k3 := cell_later hp q3
                          have k4 := cell_later hp q4
                          have kd := cell_later hp qd
                          have kr := cell_later hp qr
                          simp only [depsR, depR, slotR, Fx, List.getElem?_cons_succ, List.getElem?_cons_zero, Region.binds, forall_const] at hd
                          simp only [guardR]
                          go_split_ands
                        · go_simp
                        · go_simp
                        · have hq := FK.out
                          go_simp
                        · go_simp
                        · go_simp
                        · go_simp
                        · refine ⟨fun _ => ?_, fun hy => absurd (by simp [yieldR, slotR, *]) hy⟩
                          go_simp
                        · refine ⟨fun _ => ?_, fun hy => absurd (by simp [yieldR, slotR, *]) hy⟩
                          go_simp
                        · refine ⟨fun _ => ?_, fun hy => absurd (by simp [yieldR, slotR, *]) hy⟩
                          have hq := FK.out
                          go_simp
                        · refine ⟨fun _ => ?_, fun hy => absurd (by simp [yieldR, slotR, *]) hy⟩
                          go_simp
                        · refine ⟨fun _ => ?_, fun hy => absurd (by simp [yieldR, slotR, *]) hy⟩
                          go_simp
                        · refine ⟨fun _ => ?_, fun hy => absurd (by simp [yieldR, slotR, *]) hy⟩
                          go_simp
                        · refine ⟨fun _ => ?_, fun hy => absurd (by simp [yieldR, slotR, *]) hy⟩
                          have hq := FK.out
                          go_simp
                        · refine ⟨fun _ => ?_, fun hy => absurd (by simp [yieldR, slotR, *]) hy⟩
                          go_simp
                        · refine ⟨fun _ => ?_, fun hy => absurd (by simp [yieldR, slotR, *]) hy⟩
                          go_simp
                        · refine ⟨fun _ => ?_, fun hy => absurd (by simp [yieldR, slotR, *]) hy⟩
                          go_simp
                      · intro vs x1 hp hw
                        simp only [owed, Fx] at hw
                        obtain ⟨e0, e1, e2, e3, e4, e5, e6, e7, e8, e9, e10, e11, e12, e13, e14, e15, -⟩ := hw
                        simp only [List.length_cons, List.length_nil, List.take_succ_cons, List.take_zero, List.drop_succ_cons, List.drop_zero, asg, List.cons_append, List.nil_append, e0, e1, e2, e3, e4, e5, e6, e7, e8, e9, e10, e11, e12, e13, e14, e15]
                        clear e0 e1 e2 e3 e4 e5 e6 e7 e8 e9 e10 e11 e12 e13 e14 e15
                        obtain ⟨hG1, hds1, hrs1, h56, hB1⟩ := HG1.out
                        have hG2 := hG1.later hp
                        have hB2 : Below w.heap.size w x1 := hB1.trans (hp.mono hB1.size)
                        have hbs2 : IsG x1 (.slice o.y nb o.c) (o.bs.map Value.bool) := isG_belowB Hbs.out.1 hB2 (Nat.le_refl _) (fun h9 => Hbs.out.2 (fun e9 => h9 (by rw [e9]; rfl)))
                        have hans := answered5 kq o.on o.at_ o.v o.y nb o.c o.bs hG2 Hp.out HL.out.1 (by omega) HL.out.2 Hat.out.1 Hat.out.2 hnb hnb4 hnbc hbs2 Hbs.out.2
                        rw [hbg] at hans
                        clear q0 q1 q2 q3 q4 qd qr hp hG1
                        go_wp2_with fail
                        go_at_call 9
                        refine hans.mono ?_
                        rintro e w9 ⟨rfl, T9, st9, b9, hG9, hg9, hL9, hb9, hs9, hB9⟩
                        have hBB9 : Below w.heap.size w w9 := hB2.trans hB9
                        have hds9 : T9 0 = some (thG 28 w.heap.size (.slice (some ⟨gd, 0, none⟩) np cd) (ps.map Pr5.d)) := hs9.1.trans hds1
                        have hrs9 : T9 8 = some (thG 32 w.heap.size (.slice (some ⟨gr, 0, none⟩) np cr) (ps.map rV)) := hs9.2.1.trans hrs1
                        have hrow := hG9.ga.isRow (hs9.2.2.trans h56)
                        have q0 : w9.cell? ⟨no, 0, none⟩ = some (.int .i64 kq) := by rw [hrow.cell 0]; rfl
                        obtain ⟨p9, hp9⟩ : ∃ q : Pr5, (⟨.pointer (some pa), pr, st9, st9⟩ : Pr5) = q := ⟨_, rfl⟩
                        rw [hp9] at hG9
                        have e1 : (ps.set kk p9).map Pr5.d = ps.map Pr5.d := map_set5 Pr5.d Hp.out (by rw [← hp9])
                        have e2 : (ps.set kk p9).map rV = ps.map rV := map_set5 rV Hp.out (by rw [← hp9]; rfl)
                        have hlen9 : (ps.set kk p9).length = np := by rw [List.length_set]; exact hlen
                        have heq9 : ∀ p ∈ ps.set kk p9, p.sd = p.sr ∧ Lim (i + 1) p.sd ∧ ∃ a, p.d = .pointer (some a) := fun p hp => by
                          rcases List.mem_or_eq_of_mem_set hp with h9 | h9
                          · exact ⟨(Heq.out p h9).1, (Heq.out p h9).2.1.up, (Heq.out p h9).2.2⟩
                          · rw [h9, ← hp9]; exact ⟨rfl, hL9, pa, rfl⟩
                        have HI : Hid (Inv5 w.heap.size w9 (.slice (some ⟨gd, 0, none⟩) np cd) (.slice (some ⟨gr, 0, none⟩) np cr) gk (i + 1) np T9 (ps.set kk p9) b9 ∧ Below w.heap.size w w9) := ⟨⟨hG9, by rw [e1]; exact hds9, by rw [e2]; exact hrs9, hlen9, hn1, hn3, heq9, hb9, hg9.trans hbg⟩, hBB9⟩
                        clear hds9 hrs9 hrow hs9 hB9 hBB9 heq9 hb9 hB2 hbs2 hans hG2 hds1 hrs1 h56 hB1 HG1 HL Heq
                        by_cases h9 : kq = 9
                        · subst h9
                          by_cases hn2 : np < 3
                          · have hn2' : (np : Int) < 3 := by omega
                            have hpk : (ps.set kk p9)[kk]? = some p9 := set_getk Hp.out
                            have hl9 : Lim 1099511627776 p9.sd := by rw [← hp9]; exact hL9.le (by omega)
                            have hl9r : Lim 1099511627776 p9.sr := by rw [← hp9]; exact hL9.le (by omega)
                            have ed : p9.d = .pointer (some pa) := by rw [← hp9]
                            have er : p9.r = pr := by rw [← hp9]
                            have es : p9.sr = p9.sd := by rw [← hp9]
                            have hcD := HI.out.1.g.copyD hpk hlen9 hl9
                            rw [ed] at hcD
                            have qd : w9.cell? ⟨gd, kk, none⟩ = some (.pointer (some pa)) := (HI.out.1.g.ga.isG HI.out.1.ds).cell kk _ (by rw [List.getElem?_map, hpk]; simp [ed])
                            have hkk' : (kk : Int) < (np : Int) := by omega
                            clear hG9
                            go_wp2_with fail
                            go_at_call 10
                            refine hcD.mono ?_
                            rintro e w10 ⟨a9, TA, rfl, hGA, hTA, hsA, hbA⟩
                            have hgA := hGA.ga.later (below_alloc w10 (.cells #[.pointer (some a9)] 28))
                            have hdsA := hsA.1.trans HI.out.1.ds
                            obtain ⟨gd2, cd2, w11, hrA, hOA, hKA, hgwA⟩ := appLies eltDp (w10.alloc (.cells #[.pointer (some a9)] 28)) w.heap.size (some ⟨gd, 0, none⟩) np cd ((ps.set kk p9).map Pr5.d) [.pointer (some a9)] w10.heap.size 1 37 (hgA.isG hdsA) (by rw [List.length_map]; exact hlen9) rfl (fun j u hu => by
                              rcases j with _ | j
                              · simp at hu; subst hu; exact cell_of_row _ _ 0 _ _ _ (heap_alloc_last w10 _)
                              · simp at hu) (fun u hu => by simp at hu; subst hu; rfl) (by omega) hgA.size (by omega) (by unfold maxLen; omega)
                            obtain ⟨hgB, hkB⟩ := hgA.putG (v' := .slice (some ⟨gd2, 0, none⟩) (np + 1) cd2) hdsA hKA hOA (fun q hq => by
                              have e : gd2 = q := by simpa [Value.ownBlock] using hq
                              subst e; exact hgwA)
                            have hGB := (hGA.later (below_alloc w10 (.cells #[.pointer (some a9)] 28))).side0 (.inl rfl) hgB
                            have hB11 : Below w.heap.size w w11 := HI.out.2.trans ((hbA.mono HI.out.1.g.ga.size).trans (((below_alloc w10 (.cells #[.pointer (some a9)] 28)).mono hGA.ga.size).trans (hgA.below hkB)))
                            have hcR := hGB.copyR hpk hlen9 hl9r (d := .pointer (some a9)) (st := p9.sd) (by rw [updT_ne _ _ _ _ (by omega)]; exact hTA)
                            rw [er] at hcR
                            have hrsB : updT TA 0 (thG 28 w.heap.size (.slice (some ⟨gd2, 0, none⟩) (np + 1) cd2) ((ps.set kk p9).map Pr5.d ++ [.pointer (some a9)])) 8 = some (thG 32 w.heap.size (.slice (some ⟨gr, 0, none⟩) np cr) ((ps.set kk p9).map rV)) := by rw [updT_ne _ _ _ _ (by omega)]; exact hsA.2.1.trans HI.out.1.rs
                            have qr : w11.cell? ⟨gr, kk, none⟩ = some (.pointer (some ⟨pr, 0, none⟩)) := (hGB.ga.isG hrsB).cell kk _ (by rw [List.getElem?_map, hpk]; simp [rV, er])
                            clear hcD hKA hgA hkB hgB
                            go_upto_region 30 with (at_builtin; refine wpL_appG 37 rfl _ _ rfl _ w11 (by exact hrA) ?_)
                            clear hrA qd q0
                            go_wp2_with fail
                            go_at_call 11
                            refine hcR.mono ?_
                            rintro e w12 ⟨r9, TC, rfl, hGC, hsC, hbC⟩
                            have hgC := hGC.ga.later (below_alloc w12 (.cells #[.pointer (some ⟨r9, 0, none⟩)] 32))
                            have hrsC := hsC.2.1.trans hrsB
                            have hdsC : TC 0 = some (thG 28 w.heap.size (.slice (some ⟨gd2, 0, none⟩) (np + 1) cd2) ((ps.set kk p9).map Pr5.d ++ [.pointer (some a9)])) := hsC.1.trans (updT_same _ _ _)
                            obtain ⟨gr2, cr2, w13, hrC, hOC, hKC, hgwC⟩ := appLies eltRp (w12.alloc (.cells #[.pointer (some ⟨r9, 0, none⟩)] 32)) w.heap.size (some ⟨gr, 0, none⟩) np cr ((ps.set kk p9).map rV) [.pointer (some ⟨r9, 0, none⟩)] w12.heap.size 1 38 (hgC.isG hrsC) (by rw [List.length_map]; exact hlen9) rfl (fun j u hu => by
                              rcases j with _ | j
                              · simp at hu; subst hu; exact cell_of_row _ _ 0 _ _ _ (heap_alloc_last w12 _)
                              · simp at hu) (fun u hu => by simp at hu; subst hu; rfl) (by omega) hgC.size (by omega) (by unfold maxLen; omega)
                            obtain ⟨hgD, hkD⟩ := hgC.putG (v' := .slice (some ⟨gr2, 0, none⟩) (np + 1) cr2) hrsC hKC hOC (fun q hq => by
                              have e : gr2 = q := by simpa [Value.ownBlock] using hq
                              subst e; exact hgwC)
                            have hGD := (hGC.later (below_alloc w12 (.cells #[.pointer (some ⟨r9, 0, none⟩)] 32))).side0 (.inr (.inl rfl)) hgD
                            have hB13 : Below w.heap.size w w13 := hB11.trans ((hbC.mono hGB.ga.size).trans (((below_alloc w12 (.cells #[.pointer (some ⟨r9, 0, none⟩)] 32)).mono hGC.ga.size).trans (hgC.below hkD)))
                            have HJ : Hid (Inv5 w.heap.size w13 (.slice (some ⟨gd2, 0, none⟩) (np + 1) cd2) (.slice (some ⟨gr2, 0, none⟩) (np + 1) cr2) gk (i + 1) (np + 1) _ ((ps.set kk p9) ++ [⟨.pointer (some a9), r9, p9.sd, p9.sr⟩]) b9 ∧ Below w.heap.size w w13) := ⟨⟨hGD, by rw [updT_ne _ _ _ _ (by omega), List.map_append]; exact hdsC, by rw [List.map_append]; exact updT_same _ _ _, by rw [List.length_append, hlen9]; rfl, by omega, by omega, fun p hp => by
                              rcases List.mem_append.1 hp with h9 | h9
                              · exact HI.out.1.eq p h9
                              · obtain rfl : p = ⟨.pointer (some a9), r9, p9.sd, p9.sr⟩ := by simpa using h9
                                exact ⟨es.symm, by rw [← hp9]; exact hL9, a9, rfl⟩, HI.out.1.bk, HI.out.1.ggk⟩, hB13⟩
                            clear HI hcR hKC hgC hkD hgD hGD hB13 hB11 hGC hGB hGA
                            go_wp2_with (at_builtin; refine wpL_appG 38 rfl _ _ rfl _ w13 (by exact hrC) ?_)
                            go_roundw
                            case rel => exact ⟨i + 1, np + 1, _, _, _, by omega, by go_num, HJ.out.1, HJ.out.2⟩
                            case measure => simp [intOf]; omega
                          · have hn2' : ¬ (np : Int) < 3 := by omega
                            clear hG9
                            go_wp2
                            go_roundw
                            case rel => exact ⟨i + 1, np, _, _, _, by omega, by go_num, HI.out.1, HI.out.2⟩
                            case measure => simp [intOf]; omega
                        · clear hG9
                          go_wp2
                          go_roundw
                          case rel => exact ⟨i + 1, np, _, _, _, by omega, by go_num, HI.out.1, HI.out.2⟩
                          case measure => simp [intOf]; omega
              · obtain rfl : ns = i := by omega
                have hlt' : ¬ (ns : Int) < (ns : Int) := by omega
                have HI : Hid (G5 wr w.heap.size T ps b (bkA b) ∧ Inv5 w.heap.size wr (.slice (some ⟨gd, 0, none⟩) np cd) (.slice (some ⟨gr, 0, none⟩) np cr) gk ns np T ps b ∧ Below w.heap.size w wr) := ⟨hI.g, hI, hB⟩
                obtain ⟨wE, rfl⟩ : ∃ q, q = wr := ⟨_, rfl⟩
                clear hI hB hlt hi
                go_wp2
                go_loopw [19] (fun iv wr => ∃ k : Nat, k ≤ np ∧ iv = .int .i64 k ∧ Below wE.heap.size wE wr) (fun iv _ => np - (intOf iv).toNat)
                case atStart => exact ⟨0, by omega, rfl, Below.refl _ _⟩
                case round =>
                  obtain ⟨k, hk, rfl, hbw⟩ := hrel
                  by_cases hlt9 : k < np
                  · have hlt9' : (k : Int) < (np : Int) := by omega
                    have FK : Hid ((k : Int) < (np : Int)) := hlt9'
                    obtain ⟨p0, hp0⟩ : ∃ q, ps[k]? = some q := ⟨_, List.getElem?_eq_getElem (by omega)⟩
                    obtain ⟨hpe, hpl, pa, hpd⟩ := HI.out.2.1.eq p0 (List.mem_of_getElem? hp0)
                    obtain ⟨pd, pr, psd, psr⟩ := p0
                    simp only at hpe hpd hpl
                    subst hpe hpd
                    have Hp : Hid (ps[k]? = some ⟨.pointer (some pa), pr, psd, psd⟩) := hp0
                    have HL : Hid (Lim 1099511627776 psd) := hpl.le (by omega)
                    have hG9 := HI.out.1.later hbw
                    have qd : wr.cell? ⟨gd, k, none⟩ = some (.pointer (some pa)) := (hG9.ga.isG HI.out.2.1.ds).cell k _ (by rw [List.getElem?_map, hp0]; rfl)
                    have qr : wr.cell? ⟨gr, k, none⟩ = some (.pointer (some ⟨pr, 0, none⟩)) := (hG9.ga.isG HI.out.2.1.rs).cell k _ (by rw [List.getElem?_map, hp0]; rfl)
                    have HBW : Hid (Below wE.heap.size wE wr) := hbw
                    clear hbw hG9 hp0 hpl
                    go_upto_region 34 with fail
                    clear hlt9'
                    refine wp_relies [Fx (.slice (some ⟨gd, 0, none⟩) np cd), Fx (.int .i64 ((k : Int))), Fx (.pointer (some ⟨gd, k, none⟩)), Fx (.pointer (some pa)), Fx (.slice (some ⟨gr, 0, none⟩) np cr), Fx (.int .i64 ((k : Int))), Fx (.pointer (some ⟨gr, k, none⟩)), Fx (.pointer (some ⟨pr, 0, none⟩)), Fx (.bool true), Fx (.bool false)] (by kernel_rfl) (by kernel_rfl) ?_ ?_ ?_
                    · repeat' (first | exact all_nil | apply all_cons)
                      all_goals intro v y y' hv hb
                      all_goals first | exact Fx_mono _ _ _ _ hv hb
                    · refine ⟨?_, ?_, ?_, ?_, ?_, ?_, ?_, ?_, ?_, ?_, trivial⟩
                      all_goals
                        intro ρ x hp ρc ρg ρf ho hd
                        have o13 : ρ (.tmp 13) = .slice (some ⟨gd, 0, none⟩) np cd := ho 13 rfl
                        have o14 : ρ (.tmp 14) = .slice (some ⟨gr, 0, none⟩) np cr := ho 14 rfl
                        have o19 : ρ (.tmp 19) = .int .i64 ((k : Int)) := ho 19 rfl
                        clear ho
                        have kd := cell_later hp qd
                        have kr := cell_later hp qr
                        simp only [depsR, depR, slotR, Fx, List.getElem?_cons_succ, List.getElem?_cons_zero, Region.binds, forall_const] at hd
                        simp only [guardR]
                        go_split_ands
                      · go_simp
                      · go_simp
                      · have hq := FK.out
                        go_simp
                      · go_simp
                      · go_simp
                      · go_simp
                      · have hq := FK.out
                        go_simp
                      · go_simp
                      · obtain ⟨FD, RD, hd9⟩ := (HI.out.1.later (HBW.out.trans (hp.mono (Below.size HBW.out)))).isDev Hp.out
                        obtain ⟨FR, hr9⟩ := (HI.out.1.later (HBW.out.trans (hp.mono (Below.size HBW.out)))).isRef Hp.out
                        go_simp
                        refine (alike5_any hd9 hr9 HL.out.pend).mono ?_
                        rintro e x' ⟨rfl, hb⟩
                        exact ⟨_, rfl, rfl, hb⟩
                      · go_simp
                    · intro vs x1 hp hw
                      simp only [owed, Fx] at hw
                      obtain ⟨e0, e1, e2, e3, e4, e5, e6, e7, e8, e9, -⟩ := hw
                      simp only [List.length_cons, List.length_nil, List.take_succ_cons, List.take_nil, List.drop_succ_cons, List.drop_nil, asg, List.cons_append, List.nil_append, e0, e1, e2, e3, e4, e5, e6, e7, e8, e9]
                      clear e0 e1 e2 e3 e4 e5 e6 e7 e8 e9
                      have HB9 : Hid (Below wE.heap.size wE x1) := HBW.out.trans (hp.mono (Below.size HBW.out))
                      clear hp qd qr
                      go_wp2
                      go_roundw
                      case rel => exact ⟨k + 1, by omega, by go_num, HB9.out⟩
                      case measure => simp [intOf]; omega
                  · obtain rfl : np = k := by omega
                    have hlt9' : ¬ (np : Int) < (np : Int) := by omega
                    have hst := stay5_any (HI.out.1.later hbw) HI.out.2.1.bk (by omega)
                    rw [hbg] at hst
                    have hB9 := HI.out.2.2.trans (hbw.mono HI.out.2.2.size)
                    clear hbw
                    go_wp2_with fail
                    go_at_call 13
                    refine hst.mono ?_
                    rintro e w9 ⟨rfl, hb9⟩
                    go_wp2
                    go_ret
                    exact ⟨rfl, hB9.trans hb9⟩
    · obtain ⟨-, rfl⟩ := h3.resolve_left (fun h9 => hyes ⟨h9.1, h9.2.1⟩)
      have g3 := g2.later hb3
      clear h3
      have hB3 : Below w.heap.size w w3 := hB2.trans (hb3.mono hB2.size)
      go_wp2_with fail
      go_at_call 4
      refine (fill_any N (by omega) xf cf nf fs w3 hnf (HF.out.kept hB3)).mono ?_
      rintro e w4 ⟨y4, c4, rfl, hO4, hb4⟩
      have g4 := g3.later hb4
      have hB4 : Below w.heap.size w w4 := hB3.trans (hb4.mono hB3.size)
      go_wp2_with fail
      go_at_call 6
      refine (refNew_any w4 y4 N c4 (fillL N fs) (fillL_len _ _) (hO4.isK secE_ok) (by omega)).mono ?_
      rintro e w5 ⟨hb5, h5⟩
      have hB5 : Below w.heap.size w w5 := hB4.trans (hb5.mono hB4.size)
      obtain ⟨-, rfl⟩ := h5.resolve_left (fun h9 => hyes ⟨h9.1, h9.2.1⟩)
      have g5 := g4.later hb5
      have t0 : updT (fun _ => none) 0 (thK secE w.heap.size (.slice (some ⟨g, 0, none⟩) (N + 1) cg) (fillL N fs ++ [s165])) 0 = some (thK secE w.heap.size (.slice (some ⟨g, 0, none⟩) (N + 1) cg) (fillL N fs ++ [s165])) := by simp [updT]
      generalize updT (fun _ => none) 0 (thK secE w.heap.size (.slice (some ⟨g, 0, none⟩) (N + 1) cg) (fillL N fs ++ [s165])) = T5 at g5 t0
      have hl5 := g5.isK t0
      have hcut5 := hl5.cut secE_ok N (by omega)
      rw [List.take_left' (fillL_len N fs)] at hcut5
      obtain ⟨ok1, rg1⟩ := rg_of (hl5.range secE_ok N s165 (by rw [List.getElem?_append_right (by simp [fillL_len]), fillL_len]; simp)) (secE_ok.len _)
      have e1 : secE.k = 64 := rfl
      have e2 : (secE.enc s165).toArray = secA s165 := by simp only [secE, Array.toArray_toList]
      rw [e2] at rg1
      rw [e1] at ok1 rg1
      have HRG : Hid (rgOk w5 g (N * 64) 64 = true ∧ rg w5 g (N * 64) 64 = secA s165) := ⟨ok1, rg1⟩
      have HLT : Hid (g < w5.heap.size) := (World.ownsRow.lt hl5 g rfl).2
      have HCUT : Hid (OwnK secE w5 w.heap.size (.slice (some ⟨g, 0, none⟩) N cg) (fillL N fs)) := hcut5
      have HEQ : Hid (secEq s165 s165 = true) := by show _ = _; rw [secEq_dec]; simp
      have FN : Hid ((N : Int) < (N : Int) + 1) := by show _ < _; omega
      have HF0 : Hid (IsB w (.slice xf nf cf) fs) := HF.out
      have HF : Hid (IsB w5 (.slice xf nf cf) fs) := HF0.out.kept hB5
      have HGA : Hid (Ga w5 w.heap.size T5) := g5
      have HT : Hid (T5 0 = some (thK secE w.heap.size (.slice (some ⟨g, 0, none⟩) (N + 1) cg) (fillL N fs ++ [s165])) ) := t0
      have HB5 : Hid (Below w.heap.size w w5) := hB5
      clear g2 g3 g4 g5 hb3 hb4 hb5 hB2 hB3 hB4 hB5 hO4 h5 hl5 hcut5 ok1 rg1 e1 e2 t0 
      go_upto_region 6 with fail
      refine wp_relies [Fx (.bool true), Fx (.bool false), Fx (.bool false), Fx (.int .i64 (22)), Fx (.int .i64 (22)), Fx (.bool false), Fx (.bool false), Fx (.bool false), Fx (.pointer none), Fx (.bool true), Fx (.pointer none), Fx (.bool true), Fx (.bool false), Fx (.bool false), Fx (.bool false), Fx (.slice (some ⟨g, 0, none⟩) (N + 1) cg), Fx (.int .i64 ((N : Int))), Fx (.slice (some ⟨g, 0, none⟩) N cg), Fx (.int .i64 ((N : Int))), Fx (.slice xf nf cf), SlD secE N (fillL N fs), Fx (.bool true), Fx (.bool false), Fx (.bool false), Fx (.bool false), Fx (.slice (some ⟨g, 0, none⟩) (N + 1) cg), Fx (.int .i64 ((N : Int))), Fx (.pointer (some ⟨g, N * 64, none⟩)), Fx (.agg (secA s165)), Fx (.agg (secA s165)), Fx (.bool false), Fx (.bool false)] (by kernel_rfl) (by kernel_rfl) ?_ ?_ ?_
      · repeat' (first | exact all_nil | apply all_cons)
        all_goals intro v y y' hv hb
        all_goals first | exact Fx_mono _ _ _ _ hv hb | exact SlD.keep hv hb
      · refine ⟨?_, ?_, ?_, ?_, ?_, ?_, ?_, ?_, ?_, ?_, ?_, ?_, ?_, ?_, ?_, ?_, ?_, ?_, ?_, ?_, ?_, ?_, ?_, ?_, ?_, ?_, ?_, ?_, ?_, ?_, ?_, ?_, trivial⟩
        all_goals
          intro ρ x hp ρc ρg ρf ho hd
          have o0 : ρ (.tmp 0) = .int .i64 ((N : Int)) := ho 0 rfl
          have o1 : ρ (.tmp 1) = .slice xf nf cf := ho 1 rfl
          have o7 : ρ (.tmp 7) = .slice (some ⟨g, 0, none⟩) (N + 1) cg := ho 7 rfl
          have o8 : ρ (.tmp 8) = .pointer none := ho 8 rfl
          have o9 : ρ (.tmp 9) = .int .i64 (22) := ho 9 rfl
          have o10 : ρ (.tmp 10) = .pointer none := ho 10 rfl
          have o11 : ρ (.tmp 11) = .int .i64 (22) := ho 11 rfl
          clear ho
          obtain ⟨z1, z2⟩ := rg_on5 hp HLT.out HRG.out.1 HRG.out.2
          have hEq := HEQ.out
          simp only [depsR, depR, slotR, Fx, List.getElem?_cons_succ, List.getElem?_cons_zero, Region.binds, forall_const] at hd
          simp only [guardR]
          go_split_ands
        · go_simp
          refine (knownDev devOk devNil x).mono ?_
          rintro e x' ⟨rfl, hb⟩
          exact ⟨_, rfl, rfl, hb⟩
        · go_simp
        · go_simp
        · refine ⟨fun _ => ?_, fun hy => absurd (by simp [yieldR, slotR, *]) hy⟩
          go_simp
        · refine ⟨fun _ => ?_, fun hy => absurd (by simp [yieldR, slotR, *]) hy⟩
          go_simp
        · refine ⟨fun _ => ?_, fun hy => absurd (by simp [yieldR, slotR, *]) hy⟩
          go_simp
        · go_simp
        · go_simp
        · refine ⟨fun _ => ?_, fun hy => absurd (by simp [yieldR, slotR, *]) hy⟩
          go_simp
        · refine ⟨fun _ => ?_, fun hy => absurd (by simp [yieldR, slotR, *]) hy⟩
          go_simp
        · refine ⟨fun _ => ?_, fun hy => absurd (by simp [yieldR, slotR, *]) hy⟩
          go_simp
        · refine ⟨fun _ => ?_, fun hy => absurd (by simp [yieldR, slotR, *]) hy⟩
          go_simp
        · refine ⟨fun _ => ?_, fun hy => absurd (by simp [yieldR, slotR, *]) hy⟩
          go_simp
        · go_simp
        · go_simp
        · refine ⟨fun _ => ?_, fun hy => absurd (by simp [yieldR, slotR, *]) hy⟩
          go_simp
        · refine ⟨fun _ => ?_, fun hy => absurd (by simp [yieldR, slotR, *]) hy⟩
          go_simp
        · refine ⟨fun _ => ?_, fun hy => absurd (by simp [yieldR, slotR, *]) hy⟩
          have hq := FN.out
          have hq2 := FC.out
          go_simp
        · refine ⟨fun _ => ?_, fun hy => absurd (by simp [yieldR, slotR, *]) hy⟩
          go_simp
        · refine ⟨fun _ => ?_, fun hy => absurd (by simp [yieldR, slotR, *]) hy⟩
          go_simp
        · refine ⟨fun _ => ?_, fun hy => absurd (by simp [yieldR, slotR, *]) hy⟩
          go_simp
          refine (fill_any N (by omega) xf cf nf fs x hnf (HF.out.kept hp)).mono ?_
          rintro e x' ⟨y9, c9, rfl, ho9, hb⟩
          exact ⟨_, rfl, ⟨y9, c9, rfl, ho9.le (Nat.zero_le _)⟩, hb⟩
        · refine ⟨fun _ => ?_, fun hy => absurd (by simp [yieldR, slotR, *]) hy⟩
          obtain ⟨y9, c9, hv, ho9⟩ : SlD secE N (fillL N fs) (ρ (.tmp 66)) x := by first | exact hd.2.1 | exact hd.1 | assumption
          go_simp
          refine (sameS_any (some ⟨g, 0, none⟩) y9 cg c9 N N (fillL N fs) (fillL N fs) x (fillL_len _ _) (fillL_len _ _) (OwnK.isK secE_ok (OwnK.keep HCUT.out hp)) (OwnK.isK secE_ok ho9) (by omega)).mono ?_
          rintro e x' ⟨rfl, hb⟩
          exact ⟨_, rfl, by rw [decide_eq_true rfl]; rfl, hb⟩
        · refine ⟨fun _ => ?_, fun hy => absurd (by simp [yieldR, slotR, *]) hy⟩
          go_simp
        · go_simp
        · go_simp
        · refine ⟨fun _ => ?_, fun hy => absurd (by simp [yieldR, slotR, *]) hy⟩
          go_simp
        · refine ⟨fun _ => ?_, fun hy => absurd (by simp [yieldR, slotR, *]) hy⟩
          go_simp
        · refine ⟨fun _ => ?_, fun hy => absurd (by simp [yieldR, slotR, *]) hy⟩
          have hq := FN.out
          have hq2 := FC.out
          go_simp
        · refine ⟨fun _ => ?_, fun hy => absurd (by simp [yieldR, slotR, *]) hy⟩
          go_simp
        · refine ⟨fun _ => ?_, fun hy => absurd (by simp [yieldR, slotR, *]) hy⟩
          go_simp
        · refine ⟨fun _ => ?_, fun hy => absurd (by simp [yieldR, slotR, *]) hy⟩
          go_simp
        · go_simp
      · intro vs x6 hp hw
        simp only [owed, Fx] at hw
        obtain ⟨e0, e1, e2, e3, e4, e5, e6, e7, e8, e9, e10, e11, e12, e13, e14, e15, e16, e17, e18, e19, ⟨y20, c20, e20, -⟩, e21, e22, e23, e24, e25, e26, e27, e28, e29, e30, e31, -⟩ := hw
        simp only [List.length_cons, List.length_nil, List.take_succ_cons, List.take_nil, List.drop_succ_cons, List.drop_nil, asg, List.cons_append, List.nil_append, e0, e1, e2, e3, e4, e5, e6, e7, e8, e9, e10, e11, e12, e13, e14, e15, e16, e17, e18, e19, e20, e21, e22, e23, e24, e25, e26, e27, e28, e29, e30, e31]
        clear e0 e1 e2 e3 e4 e5 e6 e7 e8 e9 e10 e11 e12 e13 e14 e15 e16 e17 e18 e19 e20 e21 e22 e23 e24 e25 e26 e27 e28 e29 e30 e31
        have HA6 : Hid (Ga x6 w.heap.size T5 ∧ Below w.heap.size w x6) := ⟨HGA.out.later hp, HB5.out.trans (hp.mono (Below.size HB5.out))⟩
        clear hp HGA HB5 HRG HLT HCUT HEQ
        go_wp2
        go_loopw [12] (fun iv wr => ∃ (i : Nat) (T : Nat → Option Th) (ms : List Sc), i ≤ N + 1 ∧ iv = .int .i64 i ∧ ms.length = N + 1 ∧ Ga wr w.heap.size T ∧ T 0 = some (thK secE w.heap.size (.slice (some ⟨g, 0, none⟩) (N + 1) cg) ms) ∧ Below w.heap.size w wr) (fun iv _ => N + 1 - (intOf iv).toNat)
        case atStart => exact ⟨0, T5, _, by omega, rfl, by simp [fillL_len], HA6.out.1, HT.out, HA6.out.2⟩
        case round =>
          clear HA6 HT
          obtain ⟨i, Ti, ms, hi, rfl, hms, hG, t0, hBw⟩ := hrel
          by_cases hlt : i < N + 1
          · have hlt' : (i : Int) < (N : Int) + 1 := by omega
            have hl := hG.isK t0
            have hst := secStore_mid hl i s166 (by omega)
            have hput := secPut hl i s166 (by omega)
            obtain ⟨hG2, hK2⟩ := hG.putK (v' := .slice (some ⟨g, 0, none⟩) (N + 1) cg) (ds' := ms.set i s166) (W' := wr.setCells g (i * 64) (secA s166).toList) t0 (Keep.of_grown (grown_setC wr g (i * 64) _) (fun q hq => by cases hq; simp [Value.ownBlock])) hput (fun q hq => .inl hq)
            have hB9 := hBw.trans (hG.below hK2)
            have HR : Hid _ := And.intro hG2 (And.intro (updT_same Ti 0 (thK secE w.heap.size (.slice (some ⟨g, 0, none⟩) (N + 1) cg) (ms.set i s166))) hB9)
            clear hG hl hput hG2 hK2 hB9 hBw t0 
            generalize wr.setCells g (i * 64) (secA s166).toList = X1 at hst HR
            go_wp2
            go_roundw
            case rel =>
              obtain ⟨r1, r2, r5⟩ := HR.out
              exact ⟨i + 1, _, _, by omega, by go_num, by rw [List.length_set]; exact hms, r1, r2, r5⟩
            case measure => simp [intOf]; omega
          · obtain rfl : N + 1 = i := by omega
            have hlt' : ¬ ((N : Int) + 1) < (N : Int) + 1 := by omega
            have HBw : Hid _ := hBw
            clear hBw hG t0
            go_wp2
            go_ret
            exact ⟨rfl, HBw.out⟩
  by_cases hneg : n0 < 0
  · go_wp2
  · by_cases hbig : n0 > 1030
    · go_wp2
    · have hr := hrest n0.toNat (by omega)
      rw [Int.toNat_of_nonneg (by omega)] at hr
      clear hrest
      go_wp2
      exact hr _ _ _ _ _ _
end Go.Proofs.Ytadnfiikfhdphaa
