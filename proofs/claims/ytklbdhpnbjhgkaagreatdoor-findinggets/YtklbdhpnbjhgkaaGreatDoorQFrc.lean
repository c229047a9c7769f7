import Derived.Test.YtklbdhpnbjhgkaaGreatDoorQFrb
namespace Go.Proofs.YtklbdhpnbjhgkaaGreatDoor
open Go.RowKit Go.Sort

/-! The document's own reader: dropped -/
theorem RrI.keepG {t : TypeId} {w w' : World} {B g : Nat} {x : Option Addr} {n c : Nat} {b : List UInt8} {S : Rs} {v : Value} {ds : List Value} (h : RrI w g x n c b S) (hg : w.grownBy w' v.ownBlock) (ho : OwnG t w B v ds) (hb : g < B) : RrI w' g x n c b S := by
  have hK : Keep v.ownBlock.toList w w' := Keep.of_grown hg (fun q hq => by rw [hq]; simp)
  have hq : ∀ z, z ∈ v.ownBlock.toList → B ≤ z := fun z hz => (OwnG.lt ho z (by simpa using hz)).1
  exact ⟨h.row.keepsF hK (fun hm => by have := hq g hm; omega), h.isb.keepF hK (fun a ha hm => by have := h.far a ha; have := hq _ hm; omega), h.len, h.cap, h.far, h.small, h.le⟩
set_option linter.unusedSimpArgs false in
set_option maxRecDepth 100000 in
set_option maxHeartbeats 40000000 in
theorem refDropped22 (w : World) (g : Nat) (x : Option Addr) (n c : Nat) (b : List UInt8) (S : Rs) (h : RrI w g x n c b S) : Calls Tryz.prog 76 #[.pointer (some ⟨g, 0, none⟩)] w fun e w' => ∃ v, e = .returned v ∧ OwnI w' w.heap.size v (listS (bdI b) b S).1 ∧ RrI w' g x n c b (listS (bdI b) b S).2 ∧ Keep [g] w w' := by
  obtain ⟨RES, hres⟩ : ∃ q, listS (bdI b) b S = q := ⟨_, rfl⟩
  rw [hres]
  obtain ⟨N, S0, hN0⟩ : ∃ N S0, numS 2 b S = (N, S0) := ⟨_, _, rfl⟩
  have HRES : Hid (loopS (bdI b) N [] S0 = RES) := by show _ = _; rw [← hres]; unfold listS; rw [hN0]
  have hNl := numS_lt 2 b S
  rw [hN0] at hNl
  have HN : Hid (N < 65536) := hNl
  have hNa := refNumber22 w g x n c b S 2 (by omega) h
  rw [hN0] at hNa
  have HG : Hid (g < w.heap.size) := h.row.lt
  clear hres hN0 hNl h
  go_enter Tryz.func76, Tryz.ntmps76
  go_wp2_with fail
  refine hNa.mono ?_
  rintro e w1 ⟨rfl, hI1, k1⟩
  clear hNa
  go_wp2_with fail
  go_loopw [3, 5] (fun lv iv wr => ∃ (lv0 : Value) (i : Nat) (L : List Int) (T : Rs), lv0 = lv ∧ i ≤ N ∧ iv = .int .i64 (i : Int) ∧ L.length = i ∧ OwnI wr w.heap.size lv0 L ∧ RrI wr g x n c b T ∧ Keep [g] w wr ∧ loopS (bdI b) (N - i) L T = RES) (fun _ iv _ => N - (intOf iv).toNat)
  case atStart => exact ⟨_, 0, [], S0, rfl, by omega, rfl, rfl, OwnG.nil _ _ _, hI1, k1, by rw [Nat.sub_zero]; exact HRES.out⟩
  case round =>
    clear hI1 k1 HRES
    obtain ⟨lv, i, L, T, rfl, hi, rfl, hLL, hO, hI, hKw, hRES⟩ := hrel
    have HLL : Hid (L.length = i) := hLL
    by_cases hlt : i < N
    · have HLT : Hid (i < N) := hlt
      have i0 : (i : Int) < (N : Int) := by omega
      have i1 : (0 : Int) ≤ (i : Int) := by omega
      have wi : IntKind.i64.wrap ((i : Int) + 1) = (i : Int) + 1 := by rw [IntKind.wrap_i64]; have := HN.out; omega
      clear hLL hi
      obtain ⟨p, e0, q⟩ := T
      by_cases hT0 : e0 = 0
      · subst hT0
        have c1 : wr.cell? ⟨g, 1, none⟩ = some (.int .i64 (p : Int)) := by rw [hI.row.cell]; rfl
        have c2 : wr.cell? ⟨g, 2, none⟩ = some (.int .i64 0) := by rw [hI.row.cell]; rfl
        have HSTEP : Hid (∀ f S, bdI b L (p, 0, q) = (f, S) → loopS (bdI b) (N - (i + 1)) (L ++ [f]) S = RES) := fun f S hf => by
          have h9 := hRES
          rw [show N - i = (N - (i + 1)) + 1 by omega, loopS, if_pos rfl, hf] at h9
          exact h9
        have ZF : Hid (∀ q, lv.ownBlock = some q → q ≠ g) := fun q hq => by have := World.ownsRow.lt hO q hq; have := HG.out; omega
        have KB : Hid (Keep [g] w wr) := hKw
        clear hRES hKw
        obtain ⟨k, S1, hk1⟩ : ∃ k S1, numS 2 b (p, 0, q) = (k, S1) := ⟨_, _, rfl⟩
        have hNa := refNumber22 wr g x n c b (p, 0, q) 2 (by omega) hI
        rw [hk1] at hNa
        have HK1 : Hid _ := hk1
        clear hk1
        go_wp2_with fail
        refine hNa.mono ?_
        rintro e u1 ⟨rfl, hI9, k9⟩
        clear hNa hI
        have hI := hI9
        have hO9 := OwnG.keepsF hO k9 (fun q hq => by have := ZF.out q hq; simpa using this)
        clear hO
        have hO := hO9
        have KB9 : Hid (Keep [g] w u1) := KB.out.trans k9
        clear KB
        have KB := KB9
        clear hI9 hO9 KB9 k9
        clear c1 c2
        obtain ⟨f, hf⟩ : ∃ f : Int, ((k : Nat) : Int) = f := ⟨_, rfl⟩
        have HF : Hid _ := hf
        cases hok : okS k
        · have HC1 : Hid (okS k = false) := hok
          have d1 : (127 : Int) < f := by have := okS_no hok; omega
          rw [hf]
          clear hok hf
          have HBD : Hid (bdI b L (p, 0, q) = (f, if behO ltI L.getLast? f = true then (failS 13 p S1) else failS 11 p (failS 13 p S1))) := by
            show _ = _
            unfold bdI
            simp only [HK1.out, HC1.out, HF.out, Bool.false_eq_true, if_true, if_false]
          have hFb := refFail22 u1 g x n c b S1 13 p hI
          go_wp2_with fail
          refine hFb.mono ?_
          rintro e u2 ⟨rfl, hI9, k9⟩
          clear hFb hI
          have hI := hI9
          have hO9 := OwnG.keepsF hO k9 (fun q hq => by have := ZF.out q hq; simpa using this)
          clear hO
          have hO := hO9
          have KB9 : Hid (Keep [g] w u2) := KB.out.trans k9
          clear KB
          have KB := KB9
          clear hI9 hO9 KB9 k9
          by_cases h0 : i = 0
          · subst h0
            have HO3 : Hid (behO ltI L.getLast? f = true) := beh_at ltI L 0 f HLL.out rfl
            have HE5 : Hid (bdI b L (p, 0, q) = (f, (failS 13 p S1))) := by show _ = _; rw [HBD.out]; rw [if_pos HO3.out]
            have bA := below_alloc u2 (.cells (#[.int .i64 f]) 3)
            have hO4 : OwnI (u2.alloc (.cells (#[.int .i64 f]) 3)) w.heap.size lv L := OwnI.keep hO bA
            obtain ⟨v9, w9, hra, hO9, hg9, -⟩ := run_app1G intsElt (u2.alloc (.cells (#[.int .i64 f]) 3)) w.heap.size u2.heap.size 1 lv (inV L) (.int .i64 f) 30 hO4 (by simp) rfl (by rw [inV_len]; have := HN.out; have := HLL.out; have := HLT.out; omega) (by unfold maxLen; rw [inV_len]; have := HN.out; have := HLL.out; have := HLT.out; omega) (Nat.le_trans KB.out.size bA.size)
            have HO8 : Hid (OwnI w9 w.heap.size v9 (L ++ [f])) := by show OwnI _ _ _ _; unfold OwnI; rw [inV_app]; exact hO9
            have bB : Below w.heap.size (u2.alloc (.cells (#[.int .i64 f]) 3)) w9 := grownB_below hg9 (Nat.le_trans KB.out.size bA.size) (fun q hq => (OwnG.lt hO4 q hq).1)
            have HR : Hid (RrI w9 g x n c b (failS 13 p S1)) := (hI.later bA).keepG hg9 hO4 HG.out
            have HK8 : Hid (Keep [g] w w9) := KB.out.appB ((bA.mono KB.out.size).trans bB)
            clear hO9 hg9 bB bA hI hO KB hO4
            go_wp2_with (at_builtin; refine wpL_appG 30 rfl _ _ rfl _ w9 (by exact hra) ?_)
            go_roundw
            case rel => first | exact ⟨_, 0 + 1, L ++ [f], (failS 13 p S1), rfl, by have := HLT.out; omega, by go_num, by simp [HLL.out], HO8.out, HR.out, HK8.out, HSTEP.out f (failS 13 p S1) HE5.out⟩ | ((repeat apply Exists.intro); refine ⟨⟨_, 0 + 1, L ++ [f], (failS 13 p S1), rfl, by have := HLT.out; omega, ?_, by simp [HLL.out], HO8.out, HR.out, HK8.out, HSTEP.out f (failS 13 p S1) HE5.out⟩, rfl⟩; go_num)
            case measure => have := HLT.out; simp [intOf]; omega
          · obtain ⟨u, hu, hlast⟩ := last_get L i HLL.out (by omega)
            obtain ⟨gl, cl, hlv, -, hgl, -, -⟩ := OwnG.form hO (by intro e9; have h9 := congrArg List.length e9; rw [inV_len, HLL.out] at h9; exact h0 h9)
            rw [inV_len, HLL.out] at hlv
            subst hlv
            have cu : u2.cell? ⟨gl, i - 1, none⟩ = some (.int .i64 u) := OwnG.cell hO (i - 1) _ (inV_get L _ u hu)
            have HO3 : Hid (behO ltI L.getLast? f = ltI u f) := by show _ = _; rw [hlast]; rfl
            have wk1 : IntKind.i64.wrap ((i : Int) - 1) = ((i - 1 : Nat) : Int) := by rw [IntKind.wrap_i64]; have := HLT.out; have := HN.out; omega
            have j0 : (0 : Int) ≤ ((i - 1 : Nat) : Int) := by omega
            have j1 : ((i - 1 : Nat) : Int) < (i : Int) := by omega
            have j2 : (0 : Int) < (i : Int) := by omega
            clear hu hlast
            by_cases hlt9 : u < f
            · have HL9 : Hid (ltI u f = true) := by show _ = _; unfold ltI; simp [hlt9]
              have d9 : ¬ f ≤ u := by omega
              clear hlt9
              have HE5 : Hid (bdI b L (p, 0, q) = (f, (failS 13 p S1))) := by show _ = _; rw [HBD.out]; rw [if_pos (by rw [HO3.out, HL9.out])]
              have bA := below_alloc u2 (.cells (#[.int .i64 f]) 3)
              have hO4 : OwnI (u2.alloc (.cells (#[.int .i64 f]) 3)) w.heap.size (.slice (some ⟨gl, 0, none⟩) i cl) L := OwnI.keep hO bA
              obtain ⟨v9, w9, hra, hO9, hg9, -⟩ := run_app1G intsElt (u2.alloc (.cells (#[.int .i64 f]) 3)) w.heap.size u2.heap.size 1 (.slice (some ⟨gl, 0, none⟩) i cl) (inV L) (.int .i64 f) 30 hO4 (by simp) rfl (by rw [inV_len]; have := HN.out; have := HLL.out; have := HLT.out; omega) (by unfold maxLen; rw [inV_len]; have := HN.out; have := HLL.out; have := HLT.out; omega) (Nat.le_trans KB.out.size bA.size)
              have HO8 : Hid (OwnI w9 w.heap.size v9 (L ++ [f])) := by show OwnI _ _ _ _; unfold OwnI; rw [inV_app]; exact hO9
              have bB : Below w.heap.size (u2.alloc (.cells (#[.int .i64 f]) 3)) w9 := grownB_below hg9 (Nat.le_trans KB.out.size bA.size) (fun q hq => (OwnG.lt hO4 q hq).1)
              have HR : Hid (RrI w9 g x n c b (failS 13 p S1)) := (hI.later bA).keepG hg9 hO4 HG.out
              have HK8 : Hid (Keep [g] w w9) := KB.out.appB ((bA.mono KB.out.size).trans bB)
              clear hO9 hg9 bB bA hI hO KB hO4
              go_wp2_with (at_builtin; refine wpL_appG 30 rfl _ _ rfl _ w9 (by exact hra) ?_)
              go_roundw
              case rel => first | exact ⟨_, i + 1, L ++ [f], (failS 13 p S1), rfl, by have := HLT.out; omega, by go_num, by simp [HLL.out], HO8.out, HR.out, HK8.out, HSTEP.out f (failS 13 p S1) HE5.out⟩ | ((repeat apply Exists.intro); refine ⟨⟨_, i + 1, L ++ [f], (failS 13 p S1), rfl, by have := HLT.out; omega, ?_, by simp [HLL.out], HO8.out, HR.out, HK8.out, HSTEP.out f (failS 13 p S1) HE5.out⟩, rfl⟩; go_num)
              case measure => have := HLT.out; simp [intOf]; omega
            · have HL9 : Hid (ltI u f = false) := by show _ = _; unfold ltI; simp [hlt9]
              have d9 : f ≤ u := by omega
              clear hlt9
              have hFa := refFail22 u2 g x n c b (failS 13 p S1) 11 p hI
              go_wp2_with fail
              refine hFa.mono ?_
              rintro e x2 ⟨rfl, hI9, k9⟩
              clear hFa hI
              have hI := hI9
              have hO9 := OwnG.keepsF hO k9 (fun q hq => by have := ZF.out q hq; simpa using this)
              clear hO
              have hO := hO9
              have KB9 : Hid (Keep [g] w x2) := KB.out.trans k9
              clear KB
              have KB := KB9
              clear hI9 hO9 KB9 k9
              clear cu
              have HE5 : Hid (bdI b L (p, 0, q) = (f, (failS 11 p (failS 13 p S1)))) := by show _ = _; rw [HBD.out]; rw [if_neg (by rw [HO3.out, HL9.out]; simp)]
              have bA := below_alloc x2 (.cells (#[.int .i64 f]) 3)
              have hO4 : OwnI (x2.alloc (.cells (#[.int .i64 f]) 3)) w.heap.size (.slice (some ⟨gl, 0, none⟩) i cl) L := OwnI.keep hO bA
              obtain ⟨v9, w9, hra, hO9, hg9, -⟩ := run_app1G intsElt (x2.alloc (.cells (#[.int .i64 f]) 3)) w.heap.size x2.heap.size 1 (.slice (some ⟨gl, 0, none⟩) i cl) (inV L) (.int .i64 f) 30 hO4 (by simp) rfl (by rw [inV_len]; have := HN.out; have := HLL.out; have := HLT.out; omega) (by unfold maxLen; rw [inV_len]; have := HN.out; have := HLL.out; have := HLT.out; omega) (Nat.le_trans KB.out.size bA.size)
              have HO8 : Hid (OwnI w9 w.heap.size v9 (L ++ [f])) := by show OwnI _ _ _ _; unfold OwnI; rw [inV_app]; exact hO9
              have bB : Below w.heap.size (x2.alloc (.cells (#[.int .i64 f]) 3)) w9 := grownB_below hg9 (Nat.le_trans KB.out.size bA.size) (fun q hq => (OwnG.lt hO4 q hq).1)
              have HR : Hid (RrI w9 g x n c b (failS 11 p (failS 13 p S1))) := (hI.later bA).keepG hg9 hO4 HG.out
              have HK8 : Hid (Keep [g] w w9) := KB.out.appB ((bA.mono KB.out.size).trans bB)
              clear hO9 hg9 bB bA hI hO KB hO4
              go_wp2_with (at_builtin; refine wpL_appG 30 rfl _ _ rfl _ w9 (by exact hra) ?_)
              go_roundw
              case rel => first | exact ⟨_, i + 1, L ++ [f], (failS 11 p (failS 13 p S1)), rfl, by have := HLT.out; omega, by go_num, by simp [HLL.out], HO8.out, HR.out, HK8.out, HSTEP.out f (failS 11 p (failS 13 p S1)) HE5.out⟩ | ((repeat apply Exists.intro); refine ⟨⟨_, i + 1, L ++ [f], (failS 11 p (failS 13 p S1)), rfl, by have := HLT.out; omega, ?_, by simp [HLL.out], HO8.out, HR.out, HK8.out, HSTEP.out f (failS 11 p (failS 13 p S1)) HE5.out⟩, rfl⟩; go_num)
              case measure => have := HLT.out; simp [intOf]; omega
        · have HC1 : Hid (okS k = true) := hok
          have d1 : ¬ (127 : Int) < f := by have := okS_yes hok; omega
          rw [hf]
          clear hok hf
          have HBD : Hid (bdI b L (p, 0, q) = (f, if behO ltI L.getLast? f = true then S1 else failS 11 p S1)) := by
            show _ = _
            unfold bdI
            simp only [HK1.out, HC1.out, HF.out, Bool.false_eq_true, if_true, if_false]
          by_cases h0 : i = 0
          · subst h0
            have HO3 : Hid (behO ltI L.getLast? f = true) := beh_at ltI L 0 f HLL.out rfl
            have HE5 : Hid (bdI b L (p, 0, q) = (f, S1)) := by show _ = _; rw [HBD.out]; rw [if_pos HO3.out]
            have bA := below_alloc u1 (.cells (#[.int .i64 f]) 3)
            have hO4 : OwnI (u1.alloc (.cells (#[.int .i64 f]) 3)) w.heap.size lv L := OwnI.keep hO bA
            obtain ⟨v9, w9, hra, hO9, hg9, -⟩ := run_app1G intsElt (u1.alloc (.cells (#[.int .i64 f]) 3)) w.heap.size u1.heap.size 1 lv (inV L) (.int .i64 f) 30 hO4 (by simp) rfl (by rw [inV_len]; have := HN.out; have := HLL.out; have := HLT.out; omega) (by unfold maxLen; rw [inV_len]; have := HN.out; have := HLL.out; have := HLT.out; omega) (Nat.le_trans KB.out.size bA.size)
            have HO8 : Hid (OwnI w9 w.heap.size v9 (L ++ [f])) := by show OwnI _ _ _ _; unfold OwnI; rw [inV_app]; exact hO9
            have bB : Below w.heap.size (u1.alloc (.cells (#[.int .i64 f]) 3)) w9 := grownB_below hg9 (Nat.le_trans KB.out.size bA.size) (fun q hq => (OwnG.lt hO4 q hq).1)
            have HR : Hid (RrI w9 g x n c b S1) := (hI.later bA).keepG hg9 hO4 HG.out
            have HK8 : Hid (Keep [g] w w9) := KB.out.appB ((bA.mono KB.out.size).trans bB)
            clear hO9 hg9 bB bA hI hO KB hO4
            go_wp2_with (at_builtin; refine wpL_appG 30 rfl _ _ rfl _ w9 (by exact hra) ?_)
            go_roundw
            case rel => first | exact ⟨_, 0 + 1, L ++ [f], S1, rfl, by have := HLT.out; omega, by go_num, by simp [HLL.out], HO8.out, HR.out, HK8.out, HSTEP.out f S1 HE5.out⟩ | ((repeat apply Exists.intro); refine ⟨⟨_, 0 + 1, L ++ [f], S1, rfl, by have := HLT.out; omega, ?_, by simp [HLL.out], HO8.out, HR.out, HK8.out, HSTEP.out f S1 HE5.out⟩, rfl⟩; go_num)
            case measure => have := HLT.out; simp [intOf]; omega
          · obtain ⟨u, hu, hlast⟩ := last_get L i HLL.out (by omega)
            obtain ⟨gl, cl, hlv, -, hgl, -, -⟩ := OwnG.form hO (by intro e9; have h9 := congrArg List.length e9; rw [inV_len, HLL.out] at h9; exact h0 h9)
            rw [inV_len, HLL.out] at hlv
            subst hlv
            have cu : u1.cell? ⟨gl, i - 1, none⟩ = some (.int .i64 u) := OwnG.cell hO (i - 1) _ (inV_get L _ u hu)
            have HO3 : Hid (behO ltI L.getLast? f = ltI u f) := by show _ = _; rw [hlast]; rfl
            have wk1 : IntKind.i64.wrap ((i : Int) - 1) = ((i - 1 : Nat) : Int) := by rw [IntKind.wrap_i64]; have := HLT.out; have := HN.out; omega
            have j0 : (0 : Int) ≤ ((i - 1 : Nat) : Int) := by omega
            have j1 : ((i - 1 : Nat) : Int) < (i : Int) := by omega
            have j2 : (0 : Int) < (i : Int) := by omega
            clear hu hlast
            by_cases hlt9 : u < f
            · have HL9 : Hid (ltI u f = true) := by show _ = _; unfold ltI; simp [hlt9]
              have d9 : ¬ f ≤ u := by omega
              clear hlt9
              have HE5 : Hid (bdI b L (p, 0, q) = (f, S1)) := by show _ = _; rw [HBD.out]; rw [if_pos (by rw [HO3.out, HL9.out])]
              have bA := below_alloc u1 (.cells (#[.int .i64 f]) 3)
              have hO4 : OwnI (u1.alloc (.cells (#[.int .i64 f]) 3)) w.heap.size (.slice (some ⟨gl, 0, none⟩) i cl) L := OwnI.keep hO bA
              obtain ⟨v9, w9, hra, hO9, hg9, -⟩ := run_app1G intsElt (u1.alloc (.cells (#[.int .i64 f]) 3)) w.heap.size u1.heap.size 1 (.slice (some ⟨gl, 0, none⟩) i cl) (inV L) (.int .i64 f) 30 hO4 (by simp) rfl (by rw [inV_len]; have := HN.out; have := HLL.out; have := HLT.out; omega) (by unfold maxLen; rw [inV_len]; have := HN.out; have := HLL.out; have := HLT.out; omega) (Nat.le_trans KB.out.size bA.size)
              have HO8 : Hid (OwnI w9 w.heap.size v9 (L ++ [f])) := by show OwnI _ _ _ _; unfold OwnI; rw [inV_app]; exact hO9
              have bB : Below w.heap.size (u1.alloc (.cells (#[.int .i64 f]) 3)) w9 := grownB_below hg9 (Nat.le_trans KB.out.size bA.size) (fun q hq => (OwnG.lt hO4 q hq).1)
              have HR : Hid (RrI w9 g x n c b S1) := (hI.later bA).keepG hg9 hO4 HG.out
              have HK8 : Hid (Keep [g] w w9) := KB.out.appB ((bA.mono KB.out.size).trans bB)
              clear hO9 hg9 bB bA hI hO KB hO4
              go_wp2_with (at_builtin; refine wpL_appG 30 rfl _ _ rfl _ w9 (by exact hra) ?_)
              go_roundw
              case rel => first | exact ⟨_, i + 1, L ++ [f], S1, rfl, by have := HLT.out; omega, by go_num, by simp [HLL.out], HO8.out, HR.out, HK8.out, HSTEP.out f S1 HE5.out⟩ | ((repeat apply Exists.intro); refine ⟨⟨_, i + 1, L ++ [f], S1, rfl, by have := HLT.out; omega, ?_, by simp [HLL.out], HO8.out, HR.out, HK8.out, HSTEP.out f S1 HE5.out⟩, rfl⟩; go_num)
              case measure => have := HLT.out; simp [intOf]; omega
            · have HL9 : Hid (ltI u f = false) := by show _ = _; unfold ltI; simp [hlt9]
              have d9 : f ≤ u := by omega
              clear hlt9
              have hFa := refFail22 u1 g x n c b S1 11 p hI
              go_wp2_with fail
              refine hFa.mono ?_
              rintro e x2 ⟨rfl, hI9, k9⟩
              clear hFa hI
              have hI := hI9
              have hO9 := OwnG.keepsF hO k9 (fun q hq => by have := ZF.out q hq; simpa using this)
              clear hO
              have hO := hO9
              have KB9 : Hid (Keep [g] w x2) := KB.out.trans k9
              clear KB
              have KB := KB9
              clear hI9 hO9 KB9 k9
              clear cu
              have HE5 : Hid (bdI b L (p, 0, q) = (f, (failS 11 p S1))) := by show _ = _; rw [HBD.out]; rw [if_neg (by rw [HO3.out, HL9.out]; simp)]
              have bA := below_alloc x2 (.cells (#[.int .i64 f]) 3)
              have hO4 : OwnI (x2.alloc (.cells (#[.int .i64 f]) 3)) w.heap.size (.slice (some ⟨gl, 0, none⟩) i cl) L := OwnI.keep hO bA
              obtain ⟨v9, w9, hra, hO9, hg9, -⟩ := run_app1G intsElt (x2.alloc (.cells (#[.int .i64 f]) 3)) w.heap.size x2.heap.size 1 (.slice (some ⟨gl, 0, none⟩) i cl) (inV L) (.int .i64 f) 30 hO4 (by simp) rfl (by rw [inV_len]; have := HN.out; have := HLL.out; have := HLT.out; omega) (by unfold maxLen; rw [inV_len]; have := HN.out; have := HLL.out; have := HLT.out; omega) (Nat.le_trans KB.out.size bA.size)
              have HO8 : Hid (OwnI w9 w.heap.size v9 (L ++ [f])) := by show OwnI _ _ _ _; unfold OwnI; rw [inV_app]; exact hO9
              have bB : Below w.heap.size (x2.alloc (.cells (#[.int .i64 f]) 3)) w9 := grownB_below hg9 (Nat.le_trans KB.out.size bA.size) (fun q hq => (OwnG.lt hO4 q hq).1)
              have HR : Hid (RrI w9 g x n c b (failS 11 p S1)) := (hI.later bA).keepG hg9 hO4 HG.out
              have HK8 : Hid (Keep [g] w w9) := KB.out.appB ((bA.mono KB.out.size).trans bB)
              clear hO9 hg9 bB bA hI hO KB hO4
              go_wp2_with (at_builtin; refine wpL_appG 30 rfl _ _ rfl _ w9 (by exact hra) ?_)
              go_roundw
              case rel => first | exact ⟨_, i + 1, L ++ [f], (failS 11 p S1), rfl, by have := HLT.out; omega, by go_num, by simp [HLL.out], HO8.out, HR.out, HK8.out, HSTEP.out f (failS 11 p S1) HE5.out⟩ | ((repeat apply Exists.intro); refine ⟨⟨_, i + 1, L ++ [f], (failS 11 p S1), rfl, by have := HLT.out; omega, ?_, by simp [HLL.out], HO8.out, HR.out, HK8.out, HSTEP.out f (failS 11 p S1) HE5.out⟩, rfl⟩; go_num)
              case measure => have := HLT.out; simp [intOf]; omega
      · have he' : ¬ ((e0 : Nat) : Int) = 0 := by omega
        have c2 : wr.cell? ⟨g, 2, none⟩ = some (.int .i64 (e0 : Int)) := by rw [hI.row.cell]; rfl
        rw [loopS_no (S := (p, e0, q)) hT0] at hRES
        subst hRES
        go_wp2
        go_ret
        exact ⟨_, rfl, hO, hI, hKw⟩
    · obtain rfl : N = i := by omega
      have i0 : ¬ (N : Int) < (N : Int) := by omega
      rw [Nat.sub_self] at hRES
      have hR : (L, T) = RES := hRES
      subst hR
      clear hRES
      go_wp2
      go_ret
      exact ⟨_, rfl, hO, hI, hKw⟩
end Go.Proofs.YtklbdhpnbjhgkaaGreatDoor
