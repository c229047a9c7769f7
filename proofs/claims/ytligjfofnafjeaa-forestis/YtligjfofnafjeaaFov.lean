
import Derived.Test.YtligjfofnafjeaaFot
import Derived.Test.YtligjfofnafjeaaFor5
namespace Go.Proofs.Ytligjfofnafjeaa
open Go.RowKit Go.Maps

/-! forest.Of -/
theorem ff_bodyPost1 {fn : Func} {R : Ending → World → Prop} {a : Act} {w : World} (p n : Nat) (V : Nat → Value) (hres : fn.results = #[.cell p 28]) (hp : a.tmps.getD p undef = .pointer (some ⟨n, 0, none⟩)) (hd : a.defers = [])
    (hok : RowC w n (foA V)) (h : R (.returned (.agg (foA V))) w) : bodyPost Try.prog fn R .ret a w := by
  obtain ⟨t, hg⟩ := row_of_L hok.1
  rw [hok.2] at hg
  have hp' : a.tmps[p]?.getD undef = .pointer (some ⟨n, 0, none⟩) := by simpa using hp
  have hl := run_loadVar_row (P := Try.prog) w n t 28 (foA V) (0, 0) _ hg Try.underlying28 rfl (by rw [sizeT_ff, foA_size])
  refine bodyPost_ret (v := .agg (foA V)) ?_ hd h
  simp [results, hres, hp', asAddr, hl]
def ffBd (x y : Value) : Sem Next := do pure (.value (← Instr.build 28 #[(0, x), (1, y)]))
@[go_sem ↓] theorem execOp_ffBd (ρ : Operand → Value) (dst : Option Tmp) (ty : TypeId) (pos : String) (after : Array Edge) (guard : Option (Nat × Bool)) (x y : Operand) : execOp ρ { dst, op := .build 28 #[(0, x), (1, y)], type := ty, pos, after, guard } = ffBd (ρ x) (ρ y) := by simp [execOp, ffBd]
@[go_sem] theorem run_ffBd (w : World) (x y : Option Addr) (n m c d : Nat) : (ffBd (.slice x n c) (.slice y m d)).run Try.prog w = .ok (.value (.agg (foA (two21 (.slice x n c) (.slice y m d))))) w := by
  simp only [ffBd, Sem.run_bind]
  rw [run_build w 28 _ (foA (two21 (.slice x n c) (.slice y m d))) (by kernel_rfl)]
  rfl
def NwQ (n0 : Nat) (v : Value) (x : World) : Prop := ∃ q, v = .pointer (some ⟨q, 0, none⟩) ∧ n0 ≤ q ∧ x.heap[q]? = some (.cells (foA foZ) 28 (0, 0))
theorem NwQ.later {n0 : Nat} {v : Value} {x y : World} (h : NwQ n0 v x) (hb : Below x.heap.size x y) : NwQ n0 v y := by
  obtain ⟨q, h1, h2, h3⟩ := h
  exact ⟨q, h1, h2, by rw [hb.block q (Array.getElem?_eq_some_iff.1 h3).1]; exact h3⟩
theorem nwK_new2 (n0 n : Nat) (x : World) (h : n0 ≤ x.heap.size) (h41 : n ≤ 4398046511104) : NwK n0 n (.slice (some ⟨x.heap.size, 0, none⟩) n n) (x.alloc (.cells (falses n).toArray 4)) := by
  have := OwnG.lit 4 x (falses n) (by unfold falses maxLen; rw [List.length_replicate]; omega)
  rw [show (falses n).length = n by unfold falses; rw [List.length_replicate]] at this
  unfold NwK
  rw [bF_false]
  exact this.le h
theorem nwP_new2 (n0 n : Nat) (x : World) (h : n0 ≤ x.heap.size) (h41 : n ≤ 4398046511104) : NwP n0 n (.slice (some ⟨x.heap.size, 0, none⟩) n n) (x.alloc (.cells (zerosU n).toArray 33)) := by
  have := OwnG.lit 33 x (zerosU n) (by unfold zerosU maxLen; rw [List.length_replicate]; omega)
  rw [show (zerosU n).length = n by unfold zerosU; rw [List.length_replicate]] at this
  unfold NwP
  rw [uF_zero]
  exact this.le h
/-- The parents, those of the slots S taken away. -/
def Pz (F : Fr) (n : Nat) (S : List Nat) : Nat → Nat := fun k => if k ∈ S then 0 else Pl F n k
theorem Pz_nil (F : Fr) (n : Nat) : Pz F n [] = Pl F n := by funext k; unfold Pz; rw [if_neg (by simp)]
theorem Pz_snoc (F : Fr) (n : Nat) (S : List Nat) (s : Nat) : Pz F n (S ++ [s]) = fun j => if j = s then 0 else Pz F n S j := by
  funext k; unfold Pz
  by_cases e : k = s
  · rw [if_pos (by simp [e]), if_pos e]
  · rw [if_neg e]
    by_cases hm : k ∈ S
    · rw [if_pos (by simp [hm]), if_pos hm]
    · rw [if_neg (by simp [hm, e]), if_neg hm]
theorem Pz_par (F : Fr) (S : List Nat) (hS : ∀ k, k ∈ S ↔ k ∈ Fr.sel F.cyc F.n) : ∀ k, k < F.n → Pz F F.n S k = F.par k := by
  intro k hk
  unfold Pz Pl
  rw [if_pos hk]
  have h1 := hS k
  rw [Fr.sel_mem] at h1
  by_cases hm : k ∈ S
  · rw [if_pos hm]
    have hc := (h1.1 hm).2
    unfold Fr.cyc at hc
    unfold Fr.par
    cases hw : (F.want k && !decide (F.nx k < 0)) <;> cases hl : F.least k <;> rw [hw, hl] at hc <;> first | rfl | cases hc
  · rw [if_neg hm]
    have hc : F.cyc k = false := by
      cases h9 : F.cyc k
      · rfl
      · exact absurd (h1.2 ⟨hk, h9⟩) hm
    unfold Fr.cyc at hc
    unfold Fr.par Fr.lk
    cases hw : (F.want k && !decide (F.nx k < 0)) <;> cases hl : F.least k <;> rw [hw, hl] at hc <;> first | rfl | cases hc
theorem FM_put (F : Fr) (a b : Nat) (S R : List Nat) : updL (FM F a b S) 5 R = FM F a b R := by
  funext q; unfold FM updL
  by_cases e : q = 5
  · subst e; simp
  · simp only [if_neg e]
theorem updV_same (V : Nat → Value) (q : Nat) : updV V q (V q) = V := by
  funext k; unfold updV
  split
  · rename_i e; rw [e]
  · rfl
section
variable {n : Nat} {w W W' : World} {ro : Option (Nat × Array Value)} {V : Nat → Value} {K : Nat → Bool} {P : Nat → Nat} {L : Nat → List Nat} {X : Nat → Option Th}
theorem Fy.putL (h : Fy n w W ro V K P L X) (q : Nat) (h2 : 2 ≤ q) (h6 : q < 6) (R : List Nat) (hO : OwnG 3 W' w.heap.size (V q) (iF R)) (hK : Keep (V q).ownBlock.toList W W') : Fy n w W' ro V K P (updL L q R) X := by
  have hGA := h.ga.putG (k := q) (by rw [xT_lo _ _ (by omega)]; exact T21_int h2 h6) hK hO (fun p hp => .inl hp)
  have hT := T21_q (B := w.heap.size) (n := n) (ro := ro) (V := V) (K := K) (P := P) (L := L) (v := V q) (l := R) h2 h6
  rw [updV_same] at hT
  exact ⟨hGA.1.less (xT_upd (by omega) hT), h.be.trans ((hGA.2 [] (fun a ha => by cases ha)).below h.ga.size)⟩
end
def X789 (b m : Nat) (D : DataW Unit) (B : Nat) (v : Value) (u : Nat → Int) (n : Nat) (vm : Value) (M : List Nat) : Nat → Option Th := updT (X78 b m D B v u n) 9 (thG 3 B vm (iF M))
set_option maxRecDepth 100000 in
theorem X789_8 (b m : Nat) (D : DataW Unit) (B : Nat) (v : Value) (u : Nat → Int) (n : Nat) (vm : Value) (M : List Nat) : X789 b m D B v u n vm M 8 = some (thG 3 B v (zF u n)) := rfl
set_option maxRecDepth 100000 in
theorem X789_9 (b m : Nat) (D : DataW Unit) (B : Nat) (v : Value) (u : Nat → Int) (n : Nat) (vm : Value) (M : List Nat) : X789 b m D B v u n vm M 9 = some (thG 3 B vm (iF M)) := rfl
/-- Of each cycle's slot the least one, for those that are done. -/
def Lss (F : Fr) (M S : List Nat) : Prop := ∀ (i m s : Nat), M[i]? = some m → S[i]? = some s → Fr.LsOf F m s
theorem Lss.snoc {F : Fr} {M S : List Nat} {t s : Nat} (h : Lss F M S) (ht : M[S.length]? = some t) (hs : Fr.LsOf F t s) : Lss F M (S ++ [s]) := by
  intro i m z hm hz
  by_cases e : i < S.length
  · rw [List.getElem?_append_left e] at hz
    exact h i m z hm hz
  · rw [List.getElem?_append_right (by omega)] at hz
    by_cases e2 : i = S.length
    · subst e2
      rw [ht] at hm
      rw [Nat.sub_self] at hz
      cases hm
      cases hz
      exact hs
    · rw [List.getElem?_eq_none (by simp; omega)] at hz
      cases hz
set_option linter.unusedSimpArgs false in
set_option maxRecDepth 100000 in
set_option maxHeartbeats 8000000 in
theorem ofZ (l : List Rw) (x : Option Addr) (n c : Nat) (w : World) (hn : l.length = n) (h41 : n ≤ 4398046511104) (hs : ∀ r ∈ l, r.sn.ok) (hl : IsK rwF w (.slice x n c) l) :
    Calls Try.prog 8 #[.slice x n c] w fun e w' => FoP l w e w' := by
  have hfn : (frO l).n = n := hn
  have hG := frO_good hs
  unfold FoP
  rw [hn]
  have bX := below_alloc w (.cells (foA foZ) 28)
  have h2 := RowC.new w (foA foZ) 28
  have hlX := hl.kept bX
  have H41 : Hid (n ≤ 4398046511104) := h41
  have HM : Hid ((n : Int) ≤ 70368744177664) := by show _ ≤ _; omega
  go_enter Try.func8, Try.ntmps8
  go_upto_region 1 with fail
  obtain ⟨g2, hg2⟩ : ∃ q, w.heap.size = q := ⟨_, rfl⟩
  have HG2 : Hid (w.heap.size = g2) := hg2
  rw [hg2] at h2
  simp only [hg2]
  generalize w.alloc (.cells (foA foZ) 28) = X at bX h2 hlX ⊢
  clear hg2 hl h41
  refine wp_reliesT [Fx (.slice x n c), Fx (.int .i64 (n : Int)), NwK X.heap.size n, Fx (.slice x n c), Fx (.int .i64 (n : Int)), NwP X.heap.size n, NwB X.heap.size n, NwQ X.heap.size] (by kernel_rfl) (by kernel_rfl) ?_ ?_ ?_
  · repeat' (first | exact all_nil | apply all_cons)
    all_goals intro v y y' hv hb
    all_goals first | exact Fx_mono _ _ _ _ hv hb | exact NwK.later hv hb | exact NwP.later hv hb | exact NwB.later hv hb | exact NwQ.later hv hb
  · refine ⟨?_, ?_, ?_, ?_, ?_, ?_, ?_, ?_, trivial⟩
    all_goals
      intro ρ x_1 hp ρc ρg ρf ho hd
      have o0 : ρ (.tmp 0) = .slice x n c := ho 0 rfl
      clear ho
      simp only [depsR, depR, slotR, Fx, List.getElem?_cons_succ, List.getElem?_cons_zero, Region.binds, forall_const] at hd
      simp only [guardR]
      go_split_ands
    · go_simp
    · go_simp
    · have m0 : (0 : Int) ≤ (n : Int) := by omega
      have m1 : (n : Int) ≤ 70368744177664 := HM.out
      have m1b : (n : Int) ≤ 281474976710656 := by omega
      have m2 : ((n : Int)).toNat = n := by omega
      go_simp
      exact ⟨nwK_new2 _ n _ hp.size H41.out, below_alloc _ _⟩
    · go_simp
    · go_simp
    · have m0 : (0 : Int) ≤ (n : Int) := by omega
      have m1 : (n : Int) ≤ 70368744177664 := HM.out
      have m1b : (n : Int) ≤ 281474976710656 := by omega
      have m2 : ((n : Int)).toNat = n := by omega
      go_simp
      exact ⟨nwP_new2 _ n _ hp.size H41.out, below_alloc _ _⟩
    · have s1 := ‹NwK X.heap.size n (ρ (.tmp 10)) x_1›
      have s2 := ‹NwP X.heap.size n (ρ (.tmp 13)) x_1›
      obtain ⟨xa, ca, u1⟩ := own_slice s1
      obtain ⟨xb, cb, u2⟩ := own_slice s2
      rw [u1] at s1
      rw [u2] at s2
      go_simp
      exact ⟨_, _, rfl, s1, s2⟩
    · go_simp
      exact ⟨⟨_, rfl, hp.size, heap_alloc_last _ _⟩, below_alloc _ _⟩
  · intro vs x1 hp hw
    simp only [owed, Fx] at hw
    obtain ⟨e0, e1, e2, e3, e4, e5, ⟨a, b, e6, ha, hb⟩, ⟨g3, e7, hg3, hr3⟩, -⟩ := hw
    simp only [List.length_cons, List.length_nil, List.take_succ_cons, List.take_zero, List.drop_succ_cons, List.drop_zero, asg, List.cons_append, List.nil_append, e0, e1, e3, e4, e6, e7]
    clear e0 e1 e3 e4 e6 e7 e2 e5

    have hF0 : Fo n X x1 (some (g3, foA foZ)) (two21 a b) (fun _ => false) (fun _ => 0) (fun _ => []) := Fo.begin hp ha hb hr3 hg3 (by decide) (by decide)
    have hRo := hF0.row
    have hR2 := hRo.setRow (foA (two21 a b))
    have hF1 : Fo n X (x1.setRow g3 (foA (two21 a b))) (some (g3, foA (two21 a b))) (two21 a b) (fun _ => false) (fun _ => 0) (fun _ => []) := by
      have kr : Keep [g3] x1 (x1.setRow g3 (foA (two21 a b))) := ⟨rfl, rfl, rfl, by simp, fun k _ hn => setRow_other x1 g3 k _ (fun e => hn (by simp [e]))⟩
      have hG2 := hF0.ga.putRow (k := 6) (c := foA foZ) rfl kr hR2
      exact ⟨hG2.1.less T21_row, hF0.be.trans ((hG2.2 [] (fun a ha => by cases ha)).below hF0.ga.size)⟩
    have hon : OneC (foA (two21 a b)) = true := foA_one _ (fun q => by unfold two21; split; · exact own_one ha
                                                                       split; · exact own_one hb
                                                                       rfl)
    obtain ⟨r3, q3⟩ := hRo
    have z3 : (rowAt x1 g3).size = 6 := by rw [q3]; exact foA_size _
    clear hF0 ha hb hr3 hR2
    go_upto_region 2 with fail
    generalize x1.setRow g3 (foA (two21 a b)) = Y at hF1 ⊢
    generalize two21 a b = V0 at hF1
    clear r3 q3 z3 hon hp hg3
    have hKe := keep21 l x n c g3 X Y V0 hn H41.out hs hlX hF1.fy
    clear hF1
    go_wp2_with fail
    refine hKe.mono ?_
    rintro e Y1 ⟨mb, mm, D, V1, rfl, hmm, hD, hF1⟩
    have hLi := link21 l x n c g3 mb mm D X Y1 V1 hn H41.out hs hlX hD hF1
    clear hKe hF1
    go_wp2_with fail
    refine hLi.mono ?_
    rintro e Y2 ⟨vu, V2, rfl, hF2⟩
    clear hLi hD
    obtain ⟨yu, du, hvu⟩ := own_slice (hF2.isGX (q := 8) (by omega) (X78_8 _ _ _ _ _ _ _))
    rw [zF_len] at hvu
    subst hvu
    have ezu : zF (ul (frO l) n) n = zF (frO l).us n := zF_congr fun k hk => by unfold ul; rw [if_pos hk]
    have huk : uOk n (frO l).us := by have := Fr.us_ok (F := frO l); rw [hfn] at this; exact this
    have hU2 := (hF2.isGX (q := 8) (by omega) (X78_8 _ _ _ _ _ _ _)).isG
    rw [ezu] at hU2
    have hRn := rounds21 (frO l).us yu n du Y2 H41.out hU2 huk
    clear hU2
    go_wp2_with fail
    refine hRn.mono ?_
    rintro e Y3 ⟨vm, M, Wf, rfl, hOM, hBM, hR⟩
    clear hRn
    have hF3 := hF2.newG 9 (by omega) hBM hOM
    obtain ⟨ym, dm, hvm⟩ := own_slice hOM
    rw [iF_len] at hvm
    subst hvm
    have hMl := hR.len
    clear hF2 hOM hBM
    obtain ⟨mM, hmM⟩ : ∃ z, M.length = z := ⟨_, rfl⟩
    rw [hmM] at hMl hF3 ⊢
    have HmM : Hid (M.length = mM) := hmM
    have h42 : mM ≤ 4398046511104 := by have := H41.out; omega
    clear hmM
    go_wp2_with fail
    go_loopw [22] (fun iv wr => ∃ (i : Nat) (V : Nat → Value) (S : List Nat), i ≤ mM ∧ iv = .int .i64 i ∧ S.length = i ∧ Lss (frO l) M S ∧ Fy n X wr (some (g3, foA V)) V (Kt (frO l) n) (Pz (frO l) n S) (FM (frO l) n n S) (X789 mb mm D X.heap.size (.slice yu n du) (ul (frO l) n) n (.slice ym mM dm) M)) (fun iv _ => mM - (intOf iv).toNat)
    case atStart => exact ⟨0, V2, [], by omega, rfl, rfl, fun i m s _ h => by simp at h, by rw [Pz_nil]; exact hF3⟩
    case round =>
      clear hF3
      obtain ⟨i, V, S, hi, rfl, hSl, hSS, hF⟩ := hrel
      by_cases hlt : i < mM
      · obtain ⟨t, ht⟩ : ∃ t, M[i]? = some t := ⟨_, List.getElem?_eq_getElem (by have := HmM.out; omega)⟩
        have hOm := hF.isGX (q := 9) (by omega) (X789_9 _ _ _ _ _ _ _ _ _)
        obtain ⟨gm, om, e9, -, hc9⟩ := hOm.isG.spot i (by rw [iF_len]; have := HmM.out; omega)
        subst e9
        have cM := hc9 i _ (iF_get M i t ht)
        have i0 : (i : Int) < (mM : Int) := by omega
        have i1 : (0 : Int) ≤ (i : Int) := by omega
        have htm := hR.mem t (List.mem_of_getElem? ht)
        have hU := (hF.isGX (q := 8) (by omega) (X789_8 _ _ _ _ _ _ _ _ _)).isG
        rw [ezu] at hU
        have hLe := least21 l x yu n c du t wr hn hs (hlX.kept hF.be) hU htm.1 htm.2.2
        have HI : Hid (i < mM) := hlt
        have HSl : Hid (S.length = i) := hSl
        have hMt : M[S.length]? = some t := by rw [hSl]; exact ht
        clear hOm hc9 hU htm hlt hi ht hSl
        go_wp2_with fail
        refine hLe.mono ?_
        rintro e Z ⟨s, rfl, hsn, hLs, hBz⟩
        clear hLe
        have HSS : Hid (Lss (frO l) M (S ++ [s])) := hSS.snoc hMt hLs
        have HSn : Hid ((S ++ [s]).length = i + 1) := by show _ = _; rw [List.length_append, HSl.out]; rfl
        have hFz := hF.later hBz
        obtain ⟨cV, g', m', c', w', v', hv', hra, cV', fV', hF4⟩ := hFz.app 5 (by omega) (by omega) s 26 (Nat.le_trans (FM_len (frO l) n n S 5 n (Nat.le_refl _) (Nat.le_refl _) (by have := HSl.out; have := HI.out; omega)) H41.out)
        subst hv'
        rw [FM_5] at hF4
        obtain ⟨gp, cp, hVp, cP, fP, hF5⟩ := hF4.setP s hsn 0
        rw [← Pz_snoc] at hF5
        have cR1 := hF4.row.cell 1
        rw [foA_get _ 1 (by omega), hVp] at cR1
        have s0 : (0 : Int) ≤ (s : Int) := by omega
        have s1 : (s : Int) < (n : Int) := by omega
        have HF : Hid _ := hF5
        clear hF hFz hF5 cM hBz hLs hMt hSS hsn
        go_upto_region 8 with (at_builtin; refine wpL_appG 26 rfl _ _ rfl _ w' (by exact hra) ?_)
        clear hra cV cV' fV'
        generalize w'.setCell ⟨g3, 5, none⟩ (.slice (some ⟨g', 0, none⟩) m' c') = Z1 at hF4 HF cP fP cR1 ⊢
        clear hF4 hVp
        go_wp2
        go_roundw
        case rel => first | exact ⟨i + 1, _, S ++ [s], by have := HI.out; omega, by go_num, HSn.out, HSS.out, HF.out⟩ | ((repeat apply Exists.intro); refine ⟨⟨i + 1, _, S ++ [s], by have := HI.out; omega, ?_, HSn.out, HSS.out, HF.out⟩, rfl⟩; go_num)
        case measure => have := HI.out; simp [intOf]; omega
      · obtain rfl : mM = i := by omega
        have i0 : ¬ (mM : Int) < (mM : Int) := by omega
        have hSM : S.length = M.length := by rw [hSl]; exact HmM.out.symm
        have hR' : Rnd (frO l).n (frO l).us Wf (frO l).n M := by rw [hfn]; exact hR
        have hmem := Fr.lsOf_mem hG hR' hSM hSS
        have hnd := Fr.lsOf_nodup hR' hSM hSS
        have hSR := srt_is hnd (Fr.sel_rise (p := (frO l).cyc) (n := (frO l).n)) hmem
        have hO5 := hF.list 5 (by omega) (by omega)
        have e5 : FM (frO l) n n S 5 = S := rfl
        rw [e5] at hO5
        obtain ⟨x5, d5, hV5⟩ := own_slice hO5
        rw [iF_len, hSl] at hV5
        have hSo := sort21 X.heap.size x5 mM d5 S _ wr (by rw [← hV5]; exact hO5) (by have := H41.out; omega) hSR
        have c5 := hF.row.cell 5
        rw [foA_get V 5 (by omega), hV5] at c5
        clear hlt hi hSl hO5 hnd
        go_wp2_with fail
        refine hSo.mono ?_
        rintro e Z ⟨rfl, hOz, hKz⟩
        rw [← hV5] at hOz hKz
        have hF6 := hF.putL 5 (by omega) (by omega) _ hOz hKz
        rw [FM_put, hfn] at hF6
        have hF7 := hF6.congr (K' := (frO l).kp) (P' := (frO l).par) (fun k hk => by unfold Kt; rw [decide_eq_true hk]; rfl) (fun k hk => by
          have := Pz_par (frO l) S hmem k (by rw [hfn]; exact hk)
          rw [hfn] at this; exact this)
        have hF8 := hF7.fo
        rw [FM_FL] at hF8
        clear hSo hF hF6 hF7 hOz hKz hmem hSR hSS hSM hR' c5 hV5 e5
        have h2k := h2.kept hF8.be
        have kr : Keep [g2] Z (Z.setRow g2 (foA V)) := ⟨rfl, rfl, rfl, by simp, fun k _ hn => setRow_other Z g2 k _ (fun e => hn (by simp [e]))⟩
        have hga := ga_down (ga_other hF8.ga (by have := h2.lt; exact this) kr) bX.size
        have hB9 := bX.trans (hF8.be.mono bX.size)
        have hB8 := hB9.trans (kr.below (B := w.heap.size) (fun q hq => by rw [List.mem_singleton] at hq; have := HG2.out; omega) hB9.size)
        have HFF : Hid (Fo n w (Z.setRow g2 (foA V)) none V (frO l).kp (frO l).par (FL (frO l) n n)) := (Fo.mk hga hB8 : Fo n w (Z.setRow g2 (foA V)) (some (g3, foA V)) V (frO l).kp (frO l).par (FL (frO l) n n)).less
        have hon : OneC (foA V) = true := foA_one' hF8
        have HR : Hid _ := h2k.setRow (foA V)
        obtain ⟨r2, q2⟩ := h2k
        have z2 : (rowAt Z g2).size = 6 := by rw [q2]; exact foA_size _
        obtain ⟨r3, q3⟩ := hF8.row
        have z3 : (rowAt Z g3).size = 6 := by rw [q3]; exact foA_size _
        have zV : (foA V).size = 6 := foA_size _
        clear hga hB9 hB8 kr hF8
        go_wp2
        exact ff_bodyPost1 2 g2 V rfl rfl rfl HR.out ⟨V, rfl, HFF.out⟩
end Go.Proofs.Ytligjfofnafjeaa
