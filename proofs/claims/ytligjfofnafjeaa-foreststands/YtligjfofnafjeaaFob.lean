
import Derived.Test.YtligjfofnafjeaaFor9
namespace Go.Proofs.Ytligjfofnafjeaa
open Go.RowKit

/-! assaylaw21.ForestStands -/
/-- A snapshot with the parent that it will have. -/
def snW (l : List Rw) (k : Nat) : Sn := match l[k]? with | some r => ⟨r.sn.id, ((frO l).par k : Int), r.sn.key⟩ | none => snZ
/-- What is kept of the first i. -/
def lf (l : List Rw) (i : Nat) : List Sn := (Fr.sel (frO l).kp i).map (snW l)
theorem lf_no {l : List Rw} {i : Nat} (h : (frO l).kp i = false) : lf l (i + 1) = lf l i := by unfold lf; rw [sel_no h]
theorem lf_yes {l : List Rw} {i : Nat} {r : Rw} (h : (frO l).kp i = true) (hr : l[i]? = some r) : lf l (i + 1) = lf l i ++ [⟨r.sn.id, ((frO l).par i : Int), r.sn.key⟩] := by
  unfold lf
  rw [sel_yes h, List.map_append, List.map_singleton]
  unfold snW
  rw [hr]
theorem lf_len (l : List Rw) (i : Nat) : (lf l i).length ≤ i := by unfold lf; rw [List.length_map]; exact sel_le _ _
theorem par_le (F : Fr) (i : Nat) : F.par i ≤ F.pa i := by
  unfold Fr.par
  cases (F.want i && !decide (F.nx i < 0) && !F.least i)
  · exact Nat.zero_le _
  · exact Nat.le_refl _
theorem kp_lt {l : List Rw} {i : Nat} (h : (frO l).kp i = true) : ∃ r, l[i]? = some r ∧ r.th = true ∧ r.sn.id ≠ 0 := by
  have h1 := Fr.kp_cd h
  unfold Fr.cd at h1
  cases hr : l[i]? with
  | none =>
    have : (frO l).ok i = false := by show (match l[i]? with | some r => r.th && !(r.sn.id == 0) | none => false) = false; rw [hr]
    rw [this] at h1; cases h1
  | some r =>
    rw [frO_ok hr] at h1
    simp at h1
    exact ⟨r, rfl, h1.1.1, h1.1.2⟩
theorem lf_mem {l : List Rw} {i : Nat} {s : Sn} (h : s ∈ lf l i) : ∃ k r, k < i ∧ (frO l).kp k = true ∧ l[k]? = some r ∧ s = ⟨r.sn.id, ((frO l).par k : Int), r.sn.key⟩ := by
  unfold lf at h
  obtain ⟨k, hk, rfl⟩ := List.mem_map.1 h
  have h1 := Fr.sel_mem.1 hk
  obtain ⟨r, hr, -, -⟩ := kp_lt h1.2
  exact ⟨k, r, h1.1, h1.2, hr, by unfold snW; rw [hr]⟩
theorem lf_ok {l : List Rw} (hs : ∀ r ∈ l, r.sn.ok) (i : Nat) : ∀ s ∈ lf l i, s.ok := fun s h => by
  obtain ⟨k, r, -, -, hr, rfl⟩ := lf_mem h
  have a := hs r (List.mem_of_getElem? hr)
  have b := par_le (frO l) k
  rw [frO_pa hr] at b
  unfold Sn.ok at a ⊢
  show 0 ≤ r.sn.id ∧ r.sn.id < 4294967296 ∧ 0 ≤ ((frO l).par k : Int) ∧ ((frO l).par k : Int) < 4294967296
  omega
theorem lf_left {l : List Rw} : Fr.IsLeft (frO l) (frS (lf l l.length)) where
  n := by rw [frS_n]; unfold lf; rw [List.length_map]; rfl
  here i hi := by
    rw [frS_n] at hi
    have hi' : i < (Fr.sel (frO l).kp (frO l).n).length := by unfold lf at hi; rw [List.length_map] at hi; exact hi
    have hg := List.getElem?_eq_getElem hi'
    obtain ⟨k, hk⟩ : ∃ q, (Fr.sel (frO l).kp (frO l).n)[i] = q := ⟨_, rfl⟩
    rw [hk] at hg
    have hm := Fr.sel_mem.1 (List.mem_of_getElem? hg)
    obtain ⟨r, hr, -, h0⟩ := kp_lt hm.2
    have hsn : (lf l l.length)[i]? = some ⟨r.sn.id, ((frO l).par k : Int), r.sn.key⟩ := by
      unfold lf
      have hg' : (Fr.sel (frO l).kp l.length)[i]? = some k := hg
      rw [List.getElem?_map, hg']
      show some (snW l k) = _
      unfold snW; rw [hr]
    refine ⟨k, hg, ?_, frS_la hsn, ?_, ?_⟩
    · rw [frS_ok hsn]; simpa using h0
    · rw [frS_id hsn, frO_id hr]
    · rw [frS_pa hsn, Int.toNat_natCast]
theorem lf_is {l : List Rw} (hs : ∀ r ∈ l, r.sn.ok) : isS (lf l l.length) = true := by
  have hL := lf_left (l := l)
  have hG := frO_good hs
  have hn := frS_n (lf l l.length)
  unfold isS
  rw [Bool.and_eq_true, List.all_eq_true, decide_eq_true_iff]
  refine ⟨fun s h => ?_, ?_⟩
  · obtain ⟨k, r, -, hk, hr, rfl⟩ := lf_mem h
    obtain ⟨r', hr', -, h0⟩ := kp_lt hk
    rw [hr] at hr'
    cases hr'
    simpa using h0
  · have e1 := sel_nil.2 (fun i hi => Fr.left_twice hL (i := i) (by rw [hn]; exact hi))
    have e2 := sel_nil.2 (fun i hi => Fr.left_noPa hL (i := i) (by rw [hn]; exact hi))
    have e3 := sel_nil.2 (fun i hi => Fr.left_cyc hL hG (i := i) (by rw [hn]; exact hi))
    show (Fr.sel (frS (lf l l.length)).twice _).length + (Fr.sel (frS (lf l l.length)).noPa _).length + (Fr.sel (frS (lf l l.length)).cyc _).length = 0
    rw [e1, e2, e3]; rfl
theorem lf_FL {l : List Rw} (hs : ∀ r ∈ l, r.sn.ok) (m : Nat) (hm : (lf l l.length).length = m) (q : Nat) : FL (frO ((lf l l.length).map mkR)) m m q = [] := by
  have hL := lf_left (l := l)
  have hG := frO_good hs
  have hn := frS_n (lf l l.length)
  subst hm
  have e1 := sel_nil.2 (fun i hi => Fr.left_twice hL (i := i) (by rw [hn]; exact hi))
  have e2 := sel_nil.2 (fun i hi => Fr.left_noPa hL (i := i) (by rw [hn]; exact hi))
  have e3 := sel_nil.2 (fun i hi => Fr.left_cyc hL hG (i := i) (by rw [hn]; exact hi))
  have e4 := sel_nil.2 (fun i hi => Fr.left_noLa hL (i := i) (by rw [hn]; exact hi))
  unfold FL
  split; · exact e1
  split; · exact e4
  split; · exact e2
  split; · exact e3
  rfl
theorem lf_kp {l : List Rw} {i : Nat} (hi : i < (lf l l.length).length) : (frO ((lf l l.length).map mkR)).kp i = true := Fr.left_kp (lf_left (l := l)) (by rw [frS_n]; exact hi)
theorem lf_par {l : List Rw} (hs : ∀ r ∈ l, r.sn.ok) {i : Nat} {s : Sn} (hi : (lf l l.length)[i]? = some s) : ((frO ((lf l l.length).map mkR)).par i : Int) = s.pa := by
  have h1 := Fr.left_par (lf_left (l := l)) (frO_good hs) (i := i) (by rw [frS_n]; exact (List.getElem?_eq_some_iff.1 hi).1)
  have h2 := frS_pa hi
  have h3 := lf_ok hs l.length s (List.mem_of_getElem? hi)
  unfold Sn.ok at h3
  show ((frS (lf l l.length)).par i : Int) = _
  rw [h1, h2]; omega
theorem ownK_type {α β : Type} {E : EK α} {E' : EK β} {W : World} {B B' : Nat} {v v' : Value} {xs : List α} {ys : List β} (h : OwnK E W B v xs) (h' : OwnK E' W B' v' ys) (hne : E.T ≠ E'.T) : ∀ q, v.ownBlock = some q → q ∉ v'.ownBlock.toList := by
  intro q hq hq'
  rcases h.2 with h1 | ⟨g, cap, cur, rfl, -, h2, -⟩
  · rw [h1.1] at hq; simp [Value.ownBlock] at hq
  · rcases h'.2 with h3 | ⟨g', cap', cur', rfl, -, h4, -⟩
    · rw [h3.1] at hq'; simp [Value.ownBlock] at hq'
    · simp [Value.ownBlock] at hq hq'
      subst hq
      subst hq'
      rw [h2] at h4
      simp only [Option.some.injEq, Obj.cells.injEq] at h4
      exact hne h4.2.1
set_option linter.unusedSimpArgs false in
set_option maxRecDepth 100000 in
set_option maxHeartbeats 8000000 in
theorem lawForestStands_any (O : ForOk) (l : List Rw) (x : Option Addr) (n c : Nat) (w : World) (hn : l.length = n) (h41 : n ≤ 3198579280801) (hs : ∀ r ∈ l, r.sn.ok) (hl : IsK rwE w (.slice x n c) l) :
    Calls Try.prog 3 #[.slice x n c] w fun e w' => e = .returned (.bool true) ∧ Below w.heap.size w w' := by
  have kK := fun W => known21 O W
  go_enter Try.func3, Try.ntmps3
  go_wp2_with fail
  refine (kK _).mono ?_
  rintro e X0 ⟨rfl, hB0⟩
  clear kK
  have kR := rows21 l x n c X0 hn (by omega) (hl.kept hB0)
  go_wp2_with fail
  refine kR.mono ?_
  rintro e X1 ⟨gr, cr, rfl, hO1, hb1⟩
  rw [hn] at hO1 ⊢
  have hB1 := hB0.trans (hb1.mono hB0.size)
  have hI1 := (hO1.cut rwF_ok n (by omega)).isK rwF_ok
  have etk : (l ++ [ex77]).take n = l := by rw [← hn, List.take_left]
  rw [etk] at hI1
  have kO := O.of l (some ⟨gr, 0, none⟩) n cr X1 hn (by omega) hs hI1
  clear kR hb1 hB0 hI1 etk
  go_wp2_with fail
  refine kO.mono ?_
  rintro e X2 ⟨V, rfl, hF⟩
  rw [hn] at hF
  have bC := below_alloc X2 (.cells (foA V) 28)
  have hR := RowC.new X2 (foA V) 28
  have hB2 := hB1.trans (hF.be.mono hB1.size)
  have hBY := hB2.trans (bC.mono hB2.size)
  have hD := hF.rd.kept bC
  have hon := foA_one' hF
  have zV : (foA V).size = 6 := foA_size _
  clear kO bC
  go_upto_region 4 with fail
  generalize hY : X2.alloc (.cells (foA V) 28) = Y at hR hBY hD ⊢
  obtain ⟨g3, hg3⟩ : ∃ q, X2.heap.size = q := ⟨_, rfl⟩
  rw [hg3] at hR
  simp only [hg3]
  clear hO1 hB1 hB2 hF hY hg3 hon zV
  obtain ⟨xk, ck, ek⟩ := hD.k.len
  obtain ⟨xp, cp, ep⟩ := hD.p.len
  rw [bF_len] at ek
  rw [uF_len] at ep
  have rowk : ∀ W, Below Y.heap.size Y W → W.cell? ⟨g3, 0, none⟩ = some (.slice xk n ck) ∧ W.cell? ⟨g3, 1, none⟩ = some (.slice xp n cp) := fun W hb => by
    have h9 := hR.kept hb
    refine ⟨?_, ?_⟩
    · rw [h9.cell, foA_get V 0 (by omega), ek]
    · rw [h9.cell, foA_get V 1 (by omega), ep]
  have HRK : Hid _ := rowk
  obtain ⟨ra, rb⟩ := rowk Y (Below.refl _ _)
  clear rowk
  go_wp2_with fail
  clear ra rb
  go_loopw [4, 5, 6] (fun sv av iv wr => ∃ i : Nat, i ≤ n ∧ iv = .int .i64 i ∧ OwnK snE wr Y.heap.size sv (lf l i) ∧ OwnK rwE wr Y.heap.size av ((lf l i).map mkR) ∧ Below Y.heap.size Y wr) (fun _ _ iv _ => n - (intOf iv).toNat)
  case atStart => exact ⟨0, by omega, rfl, OwnK.nil _ _ _, OwnK.nil _ _ _, Below.refl _ _⟩
  case round =>
    obtain ⟨i, hi, rfl, hS, hA, hB⟩ := hrel
    by_cases hlt : i < n
    · obtain ⟨r, hr⟩ : ∃ r, l[i]? = some r := ⟨_, List.getElem?_eq_getElem (by omega)⟩
      have hlk := (hl.kept hBY).kept hB
      obtain ⟨g, o, e9, -, -, k3, k4⟩ := rwE_rg hlk i r hr
      subst e9
      obtain ⟨ra, rb⟩ := HRK.out wr hB
      have hk9 := (hD.kept hB).k
      have hp9 := (hD.kept hB).p
      rw [ek] at hk9
      rw [ep] at hp9
      obtain ⟨gk, ok, f1, -, kc9⟩ := hk9.spot i (by rw [bF_len]; omega)
      obtain ⟨gp, op, f2, -, pc9⟩ := hp9.spot i (by rw [uF_len]; omega)
      subst f1
      subst f2
      have kc := kc9 i _ (bF_get _ n i hlt)
      have pc := pc9 i _ (uF_get _ n i hlt)
      have i0 : (i : Int) < (n : Int) := by omega
      have i1 : (0 : Int) ≤ (i : Int) := by omega
      have HI : Hid (i < n) := hlt
      clear hk9 hp9 kc9 pc9 hlk
      cases hkp : (frO l).kp i
      · rw [hkp] at kc
        have hp0 : (frO l).par i = 0 := by unfold Fr.par Fr.want; rw [hkp]; rfl
        rw [hp0] at pc
        have pc' : wr.cell? ⟨gp, op + i, none⟩ = some (.int .u32 0) := pc
        have HS : Hid (OwnK snE wr Y.heap.size u4 (lf l (i + 1))) := by show OwnK _ _ _ _ _; rw [lf_no hkp]; exact hS
        have HA : Hid (OwnK rwE wr Y.heap.size u5 ((lf l (i + 1)).map mkR)) := by show OwnK _ _ _ _ _; rw [lf_no hkp]; exact hA
        have HB : Hid _ := hB
        clear hS hA hB pc k3 k4 hr hkp hp0 hlt hi
        go_wp2
        go_roundw
        case rel => first | exact ⟨i + 1, by have := HI.out; omega, by go_num, HS.out, HA.out, HB.out⟩ | ((repeat apply Exists.intro); refine ⟨⟨i + 1, by have := HI.out; omega, ?_, HS.out, HA.out, HB.out⟩, rfl⟩; go_num)
        case measure => have := HI.out; simp [intOf]; omega
      · rw [hkp] at kc
        obtain ⟨PV, hPV⟩ : ∃ q, (frO l).par i = q := ⟨_, rfl⟩
        rw [hPV] at pc
        have hly := lf_yes hkp hr
        rw [hPV] at hly
        have hln := lf_len l i
        have bC := below_alloc wr (.cells (snA r.sn) 37)
        have h7 := RowC.new wr (snA r.sn) 37
        have hS1 := hS.keep bC
        have hA1 := hA.keep bC
        have hB1 := hB.trans (bC.mono hB.size)
        have rb1 := (HRK.out _ hB1).2
        have pc1 := cell_later bC pc
        have zs : (snA r.sn).size = 34 := snA_size _
        have os : OneC (snA r.sn) = true := snA_one _
        have hf7 : ∀ q, u4.ownBlock = some q → q < wr.heap.size := fun q hq => (World.ownsRow.lt hS q hq).2
        have hf8 : ∀ q, u5.ownBlock = some q → q < wr.heap.size := fun q hq => (World.ownsRow.lt hA q hq).2
        have hYw := hB.size
        clear hS hA bC hPV
        go_upto_region 15 with fail
        clear kc ra rb pc k3 k4
        generalize wr.alloc (.cells (snA r.sn) 37) = Z at h7 hS1 hA1 hB1 rb1 pc1 ⊢
        generalize wr.heap.size = g7 at h7 hf7 hf8 hYw ⊢
        have c71 := h7.cell 1
        rw [snA_1] at c71
        have f71 := h7.frozen 1
        have h8 := h7.set 1 (.int .u32 (PV : Int))
        rw [snA_set1] at h8
        have kc7 : Keep [g7] Z (Z.setCell ⟨g7, 1, none⟩ (.int .u32 (PV : Int))) := ⟨rfl, rfl, rfl, by simp [World.setCell], fun k _ hn => heap_setCell_ne Z g7 k 1 _ (fun e => hn (by simp [e]))⟩
        have hS2 := hS1.keeps kc7 (fun q hq hm => by have := hf7 q hq; rw [List.mem_singleton] at hm; omega)
        have hA2 := hA1.keeps kc7 (fun q hq hm => by have := hf8 q hq; rw [List.mem_singleton] at hm; omega)
        have hB2 := hB1.trans (kc7.below (B := Y.heap.size) (by simpa using hYw) hB1.size)
        clear hS1 hA1 hB1 h7 kc7
        go_upto_region 16 with fail
        generalize Z.setCell ⟨g7, 1, none⟩ (.int .u32 (PV : Int)) = Z2 at h8 hS2 hA2 hB2 ⊢
        clear c71 f71 rb1 pc1
        obtain ⟨s9, hs9⟩ : ∃ q : Sn, q = ⟨r.sn.id, (PV : Int), r.sn.key⟩ := ⟨_, rfl⟩
        have h8' : RowC Z2 g7 (snA s9) := by rw [hs9]; exact h8
        rw [← hs9] at hly
        clear h8 hs9
        have bD := below_alloc Z2 (.cells (snA s9) 37)
        obtain ⟨ga, ca, wa, hra, hS3, -, hga, -⟩ := run_app1K snE_ok (Z2.alloc (.cells (snA s9) 37)) Y.heap.size Z2.heap.size u4 (lf l i) s9 32 (hS2.keep bD) (sn_litr Z2 s9) (by simp) (by show ((lf l i).length + 1) * 40 ≤ _; omega) (by unfold maxLen; omega) (Nat.le_trans hB2.size bD.size)
        rw [← hly] at hS3
        have kA : Keep u4.ownBlock.toList (Z2.alloc (.cells (snA s9) 37)) wa := Keep.of_grown hga (fun q hq => by rw [hq]; simp)
        have hA3 := (hA2.keep bD).keeps kA (ownK_type (hA2.keep bD) (hS2.keep bD) (by decide))
        have h9r := (h8'.kept bD).keepsF kA (fun hm => by have := hf7 g7 (by simpa using hm); omega)
        have hB3 := (hB2.trans (bD.mono hB2.size)).trans ((hS2.keep bD).below hga (Nat.le_trans hB2.size bD.size))
        have z8 : (rowAt Z2 g7).size = 34 := by rw [h8'.2]; exact snA_size _
        obtain ⟨r8, q8⟩ := id h8'
        have hra' : (Builtin.append_ #[32, 32] 32 #[u4, .slice (some ⟨Z2.heap.size, 0, none⟩) 1 1]).run Try.prog (Z2.alloc (.cells (snA s9) 37)) = .ok (.slice (some ⟨ga, 0, none⟩) ((lf l i).length + 1) ca) wa := hra
        have HS : Hid (OwnK snE wa Y.heap.size (.slice (some ⟨ga, 0, none⟩) ((lf l i).length + 1) ca) (lf l (i + 1))) := hS3
        clear hra hS2 hA2 hB2 bD kA hga hf7 hf8 h8'
        go_upto_region 17 with (at_builtin; refine wpL_appR 32 rfl _ _ rfl _ wa (by exact hra') ?_)
        clear hra' r8 q8 z8
        have bE := below_alloc wa (.cells (rwA ⟨true, true, s9⟩) 39)
        obtain ⟨gb, cb, wb, hrb, hA4, -, hgb, -⟩ := run_app1K rwE_ok (wa.alloc (.cells (rwA ⟨true, true, s9⟩) 39)) Y.heap.size wa.heap.size u5 ((lf l i).map mkR) ⟨true, true, s9⟩ 22 (hA3.keep bE) (re_litr wa ⟨true, true, s9⟩) (by simp) (by rw [List.length_map]; show ((lf l i).length + 1) * 44 ≤ _; omega) (by rw [List.length_map]; unfold maxLen; omega) (Nat.le_trans hB3.size bE.size)
        have e9 : (lf l i).map mkR ++ [⟨true, true, s9⟩] = (lf l (i + 1)).map mkR := by rw [hly, List.map_append]; rfl
        rw [e9] at hA4
        have kA2 : Keep u5.ownBlock.toList (wa.alloc (.cells (rwA ⟨true, true, s9⟩) 39)) wb := Keep.of_grown hgb (fun q hq => by rw [hq]; simp)
        have HS2 : Hid (OwnK snE wb Y.heap.size (.slice (some ⟨ga, 0, none⟩) ((lf l i).length + 1) ca) (lf l (i + 1))) := (HS.out.keep bE).keeps kA2 (ownK_type (HS.out.keep bE) (hA3.keep bE) (by decide))
        have HA : Hid (OwnK rwE wb Y.heap.size (.slice (some ⟨gb, 0, none⟩) (((lf l i).map mkR).length + 1) cb) ((lf l (i + 1)).map mkR)) := hA4
        have HB : Hid _ := (hB3.trans (bE.mono hB3.size)).trans ((hA3.keep bE).below hgb (Nat.le_trans hB3.size bE.size))
        have hrb' : (Builtin.append_ #[22, 22] 22 #[u5, .slice (some ⟨wa.heap.size, 0, none⟩) 1 1]).run Try.prog (wa.alloc (.cells (rwA ⟨true, true, s9⟩) 39)) = .ok (.slice (some ⟨gb, 0, none⟩) (((lf l i).map mkR).length + 1) cb) wb := hrb
        have z9 : (rowAt wa g7).size = 34 := by rw [h9r.2]; exact snA_size _
        obtain ⟨r9, q9⟩ := h9r
        generalize (lf l i).length + 1 = m1 at HS2 HS
        generalize ((lf l i).map mkR).length + 1 = m2 at HA hrb'
        clear hrb hA3 hA4 hB3 bE kA2 hgb HS hly hln e9 hlt hi hr hkp
        go_wp2_with (at_builtin; refine wpL_appR 22 rfl _ _ rfl _ wb (by exact hrb') ?_)
        go_roundw
        case rel => first | exact ⟨i + 1, by have := HI.out; omega, by go_num, HS2.out, HA.out, HB.out⟩ | ((repeat apply Exists.intro); refine ⟨⟨i + 1, by have := HI.out; omega, ?_, HS2.out, HA.out, HB.out⟩, rfl⟩; go_num)
        case measure => have := HI.out; simp [intOf]; omega
    · obtain rfl : n = i := by omega
      have i0 : ¬ (n : Int) < (n : Int) := by omega
      clear hlt hi
      obtain ⟨S, hSd⟩ : ∃ q, lf l n = q := ⟨_, rfl⟩
      have hSl : lf l l.length = S := by rw [hn]; exact hSd
      have hSn := lf_len l n
      rw [hSd] at hS hA hSn
      have HIS : Hid (isS S = true) := by rw [← hSl]; exact lf_is hs
      have HFL : Hid (∀ q, FL (frO (S.map mkR)) S.length S.length q = []) := fun q => by rw [← hSl]; exact lf_FL hs _ rfl q
      have HKP : Hid (∀ i, i < S.length → (frO (S.map mkR)).kp i = true) := fun i hi => by rw [← hSl] at hi ⊢; exact lf_kp hi
      have HPR : Hid (∀ i s, S[i]? = some s → ((frO (S.map mkR)).par i : Int) = s.pa) := fun i s hi => by rw [← hSl] at hi ⊢; exact lf_par hs hi
      have hSok : ∀ s ∈ S, s.ok := by rw [← hSl]; exact lf_ok hs _
      obtain ⟨m, hm⟩ : ∃ q, S.length = q := ⟨_, rfl⟩
      rw [hm] at HFL HKP hSn
      have hmm : (S.map mkR).length = m := by rw [List.length_map]; exact hm
      obtain ⟨xs, cs, es⟩ := hS.form9
      obtain ⟨xa, ca, ea⟩ := hA.form9
      rw [hm] at es
      rw [hmm] at ea
      have hSk := hS.isK snE_ok
      have hAk := hA.isK rwE_ok
      rw [es] at hSk ⊢
      rw [ea] at hAk ⊢
      have kR := rows21 (S.map mkR) xa m ca wr hmm (by omega) hAk
      clear hS hA es ea hSd hSl
      go_wp2_with fail
      refine kR.mono ?_
      rintro e w1 ⟨gr, cr, rfl, hO1, hb1⟩
      rw [hmm] at hO1 ⊢
      have hB1 := hB.trans (hb1.mono hB.size)
      have hI1 := (hO1.cut rwF_ok m (by omega)).isK rwF_ok
      have etk : (S.map mkR ++ [ex77]).take m = S.map mkR := by rw [← hmm, List.take_left]
      rw [etk] at hI1
      have kO := O.of (S.map mkR) (some ⟨gr, 0, none⟩) m cr w1 hmm (by omega) (map_ok hSok) hI1
      have hSk1 := hSk.kept hb1
      clear kR hb1 hI1 etk hB hSk hAk
      go_wp2_with fail
      refine kO.mono ?_
      rintro e w2 ⟨V2, rfl, hF2⟩
      rw [hmm] at hF2
      have bC := below_alloc w2 (.cells (foA V2) 28)
      have hR2 := RowC.new w2 (foA V2) 28
      have hB2 := hB1.trans (hF2.be.mono hB1.size)
      have hB3 := hB2.trans (bC.mono hB2.size)
      have hD2 := hF2.rd.kept bC
      have hon := foA_one' hF2
      have zV : (foA V2).size = 6 := foA_size _
      have hSk2 := (hSk1.kept hF2.be).kept bC
      clear kO bC hF2 hB1 hB2 hSk1 hO1
      go_upto_region 19 with fail
      generalize w2.alloc (.cells (foA V2) 28) = Y2 at hR2 hB3 hD2 hSk2 ⊢
      generalize w2.heap.size = g8 at hR2 ⊢
      obtain ⟨xk2, ck2, ek2⟩ := hD2.k.len
      obtain ⟨xp2, cp2, ep2⟩ := hD2.p.len
      rw [bF_len] at ek2
      rw [uF_len] at ep2
      have kI := O.is S xs m cs Y2 hm (by omega) hSok hSk2
      rw [HIS.out] at kI
      have q2 := hD2.l 2 (by omega) (by omega)
      have q3 := hD2.l 3 (by omega) (by omega)
      have q4 := hD2.l 4 (by omega) (by omega)
      have q5 := hD2.l 5 (by omega) (by omega)
      rw [HFL.out] at q2 q3 q4 q5
      obtain ⟨y2, d2, v2⟩ := q2.len
      obtain ⟨y3, d3, v3⟩ := q3.len
      obtain ⟨y4, d4, v4⟩ := q4.len
      obtain ⟨y5, d5, v5⟩ := q5.len
      clear hon zV q2 q3 q4 q5 HIS HFL
      go_wp2_with fail
      refine kI.mono ?_
      rintro e Y3 ⟨rfl, hb3⟩
      have hB4 := hB3.trans (hb3.mono hB3.size)
      have hR3 := hR2.kept hb3
      have hD3 := hD2.kept hb3
      have hSk3 := hSk2.kept hb3
      have r0 := hR3.cell 0
      have r2 := hR3.cell 2
      have r3 := hR3.cell 3
      have r4 := hR3.cell 4
      have r5 := hR3.cell 5
      rw [foA_get V2 0 (by omega), ek2] at r0
      rw [foA_get V2 2 (by omega), v2] at r2
      rw [foA_get V2 3 (by omega), v3] at r3
      rw [foA_get V2 4 (by omega), v4] at r4
      rw [foA_get V2 5 (by omega), v5] at r5
      replace r2 : Y3.cell? ⟨g8, 2, none⟩ = some (.slice y2 0 d2) := r2
      replace r3 : Y3.cell? ⟨g8, 3, none⟩ = some (.slice y3 0 d3) := r3
      replace r4 : Y3.cell? ⟨g8, 4, none⟩ = some (.slice y4 0 d4) := r4
      replace r5 : Y3.cell? ⟨g8, 5, none⟩ = some (.slice y5 0 d5) := r5
      clear kI hB3 hR2 hD2 hSk2 hb3
      go_wp2_with fail
      clear r0 r2 r3 r4 r5
      go_loopw [9] (fun kv wr => ∃ k : Nat, k ≤ m ∧ kv = .int .i64 k ∧ Below Y3.heap.size Y3 wr) (fun kv _ => m - (intOf kv).toNat)
      case atStart => exact ⟨0, by omega, rfl, Below.refl _ _⟩
      case round =>
        obtain ⟨k, hk, rfl, hBw⟩ := hrel
        by_cases hkm : k < m
        · obtain ⟨s, hsk⟩ : ∃ s, S[k]? = some s := ⟨_, List.getElem?_eq_getElem (by omega)⟩
          obtain ⟨gs, os, f3, -, -, sc, -, -⟩ := snE_cells (hSk3.kept hBw) k s hsk
          subst f3
          have hR4 := hR3.kept hBw
          have ra := hR4.cell 0
          have rb := hR4.cell 1
          rw [foA_get V2 0 (by omega), ek2] at ra
          rw [foA_get V2 1 (by omega), ep2] at rb
          have hk9 := (hD3.kept hBw).k
          have hp9 := (hD3.kept hBw).p
          rw [ek2] at hk9
          rw [ep2] at hp9
          obtain ⟨gk, ok, f1, -, kc9⟩ := hk9.spot k (by rw [bF_len]; omega)
          obtain ⟨gp, op, f2, -, pc9⟩ := hp9.spot k (by rw [uF_len]; omega)
          subst f1
          subst f2
          have kc := kc9 k _ (bF_get _ m k hkm)
          have pc := pc9 k _ (uF_get _ m k hkm)
          rw [HKP.out k hkm] at kc
          rw [HPR.out k s hsk] at pc
          obtain ⟨PA, hPA⟩ : ∃ q, s.pa = q := ⟨_, rfl⟩
          rw [hPA] at pc sc
          have k0 : (k : Int) < (m : Int) := by omega
          have FI : Hid ((0 : Int) ≤ (k : Int) ∧ (k : Int) < (m : Int)) := ⟨by omega, k0⟩
          have HKM : Hid (k < m ∧ m ≤ 3198579280801) := ⟨hkm, by omega⟩
          clear hk9 hp9 kc9 pc9 hsk hPA hR4 hkm hk
          go_upto_region 24 with fail
          refine wp_relies [Fx (.pointer (some ⟨g8, 0, none⟩)), Fx (.slice (some ⟨gk, ok, none⟩) m ck2), Fx (.int .i64 (k : Int)), Fx (.pointer (some ⟨gk, ok + k, none⟩)), Fx (.bool true), Fx (.bool false), Fx (.bool false), Fx (.pointer (some ⟨g8, 1, none⟩)), Fx (.slice (some ⟨gp, op, none⟩) m cp2), Fx (.int .i64 (k : Int)), Fx (.pointer (some ⟨gp, op + k, none⟩)), Fx (.int .u32 PA), Fx (.slice (some ⟨gs, os, none⟩) m cs), Fx (.int .i64 (k : Int)), Fx (.pointer (some ⟨gs, os + k * 34, none⟩)), Fx (.pointer (some ⟨gs, os + k * 34 + 1, none⟩)), Fx (.int .u32 PA), Fx (.bool false), Fx (.bool false)] (by kernel_rfl) (by kernel_rfl) ?_ ?_ ?_
          · repeat' (first | exact all_nil | apply all_cons)
            all_goals intro v y y' hv hb
            all_goals first | exact Fx_mono _ _ _ _ hv hb
          · refine ⟨?_, ?_, ?_, ?_, ?_, ?_, ?_, ?_, ?_, ?_, ?_, ?_, ?_, ?_, ?_, ?_, ?_, ?_, ?_, trivial⟩
            all_goals
              intro ρ y9 hp ρc ρg ρf ho hd
              have o4 : ρ (.tmp 4) = .slice (some ⟨gs, os, none⟩) m cs := ho 4 rfl
              have o8 : ρ (.tmp 8) = .pointer (some ⟨g8, 0, none⟩) := ho 8 rfl
              have o9 : ρ (.tmp 9) = .int .i64 (k : Int) := ho 9 rfl
              clear ho
              replace ra := cell_later hp ra
              replace rb := cell_later hp rb
              replace kc := cell_later hp kc
              replace pc := cell_later hp pc
              replace sc := cell_later hp sc
              simp only [depsR, depR, slotR, Fx, List.getElem?_cons_succ, List.getElem?_cons_zero, Region.binds, forall_const] at hd
              simp only [guardR]
              go_split_ands
            · go_simp
            · go_simp
            · go_simp
            · obtain ⟨z1, z2⟩ := FI.out
              go_simp
            · go_simp
            · go_simp
            · go_simp
            · refine ⟨fun _ => ?_, fun hy => absurd (by simp [yieldR, slotR, *]) hy⟩
              go_simp
            · refine ⟨fun _ => ?_, fun hy => absurd (by simp [yieldR, slotR, *]) hy⟩
              go_simp
            · refine ⟨fun _ => ?_, fun hy => absurd (by simp [yieldR, slotR, *]) hy⟩
              go_simp
            · refine ⟨fun _ => ?_, fun hy => absurd (by simp [yieldR, slotR, *]) hy⟩
              obtain ⟨z1, z2⟩ := FI.out
              go_simp
            · refine ⟨fun _ => ?_, fun hy => absurd (by simp [yieldR, slotR, *]) hy⟩
              go_simp
            · refine ⟨fun _ => ?_, fun hy => absurd (by simp [yieldR, slotR, *]) hy⟩
              go_simp
            · refine ⟨fun _ => ?_, fun hy => absurd (by simp [yieldR, slotR, *]) hy⟩
              go_simp
            · refine ⟨fun _ => ?_, fun hy => absurd (by simp [yieldR, slotR, *]) hy⟩
              obtain ⟨z1, z2⟩ := FI.out
              go_simp
            · refine ⟨fun _ => ?_, fun hy => absurd (by simp [yieldR, slotR, *]) hy⟩
              go_simp
            · refine ⟨fun _ => ?_, fun hy => absurd (by simp [yieldR, slotR, *]) hy⟩
              go_simp
            · refine ⟨fun _ => ?_, fun hy => absurd (by simp [yieldR, slotR, *]) hy⟩
              go_simp
            · go_simp
          · intro us x2 hp2 hw
            simp only [owed, Fx] at hw
            obtain ⟨e0, e1, e2, e3, e4, e5, e6, e7, e8, e9, e10, e11, e12, e13, e14, e15, e16, e17, e18, -⟩ := hw
            simp only [List.length_cons, List.length_nil, List.take_succ_cons, List.take_nil, List.drop_succ_cons, List.drop_nil, asg, List.cons_append, List.nil_append, e0, e1, e2, e3, e4, e5, e6, e7, e8, e9, e10, e11, e12, e13, e14, e15, e16, e17, e18]
            clear e0 e1 e2 e3 e4 e5 e6 e7 e8 e9 e10 e11 e12 e13 e14 e15 e16 e17 e18
            have HB : Hid _ := hBw.trans (hp2.mono hBw.size)
            have k0' : (k : Int) < (m : Int) := FI.out.2
            have m41 : m ≤ 3198579280801 := HKM.out.2
            clear hp2 hBw ra rb kc pc sc
            go_wp2
            go_roundw
            case rel => first | exact ⟨k + 1, by have := HKM.out; omega, by go_num, HB.out⟩ | ((repeat apply Exists.intro); refine ⟨⟨k + 1, by have := HKM.out; omega, ?_, HB.out⟩, rfl⟩; go_num)
            case measure => have := HKM.out; simp [intOf]; omega
        · obtain rfl : m = k := by omega
          have k0 : ¬ (m : Int) < (m : Int) := by omega
          have HB : Hid _ := (hBY.trans (hB4.mono hBY.size)).trans (hBw.mono (Nat.le_trans hBY.size hB4.size))
          clear hBw hkm hk
          go_wp2
          go_ret
          exact ⟨rfl, HB.out⟩
end Go.Proofs.Ytligjfofnafjeaa
