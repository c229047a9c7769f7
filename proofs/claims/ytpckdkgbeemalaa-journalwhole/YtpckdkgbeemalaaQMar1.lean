import Derived.Test.YtpckdkgbeemalaaQMarM
import Derived.Test.YtpckdkgbeemalaaQCrc1
import Derived.Test.YtpckdkgbeemalaaQGeo2
import Derived.Test.YtpckdkgbeemalaaQGeoT
import Derived.Test.YtpckdkgbeemalaaQRfa
import Derived.Test.YtpckdkgbeemalaaQDev1
import Derived.Test.YtpckdkgbeemalaaQRowg
namespace Go.Proofs.Ytpckdkgbeemalaa
open Go.RowKit

/-! assayref09.Put -/
def WrB (l : List Wr) : Prop := ∀ i, i < l.length → -9223372036854775808 ≤ atW l i ∧ atW l i ≤ 9223372036854775807
def secBuild3 (x y z : Value) : Sem Next := do pure (.value (← Instr.build 44 #[(0, x), (1, y), (2, z)]))
@[go_sem ↓] theorem execOp_build_sec3 (ρ : Operand → Value) (dst : Option Tmp) (ty : TypeId) (pos : String) (after : Array Edge) (guard : Option (Nat × Bool)) (x y z : Operand) : execOp ρ { dst, op := .build 44 #[(0, x), (1, y), (2, z)], type := ty, pos, after, guard } = secBuild3 (ρ x) (ρ y) (ρ z) := by simp [execOp, secBuild3]
theorem run_secB3 (w : World) (k : Nat) (hk : k ≤ 8) : (secBuild3 (.int .u8 74) (.int .u8 77) (.int .u8 (k : Int))).run Try.prog w = .ok (.value (.agg (secA (mHead k)))) w := by
  simp only [secBuild3, Sem.run_bind]
  rw [run_build w 44 #[(0, .int .u8 74), (1, .int .u8 77), (2, .int .u8 (k : Int))] (secA (mHead k)) (by
    rcases k with _ | _ | _ | _ | _ | _ | _ | _ | _ | k
    all_goals first | omega | kernel_rfl)]; rfl
theorem ScR.rowne9 {w : World} {g k : Nat} {s : Sc} (h : ScR w k s) (c : Array Value) (hn : k ≠ g) : ScR (w.setRow g c) k s := by
  have := setRow_other w g k c hn
  unfold ScR rowOk rowAt at *
  rw [this]; exact h
theorem ScR.rowsame9 {w : World} {g : Nat} {s : Sc} (h : ScR w g s) (t : Sc) : ScR (w.setRow g (secA t)) g t := ⟨rowOk_setRow_same _ _ _ h.1 (secA_size _), rowAt_setRow_same _ _ _ h.1⟩
theorem wr_at {w : World} {b o : Nat} {x : Wr} (h : w.rangeAt b o (wrE.enc x)) : w.cell? ⟨b, o, none⟩ = some (.int .i64 x.1) ∧ ∀ j, j < 64 → w.cell? ⟨b, o + 1 + j, none⟩ = some (.int .u8 ((x.2 j).toNat : Int)) := by
  rw [wrE_enc, wrA_list] at h
  refine ⟨h 0 _ rfl, fun j hj => ?_⟩
  have := h (j + 1) (.int .u8 ((x.2 j).toNat : Int)) (by
    rw [List.getElem?_cons_succ, Array.getElem?_toList]
    exact secA_get x.2 j hj)
  rwa [show o + (j + 1) = o + 1 + j by omega] at this
set_option linter.unusedSimpArgs false in
theorem rPut9_size (x : Option Addr) (L c : Nat) (n : Int) (w : World) (h : ¬ (64 ≤ n ∧ n ≤ 1024)) (h0 : -9223372036854775808 ≤ n) (h1 : n ≤ 9223372036854775807) :
    Calls Try.prog 16 #[.slice x L c, .int .i64 n] w fun r w' => r = .returned (.tuple #[.agg (secA secZ), .int .i64 22]) ∧ Below w.heap.size w w' := by
  have hO := fun w => rof_no n w h h0 h1
  go_enter Try.func16, Try.ntmps16
  go_upto_region 1 with fail
  have hB : Below w.heap.size w (w.alloc (.cells (secA secZ) 44)) := below_alloc w _
  have hR4 : ScR (w.alloc (.cells (secA secZ) 44)) w.heap.size secZ := ScR.new w secZ 44
  obtain ⟨g4, hg4⟩ : ∃ g, w.heap.size = g := ⟨_, rfl⟩
  have hl4 : w.heap.size ≤ g4 := by omega
  rw [hg4] at hR4
  simp only [hg4]
  generalize w.alloc (.cells (secA secZ) 44) = X at hB hR4 ⊢
  go_wp2_with fail
  go_at_call 31
  refine (hO _).mono ?_
  rintro r w1 ⟨rfl, hb1⟩
  clear hO
  have h4 := (hR4.kept hb1).kept (below_alloc w1 (.cells (gA fun _ => 0) 83))
  replace hB := hB.trans (hb1.mono hB.size)
  replace hB := hB.alloc hB.size (.cells (gA fun _ => 0) 83)
  have HR9 : Hid (ScR ((w1.alloc (.cells (gA fun _ => 0) 83)).setRow g4 (secA secZ)) g4 secZ) := ⟨rowOk_setRow_same _ _ _ h4.1 (secA_size _), rowAt_setRow_same _ _ _ h4.1⟩
  have HB : Hid _ := below_row hB hl4 (secA secZ)
  go_upto_region 2 with fail
  generalize w1.alloc (.cells (gA fun _ => 0) 83) = Y at h4 HR9 HB ⊢
  obtain ⟨r4, q4⟩ := h4
  clear hB hb1 hR4
  go_wp2
  exact sec_bodyPost2 4 5 g4 secZ rfl rfl rfl HR9.out ⟨rfl, HB.out⟩
set_option linter.unusedSimpArgs false in
theorem rPut9_len (x : Option Addr) (L c : Nat) (n : Int) (w : World) (h : 64 ≤ n ∧ n ≤ 1024) (hL : ¬ (1 ≤ L ∧ L ≤ 8)) (_h63 : L ≤ 4611686018427387904) :
    Calls Try.prog 16 #[.slice x L c, .int .i64 n] w fun r w' => r = .returned (.tuple #[.agg (secA secZ), .int .i64 24]) ∧ Below w.heap.size w w' := by
  have hO := fun w => rof_yes n w h.1 h.2
  generalize geoF n = f at hO
  go_enter Try.func16, Try.ntmps16
  go_upto_region 1 with fail
  have hB : Below w.heap.size w (w.alloc (.cells (secA secZ) 44)) := below_alloc w _
  have hR4 : ScR (w.alloc (.cells (secA secZ) 44)) w.heap.size secZ := ScR.new w secZ 44
  obtain ⟨g4, hg4⟩ : ∃ g, w.heap.size = g := ⟨_, rfl⟩
  have hl4 : w.heap.size ≤ g4 := by omega
  rw [hg4] at hR4
  simp only [hg4]
  generalize w.alloc (.cells (secA secZ) 44) = X at hB hR4 ⊢
  go_wp2_with fail
  go_at_call 31
  refine (hO _).mono ?_
  rintro r w1 ⟨rfl, hb1⟩
  clear hO
  have h4 := (hR4.kept hb1).kept (below_alloc w1 (.cells (gA f) 83))
  replace hB := hB.trans (hb1.mono hB.size)
  replace hB := hB.alloc hB.size (.cells (gA f) 83)
  by_cases hl0 : L < 1
  · have hl1 : (L : Int) < 1 := by omega
    obtain rfl : L = 0 := by omega
    have HR9 : Hid (ScR ((w1.alloc (.cells (gA f) 83)).setRow g4 (secA secZ)) g4 secZ) := ⟨rowOk_setRow_same _ _ _ h4.1 (secA_size _), rowAt_setRow_same _ _ _ h4.1⟩
    have HB : Hid _ := below_row hB hl4 (secA secZ)
    go_upto_region 2 with fail
    generalize w1.alloc (.cells (gA f) 83) = Y at h4 HR9 HB ⊢
    obtain ⟨r4, q4⟩ := h4
    clear hB hb1 hR4
    go_wp2
    exact sec_bodyPost2 4 5 g4 secZ rfl rfl rfl HR9.out ⟨rfl, HB.out⟩
  · have hl1 : ¬ (L : Int) < 1 := by omega
    have hl2 : (8 : Int) < (L : Int) := by omega
    have HR9 : Hid (ScR ((w1.alloc (.cells (gA f) 83)).setRow g4 (secA secZ)) g4 secZ) := ⟨rowOk_setRow_same _ _ _ h4.1 (secA_size _), rowAt_setRow_same _ _ _ h4.1⟩
    have HB : Hid _ := below_row hB hl4 (secA secZ)
    go_upto_region 2 with fail
    generalize w1.alloc (.cells (gA f) 83) = Y at h4 HR9 HB ⊢
    obtain ⟨r4, q4⟩ := h4
    clear hB hb1 hR4
    go_wp2
    exact sec_bodyPost2 4 5 g4 secZ rfl rfl rfl HR9.out ⟨rfl, HB.out⟩
theorem putI20 (s : Sc) (v : Nat) : putI s 20 v 4 = putN s 20 v 4 := by unfold putI; rw [if_pos (by decide)]; rfl
theorem ScR.below9 {B : Nat} {w w' : World} {g : Nat} {s : Sc} (h : ScR w g s) (hb : Below B w w') (hg : g < B) : ScR w' g s := by
  have := hb.block g hg
  unfold ScR rowOk rowAt at *
  rw [this]; exact h
theorem OwnB.set9 {w : World} {B g : Nat} {v : Value} {l : List UInt8} (h : OwnB w B v l) (hg : g < B) (j : Nat) (u : Value) : OwnB (w.setCell ⟨g, j, none⟩ u) B v l := by
  refine ⟨h.1, ?_⟩
  rcases h.2 with hn | ⟨q, cap, cur, rfl, hb, hh, r⟩
  · exact .inl hn
  · refine .inr ⟨q, cap, cur, rfl, hb, ?_, r⟩
    rw [Below.heap_setCell w ⟨g, j, none⟩ u q (by show q ≠ g; omega)]; exact hh
set_option linter.unusedSimpArgs false in
set_option maxRecDepth 100000 in
set_option maxHeartbeats 4000000 in
theorem rPut9_yes (l : List Wr) (x : Option Addr) (L c : Nat) (n : Int) (w : World) (h : 64 ≤ n ∧ n ≤ 1024) (hL : l.length = L) (hL1 : 1 ≤ L) (hL8 : L ≤ 8) (hl : IsK wrE w (.slice x L c) l) (hlB : WrB l) :
    Calls Try.prog 16 #[.slice x L c, .int .i64 n] w fun r w' => r = .returned (.tuple #[.agg (secA (bif allW n l L then marS l else secZ)), .int .i64 (bif allW n l L then 0 else 24)]) ∧ Below w.heap.size w w' := by
  have hO := fun w => rof_yes n w h.1 h.2
  generalize geoF n = f at hO
  obtain ⟨bl, of, rfl⟩ : ∃ bl of, x = some ⟨bl, of, none⟩ := by
    obtain ⟨b, o, e, -⟩ := hl.at 0 _ (List.getElem?_eq_getElem (by omega))
    exact ⟨b, o, e⟩
  have hcell : ∀ i, i < L → ∀ W, Below w.heap.size w W → W.cell? ⟨bl, of + i * 65, none⟩ = some (.int .i64 (atW l i)) ∧ ∀ j, j < 64 → W.cell? ⟨bl, of + i * 65 + 1 + j, none⟩ = some (.int .u8 ((dtW l i j).toNat : Int)) := fun i hi W hW => by
    have hg : l[i]? = some (l.getD i wrZ) := by rw [List.getD_eq_getElem?_getD, List.getElem?_eq_getElem (by omega)]; rfl
    obtain ⟨b, o, e, hb, hr⟩ := (hl.kept hW).at i _ hg
    simp only [Option.some.injEq, Addr.mk.injEq, and_true] at e
    obtain ⟨rfl, rfl⟩ := e
    exact wr_at hr
  have hl1 : ¬ (L : Int) < 1 := by omega
  have hl2 : ¬ (8 : Int) < (L : Int) := by omega
  obtain ⟨RS, hRS⟩ : ∃ s, (bif allW n l L then marS l else secZ) = s := ⟨_, rfl⟩
  obtain ⟨RE, hRE⟩ : ∃ s, (bif allW n l L then (0 : Int) else 24) = s := ⟨_, rfl⟩
  have HRS : Hid _ := hRS
  have HRE : Hid _ := hRE
  rw [hRS, hRE]
  clear hRS hRE
  go_enter Try.func16, Try.ntmps16
  go_upto_region 1 with fail
  have hB : Below w.heap.size w (w.alloc (.cells (secA secZ) 44)) := below_alloc w _
  have hR4 : ScR (w.alloc (.cells (secA secZ) 44)) w.heap.size secZ := ScR.new w secZ 44
  obtain ⟨g4, hg4⟩ : ∃ g, w.heap.size = g := ⟨_, rfl⟩
  have hl4 : w.heap.size ≤ g4 := by omega
  rw [hg4] at hR4
  simp only [hg4]
  generalize w.alloc (.cells (secA secZ) 44) = X at hB hR4 ⊢
  go_wp2_with fail
  go_at_call 31
  refine (hO _).mono ?_
  rintro r w1 ⟨rfl, hb1⟩
  clear hO
  have h4 := (hR4.kept hb1).kept (below_alloc w1 (.cells (gA f) 83))
  replace hB := hB.trans (hb1.mono hB.size)
  replace hB := hB.alloc hB.size (.cells (gA f) 83)
  go_upto_region 2 with fail
  generalize w1.alloc (.cells (gA f) 83) = Y at h4 hB ⊢
  clear hb1 hR4
  have hb3 := run_secB3 Y L hL8
  have hcv : IntKind.u8.wrap (L : Int) = (L : Int) := by rw [IntKind.wrap_u8]; omega
  go_upto_region 7 with fail
  have h8 : ScR (Y.alloc (.cells (secA (mHead L)) 44)) Y.heap.size (mHead L) := ScR.new Y _ 44
  have h4b := h4.kept (below_alloc Y (.cells (secA (mHead L)) 44))
  have hBb := hB.alloc hB.size (.cells (secA (mHead L)) 44)
  have hszY : (Y.alloc (.cells (secA (mHead L)) 44)).heap.size = Y.heap.size + 1 := by simp
  obtain ⟨g8, hg8⟩ : ∃ g, Y.heap.size = g := ⟨_, rfl⟩
  have hg8w : w.heap.size ≤ g8 := by rw [← hg8]; exact hB.size
  have hne48 : g8 ≠ g4 := by rw [← hg8]; have := h4.lt; omega
  rw [hg8] at h8 hszY
  simp only [hg8]
  generalize Y.alloc (.cells (secA (mHead L)) 44) = Z at h8 h4b hBb hszY ⊢
  obtain ⟨N0, hN0⟩ : ∃ q, Z.heap.size = q := ⟨_, rfl⟩
  have hg8N : g8 < N0 := by omega
  have hg4N : g4 < N0 := by have := h4b.lt; omega
  have hN0w : w.heap.size ≤ N0 := by rw [← hN0]; exact hBb.size
  clear h4 hB hb3 hcv hszY
  go_wp2_with fail
  go_loopw [9, 10] (fun bv iv wr => ∃ i : Nat, i ≤ L ∧ iv = .int .i64 i ∧ allW n l i = true ∧ OwnB wr N0 bv (allU8 l i) ∧ ScR wr g8 (mTg l i) ∧ ScR wr g4 secZ ∧ Below w.heap.size w wr ∧ N0 ≤ wr.heap.size) (fun _ iv _ => L - (intOf iv).toNat)
  case atStart => exact ⟨0, by omega, rfl, rfl, OwnB.nil _ _, by rw [mTg, hL]; exact h8, h4b, hBb, by omega⟩
  case round =>
    clear h8 h4b hBb
    obtain ⟨i, hi, rfl, hal, hO, h8, h4r, hBr, hszr⟩ := hrel
    by_cases hlt : i < L
    · have cI := (hcell i hlt _ hBr).1
      have Ha : Hid (-9223372036854775808 ≤ atW l i ∧ atW l i ≤ 9223372036854775807) := hlB i (by omega)
      have hk9 : (i : Int) < (L : Int) := by omega
      have FK : Hid ((i : Int) < (L : Int)) := hk9
      clear hk9
      obtain ⟨bt, hbt⟩ : ∃ b, tgtB n (atW l i) = b := ⟨_, rfl⟩
      have HT : Hid (tgtB n (atW l i) = bt) := hbt
      go_upto_region 11 with fail
      cases bt
      · have hok : okW n l i = false := by unfold okW; rw [hbt]; rfl
        clear hbt
        refine wp_reliesT [Fx (.int .i64 (n)), Fx (.slice (some ⟨bl, of, none⟩) L c), Fx (.int .i64 ((i : Int))), Fx (.pointer (some ⟨bl, of + i * 65, none⟩)), Fx (.pointer (some ⟨bl, of + i * 65, none⟩)), Fx (.int .i64 (atW l i)), Fx (.bool false), Fx (.bool true), Fx (.bool true), Fx (undef), Fx (undef), Fx (undef), Fx (undef), Fx (undef), Fx (undef), Fx (undef), Fx (undef), Fx (undef), Fx (undef), Fx (undef), Fx (undef), Fx (undef), Fx (undef), Fx (undef), Fx (undef)] (by kernel_rfl) (by kernel_rfl) ?_ ?_ ?_
        · repeat' (first | exact all_nil | apply all_cons)
          all_goals intro v y y' hv hb
          all_goals first | exact Fx_mono _ _ _ _ hv hb
        · refine ⟨?_, ?_, ?_, ?_, ?_, ?_, ?_, ?_, ?_, ?_, ?_, ?_, ?_, ?_, ?_, ?_, ?_, ?_, ?_, ?_, ?_, ?_, ?_, ?_, ?_, trivial⟩
          all_goals
            intro ρ x hp ρc ρg ρf ho hd
            have o0 : ρ (.tmp 0) = .slice (some ⟨bl, of, none⟩) L c := ho 0 rfl
            have o1 : ρ (.tmp 1) = .int .i64 (n) := ho 1 rfl
            have o10 : ρ (.tmp 10) = .int .i64 ((i : Int)) := ho 10 rfl
            clear ho
            have kc := cell_later hp cI
            simp only [depsR, depR, slotR, Fx, List.getElem?_cons_succ, List.getElem?_cons_zero, Region.binds, forall_const] at hd
            simp only [guardR]
            go_split_ands
          · go_simp
          · go_simp
          · go_simp
          · have hq := FK.out
            go_simp
          · go_simp
          · go_simp
          · go_simp
            refine (rtarget_any n (atW l i) x Ha.out.1 Ha.out.2).mono ?_
            rintro e w' ⟨rfl, rfl⟩
            exact ⟨_, rfl, by show Value.bool _ = _; rw [HT.out], Below.refl _ _⟩
          · go_simp
          · go_simp
          · refine ⟨fun hy => ?_, fun _ => rfl⟩
            exfalso; simp [yieldR, slotR, undef, *] at hy
          · refine ⟨fun hy => ?_, fun _ => rfl⟩
            exfalso; simp [yieldR, slotR, undef, *] at hy
          · refine ⟨fun hy => ?_, fun _ => rfl⟩
            exfalso; simp [yieldR, slotR, undef, *] at hy
          · refine ⟨fun hy => ?_, fun _ => rfl⟩
            exfalso; simp [yieldR, slotR, undef, *] at hy
          · refine ⟨fun hy => ?_, fun _ => rfl⟩
            exfalso; simp [yieldR, slotR, undef, *] at hy
          · refine ⟨fun hy => ?_, fun _ => rfl⟩
            exfalso; simp [yieldR, slotR, undef, *] at hy
          · refine ⟨fun hy => ?_, fun _ => rfl⟩
            exfalso; simp [yieldR, slotR, undef, *] at hy
          · refine ⟨fun hy => ?_, fun _ => rfl⟩
            exfalso; simp [yieldR, slotR, undef, *] at hy
          · refine ⟨fun hy => ?_, fun _ => rfl⟩
            exfalso; simp [yieldR, slotR, undef, *] at hy
          · refine ⟨fun hy => ?_, fun _ => rfl⟩
            exfalso; simp [yieldR, slotR, undef, *] at hy
          · refine ⟨fun hy => ?_, fun _ => rfl⟩
            exfalso; simp [yieldR, slotR, undef, *] at hy
          · refine ⟨fun hy => ?_, fun _ => rfl⟩
            exfalso; simp [yieldR, slotR, undef, *] at hy
          · refine ⟨fun hy => ?_, fun _ => rfl⟩
            exfalso; simp [yieldR, slotR, undef, *] at hy
          · refine ⟨fun hy => ?_, fun _ => rfl⟩
            exfalso; simp [yieldR, slotR, undef, *] at hy
          · refine ⟨fun hy => ?_, fun _ => rfl⟩
            exfalso; simp [yieldR, slotR, undef, *] at hy
          · refine ⟨fun hy => ?_, fun _ => rfl⟩
            exfalso; simp [yieldR, slotR, undef, *] at hy
        · intro vs x2 hp hw
          simp only [owed, Fx] at hw
          obtain ⟨e0, e1, e2, e3, e4, e5, e6, e7, e8, e9, e10, e11, e12, e13, e14, e15, e16, e17, e18, e19, e20, e21, e22, e23, e24, -⟩ := hw
          simp only [List.length_cons, List.length_nil, List.take_succ_cons, List.take_zero, List.drop_succ_cons, List.drop_zero, asg, List.cons_append, List.nil_append, e0, e1, e2, e3, e4, e5, e6, e7, e8, e9, e10, e11, e12, e13, e14, e15, e16, e17, e18, e19, e20, e21, e22, e23, e24]
          clear e0 e1 e2 e3 e4 e5 e6 e7 e8 e9 e10 e11 e12 e13 e14 e15 e16 e17 e18 e19 e20 e21 e22 e23 e24
          have h82 := h8.kept hp
          have h42 := h4r.kept hp
          have hO2 := hO.keep hp
          have hB2 := hBr.trans (hp.mono hBr.size)
          have hsz2 : N0 ≤ x2.heap.size := by have := hp.size; omega
          clear h8 h4r hO hBr hp cI
          have hfl : allW n l L = false := allW_false hok hlt
          obtain rfl : secZ = RS := by rw [← HRS.out, hfl]; rfl
          obtain rfl : (24 : Int) = RE := by rw [← HRE.out, hfl]; rfl
          have HR9 : Hid (ScR (x2.setRow g4 (secA secZ)) g4 secZ) := h42.rowsame9 secZ
          have HB9 : Hid _ := below_row hB2 hl4 (secA secZ)
          obtain ⟨r4, q4⟩ := h42
          clear h82 hO2 hB2
          go_wp2
          exact sec_bodyPost2 4 5 g4 secZ rfl rfl rfl HR9.out ⟨rfl, HB9.out⟩
      · have hat := tgt_le hbt
        by_cases hz : i = 0
        · have HZ : Hid (i = 0) := hz
          have hok : okW n l i = true := by unfold okW; rw [hbt, decide_eq_true hz]; rfl
          clear hbt hz
          refine wp_reliesT [Fx (.int .i64 (n)), Fx (.slice (some ⟨bl, of, none⟩) L c), Fx (.int .i64 ((i : Int))), Fx (.pointer (some ⟨bl, of + i * 65, none⟩)), Fx (.pointer (some ⟨bl, of + i * 65, none⟩)), Fx (.int .i64 (atW l i)), Fx (.bool true), Fx (.bool false), Fx (.bool false), Fx (.int .i64 ((i : Int))), Fx (.bool false), Fx (.bool false), Fx (undef), Fx (undef), Fx (undef), Fx (undef), Fx (undef), Fx (undef), Fx (undef), Fx (undef), Fx (undef), Fx (undef), Fx (undef), Fx (undef), Fx (.bool false)] (by kernel_rfl) (by kernel_rfl) ?_ ?_ ?_
          · repeat' (first | exact all_nil | apply all_cons)
            all_goals intro v y y' hv hb
            all_goals first | exact Fx_mono _ _ _ _ hv hb
          · refine ⟨?_, ?_, ?_, ?_, ?_, ?_, ?_, ?_, ?_, ?_, ?_, ?_, ?_, ?_, ?_, ?_, ?_, ?_, ?_, ?_, ?_, ?_, ?_, ?_, ?_, trivial⟩
            all_goals
              intro ρ x hp ρc ρg ρf ho hd
              have o0 : ρ (.tmp 0) = .slice (some ⟨bl, of, none⟩) L c := ho 0 rfl
              have o1 : ρ (.tmp 1) = .int .i64 (n) := ho 1 rfl
              have o10 : ρ (.tmp 10) = .int .i64 ((i : Int)) := ho 10 rfl
              clear ho
              have kc := cell_later hp cI
              simp only [depsR, depR, slotR, Fx, List.getElem?_cons_succ, List.getElem?_cons_zero, Region.binds, forall_const] at hd
              simp only [guardR]
              go_split_ands
            · go_simp
            · go_simp
            · go_simp
            · have hq := FK.out
              go_simp
            · go_simp
            · go_simp
            · go_simp
              refine (rtarget_any n (atW l i) x Ha.out.1 Ha.out.2).mono ?_
              rintro e w' ⟨rfl, rfl⟩
              exact ⟨_, rfl, by show Value.bool _ = _; rw [HT.out], Below.refl _ _⟩
            · go_simp
            · go_simp
            · refine ⟨fun _ => ?_, fun hy => absurd (by simp [yieldR, slotR, *]) hy⟩
              go_simp
            · refine ⟨fun _ => ?_, fun hy => absurd (by simp [yieldR, slotR, *]) hy⟩
              have hz := HZ.out
              go_simp
            · refine ⟨fun _ => ?_, fun hy => absurd (by simp [yieldR, slotR, *]) hy⟩
              go_simp
            · refine ⟨fun hy => ?_, fun _ => rfl⟩
              exfalso; simp [yieldR, slotR, undef, *] at hy
            · refine ⟨fun hy => ?_, fun _ => rfl⟩
              exfalso; simp [yieldR, slotR, undef, *] at hy
            · refine ⟨fun hy => ?_, fun _ => rfl⟩
              exfalso; simp [yieldR, slotR, undef, *] at hy
            · refine ⟨fun hy => ?_, fun _ => rfl⟩
              exfalso; simp [yieldR, slotR, undef, *] at hy
            · refine ⟨fun hy => ?_, fun _ => rfl⟩
              exfalso; simp [yieldR, slotR, undef, *] at hy
            · refine ⟨fun hy => ?_, fun _ => rfl⟩
              exfalso; simp [yieldR, slotR, undef, *] at hy
            · refine ⟨fun hy => ?_, fun _ => rfl⟩
              exfalso; simp [yieldR, slotR, undef, *] at hy
            · refine ⟨fun hy => ?_, fun _ => rfl⟩
              exfalso; simp [yieldR, slotR, undef, *] at hy
            · refine ⟨fun hy => ?_, fun _ => rfl⟩
              exfalso; simp [yieldR, slotR, undef, *] at hy
            · refine ⟨fun hy => ?_, fun _ => rfl⟩
              exfalso; simp [yieldR, slotR, undef, *] at hy
            · refine ⟨fun hy => ?_, fun _ => rfl⟩
              exfalso; simp [yieldR, slotR, undef, *] at hy
            · refine ⟨fun hy => ?_, fun _ => rfl⟩
              exfalso; simp [yieldR, slotR, undef, *] at hy
            · refine ⟨fun _ => ?_, fun hy => absurd (by simp [yieldR, slotR, *]) hy⟩
              go_simp
          · intro vs x2 hp hw
            simp only [owed, Fx] at hw
            obtain ⟨e0, e1, e2, e3, e4, e5, e6, e7, e8, e9, e10, e11, e12, e13, e14, e15, e16, e17, e18, e19, e20, e21, e22, e23, e24, -⟩ := hw
            simp only [List.length_cons, List.length_nil, List.take_succ_cons, List.take_zero, List.drop_succ_cons, List.drop_zero, asg, List.cons_append, List.nil_append, e0, e1, e2, e3, e4, e5, e6, e7, e8, e9, e10, e11, e12, e13, e14, e15, e16, e17, e18, e19, e20, e21, e22, e23, e24]
            clear e0 e1 e2 e3 e4 e5 e6 e7 e8 e9 e10 e11 e12 e13 e14 e15 e16 e17 e18 e19 e20 e21 e22 e23 e24
            have h82 := h8.kept hp
            have h42 := h4r.kept hp
            have hO2 := hO.keep hp
            have hB2 := hBr.trans (hp.mono hBr.size)
            have hsz2 : N0 ≤ x2.heap.size := by have := hp.size; omega
            clear h8 h4r hO hBr hp cI
            obtain ⟨b1, hb1⟩ : ∃ b, UInt8.ofNat ((atW l i).toNat % 256) = b := ⟨_, rfl⟩
            obtain ⟨b2, hb2⟩ : ∃ b, UInt8.ofNat ((atW l i).toNat / 256) = b := ⟨_, rfl⟩
            have q1 : (atW l i).tmod 256 = (b1.toNat : Int) := by rw [← hb1]; simp [Int.tmod_eq_emod_of_nonneg hat.1]; omega
            have q2 : (atW l i).tdiv 256 = (b2.toNat : Int) := by rw [← hb2]; simp [Int.tdiv_eq_ediv_of_nonneg hat.1]; omega
            have y1 := b1.toNat_lt
            have y2 := b2.toNat_lt
            have z1 : IntKind.i64.wrap (b1.toNat : Int) = (b1.toNat : Int) := by rw [IntKind.wrap_i64]; omega
            have z2 : IntKind.i64.wrap (b2.toNat : Int) = (b2.toNat : Int) := by rw [IntKind.wrap_i64]; omega
            have z3 : IntKind.u8.wrap (b1.toNat : Int) = (b1.toNat : Int) := by rw [IntKind.wrap_u8]; omega
            have z4 : IntKind.u8.wrap (b2.toNat : Int) = (b2.toNat : Int) := by rw [IntKind.wrap_u8]; omega
            have m1 : IntKind.i64.wrap (2 * (i : Int)) = ((2 * i : Nat) : Int) := by rw [IntKind.wrap_i64]; omega
            have m2 : IntKind.i64.wrap (4 + ((2 * i : Nat) : Int)) = ((4 + 2 * i : Nat) : Int) := by rw [IntKind.wrap_i64]; omega
            have m3 : IntKind.i64.wrap (5 + ((2 * i : Nat) : Int)) = ((5 + 2 * i : Nat) : Int) := by rw [IntKind.wrap_i64]; omega
            obtain ⟨j0, hj0⟩ : ∃ j, 2 * i = j := ⟨_, rfl⟩
            obtain ⟨j1, hj1⟩ : ∃ j, 4 + 2 * i = j := ⟨_, rfl⟩
            obtain ⟨j2, hj2⟩ : ∃ j, 5 + 2 * i = j := ⟨_, rfl⟩
            rw [hj0] at m1 m2 m3
            have m2' : IntKind.i64.wrap (4 + (j0 : Int)) = (j1 : Int) := by rw [m2]; omega
            have m3' : IntKind.i64.wrap (5 + (j0 : Int)) = (j2 : Int) := by rw [m3]; omega
            have j1l : (j1 : Int) < 64 := by omega
            have j2l : (j2 : Int) < 64 := by omega
            have j1p : (0 : Int) ≤ (j1 : Int) := by omega
            have j2p : (0 : Int) ≤ (j2 : Int) := by omega
            clear m2 m3
            have c8 := h82.cell j1 (by omega)
            have f8 := h82.frozen j1
            have s8 := h82.set j1 b1 (by omega)
            have s8c := s8.cell j2 (by omega)
            have s8f := s8.frozen j2
            have t8 := s8.set j2 b2 (by omega)
            have s4 := (h42.set_ne j1 (.int .u8 (b1.toNat : Int)) hne48).set_ne j2 (.int .u8 (b2.toNat : Int)) hne48
            have hBs : Below w.heap.size w (x2.setCell ⟨g8, j1, none⟩ (.int .u8 (b1.toNat : Int))) := hB2.setCell (p := ⟨g8, j1, none⟩) hg8w _
            have hBt : Below w.heap.size w ((x2.setCell ⟨g8, j1, none⟩ (.int .u8 (b1.toNat : Int))).setCell ⟨g8, j2, none⟩ (.int .u8 (b2.toNat : Int))) := hBs.setCell (p := ⟨g8, j2, none⟩) hg8w _
            have cI3 := (hcell i hlt _ hB2).1
            have cI4 := (hcell i hlt _ hBs).1
            have oT := (OwnB.set9 hO2 hg8N j1 (.int .u8 (b1.toNat : Int))).set9 hg8N j2 (.int .u8 (b2.toNat : Int))
            have hszT : N0 ≤ ((x2.setCell ⟨g8, j1, none⟩ (.int .u8 (b1.toNat : Int))).setCell ⟨g8, j2, none⟩ (.int .u8 (b2.toNat : Int))).heap.size := by simp [World.setCell]; omega
            have hstep : upd (upd (mTg l i) j1 b1) j2 b2 = mTg l (i + 1) := by rw [mTg, hb1, hb2, show 4 + 2 * i = j1 by omega, show 5 + 2 * i = j2 by omega]
            rw [hstep] at t8
            have HT8 : Hid _ := t8
            have HS4 : Hid _ := s4
            have HOT : Hid _ := oT
            have HBt : Hid _ := hBt
            have HAL : Hid (allW n l (i + 1) = true) := by show _ = _; rw [allW, hal, hok]; rfl
            have hFK := FK.out
            clear t8 s4 oT hBt h82 h42 hO2 hB2 hBs hstep s8 hal hok hb1 hb2
            go_upto_region 15 with fail
            generalize (x2.setCell ⟨g8, j1, none⟩ (.int .u8 (b1.toNat : Int))).setCell ⟨g8, j2, none⟩ (.int .u8 (b2.toNat : Int)) = V at HT8 HS4 HOT HBt hszT ⊢
            clear c8 f8 s8c s8f cI3 cI4 q1 q2 z1 z2 z3 z4 m1 m2' m3'
            go_wp2_with fail
            go_loopw [9, 11] (fun bw kv wq => ∃ k : Nat, k ≤ 64 ∧ kv = .int .i64 k ∧ OwnB wq N0 bw (allU8 l i ++ (kS (dtW l i)).take k) ∧ ScR wq g8 (mTg l (i + 1)) ∧ ScR wq g4 secZ ∧ Below w.heap.size w wq ∧ N0 ≤ wq.heap.size) (fun _ kv _ => 64 - (intOf kv).toNat)
            case atStart => exact ⟨0, by omega, rfl, by rw [List.take_zero, List.append_nil]; exact HOT.out, HT8.out, HS4.out, HBt.out, hszT⟩
            case round =>
              clear HOT HT8 HS4 HBt hszT
              obtain ⟨k, hk, rfl, hO3, h83, h43, hB3, hsz3⟩ := hrel
              by_cases hk64 : k < 64
              · have cd := (hcell i hlt _ hB3).2 k hk64
                obtain ⟨d, hd⟩ : ∃ d, dtW l i k = d := ⟨_, rfl⟩
                rw [hd] at cd
                have hk0 : (0 : Int) ≤ (k : Int) := by omega
                have hk1 : (k : Int) < 64 := by omega
                have hln : (allU8 l i ++ (kS (dtW l i)).take k).length ≤ 1000000 := by rw [List.length_append, allU8_len, List.length_take]; simp [kS]; omega
                obtain ⟨v', w', hr, hO', hB', hs'⟩ := run_app1 (wr.alloc (.cells #[Value.int .u8 (d.toNat : Int)] 5)) N0 wr.heap.size 1 _ _ d 22 (hO3.keep (below_alloc _ _)) (cell_of_row _ _ 0 _ _ _ (heap_alloc_last _ _)) (by omega) (by simp; omega)
                have HO : Hid (OwnB w' N0 v' (allU8 l i ++ (kS (dtW l i)).take (k + 1))) := by
                  show OwnB _ _ _ _
                  have e9 : (kS (dtW l i)).take (k + 1) = (kS (dtW l i)).take k ++ [d] := by rw [List.take_add_one, kS_get _ _ hk64, hd]; rfl
                  rw [e9, ← List.append_assoc]; exact hO'
                have hA3 := below_alloc wr (.cells #[Value.int .u8 (d.toNat : Int)] 5)
                have H8 : Hid _ := (h83.kept hA3).below9 hB' hg8N
                have H4 : Hid _ := (h43.kept hA3).below9 hB' hg4N
                have HB : Hid (Below w.heap.size w w') := (hB3.alloc hB3.size _).trans (hB'.mono hN0w)
                have HSZ : Hid (N0 ≤ w'.heap.size) := by show _ ≤ _; simp at hs'; omega
                clear hO3 h83 h43 hB3 hO' hB' hA3 hd
                go_wp2_with (at_builtin; refine wpL_app rfl _ _ rfl v' w' (by exact hr) ?_)
                go_roundw
                case rel => exact ⟨k + 1, by omega, by go_num, HO.out, H8.out, H4.out, HB.out, HSZ.out⟩
                case measure => simp [intOf]; omega
              · obtain rfl : k = 64 := by omega
                have e64 : (kS (dtW l i)).take 64 = kS (dtW l i) := List.take_of_length_le (by simp [kS])
                rw [e64] at hO3
                have hO4 := hO3
                rw [← allU8] at hO4
                have HO : Hid _ := hO4
                clear hO4 e64 hj0 hj1 hj2 j1l j2l j1p j2p y1 y2
                have H8 : Hid _ := h83
                have H4 : Hid _ := h43
                have HB : Hid _ := hB3
                clear hO3 h83 h43 hB3
                go_wp2_with fail
                go_roundw
                case rel => exact ⟨i + 1, by omega, by go_num, HAL.out, HO.out, H8.out, H4.out, HB.out, hsz3⟩
                case measure => simp [intOf]; omega
        · have HZ : Hid (0 < i) := Nat.pos_of_ne_zero hz
          have hz0 : 0 < i := Nat.pos_of_ne_zero hz
          obtain ⟨bl9, hbl9⟩ : ∃ b, decide (atW l i ≤ atW l (i - 1)) = b := ⟨_, rfl⟩
          have HB9 : Hid (decide (atW l i ≤ atW l (i - 1)) = bl9) := hbl9
          have HW : Hid (IntKind.i64.wrap ((i : Int) - 1) = ((i - 1 : Nat) : Int)) := by show _ = _; rw [IntKind.wrap_i64]; omega
          have FJ : Hid (((i - 1 : Nat) : Int) < (L : Int)) := by show _ < _; omega
          have cJ : Hid _ := (hcell (i - 1) (by omega) _ hBr).1
          clear hz hz0
          refine wp_reliesT [Fx (.int .i64 (n)), Fx (.slice (some ⟨bl, of, none⟩) L c), Fx (.int .i64 ((i : Int))), Fx (.pointer (some ⟨bl, of + i * 65, none⟩)), Fx (.pointer (some ⟨bl, of + i * 65, none⟩)), Fx (.int .i64 (atW l i)), Fx (.bool true), Fx (.bool false), Fx (.bool false), Fx (.int .i64 ((i : Int))), Fx (.bool true), Fx (.bool true), Fx (.slice (some ⟨bl, of, none⟩) L c), Fx (.int .i64 ((i : Int))), Fx (.pointer (some ⟨bl, of + i * 65, none⟩)), Fx (.pointer (some ⟨bl, of + i * 65, none⟩)), Fx (.int .i64 (atW l i)), Fx (.slice (some ⟨bl, of, none⟩) L c), Fx (.int .i64 ((i : Int))), Fx (.int .i64 (((i - 1 : Nat) : Int))), Fx (.pointer (some ⟨bl, of + (i - 1) * 65, none⟩)), Fx (.pointer (some ⟨bl, of + (i - 1) * 65, none⟩)), Fx (.int .i64 (atW l (i - 1))), Fx (.bool bl9), Fx (.bool bl9)] (by kernel_rfl) (by kernel_rfl) ?_ ?_ ?_
          · repeat' (first | exact all_nil | apply all_cons)
            all_goals intro v y y' hv hb
            all_goals first | exact Fx_mono _ _ _ _ hv hb
          · refine ⟨?_, ?_, ?_, ?_, ?_, ?_, ?_, ?_, ?_, ?_, ?_, ?_, ?_, ?_, ?_, ?_, ?_, ?_, ?_, ?_, ?_, ?_, ?_, ?_, ?_, trivial⟩
            all_goals
              intro ρ x hp ρc ρg ρf ho hd
              have o0 : ρ (.tmp 0) = .slice (some ⟨bl, of, none⟩) L c := ho 0 rfl
              have o1 : ρ (.tmp 1) = .int .i64 (n) := ho 1 rfl
              have o10 : ρ (.tmp 10) = .int .i64 ((i : Int)) := ho 10 rfl
              clear ho
              have kc := cell_later hp cI
              simp only [depsR, depR, slotR, Fx, List.getElem?_cons_succ, List.getElem?_cons_zero, Region.binds, forall_const] at hd
              simp only [guardR]
              go_split_ands
            · go_simp
            · go_simp
            · go_simp
            · have hq := FK.out
              go_simp
            · go_simp
            · go_simp
            · go_simp
              refine (rtarget_any n (atW l i) x Ha.out.1 Ha.out.2).mono ?_
              rintro e w' ⟨rfl, rfl⟩
              exact ⟨_, rfl, by show Value.bool _ = _; rw [HT.out], Below.refl _ _⟩
            · go_simp
            · go_simp
            · refine ⟨fun _ => ?_, fun hy => absurd (by simp [yieldR, slotR, *]) hy⟩
              go_simp
            · refine ⟨fun _ => ?_, fun hy => absurd (by simp [yieldR, slotR, *]) hy⟩
              have hz := HZ.out
              go_simp
            · refine ⟨fun _ => ?_, fun hy => absurd (by simp [yieldR, slotR, *]) hy⟩
              go_simp
            · refine ⟨fun _ => ?_, fun hy => absurd (by simp [yieldR, slotR, *]) hy⟩
              go_simp
            · refine ⟨fun _ => ?_, fun hy => absurd (by simp [yieldR, slotR, *]) hy⟩
              go_simp
            · refine ⟨fun _ => ?_, fun hy => absurd (by simp [yieldR, slotR, *]) hy⟩
              have hq := FK.out
              go_simp
            · refine ⟨fun _ => ?_, fun hy => absurd (by simp [yieldR, slotR, *]) hy⟩
              go_simp
            · refine ⟨fun _ => ?_, fun hy => absurd (by simp [yieldR, slotR, *]) hy⟩
              go_simp
            · refine ⟨fun _ => ?_, fun hy => absurd (by simp [yieldR, slotR, *]) hy⟩
              go_simp
            · refine ⟨fun _ => ?_, fun hy => absurd (by simp [yieldR, slotR, *]) hy⟩
              go_simp
            · refine ⟨fun _ => ?_, fun hy => absurd (by simp [yieldR, slotR, *]) hy⟩
              have hw := HW.out
              go_simp
            · refine ⟨fun _ => ?_, fun hy => absurd (by simp [yieldR, slotR, *]) hy⟩
              have hq := FJ.out
              go_simp
            · refine ⟨fun _ => ?_, fun hy => absurd (by simp [yieldR, slotR, *]) hy⟩
              go_simp
            · refine ⟨fun _ => ?_, fun hy => absurd (by simp [yieldR, slotR, *]) hy⟩
              have kd := cell_later hp cJ.out
              go_simp
            · refine ⟨fun _ => ?_, fun hy => absurd (by simp [yieldR, slotR, *]) hy⟩
              have hb := HB9.out
              go_simp
            · refine ⟨fun _ => ?_, fun hy => absurd (by simp [yieldR, slotR, *]) hy⟩
              go_simp
          · intro vs x2 hp hw
            simp only [owed, Fx] at hw
            obtain ⟨e0, e1, e2, e3, e4, e5, e6, e7, e8, e9, e10, e11, e12, e13, e14, e15, e16, e17, e18, e19, e20, e21, e22, e23, e24, -⟩ := hw
            simp only [List.length_cons, List.length_nil, List.take_succ_cons, List.take_zero, List.drop_succ_cons, List.drop_zero, asg, List.cons_append, List.nil_append, e0, e1, e2, e3, e4, e5, e6, e7, e8, e9, e10, e11, e12, e13, e14, e15, e16, e17, e18, e19, e20, e21, e22, e23, e24]
            clear e0 e1 e2 e3 e4 e5 e6 e7 e8 e9 e10 e11 e12 e13 e14 e15 e16 e17 e18 e19 e20 e21 e22 e23 e24
            have h82 := h8.kept hp
            have h42 := h4r.kept hp
            have hO2 := hO.keep hp
            have hB2 := hBr.trans (hp.mono hBr.size)
            have hsz2 : N0 ≤ x2.heap.size := by have := hp.size; omega
            clear h8 h4r hO hBr hp cI
            cases bl9
            · have hok : okW n l i = true := by
                unfold okW
                rw [hbt, decide_eq_false (show ¬ i = 0 from by have := HZ.out; omega)]
                rw [decide_eq_false_iff_not] at hbl9
                rw [decide_eq_true (by omega)]; rfl
              clear hbt hbl9
              obtain ⟨b1, hb1⟩ : ∃ b, UInt8.ofNat ((atW l i).toNat % 256) = b := ⟨_, rfl⟩
              obtain ⟨b2, hb2⟩ : ∃ b, UInt8.ofNat ((atW l i).toNat / 256) = b := ⟨_, rfl⟩
              have q1 : (atW l i).tmod 256 = (b1.toNat : Int) := by rw [← hb1]; simp [Int.tmod_eq_emod_of_nonneg hat.1]; omega
              have q2 : (atW l i).tdiv 256 = (b2.toNat : Int) := by rw [← hb2]; simp [Int.tdiv_eq_ediv_of_nonneg hat.1]; omega
              have y1 := b1.toNat_lt
              have y2 := b2.toNat_lt
              have z1 : IntKind.i64.wrap (b1.toNat : Int) = (b1.toNat : Int) := by rw [IntKind.wrap_i64]; omega
              have z2 : IntKind.i64.wrap (b2.toNat : Int) = (b2.toNat : Int) := by rw [IntKind.wrap_i64]; omega
              have z3 : IntKind.u8.wrap (b1.toNat : Int) = (b1.toNat : Int) := by rw [IntKind.wrap_u8]; omega
              have z4 : IntKind.u8.wrap (b2.toNat : Int) = (b2.toNat : Int) := by rw [IntKind.wrap_u8]; omega
              have m1 : IntKind.i64.wrap (2 * (i : Int)) = ((2 * i : Nat) : Int) := by rw [IntKind.wrap_i64]; omega
              have m2 : IntKind.i64.wrap (4 + ((2 * i : Nat) : Int)) = ((4 + 2 * i : Nat) : Int) := by rw [IntKind.wrap_i64]; omega
              have m3 : IntKind.i64.wrap (5 + ((2 * i : Nat) : Int)) = ((5 + 2 * i : Nat) : Int) := by rw [IntKind.wrap_i64]; omega
              obtain ⟨j0, hj0⟩ : ∃ j, 2 * i = j := ⟨_, rfl⟩
              obtain ⟨j1, hj1⟩ : ∃ j, 4 + 2 * i = j := ⟨_, rfl⟩
              obtain ⟨j2, hj2⟩ : ∃ j, 5 + 2 * i = j := ⟨_, rfl⟩
              rw [hj0] at m1 m2 m3
              have m2' : IntKind.i64.wrap (4 + (j0 : Int)) = (j1 : Int) := by rw [m2]; omega
              have m3' : IntKind.i64.wrap (5 + (j0 : Int)) = (j2 : Int) := by rw [m3]; omega
              have j1l : (j1 : Int) < 64 := by omega
              have j2l : (j2 : Int) < 64 := by omega
              have j1p : (0 : Int) ≤ (j1 : Int) := by omega
              have j2p : (0 : Int) ≤ (j2 : Int) := by omega
              clear m2 m3
              have c8 := h82.cell j1 (by omega)
              have f8 := h82.frozen j1
              have s8 := h82.set j1 b1 (by omega)
              have s8c := s8.cell j2 (by omega)
              have s8f := s8.frozen j2
              have t8 := s8.set j2 b2 (by omega)
              have s4 := (h42.set_ne j1 (.int .u8 (b1.toNat : Int)) hne48).set_ne j2 (.int .u8 (b2.toNat : Int)) hne48
              have hBs : Below w.heap.size w (x2.setCell ⟨g8, j1, none⟩ (.int .u8 (b1.toNat : Int))) := hB2.setCell (p := ⟨g8, j1, none⟩) hg8w _
              have hBt : Below w.heap.size w ((x2.setCell ⟨g8, j1, none⟩ (.int .u8 (b1.toNat : Int))).setCell ⟨g8, j2, none⟩ (.int .u8 (b2.toNat : Int))) := hBs.setCell (p := ⟨g8, j2, none⟩) hg8w _
              have cI3 := (hcell i hlt _ hB2).1
              have cI4 := (hcell i hlt _ hBs).1
              have oT := (OwnB.set9 hO2 hg8N j1 (.int .u8 (b1.toNat : Int))).set9 hg8N j2 (.int .u8 (b2.toNat : Int))
              have hszT : N0 ≤ ((x2.setCell ⟨g8, j1, none⟩ (.int .u8 (b1.toNat : Int))).setCell ⟨g8, j2, none⟩ (.int .u8 (b2.toNat : Int))).heap.size := by simp [World.setCell]; omega
              have hstep : upd (upd (mTg l i) j1 b1) j2 b2 = mTg l (i + 1) := by rw [mTg, hb1, hb2, show 4 + 2 * i = j1 by omega, show 5 + 2 * i = j2 by omega]
              rw [hstep] at t8
              have HT8 : Hid _ := t8
              have HS4 : Hid _ := s4
              have HOT : Hid _ := oT
              have HBt : Hid _ := hBt
              have HAL : Hid (allW n l (i + 1) = true) := by show _ = _; rw [allW, hal, hok]; rfl
              have hFK := FK.out
              clear t8 s4 oT hBt h82 h42 hO2 hB2 hBs hstep s8 hal hok hb1 hb2
              go_upto_region 15 with fail
              generalize (x2.setCell ⟨g8, j1, none⟩ (.int .u8 (b1.toNat : Int))).setCell ⟨g8, j2, none⟩ (.int .u8 (b2.toNat : Int)) = V at HT8 HS4 HOT HBt hszT ⊢
              clear c8 f8 s8c s8f cI3 cI4 q1 q2 z1 z2 z3 z4 m1 m2' m3'
              go_wp2_with fail
              go_loopw [9, 11] (fun bw kv wq => ∃ k : Nat, k ≤ 64 ∧ kv = .int .i64 k ∧ OwnB wq N0 bw (allU8 l i ++ (kS (dtW l i)).take k) ∧ ScR wq g8 (mTg l (i + 1)) ∧ ScR wq g4 secZ ∧ Below w.heap.size w wq ∧ N0 ≤ wq.heap.size) (fun _ kv _ => 64 - (intOf kv).toNat)
              case atStart => exact ⟨0, by omega, rfl, by rw [List.take_zero, List.append_nil]; exact HOT.out, HT8.out, HS4.out, HBt.out, hszT⟩
              case round =>
                clear HOT HT8 HS4 HBt hszT
                obtain ⟨k, hk, rfl, hO3, h83, h43, hB3, hsz3⟩ := hrel
                by_cases hk64 : k < 64
                · have cd := (hcell i hlt _ hB3).2 k hk64
                  obtain ⟨d, hd⟩ : ∃ d, dtW l i k = d := ⟨_, rfl⟩
                  rw [hd] at cd
                  have hk0 : (0 : Int) ≤ (k : Int) := by omega
                  have hk1 : (k : Int) < 64 := by omega
                  have hln : (allU8 l i ++ (kS (dtW l i)).take k).length ≤ 1000000 := by rw [List.length_append, allU8_len, List.length_take]; simp [kS]; omega
                  obtain ⟨v', w', hr, hO', hB', hs'⟩ := run_app1 (wr.alloc (.cells #[Value.int .u8 (d.toNat : Int)] 5)) N0 wr.heap.size 1 _ _ d 22 (hO3.keep (below_alloc _ _)) (cell_of_row _ _ 0 _ _ _ (heap_alloc_last _ _)) (by omega) (by simp; omega)
                  have HO : Hid (OwnB w' N0 v' (allU8 l i ++ (kS (dtW l i)).take (k + 1))) := by
                    show OwnB _ _ _ _
                    have e9 : (kS (dtW l i)).take (k + 1) = (kS (dtW l i)).take k ++ [d] := by rw [List.take_add_one, kS_get _ _ hk64, hd]; rfl
                    rw [e9, ← List.append_assoc]; exact hO'
                  have hA3 := below_alloc wr (.cells #[Value.int .u8 (d.toNat : Int)] 5)
                  have H8 : Hid _ := (h83.kept hA3).below9 hB' hg8N
                  have H4 : Hid _ := (h43.kept hA3).below9 hB' hg4N
                  have HB : Hid (Below w.heap.size w w') := (hB3.alloc hB3.size _).trans (hB'.mono hN0w)
                  have HSZ : Hid (N0 ≤ w'.heap.size) := by show _ ≤ _; simp at hs'; omega
                  clear hO3 h83 h43 hB3 hO' hB' hA3 hd
                  go_wp2_with (at_builtin; refine wpL_app rfl _ _ rfl v' w' (by exact hr) ?_)
                  go_roundw
                  case rel => exact ⟨k + 1, by omega, by go_num, HO.out, H8.out, H4.out, HB.out, HSZ.out⟩
                  case measure => simp [intOf]; omega
                · obtain rfl : k = 64 := by omega
                  have e64 : (kS (dtW l i)).take 64 = kS (dtW l i) := List.take_of_length_le (by simp [kS])
                  rw [e64] at hO3
                  have hO4 := hO3
                  rw [← allU8] at hO4
                  have HO : Hid _ := hO4
                  clear hO4 e64 hj0 hj1 hj2 j1l j2l j1p j2p y1 y2
                  have H8 : Hid _ := h83
                  have H4 : Hid _ := h43
                  have HB : Hid _ := hB3
                  clear hO3 h83 h43 hB3
                  go_wp2_with fail
                  go_roundw
                  case rel => exact ⟨i + 1, by omega, by go_num, HAL.out, HO.out, H8.out, H4.out, HB.out, hsz3⟩
                  case measure => simp [intOf]; omega
            · have hok : okW n l i = false := by
                unfold okW
                rw [hbt, decide_eq_false (show ¬ i = 0 from by have := HZ.out; omega)]
                rw [decide_eq_true_eq] at hbl9
                rw [decide_eq_false (by omega)]; rfl
              clear hbt hbl9
              have hfl : allW n l L = false := allW_false hok hlt
              obtain rfl : secZ = RS := by rw [← HRS.out, hfl]; rfl
              obtain rfl : (24 : Int) = RE := by rw [← HRE.out, hfl]; rfl
              have HR9 : Hid (ScR (x2.setRow g4 (secA secZ)) g4 secZ) := h42.rowsame9 secZ
              have HB9 : Hid _ := below_row hB2 hl4 (secA secZ)
              obtain ⟨r4, q4⟩ := h42
              clear h82 hO2 hB2
              go_wp2
              exact sec_bodyPost2 4 5 g4 secZ rfl rfl rfl HR9.out ⟨rfl, HB9.out⟩
    · obtain rfl : L = i := by omega
      obtain rfl : marS l = RS := by rw [← HRS.out, hal]; rfl
      obtain rfl : (0 : Int) = RE := by rw [← HRE.out, hal]; rfl
      have hMB : putI (mTg l L) 20 (mSum l).toNat 4 = marB l := by rw [putI20]; unfold marB; rw [hL]
      have HMB : Hid _ := hMB
      have hSM : sumL (allU8 l L) = mSum l := by unfold mSum; rw [hL]
      have HSM : Hid _ := hSM
      have HLn : Hid ((allU8 l L).length ≤ maxLen) := by show _ ≤ _; rw [allU8_len]; unfold maxLen; omega
      clear hMB hSM hal
      go_upto_region 19 with fail
      refine wp_reliesT [Fx (.agg (secA (mTg l L))), Fx (u9), Fx (.int .u32 (((mSum l).toNat : Nat) : Int)), Fx (.agg (secA (marB l)))] (by kernel_rfl) (by kernel_rfl) ?_ ?_ ?_
      · repeat' (first | exact all_nil | apply all_cons)
        all_goals intro v y y' hv hb
        all_goals first | exact Fx_mono _ _ _ _ hv hb
      · refine ⟨?_, ?_, ?_, ?_, trivial⟩
        all_goals
          intro ρ x hp ρc ρg ρf ho hd
          have o8 : ρ (.tmp 8) = .pointer (some ⟨g8, 0, none⟩) := ho 8 rfl
          have o9 : ρ (.tmp 9) = u9 := ho 9 rfl
          clear ho
          have qs := h8.kept hp
          have rok := qs.1
          have rat := qs.2
          simp only [depsR, depR, slotR, Fx, List.getElem?_cons_succ, List.getElem?_cons_zero, Region.binds, forall_const] at hd
          simp only [guardR]
          go_split_ands
        · go_simp
        · go_simp
        · go_simp
          refine (refCrc_any u9 (allU8 l L) x HLn.out (hO.keep hp).isB).mono ?_
          rintro e w' ⟨rfl, rfl⟩
          exact ⟨_, rfl, by show Value.int .u32 _ = _; rw [HSM.out], Below.refl _ _⟩
        · have hlt9 := (mSum l).isLt
          go_simp
          refine (rputU32_any (mTg l L) 20 ((mSum l).toNat : Nat) x (by omega) (by omega) (by omega) (by omega)).mono ?_
          rintro e w' ⟨rfl, hw⟩
          exact ⟨_, rfl, by show Value.agg _ = _; rw [Int.toNat_natCast, HMB.out], hw⟩
      · intro vs x2 hp hw
        simp only [owed, Fx] at hw
        obtain ⟨e0, e1, e2, e3, -⟩ := hw
        simp only [List.length_cons, List.length_nil, List.take_succ_cons, List.take_zero, List.drop_succ_cons, List.drop_zero, asg, List.cons_append, List.nil_append, e0, e1, e2, e3]
        clear e0 e1 e2 e3
        have h82 := h8.kept hp
        have h42 := h4r.kept hp
        have hB2 := hBr.trans (hp.mono hBr.size)
        have h83 := h82.rowsame9 (marB l)
        have h43 := h42.rowne9 (secA (marB l)) (Ne.symm hne48)
        have hB3 := below_row hB2 hg8w (secA (marB l))
        obtain ⟨r8, q8⟩ := h82
        clear h8 h4r hO hBr hp
        go_upto_region 20 with fail
        generalize x2.setRow g8 (secA (marB l)) = V at h83 h43 hB3 ⊢
        clear r8 q8 h42 hB2
        obtain ⟨r8, q8⟩ := h83
        have hse := refSealed1_any (marB l) V
        go_wp2_with fail
        go_at_call 35
        refine hse.mono ?_
        rintro e w5 ⟨rfl, hb5⟩
        have h45 := h43.kept hb5
        have hB5 := hB3.trans (hb5.mono hB3.size)
        have HR9 : Hid (ScR (w5.setRow g4 (secA (sealS (marB l)))) g4 (sealS (marB l))) := h45.rowsame9 _
        have HB9 : Hid _ := below_row hB5 hl4 (secA (sealS (marB l)))
        obtain ⟨r4, q4⟩ := h45
        clear hse h43 hB3 hB5 hb5 r8 q8
        go_wp2
        exact sec_bodyPost2 4 5 g4 _ rfl rfl rfl HR9.out ⟨rfl, HB9.out⟩
theorem rPut9_any (l : List Wr) (x : Option Addr) (L c : Nat) (n : Int) (w : World) (hL : l.length = L) (h63 : L ≤ 4611686018427387904) (hl : IsK wrE w (.slice x L c) l) (hlB : WrB l) (h0 : -9223372036854775808 ≤ n) (h1 : n ≤ 9223372036854775807) :
    Calls Try.prog 16 #[.slice x L c, .int .i64 n] w fun r w' => r = .returned (.tuple #[.agg (secA (mPutS l n)), .int .i64 (mPutE l n)]) ∧ Below w.heap.size w w' := by
  by_cases h : 64 ≤ n ∧ n ≤ 1024
  · have hg : geoOk n = true := by unfold geoOk; simp [h]
    by_cases hl8 : 1 ≤ L ∧ L ≤ 8
    · have := rPut9_yes l x L c n w h hL hl8.1 hl8.2 hl hlB
      have hb : batB n l = allW n l L := by unfold batB lenB; rw [hL, decide_eq_true hl8, Bool.true_and]
      unfold mPutS mPutE
      rw [hg, hb]
      exact this
    · have := rPut9_len x L c n w h hl8 h63
      have hb : batB n l = false := by unfold batB lenB; rw [hL, decide_eq_false hl8, Bool.false_and]
      unfold mPutS mPutE
      rw [hg, hb]
      exact this
  · have hg : geoOk n = false := by
      unfold geoOk
      rw [Bool.and_eq_false_iff, decide_eq_false_iff_not, decide_eq_false_iff_not]
      omega
    unfold mPutS mPutE
    rw [hg]
    exact rPut9_size x L c n w h h0 h1
end Go.Proofs.Ytpckdkgbeemalaa
namespace Go.Proofs.Ytpckdkgbeemalaa
open Go.RowKit

/-! assaylaw09's helpers; what mark owes -/
def wrAlloc9 : Sem Next := do pure (.value (← Instr.alloc 54 true (.tuple #[])))
def wrL09 : Sem Next := do pure (.value (← Instr.buildSlice 23 0 #[]))
def secL09 : Sem Next := do pure (.value (← Instr.buildSlice 32 0 #[]))
def sec7B (x : Value) : Sem Next := do pure (.value (← Instr.build 44 #[(7, x)]))
section
variable (ρ : Operand → Value) (dst : Option Tmp) (ty ty' : TypeId) (pos : String) (after : Array Edge) (guard : Option (Nat × Bool))
@[go_sem ↓] theorem execOp_wrAlloc9 : execOp ρ { dst, op := .alloc 54, type := ty, pos, after, guard } = wrAlloc9 := rfl
@[go_sem ↓] theorem execOp_wrL09 : execOp ρ { dst, op := .buildSlice 23 0 #[], type := ty, pos, after, guard } = wrL09 := by simp [execOp, wrL09]
@[go_sem ↓] theorem execOp_secL09 : execOp ρ { dst, op := .buildSlice 32 0 #[], type := ty, pos, after, guard } = secL09 := by simp [execOp, secL09]
@[go_sem ↓] theorem execOp_sec7B (x : Operand) : execOp ρ { dst, op := .build 44 #[(7, x)], type := ty, pos, after, guard } = sec7B (ρ x) := by simp [execOp, sec7B]
end
theorem zero_wr9 (w : World) : (zeroValue 54).run Try.prog w = .ok (.agg (wrA wrZ)) w := by
  have h : (Try.prog.info? 54).map (fun i => (i.zero, i.size)) = some (some (.agg (wrA wrZ)), 65) := by kernel_rfl
  exact (zero_of_info h).1 w
@[go_sem] theorem run_wrAlloc9 (w : World) : wrAlloc9.run Try.prog w = .ok (.value (.pointer (some ⟨w.heap.size, 0, none⟩))) (w.alloc (.cells (wrA wrZ) 54)) := by
  simp only [wrAlloc9, Instr.alloc, Sem.run_bind, zero_wr9, Result.andThen_ok]
  rfl
@[go_sem] theorem run_wrStore9 (w : World) (n : Nat) (x : Wr) (h : n = w.heap.size) : (wrStore (.pointer (some ⟨n, 0, none⟩)) (.agg (wrA x))).run Try.prog (w.alloc (.cells (wrA wrZ) 54)) = .ok .skip (w.alloc (.cells (wrA x) 54)) := by
  simp only [wrStore, Instr.storeAt, Instr.sureAddr, Sem.run_bind, Sem.run_pure, Result.andThen_ok]
  rw [run_storeVar_row _ n 54 54 (wrA wrZ) (wrA x) (by rw [h]; exact heap_alloc_last w _) (by rw [size_wr, wrA_size]) (by rw [wrA_size, wrA_size]) (wrA_one x), setRow_new w n _ _ _ h]; rfl
@[go_sem] theorem run_wrL09 (w : World) : wrL09.run Try.prog w = .ok (.value (.slice (some ⟨w.heap.size, 0, none⟩) 0 0)) (w.alloc (.cells #[] 54)) := by
  have h := run_litK0 wrE_ok w
  simp only [wrE] at h
  simp only [wrL09, Sem.run_bind, h]
  rfl
@[go_sem] theorem run_secL09 (w : World) : secL09.run Try.prog w = .ok (.value (.slice (some ⟨w.heap.size, 0, none⟩) 0 0)) (w.alloc (.cells #[] 44)) := by
  have h := run_litK0 secE_ok w
  simp only [secE] at h
  simp only [secL09, Sem.run_bind, h]
  rfl
def sec7 : Sc := upd secZ 7 7
@[go_sem] theorem run_sec7B (w : World) : (sec7B (.int .u8 7)).run Try.prog w = .ok (.value (.agg (secA sec7))) w := by
  simp only [sec7B, Sem.run_bind]
  rw [run_build w 44 #[(7, .int .u8 7)] (secA sec7) (by kernel_rfl)]; rfl
/-- What is lent: a copy with a mark behind it. -/
theorem lentK {α : Type} {E : EK α} (O : E.Ok) (w : World) (x : Option Addr) (n c : Nat) (ds : List α) (d : α) (ty ty' : TypeId) (hn : ds.length = n) (h : IsK E w (.slice x n c) ds) (hl : (n + 1) * E.bytes ≤ 140737488355328) (h63 : n + 1 ≤ maxLen) :
    ∃ y c1 w1 g c2 w2, (Builtin.append_ #[E.S, E.S] ty #[.slice (some ⟨w.heap.size, 0, none⟩) 0 0, .slice x n c]).run Try.prog (w.alloc (.cells #[] E.T)) = .ok (.slice y n c1) w1 ∧ (Builtin.append_ #[E.S, E.S] ty' #[.slice y n c1, .slice (some ⟨w1.heap.size, 0, none⟩) 1 1]).run Try.prog (w1.alloc (.cells (E.enc d).toArray E.T)) = .ok (.slice (some ⟨g, 0, none⟩) (n + 1) c2) w2 ∧ OwnK E w2 w.heap.size (.slice (some ⟨g, 0, none⟩) (n + 1) c2) (ds ++ [d]) ∧ Below w.heap.size w w2 := by
  have hb := below_alloc w (.cells #[] E.T)
  have hO := OwnK.lit0 E w
  have hI := h.kept hb
  subst hn
  obtain ⟨y, c1, w1, hr, hO1, hB1⟩ := run_copyK O (w.alloc (.cells #[] E.T)) _ x c ds w.heap.size ty hO (by simp) hI (by rw [Nat.add_mul] at hl; omega) (by omega)
  have hA := below_alloc w1 (.cells (E.enc d).toArray E.T)
  have hnew : (w1.alloc (.cells (E.enc d).toArray E.T)).rangeAt w1.heap.size 0 (E.enc d) := fun j u hu => by
    rw [Nat.zero_add, cell_of_row _ _ j _ _ _ (heap_alloc_last w1 _)]
    simpa using hu
  have hs1 : w.heap.size ≤ w1.heap.size := (hb.trans hB1).size
  obtain ⟨g, c2, w2, hr2, o1, -, o3, -⟩ := run_app1K O (w1.alloc (.cells (E.enc d).toArray E.T)) w.heap.size w1.heap.size (.slice y ds.length c1) ds d ty' (hO1.keep hA) hnew (by simp) hl h63 (by simp; omega)
  have hB2 : Below w.heap.size w1 w2 := (hA.mono hs1).trans ((hO1.keep hA).below o3 (by simp; omega))
  exact ⟨y, c1, w1, g, c2, w2, hr, hr2, o1, (hb.trans hB1).trans hB2⟩
/-! Bits turned -/
def buA9 (n a : Int) (m : Nat) : Array Value := #[.int .i64 n, .int .i64 a, .int .u32 (m : Int)]
def PB9 (a : Int) (m : Nat) (i : Nat) : Bool := m.testBit i && decide (0 ≤ a ∧ a < 512 - (i : Int))
theorem and_bit9 (pat i : Nat) (h : pat < 4294967296) : bits .and .u32 ((pat : Int) / (2 : Int) ^ i) 1 = bif pat.testBit i then 1 else 0 := by
  have e1 : (pat : Int) / (2 : Int) ^ i = ((pat / 2 ^ i : Nat) : Int) := by simp
  have h2 : pat / 2 ^ i < 4294967296 := Nat.lt_of_le_of_lt (Nat.div_le_self _ _) h
  have e := u32_and_nat (pat / 2 ^ i) 1 h2 (by omega)
  rw [show ((1 : Nat) : Int) = 1 from rfl] at e
  rw [e1, e, Nat.and_one_is_mod, Nat.testBit_eq_decide_div_mod_eq]
  rcases Nat.mod_two_eq_zero_or_one (pat / 2 ^ i) with h3 | h3 <;> simp [h3]
theorem oneAt_nat9 (q : Nat) : (oneAt q).toNat = 2 ^ (q % 8) := by
  unfold oneAt
  have : ∀ r : Fin 8, (UInt8.ofNat (2 ^ r.val)).toNat = 2 ^ r.val := by decide
  exact this ⟨q % 8, by omega⟩
theorem xor89 (a b : UInt8) : bits .xor .u8 (a.toNat : Int) (b.toNat : Int) = ((a ^^^ b).toNat : Int) := by
  rw [u8_xor_nat _ _ a.toNat_lt b.toNat_lt, UInt8.toNat_xor]
/-! What mark owes -/
def i64w (n : Int) : Prop := -9223372036854775808 ≤ n ∧ n ≤ 9223372036854775807
def MPutOk : Prop := ∀ (l : List Wr) (x : Option Addr) (L c : Nat) (n : Int) (w : World), l.length = L → L ≤ 2199023255552 → IsK wrE w (.slice x L c) l → WrB l → i64w n →
  Calls Try.prog 36 #[.slice x L c, .int .i64 n] w fun r w' => r = .returned (.tuple #[.agg (secA (mPutS l n)), .int .i64 (mPutE l n)]) ∧ Below w.heap.size w w'
def MStOk : Prop := ∀ (s : Sc) (j : List Sc) (x : Option Addr) (L c : Nat) (n : Int) (w : World), j.length = L → L ≤ 2199023255552 → IsK secE w (.slice x L c) j → i64w n →
  Calls Try.prog 27 #[.agg (secA s), .slice x L c, .int .i64 n] w fun r w' => ∃ y c', r = .returned (.tuple #[.int .i64 (mStK s j n), .slice y (mStL s j n).length c']) ∧ OwnK wrE w' w.heap.size (.slice y (mStL s j n).length c') (mStL s j n) ∧ Below w.heap.size w w'
end Go.Proofs.Ytpckdkgbeemalaa
