
import Derived.Test.YtajmlfcbppnpgaaSha5
import Derived.Test.YtajmlfcbppnpgaaShaK
namespace Go.Proofs.Ytajmlfcbppnpgaa
open Go.RowKit

def bigBuildH (x : Value) : Sem Next := do pure (.value (← Instr.build 48 #[(0, x)]))
@[go_sem ↓] theorem execOp_build_hs (ρ : Operand → Value) (dst : Option Tmp) (ty : TypeId) (pos : String) (after : Array Edge) (guard : Option (Nat × Bool)) (x : Operand) : execOp ρ { dst, op := .build 48 #[(0, x)], type := ty, pos, after, guard } = bigBuildH (ρ x) := by simp [execOp, bigBuildH]
@[go_sem] theorem run_build_hs (w : World) : (bigBuildH (.agg (wdA init8.toL))).run Try.prog w = .ok (.value (.agg (hsA init8 secZ 0))) w := by
  simp only [bigBuildH, Sem.run_bind]
  rw [run_build w 48 #[(0, .agg (wdA init8.toL))] (hsA init8 secZ 0) (by kernel_rfl)]; rfl
theorem HIs.mk0 {w : World} {g : Nat} {l : List UInt8} {b : Nat → UInt8} (h : RowC w g (hsA (stB l (l.length / 64)) b l.length)) (hb : HBl l b) : HIs w (.pointer (some ⟨g, 0, none⟩)) l [g] := ⟨g, b, rfl, rfl, h, hb⟩
set_option maxHeartbeats 400000 in
theorem shaNew_any (w : World) : Calls Try.prog 7 #[] w fun e w' => ∃ h F, e = .returned h ∧ (∃ a, h = .pointer (some a)) ∧ HIs w' h [] F ∧ (∀ q ∈ F, w.heap.size ≤ q) ∧ Below w.heap.size w w' := by
  go_enter Try.func7, Try.ntmps7
  go_wp2_with fail
  refine (shaFirst_any _).mono ?_
  rintro e X ⟨rfl, hX⟩
  go_wp2
  go_ret
  refine ⟨_, [X.heap.size], rfl, ⟨_, rfl⟩, ⟨_, secZ, rfl, rfl, RowC.new X (hsA init8 secZ 0) _, fun i hi => by simp at hi⟩, fun q hq => ?_, hX.alloc hX.size _⟩
  simp only [List.mem_singleton] at hq
  subst hq
  exact hX.size
set_option maxHeartbeats 400000 in
theorem shaLen_any (w : World) (h : Value) (l : List UInt8) (F : List Nat) (hh : HIs w h l F) : Calls Try.prog 11 #[h] w fun e w' => e = .returned (.int .i64 (l.length : Nat)) ∧ Below w.heap.size w w' := by
  obtain ⟨g, b, rfl, -, hR, -⟩ := hh
  have hc72 : w.cell? ⟨g, 72, none⟩ = some (.int .i64 (l.length : Int)) := by rw [hR.cell 72, hsA_len]
  clear hR
  go_enter Try.func11, Try.ntmps11
  go_wp2
  go_ret
  exact ⟨rfl, Below.refl _ _⟩
set_option maxHeartbeats 400000 in
theorem shaCopy_any (w : World) (h : Value) (l : List UInt8) (F : List Nat) (hh : HIs w h l F) : Calls Try.prog 14 #[h] w fun e w' => ∃ g, e = .returned (.pointer (some ⟨g, 0, none⟩)) ∧ HIs w' (.pointer (some ⟨g, 0, none⟩)) l [g] ∧ w.heap.size ≤ g ∧ Below w.heap.size w w' := by
  obtain ⟨g, b, rfl, -, hR, hb⟩ := hh
  have hlt := hR.lt
  obtain ⟨r1, q1⟩ := hR
  go_enter Try.func14, Try.ntmps14
  generalize hS : stB l (l.length / 64) = S at q1
  go_wp2
  go_ret
  exact ⟨_, rfl, ⟨_, b, rfl, rfl, by rw [hS]; exact RowC.new w _ _, hb⟩, Nat.le_refl _, below_alloc _ _⟩
theorem below_keeps {w x y : World} {g : Nat} (h : Below w.heap.size w x) (hg : w.heap.size ≤ g) (hk : Keeps [g] x y) : Below w.heap.size w y :=
  h.trans (hk.below (fun q hq => by simp only [List.mem_singleton] at hq; subst hq; exact hg) h.size)
set_option maxHeartbeats 400000 in
theorem shaSum_any (w : World) (h : Value) (l : List UInt8) (F : List Nat) (hh : HIs w h l F) (hl : l.length ≤ 140737488355328) : Calls Try.prog 9 #[h] w fun e w' => e = .returned (.agg (dg_secA (shaL l))) ∧ Below w.heap.size w w' := by
  obtain ⟨D, hD⟩ : ∃ D, shaL l = D := ⟨_, rfl⟩
  rw [hD]
  obtain ⟨g, b, rfl, -, hR, hb⟩ := hh
  obtain ⟨S, hS⟩ : ∃ S, stB l (l.length / 64) = S := ⟨_, rfl⟩
  rw [hS] at hR
  have hlt := hR.lt
  have hRr : DRow (w.alloc (.cells (dg_secA dg_secZ) 29)) w.heap.size dg_secZ := DRow.new _ _ _
  have hR1 := hR.kept (below_alloc w (.cells (dg_secA dg_secZ) 29))
  have hB1 := below_alloc w (.cells (dg_secA dg_secZ) 29)
  clear hR
  go_enter Try.func9, Try.ntmps9
  go_upto_region 3 with fail
  obtain ⟨r0, hr0⟩ : ∃ r, w.heap.size = r := ⟨_, rfl⟩
  have hlr : w.heap.size ≤ r0 := by omega
  have hgr : g ≠ r0 := by omega
  rw [hr0] at hRr
  simp only [hr0]
  generalize w.alloc (.cells (dg_secA dg_secZ) 29) = X at hRr hR1 hB1 ⊢
  have hRc : RowC (X.alloc (.cells (hsA S b l.length) 48)) X.heap.size (hsA S b l.length) := RowC.new _ _ _
  have hR2 := hR1.kept (below_alloc X (.cells (hsA S b l.length) 48))
  have hRr2 := hRr.kept (below_alloc X (.cells (hsA S b l.length) 48))
  have hB2 := hB1.alloc hB1.size (.cells (hsA S b l.length) 48)
  have hlc : w.heap.size ≤ X.heap.size := hB1.size
  have hrc : r0 < X.heap.size := hRr.lt
  have hlt1 := hR1.lt
  obtain ⟨r1, q1⟩ := hR1
  go_upto_region 4 with fail
  clear r1 q1 hRr hB1 hlt1
  generalize X.heap.size = gc at hRc hlc hrc ⊢
  generalize X.alloc (.cells (hsA S b l.length) 48) = Y at hRc hR2 hRr2 hB2 ⊢
  have hc72 : Y.cell? ⟨g, 72, none⟩ = some (.int .i64 (l.length : Int)) := by rw [hR2.cell 72, hsA_len]
  clear hR2
  go_wp2_with fail
  refine (shaClosing_any l.length _ hl).mono ?_
  rintro e Z ⟨u, rfl, hO, hBZ⟩
  clear hc72
  have hRc1 := hRc.kept hBZ
  have hRr3 := hRr2.kept hBZ
  have hB3 : Below w.heap.size w Z := hB2.trans (hBZ.mono hB2.size)
  have hcl := cloL_len l.length
  obtain ⟨q, cq, rfl, hq, hq2, -⟩ := hO.form (by simp [cloL])
  have hqc : q ≠ gc := by have := hRc.lt; omega
  have hW := shaWrite_any gc q Z l (cloL l.length) b _ (by rw [hS]; exact hRc1) hb hO.isB (.mk hq2) (fun a n c e => by simp only [Value.slice.injEq, Option.some.injEq] at e; rw [← e.1]) hqc (by omega)
  rw [← padL_clo] at hW
  clear hRc hRc1 hRr2 hBZ hB2 hb hO hS
  have HW := hW
  clear hW
  go_wp2_with fail
  refine HW.mono ?_
  rintro e V ⟨rfl, ⟨b', hRv, -⟩, hKv⟩
  have hB4 := below_keeps hB3 hlc hKv
  have hRr4 : DRow V r0 dg_secZ := by
    have hh := hKv.block r0 hRr3.lt (by simp; omega)
    unfold DRow dg_rowOk dg_rowAt at *
    rw [hh]; exact hRr3
  have HD : Hid (digL (stB (padL l) ((padL l).length / 64)) = D) := hD
  clear HW hKv hB3 hRr3
  generalize stB (padL l) ((padL l).length / 64) = T at hRv HD
  generalize (padL l).length = NN at hRv
  obtain ⟨rv, qv⟩ := hRv
  go_wp2_with fail
  refine (shaHigh_any T _).mono ?_
  rintro e U ⟨rfl, hU⟩
  have hRr5 := hRr4.kept hU
  have hB5 : Below w.heap.size w U := hB4.trans (hU.mono hB4.size)
  obtain ⟨r2, q2⟩ := hRr5
  clear rv qv hRr4 hB4 hU
  rw [HD.out]
  go_wp2
  refine dg_bodyPost_sec 2 r0 rfl rfl rfl (by go_simp) ⟨?_, dg_below_row hB5 hlr _⟩
  go_simp
set_option maxHeartbeats 400000 in
theorem nilWrite (w : World) (v : Value) : Calls Try.prog 8 #[.pointer none, v] w fun e w' => e = .returned (.tuple #[]) ∧ Below w.heap.size w w' := by
  go_enter Try.func8, Try.ntmps8
  go_wp2
  exact bodyPost_ret (v := .tuple #[]) (by simp [results, Try.f8]) rfl ⟨rfl, Below.refl _ _⟩
set_option maxHeartbeats 400000 in
theorem nilSum (w : World) : Calls Try.prog 9 #[.pointer none] w fun e w' => e = .returned (.agg (dg_secA dg_secZ)) ∧ Below w.heap.size w w' := by
  go_enter Try.func9, Try.ntmps9
  go_wp2
  exact dg_bodyPost_sec 2 w.heap.size rfl rfl rfl (by go_simp) ⟨by go_simp, below_alloc _ _⟩
set_option maxHeartbeats 400000 in
theorem nilLen (w : World) : Calls Try.prog 11 #[.pointer none] w fun e w' => e = .returned (.int .i64 0) ∧ Below w.heap.size w w' := by
  go_enter Try.func11, Try.ntmps11
  go_wp2
  go_ret
  exact ⟨rfl, Below.refl _ _⟩
set_option maxHeartbeats 400000 in
theorem nilCopy (w : World) : Calls Try.prog 14 #[.pointer none] w fun e w' => e = .returned (.pointer none) ∧ Below w.heap.size w w' := by
  go_enter Try.func14, Try.ntmps14
  go_wp2
  go_ret
  exact ⟨rfl, Below.refl _ _⟩
theorem nilOk : NilOk := ⟨nilWrite, nilSum, nilLen, nilCopy⟩
theorem HIs.kept {w w' : World} {h : Value} {l : List UInt8} {F : List Nat} (hh : HIs w h l F) (hb : Below w.heap.size w w') : HIs w' h l F := by
  obtain ⟨g, b, rfl, rfl, hR, hbl⟩ := hh
  exact ⟨g, b, rfl, rfl, hR.kept hb, hbl⟩
theorem HIs.lt {w : World} {h : Value} {l : List UInt8} {F : List Nat} (hh : HIs w h l F) : ∀ q ∈ F, q < w.heap.size := by
  obtain ⟨g, b, rfl, rfl, hR, hbl⟩ := hh
  intro q hq
  simp only [List.mem_singleton] at hq
  subst hq
  exact hR.lt
theorem hashOk : HashOk HIs where
  kept := fun h hb => h.kept hb
  lt := fun h => h.lt
  new := shaNew_any
  write := fun w h l F v m g hh hv hc hin hg hl => by
    obtain ⟨q, b, rfl, rfl, hR, hbl⟩ := hh
    refine (shaWrite_any q g w l m b v hR hbl hv hc hin (by simpa using hg) (by omega)).mono ?_
    rintro e w' ⟨rfl, ⟨b', hR', hb'⟩, hK⟩
    exact ⟨rfl, [q], ⟨q, b', rfl, rfl, hR', hb'⟩, fun q hq => .inl hq, hK⟩
  sum := fun w h l F hh hl => shaSum_any w h l F hh hl
  len := fun w h l F hh _ => shaLen_any w h l F hh
theorem inBlk_any {w : World} {v : Value} {l : List UInt8} (h : IsB w v l) : ∃ q, InBlk v q ∧ (l ≠ [] → q < w.heap.size) := by
  rcases h with ⟨rfl, rfl⟩ | ⟨y, d, rfl, hc⟩
  · exact ⟨0, fun a n c e => by simp at e, fun h => absurd rfl h⟩
  · refine ⟨y.block, fun a n c e => by simp only [Value.slice.injEq, Option.some.injEq] at e; rw [e.1], fun h => ?_⟩
    have h1 := hc 0 (List.length_pos_iff.2 h)
    have := World.block_lt_of_cell? w _ h1
    rwa [Addr.add_block] at this
set_option maxHeartbeats 400000 in
theorem shaWrite_empty (g : Nat) (w : World) (v : Value) (hv : IsB w v []) :
    Calls Try.prog 8 #[.pointer (some ⟨g, 0, none⟩), v] w fun e w' => e = .returned (.tuple #[]) ∧ w' = w := by
  obtain ⟨x, c, rfl⟩ := hv.len
  go_enter Try.func8, Try.ntmps8
  go_wp2_with fail
  go_loopw [1] (fun v wr => v = .slice x 0 c ∧ wr = w) (fun _ _ => 0)
  case atStart => exact ⟨rfl, rfl⟩
  case round =>
    obtain ⟨rfl, rfl⟩ := hrel
    go_wp2
    exact bodyPost_end (v := .tuple #[]) (by simp [results, Try.f8]) rfl ⟨rfl, rfl⟩
set_option maxHeartbeats 400000 in
theorem shaOk : ShaOk := by
  intro v l w hl hv hcap
  have hRr : DRow (w.alloc (.cells (dg_secA dg_secZ) 29)) w.heap.size dg_secZ := DRow.new _ _ _
  have hB1 := below_alloc w (.cells (dg_secA dg_secZ) 29)
  have hv1 := hv.kept hB1
  go_enter Try.func10, Try.ntmps10
  go_wp2_with fail
  obtain ⟨r0, hr0⟩ : ∃ r, w.heap.size = r := ⟨_, rfl⟩
  have hlr : w.heap.size ≤ r0 := by omega
  rw [hr0] at hRr
  simp only [hr0]
  generalize w.alloc (.cells (dg_secA dg_secZ) 29) = X at hRr hv1 hB1 ⊢
  refine (shaNew_any _).mono ?_
  rintro e Y ⟨h, F, rfl, -, hh, hF, hY⟩
  have hRr2 := hRr.kept hY
  have hB2 : Below w.heap.size w Y := hB1.trans (hY.mono hB1.size)
  have hv2 := hv1.kept hY
  obtain ⟨g, b, rfl, rfl, hR, hbl⟩ := hh
  have hg : X.heap.size ≤ g := hF g (by simp)
  have hrg : r0 ≠ g := by have := hRr.lt; omega
  obtain ⟨q, hin, hq⟩ := inBlk_any hv1
  have hW : Calls Try.prog 8 #[.pointer (some ⟨g, 0, none⟩), v] Y fun e w' => e = .returned (.tuple #[]) ∧ (∃ b', RowC w' g (hsA (stB ([] ++ l) (([] ++ l).length / 64)) b' ([] ++ l).length) ∧ HBl ([] ++ l) b') ∧ Keeps [g] Y w' := by
    by_cases hn : l = []
    · subst hn
      refine (shaWrite_empty g Y v hv2).mono ?_
      rintro e w' ⟨rfl, rfl⟩
      exact ⟨rfl, ⟨b, hR, hbl⟩, Keeps.refl _ _⟩
    · exact shaWrite_any g q Y [] l b v hR hbl hv2 hcap hin (by have := hq hn; omega) (by simp; omega)
  clear hR hbl hv hv1 hv2 hin hq hF
  have HW := hW
  clear hW
  go_wp2_with fail
  refine HW.mono ?_
  rintro e Z ⟨rfl, ⟨b', hR2, hb2⟩, hK⟩
  rw [List.nil_append] at hR2 hb2
  have hlg : w.heap.size ≤ g := Nat.le_trans hB1.size hg
  have hB3 := below_keeps hB2 hlg hK
  have hRr3 : DRow Z r0 dg_secZ := by
    have hh := hK.block r0 hRr2.lt (by simp; omega)
    unfold DRow dg_rowOk dg_rowAt at *
    rw [hh]; exact hRr2
  clear HW hK hRr2 hB2
  go_wp2_with fail
  refine (shaSum_any Z _ l [g] ⟨g, b', rfl, rfl, hR2, hb2⟩ (by omega)).mono ?_
  rintro e U ⟨rfl, hU⟩
  obtain ⟨r2, q2⟩ := hRr3.kept hU
  have hB5 : Below w.heap.size w U := hB3.trans (hU.mono hB3.size)
  clear hR2 hb2 hRr3 hB3 hU
  go_wp2
  refine dg_bodyPost_sec 2 r0 rfl rfl rfl (by go_simp) ⟨?_, dg_below_row hB5 hlr _⟩
  go_simp
theorem takenOk : TakenOk := shaTaken hashOk nilOk shaOk
end Go.Proofs.Ytajmlfcbppnpgaa
