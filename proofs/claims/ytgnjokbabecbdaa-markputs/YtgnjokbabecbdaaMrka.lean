
import Derived.Test.YtgnjokbabecbdaaMrk9
namespace Go.Proofs.Ytgnjokbabecbdaa
open Go.RowKit

/-! mark.State, whole -/
theorem OwnK.other9 {α : Type} {E : EK α} {w w' : World} {B : Nat} {v : Value} {ds : List α} (h : OwnK E w B v ds) (hl : ∀ g, v.ownBlock = some g → w'.heap[g]? = w.heap[g]?) : OwnK E w' B v ds := by
  obtain ⟨h1, h2⟩ := h
  refine ⟨h1, ?_⟩
  rcases h2 with hn | ⟨g, cap, cur, rfl, hb', hg, r⟩
  · exact .inl hn
  · exact .inr ⟨g, cap, cur, rfl, hb', (hl g rfl).trans hg, r⟩
theorem OwnK.setne9 {α : Type} {E : EK α} {w : World} {B g n c q : Nat} {ds : List α} (h : OwnK E w B (.slice (some ⟨g, 0, none⟩) n c) ds) (v : Value) (hq : q ≠ g) : OwnK E (w.setCell ⟨q, 0, none⟩ v) B (.slice (some ⟨g, 0, none⟩) n c) ds :=
  h.other9 fun k hk => by
    have : k = g := by simp [Value.ownBlock] at hk; omega
    subst this
    exact heap_setCell_ne w q k 0 v hq
theorem mSt_no {s : Sc} {j : List Sc} {n : Int} (h : mComm s j n = false) : mStL s j n = [] := by unfold mStL; rw [h]; rfl
theorem tstate_any (s : Sc) (j : List Sc) (x : Option Addr) (L c gn gs gt gj gl B : Nat) (n : Int) (w X : World) (hL : j.length = L) (h63 : L ≤ 2199023255552) (hj : IsK secE w (.slice x L c) j) (h0 : -9223372036854775808 ≤ n) (h1 : n ≤ 9223372036854775807)
    (hBB : B = w.heap.size) (hB : Below B w X) (ha : RowC X gn #[.int .i64 n]) (hs : ScR X gs s) (ht : RowC X gt #[.int .i64 3]) (hjr : RowC X gj #[.slice x L c]) (hl : RowC X gl #[.slice none 0 0]) (hne : gl ≠ gt) (hgt : B ≤ gt) (hgl : B ≤ gl) :
    Calls Try.prog 15 #[.func (.func 19) #[] #[.pointer (some ⟨gn, 0, none⟩), .pointer (some ⟨gs, 0, none⟩), .pointer (some ⟨gt, 0, none⟩), .pointer (some ⟨gj, 0, none⟩), .pointer (some ⟨gl, 0, none⟩)]] X fun r w' =>
      (∃ e, r = .returned (.int .i64 e)) ∧ RowC w' gt #[.int .i64 (mStK s j n)] ∧ ∃ y c', RowC w' gl #[.slice y (mStL s j n).length c'] ∧ OwnK wrE w' B (.slice y (mStL s j n).length c') (mStL s j n) ∧ Below B w w' := by
  subst hBB
  obtain ⟨X1, hX1⟩ : ∃ q, X.alloc (.cells #[.int .i64 0] 29) = q := ⟨_, rfl⟩
  have hA := below_alloc X (.cells #[.int .i64 0] 29)
  have hC := RowC.new X #[.int .i64 0] 29
  have hsz : X1.heap.size = X.heap.size + 1 := by rw [← hX1]; simp
  rw [hX1] at hA hC
  have htX := ht.lt
  have hlX := hl.lt
  have hB1 : Below w.heap.size w X1 := hB.trans (hA.mono hB.size)
  have hX := hB.size
  -- where nothing was laid
  have none9 : ∀ (z : Int) (w1 : World), mStK s j n = 3 → mComm s j n = false → Below X1.heap.size X1 w1 →
      RowC (w1.setCell ⟨X.heap.size, 0, none⟩ (.int .i64 z)) gt #[.int .i64 (mStK s j n)] ∧ ∃ y c', RowC (w1.setCell ⟨X.heap.size, 0, none⟩ (.int .i64 z)) gl #[.slice y (mStL s j n).length c'] ∧ OwnK wrE (w1.setCell ⟨X.heap.size, 0, none⟩ (.int .i64 z)) w.heap.size (.slice y (mStL s j n).length c') (mStL s j n) ∧ Below w.heap.size w (w1.setCell ⟨X.heap.size, 0, none⟩ (.int .i64 z)) := by
    intro z w1 hk hcm hw
    rw [hk, mSt_no hcm]
    exact ⟨((ht.kept hA).kept hw).set_ne 0 _ (by omega), none, 0, ((hl.kept hA).kept hw).set_ne 0 _ (by omega), OwnK.nil _ _ _, (hB1.trans (hw.mono (by omega))).setCell (p := ⟨X.heap.size, 0, none⟩) hX _⟩
  by_cases h : 64 ≤ n ∧ n ≤ 1024
  · have hg : geoOk n = true := by unfold geoOk; simp [h]
    cases hz : secEq s secZ
    · have hmc : mComm s j n = bOk n s (stA s j) := by unfold mComm bOk; rw [hg, hz]; rfl
      cases hq : bOk n s (stA s j)
      · rw [hq] at hmc
        have := trying_state_no ⟨gn, 0, none⟩ ⟨gs, 0, none⟩ ⟨gt, 0, none⟩ ⟨gj, 0, none⟩ ⟨gl, 0, none⟩ (bZ n (wL s j (s 2).toNat (s 2).toNat)) X (fun w1 => Below X1.heap.size X1 w1) (by
          rw [hX1]
          refine (st1_rest s j x L c gn gs gt gj gl n X1 hL h63 (hj.kept hB1) h.1 h.2 hz (ha.kept hA) (hs.kept hA) (ht.kept hA) (hjr.kept hA) (hl.kept hA) hne).mono ?_
          rintro r w1 (⟨rfl, hw, -⟩ | ⟨-, hq', -⟩)
          · exact ⟨rfl, hw, hC.kept hw⟩
          · rw [hq] at hq'; cases hq')
        refine this.mono ?_
        rintro r w' ⟨rfl, w1, hw, rfl⟩
        exact ⟨⟨_, rfl⟩, none9 _ w1 (by unfold mStK; rw [hg, hz, hmc]; rfl) hmc hw⟩
      · rw [hq] at hmc
        have hlen : (s 2).toNat = (stA s j).length := by
          have := congrArg List.length (bOk_len hq)
          rwa [wL_len] at this
        have hgb : ∀ {w0 : World} {g m : Nat} {ls : List Wr}, OwnK wrE w0 X1.heap.size (.slice (some ⟨g, 0, none⟩) m m) ls → X1.heap.size ≤ g := fun h => h.ge
        have := trying_state_yes ⟨gn, 0, none⟩ ⟨gs, 0, none⟩ ⟨gt, 0, none⟩ ⟨gj, 0, none⟩ ⟨gl, 0, none⟩ X (fun w1 => ∃ w0 g, Below X1.heap.size X1 w0 ∧ OwnK wrE w0 X1.heap.size (.slice (some ⟨g, 0, none⟩) (s 2).toNat (s 2).toNat) (stA s j) ∧
            w1 = (w0.setCell ⟨gl, 0, none⟩ (.slice (some ⟨g, 0, none⟩) (s 2).toNat (s 2).toNat)).setCell ⟨gt, 0, none⟩ (.int .i64 2)) (by
          rw [hX1]
          refine (st1_rest s j x L c gn gs gt gj gl n X1 hL h63 (hj.kept hB1) h.1 h.2 hz (ha.kept hA) (hs.kept hA) (ht.kept hA) (hjr.kept hA) (hl.kept hA) hne).mono ?_
          rintro r w1 (⟨-, -, hq'⟩ | ⟨rfl, -, w0, g, hw, hO, rfl⟩)
          · rw [hq] at hq'; cases hq'
          · exact ⟨rfl, ⟨w0, g, hw, hO, rfl⟩, ((hC.kept hw).set_ne 0 _ (by omega)).set_ne 0 _ (by omega)⟩)
        refine this.mono ?_
        rintro r w' ⟨rfl, w1, ⟨w0, g, hw, hO, rfl⟩, rfl⟩
        have hgx := hgb hO
        have eL : mStL s j n = stA s j := by unfold mStL; rw [hmc]; rfl
        have eK : mStK s j n = 2 := by unfold mStK; rw [hg, hz, hmc]; rfl
        rw [eL, eK, ← hlen]
        refine ⟨⟨_, rfl⟩, ?_, some ⟨g, 0, none⟩, (s 2).toNat, ?_, ?_, ?_⟩
        · exact ((((ht.kept hA).kept hw).set_ne 0 _ hne).set 0 _).set_ne 0 _ (by omega)
        · exact ((((hl.kept hA).kept hw).set 0 _).set_ne 0 _ (fun e => hne e.symm)).set_ne 0 _ (by omega)
        · exact (((hO.le hB1.size).setne9 _ (by omega)).setne9 _ (by omega)).setne9 _ (by omega)
        · exact (((hB1.trans (hw.mono (by omega))).setCell (p := ⟨gl, 0, none⟩) hgl _).setCell (p := ⟨gt, 0, none⟩) hgt _).setCell (p := ⟨X.heap.size, 0, none⟩) hX _
    · have hmc : mComm s j n = false := by unfold mComm; rw [hg, hz]; rfl
      have := trying_state_yes ⟨gn, 0, none⟩ ⟨gs, 0, none⟩ ⟨gt, 0, none⟩ ⟨gj, 0, none⟩ ⟨gl, 0, none⟩ X (fun w1 => ∃ w0, Below X1.heap.size X1 w0 ∧ w1 = w0.setCell ⟨gt, 0, none⟩ (.int .i64 1)) (by
        rw [hX1]
        refine (st1_zero s gn gs gt gj gl n X1 h.1 h.2 hz (ha.kept hA) (hs.kept hA) (ht.kept hA)).mono ?_
        rintro r w1 ⟨rfl, w0, hw, rfl⟩
        exact ⟨rfl, ⟨w0, hw, rfl⟩, (hC.kept hw).set_ne 0 _ (by omega)⟩)
      refine this.mono ?_
      rintro r w' ⟨rfl, w1, ⟨w0, hw, rfl⟩, rfl⟩
      have eK : mStK s j n = 1 := by unfold mStK; rw [hg, hz]; rfl
      rw [eK, mSt_no hmc]
      exact ⟨⟨_, rfl⟩, (((ht.kept hA).kept hw).set 0 _).set_ne 0 _ (by omega), none, 0, (((hl.kept hA).kept hw).set_ne 0 _ (fun e => hne e.symm)).set_ne 0 _ (by omega), OwnK.nil _ _ _,
        ((hB1.trans (hw.mono (by omega))).setCell (p := ⟨gt, 0, none⟩) hgt _).setCell (p := ⟨X.heap.size, 0, none⟩) hX _⟩
  · have hg : geoOk n = false := by
      unfold geoOk
      rw [Bool.and_eq_false_iff, decide_eq_false_iff_not, decide_eq_false_iff_not]
      omega
    have hmc : mComm s j n = false := by unfold mComm; rw [hg]; rfl
    have := trying_state_no ⟨gn, 0, none⟩ ⟨gs, 0, none⟩ ⟨gt, 0, none⟩ ⟨gj, 0, none⟩ ⟨gl, 0, none⟩ 22 X (fun w1 => Below X1.heap.size X1 w1) (by
      rw [hX1]
      refine (st1_size gn gs gt gj gl n X1 h h0 h1 (ha.kept hA)).mono ?_
      rintro r w1 ⟨rfl, hw⟩
      exact ⟨rfl, hw, hC.kept hw⟩)
    refine this.mono ?_
    rintro r w' ⟨rfl, w1, hw, rfl⟩
    exact ⟨⟨_, rfl⟩, none9 _ w1 (by unfold mStK; rw [hg]; rfl) hmc hw⟩
set_option linter.unusedSimpArgs false in
theorem mStOk : MStOk := by
  intro s j x L c n w hL h40 hj hn
  obtain ⟨K9, hK⟩ : ∃ k, mStK s j n = k := ⟨_, rfl⟩
  obtain ⟨l9, hl9⟩ : ∃ l, mStL s j n = l := ⟨_, rfl⟩
  have hT := fun gn gs gt gj gl B X => tstate_any s j x L c gn gs gt gj gl B n w X hL h40 hj hn.1 hn.2
  simp only [hK, hl9] at hT ⊢
  clear hK hl9 hj hn
  have hmf : ∀ (fn : Fn) (first cap : Array Value) (w : World), (Instr.makeFunc fn first cap).run Try.prog w = .ok (.func fn first cap) w := fun _ _ _ _ => rfl
  go_enter Try.func8, Try.ntmps8
  go_upto_region 3 with fail
  obtain ⟨X, hX⟩ : ∃ q, (((((w.alloc (.cells (secA s) 28)).alloc (.cells #[.slice x L c] 32)).alloc (.cells #[.int .i64 n] 3)).alloc (.cells #[.int .i64 3] 3)).alloc (.cells #[.slice none 0 0] 22)) = q := ⟨_, rfl⟩
  have hB : Below w.heap.size w X := by rw [← hX]; exact ((((below_alloc w _).alloc (by simp) _).alloc (by simp; omega) _).alloc (by simp; omega) _).alloc (by simp; omega) _
  have hs : ScR X w.heap.size s := by rw [← hX]; exact ((((ScR.new w s _).kept (below_alloc _ _)).kept (below_alloc _ _)).kept (below_alloc _ _)).kept (below_alloc _ _)
  have hjr : RowC X (w.heap.size + 1) #[.slice x L c] := by
    have := (((RowC.new (w.alloc (.cells (secA s) 28)) #[.slice x L c] 32).kept (below_alloc _ (.cells #[.int .i64 n] 3))).kept (below_alloc _ (.cells #[.int .i64 3] 3))).kept (below_alloc _ (.cells #[.slice none 0 0] 22))
    rw [hX, World.size_alloc] at this; exact this
  have hnr : RowC X (w.heap.size + 1 + 1) #[.int .i64 n] := by
    have := ((RowC.new ((w.alloc (.cells (secA s) 28)).alloc (.cells #[.slice x L c] 32)) #[.int .i64 n] 3).kept (below_alloc _ (.cells #[.int .i64 3] 3))).kept (below_alloc _ (.cells #[.slice none 0 0] 22))
    rw [hX, World.size_alloc, World.size_alloc] at this; exact this
  have htr : RowC X (w.heap.size + 1 + 1 + 1) #[.int .i64 3] := by
    have := (RowC.new (((w.alloc (.cells (secA s) 28)).alloc (.cells #[.slice x L c] 32)).alloc (.cells #[.int .i64 n] 3)) #[.int .i64 3] 3).kept (below_alloc _ (.cells #[.slice none 0 0] 22))
    rw [hX, World.size_alloc, World.size_alloc, World.size_alloc] at this; exact this
  have hlr : RowC X (w.heap.size + 1 + 1 + 1 + 1) #[.slice none 0 0] := by
    have := RowC.new ((((w.alloc (.cells (secA s) 28)).alloc (.cells #[.slice x L c] 32)).alloc (.cells #[.int .i64 n] 3)).alloc (.cells #[.int .i64 3] 3)) #[.slice none 0 0] 22
    rw [hX, World.size_alloc, World.size_alloc, World.size_alloc, World.size_alloc] at this; exact this
  have hC := hT (w.heap.size + 1 + 1) w.heap.size (w.heap.size + 1 + 1 + 1) (w.heap.size + 1) (w.heap.size + 1 + 1 + 1 + 1) w.heap.size X rfl hB hnr hs htr hjr hlr (by omega) (by omega) (by omega)
  rw [hX]
  clear hT hB hs hjr hnr htr hlr hX
  obtain ⟨g9, hg9⟩ : ∃ g, w.heap.size + 1 + 1 + 1 + 1 = g := ⟨_, rfl⟩
  obtain ⟨g8, hg8⟩ : ∃ g, w.heap.size + 1 + 1 + 1 = g := ⟨_, rfl⟩
  obtain ⟨g5, hg5⟩ : ∃ g, w.heap.size + 1 + 1 = g := ⟨_, rfl⟩
  obtain ⟨g4, hg4⟩ : ∃ g, w.heap.size + 1 = g := ⟨_, rfl⟩
  obtain ⟨g3, hg3⟩ : ∃ g, w.heap.size = g := ⟨_, rfl⟩
  rw [hg9, hg8, hg5, hg4] at hC
  simp only [hg9]
  simp only [hg8]
  simp only [hg5]
  simp only [hg4]
  simp only [hg3] at hC ⊢
  have HG : Hid (w.heap.size = g3) := hg3
  clear hg9 hg8 hg5 hg4 hg3
  go_upto_region 4 with (go_at_call 15; refine hC.mono ?_; rintro e w1 ⟨⟨z, rfl⟩, ht, y, c', hl, hO, hB⟩)
  have c8 : w1.cell? ⟨g8, 0, none⟩ = some (.int .i64 K9) := ht.cell 0
  have c9 : w1.cell? ⟨g9, 0, none⟩ = some (.slice y l9.length c') := hl.cell 0
  have HO : Hid (OwnK wrE w1 g3 (.slice y l9.length c') l9) := hO
  have HB : Hid (Below g3 w w1) := hB
  clear hC ht hl hO hB
  obtain ⟨k9, hk9⟩ : ∃ k, l9.length = k := ⟨_, rfl⟩
  rw [hk9] at c9
  have HK : Hid (l9.length = k9) := hk9
  clear hk9
  go_region
  go_wp2
  refine tmp2_bodyPost9 6 7 rfl rfl ⟨y, c', ?_, ?_, ?_⟩
  · rw [HK.out]; rfl
  · rw [HG.out]; exact HO.out
  · rw [HG.out]; exact HB.out.drew
end Go.Proofs.Ytgnjokbabecbdaa
