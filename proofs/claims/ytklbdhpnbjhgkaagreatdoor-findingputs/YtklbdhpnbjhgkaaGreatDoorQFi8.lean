import Derived.Test.YtklbdhpnbjhgkaaGreatDoorQFi7
namespace Go.Proofs.YtklbdhpnbjhgkaaGreatDoor
open Go.RowKit Go.Sort

/-! The law's kept -/
theorem IsK.pre22 {α : Type} {E : EK α} {w : World} {x : Option Addr} {n c : Nat} {l : List α} {m : α} (h : IsK E w (.slice x (n + 1) c) (l ++ [m])) (hn : l.length = n) : IsK E w (.slice x n c) l := by
  obtain ⟨y, c', he, hc, hd⟩ := h
  simp only [Value.slice.injEq] at he
  obtain ⟨rfl, -, rfl⟩ := he
  refine ⟨x, c, by rw [hn], by simp at hc; omega, fun i d hi => ?_⟩
  exact hd i d (by rw [List.getElem?_append_left (List.getElem?_eq_some_iff.1 hi).1]; exact hi)
/-- A twin in memory: each list with its mark behind it. -/
structure TwI (w : World) (r : Rp) (nf nd ni : Nat) (g1 d1 g2 d2 g3 d3 : Nat) : Prop where
  f : IsK fdE w (.slice (some ⟨g1, 0, none⟩) (nf + 1) d1) (r.fs ++ [(777, 0)])
  d : IsK dgE w (.slice (some ⟨g2, 0, none⟩) (nd + 1) d2) (r.ds ++ [dg7])
  i : IsG w (.slice (some ⟨g3, 0, none⟩) (ni + 1) d3) (inV (r.dr ++ [777]))
  ci : ni + 1 ≤ d3
  nf : r.fs.length = nf
  nd : r.ds.length = nd
  ni : r.dr.length = ni
theorem TwI.kept {w w' : World} {r : Rp} {nf nd ni : Nat} {g1 d1 g2 d2 g3 d3 : Nat} (h : TwI w r nf nd ni g1 d1 g2 d2 g3 d3) (hb : Below w.heap.size w w') : TwI w' r nf nd ni g1 d1 g2 d2 g3 d3 :=
  ⟨h.f.kept hb, h.d.kept hb, h.i.kept hb, h.ci, h.nf, h.nd, h.ni⟩
theorem isG_pre22 {w : World} {x : Option Addr} {n c : Nat} {l : List Int} {m : Int} (h : IsG w (.slice x (n + 1) c) (inV (l ++ [m]))) (hn : l.length = n) : IsG w (.slice x n c) (inV l) := by
  rcases h with ⟨he, -⟩ | ⟨y, c', he, hc⟩
  · cases he
  · simp only [Value.slice.injEq] at he
    obtain ⟨rfl, -, rfl⟩ := he
    refine .inr ⟨y, c, by rw [inV_len, hn], fun i hi => ?_⟩
    have h9 := hc i (by rw [inV_len] at hi ⊢; simp; omega)
    rw [h9]
    congr 1
    rw [inV_len] at hi
    simp only [inV, List.map_append]
    rw [List.getElem_append_left (by simpa using hi)]
theorem TwI.rp {w : World} {r : Rp} {nf nd ni : Nat} {g1 d1 g2 d2 g3 d3 : Nat} (h : TwI w r nf nd ni g1 d1 g2 d2 g3 d3) : RpI w r (some ⟨g1, 0, none⟩) nf d1 (some ⟨g2, 0, none⟩) nd d2 (some ⟨g3, 0, none⟩) ni d3 :=
  ⟨h.f.pre22 h.nf, h.d.pre22 h.nd, isG_pre22 h.i h.ni, h.nf, h.nd, h.ni⟩
set_option linter.unusedSimpArgs false in
set_option maxRecDepth 100000 in
set_option maxHeartbeats 8000000 in
theorem kept22 (w : World) (r : Rp) (g1 d1 g2 d2 g3 d3 : Nat) (xf : Option Addr) (nf cf : Nat) (xd : Option Addr) (nd cd : Nat) (xi : Option Addr) (ni ci : Nat) (ht : TwI w r nf nd ni g1 d1 g2 d2 g3 d3) (h : RpI w r xf nf cf xd nd cd xi ni ci) (s1 : nf * 16 ≤ 140737488351232) (s2 : nd * 32 ≤ 140737488351232) (s3 : ni * 8 ≤ 140737488351232)
    : Calls Tryz.prog 17 #[.agg (rpA r.st (.slice (some ⟨g1, 0, none⟩) nf d1) (.slice (some ⟨g2, 0, none⟩) nd d2) (.slice (some ⟨g3, 0, none⟩) ni d3)), .agg (rpA r.st (.slice xf nf cf) (.slice xd nd cd) (.slice xi ni ci))] w fun e w' => e = .returned (.bool true) ∧ Below w.heap.size w w' := by
  have b1 := below_alloc w (.cells (rpA r.st (.slice (some ⟨g1, 0, none⟩) nf d1) (.slice (some ⟨g2, 0, none⟩) nd d2) (.slice (some ⟨g3, 0, none⟩) ni d3)) 32)
  have b2 := below_alloc (w.alloc (.cells (rpA r.st (.slice (some ⟨g1, 0, none⟩) nf d1) (.slice (some ⟨g2, 0, none⟩) nd d2) (.slice (some ⟨g3, 0, none⟩) ni d3)) 32)) (.cells (rpA r.st (.slice xf nf cf) (.slice xd nd cd) (.slice xi ni ci)) 32)
  have r2 := (RowC.new w (rpA r.st (.slice (some ⟨g1, 0, none⟩) nf d1) (.slice (some ⟨g2, 0, none⟩) nd d2) (.slice (some ⟨g3, 0, none⟩) ni d3)) 32).kept b2
  have r3 := RowC.new (w.alloc (.cells (rpA r.st (.slice (some ⟨g1, 0, none⟩) nf d1) (.slice (some ⟨g2, 0, none⟩) nd d2) (.slice (some ⟨g3, 0, none⟩) ni d3)) 32)) (rpA r.st (.slice xf nf cf) (.slice xd nd cd) (.slice xi ni ci)) 32
  rw [World.size_alloc] at r3
  have ht2 := (ht.kept b1).kept b2
  have h2 := (h.kept b1).kept b2
  have HB : Hid (Below w.heap.size w ((w.alloc (.cells (rpA r.st (.slice (some ⟨g1, 0, none⟩) nf d1) (.slice (some ⟨g2, 0, none⟩) nd d2) (.slice (some ⟨g3, 0, none⟩) ni d3)) 32)).alloc (.cells (rpA r.st (.slice xf nf cf) (.slice xd nd cd) (.slice xi ni ci)) 32))) := b1.trans (b2.mono b1.size)
  clear b1 b2 ht h
  go_enter Tryz.func17, Tryz.ntmps17
  go_upto_region 1 with fail
  obtain ⟨z3, hz3⟩ : ∃ z, w.heap.size + 1 = z := ⟨_, rfl⟩
  obtain ⟨z2, hz2⟩ : ∃ z, w.heap.size = z := ⟨_, rfl⟩
  simp only [hz3]
  rw [hz3] at r3
  rw [hz2] at r2
  simp only [hz2]
  clear hz2 hz3
  generalize (w.alloc (.cells (rpA r.st (.slice (some ⟨g1, 0, none⟩) nf d1) (.slice (some ⟨g2, 0, none⟩) nd d2) (.slice (some ⟨g3, 0, none⟩) ni d3)) 32)).alloc (.cells (rpA r.st (.slice xf nf cf) (.slice xd nd cd) (.slice xi ni ci)) 32) = W at r2 r3 ht2 h2 HB ⊢
  have LT : Hid (∀ y, Below W.heap.size W y → (bigLoad 32 (.pointer (some ⟨z2, 0, none⟩))).run Tryz.prog y = .ok (.value (.agg (rpA r.st (.slice (some ⟨g1, 0, none⟩) nf d1) (.slice (some ⟨g2, 0, none⟩) nd d2) (.slice (some ⟨g3, 0, none⟩) ni d3)))) y) := fun y hy => by
    have l9 := run_load_rp y z2 (r2.kept hy).1 (by rw [(r2.kept hy).2]; rfl)
    rw [(r2.kept hy).2] at l9
    exact l9
  have LR : Hid (∀ y, Below W.heap.size W y → (bigLoad 32 (.pointer (some ⟨z3, 0, none⟩))).run Tryz.prog y = .ok (.value (.agg (rpA r.st (.slice xf nf cf) (.slice xd nd cd) (.slice xi ni ci)))) y) := fun y hy => by
    have l9 := run_load_rp y z3 (r3.kept hy).1 (by rw [(r3.kept hy).2]; rfl)
    rw [(r3.kept hy).2] at l9
    exact l9
  have HA : Hid (∀ y, Below W.heap.size W y → _) := fun y hy => alike22 y r (some ⟨g1, 0, none⟩) nf d1 (some ⟨g2, 0, none⟩) nd d2 (some ⟨g3, 0, none⟩) ni d3 xf cf xd cd xi ci (ht2.kept hy).rp (h2.kept hy) (by omega) (by omega) (by omega)
  have a1 : W.cell? ⟨z2, 1, none⟩ = some (.slice (some ⟨g1, 0, none⟩) nf d1) := by rw [r2.cell]; rfl
  have a2 : W.cell? ⟨z2, 2, none⟩ = some (.slice (some ⟨g2, 0, none⟩) nd d2) := by rw [r2.cell]; rfl
  have a3 : W.cell? ⟨z2, 3, none⟩ = some (.slice (some ⟨g3, 0, none⟩) ni d3) := by rw [r2.cell]; rfl
  have b1 : W.cell? ⟨z3, 1, none⟩ = some (.slice xf nf cf) := by rw [r3.cell]; rfl
  have b2 : W.cell? ⟨z3, 2, none⟩ = some (.slice xd nd cd) := by rw [r3.cell]; rfl
  have b3 : W.cell? ⟨z3, 3, none⟩ = some (.slice xi ni ci) := by rw [r3.cell]; rfl
  have m1 : W.cell? ⟨g1, nf * 2, none⟩ = some (.int .i64 777) := by
    obtain ⟨g, o, he, -, k1, -⟩ := fd_at ht2.f nf (777, 0) (by rw [List.getElem?_append_right (by rw [ht2.nf]; exact Nat.le_refl _), ht2.nf, Nat.sub_self]; rfl)
    cases he
    rwa [Nat.zero_add] at k1
  have m3 : W.cell? ⟨g3, ni, none⟩ = some (.int .i64 777) := by
    have hA : IsG W (.slice (some ⟨g3, 0, none⟩) (inV (r.dr ++ [777])).length d3) (inV (r.dr ++ [777])) := by rw [inV_len, List.length_append, ht2.ni]; exact ht2.i
    obtain ⟨g, o, he, -, qa⟩ := hA.spot 0 (by rw [inV_len]; simp)
    cases he
    have := qa ni _ (inV_get (r.dr ++ [777]) ni 777 (by rw [List.getElem?_append_right (by rw [ht2.ni]; exact Nat.le_refl _), ht2.ni, Nat.sub_self]; rfl))
    rwa [Nat.zero_add] at this
  have LD : Hid (∀ y, Below W.heap.size W y → (dg_secLoad (.pointer (some ⟨g2, nd * 32, none⟩))).run Tryz.prog y = .ok (.value (.agg (dg_secA dg7))) y) := fun y hy => by
    obtain ⟨b', o', he, -, k1, k2⟩ := dg_at (ht2.d.kept hy) nd dg7 (by rw [List.getElem?_append_right (by rw [ht2.nd]; exact Nat.le_refl _), ht2.nd, Nat.sub_self]; rfl)
    cases he
    rw [Nat.zero_add] at k1 k2
    have h9 := run_dg_mid y g2 (nd * 32) k1
    rw [k2] at h9
    exact h9
  have w1 : IntKind.i64.wrap ((nf : Int) + 1) = (nf : Int) + 1 := by rw [IntKind.wrap_i64]; omega
  have w2 : IntKind.i64.wrap ((nd : Int) + 1) = (nd : Int) + 1 := by rw [IntKind.wrap_i64]; omega
  have w3 : IntKind.i64.wrap ((ni : Int) + 1) = (ni : Int) + 1 := by rw [IntKind.wrap_i64]; omega
  have k1 : ∀ w', (cutF0 (.slice (some ⟨g1, 0, none⟩) nf d1) (.int .i64 ((nf : Int) + 1))).run Tryz.prog w' = .ok (.value (.slice (some ⟨g1, 0, none⟩) (nf + 1) d1)) w' := fun w' => run_cutF0 w' g1 0 nf d1 (nf + 1) ht2.f.cap.2
  have k2 : ∀ w', (cutD0 (.slice (some ⟨g2, 0, none⟩) nd d2) (.int .i64 ((nd : Int) + 1))).run Tryz.prog w' = .ok (.value (.slice (some ⟨g2, 0, none⟩) (nd + 1) d2)) w' := fun w' => run_cutD0 w' g2 0 nd d2 (nd + 1) ht2.d.cap.2
  have k3 : ∀ w', (cutI0 (.slice (some ⟨g3, 0, none⟩) ni d3) (.int .i64 ((ni : Int) + 1))).run Tryz.prog w' = .ok (.value (.slice (some ⟨g3, 0, none⟩) (ni + 1) d3)) w' := fun w' => run_cutI0 w' g3 0 ni d3 (ni + 1) ht2.ci
  have i1 : (0 : Int) ≤ (nf : Int) := by omega
  have i2 : (nf : Int) < (nf : Int) + 1 := by omega
  have i3 : (0 : Int) ≤ (nd : Int) := by omega
  have i4 : (nd : Int) < (nd : Int) + 1 := by omega
  have i5 : (0 : Int) ≤ (ni : Int) := by omega
  have i6 : (ni : Int) < (ni : Int) + 1 := by omega
  have e7 : dg_secEq dg7 dg7 = true := by rw [dg_secEq_iff]; exact fun _ _ => rfl
  clear r2 r3 ht2 h2 s1 s2 s3
  refine wp_reliesT [Fx (.agg (rpA r.st (.slice (some ⟨g1, 0, none⟩) nf d1) (.slice (some ⟨g2, 0, none⟩) nd d2) (.slice (some ⟨g3, 0, none⟩) ni d3))), Fx (.agg (rpA r.st (.slice xf nf cf) (.slice xd nd cd) (.slice xi ni ci))), Fx (.bool true), Fx (.bool true), Fx (.pointer (some ⟨z2, 1, none⟩)), Fx (.slice (some ⟨g1, 0, none⟩) nf d1), Fx (.pointer (some ⟨z3, 1, none⟩)), Fx (.slice xf nf cf), Fx (.int .i64 (nf : Int)), Fx (.int .i64 ((nf : Int) + 1 : Int)), Fx (.slice (some ⟨g1, 0, none⟩) (nf + 1) d1), Fx (.pointer (some ⟨z3, 1, none⟩)), Fx (.slice xf nf cf), Fx (.int .i64 (nf : Int)), Fx (.pointer (some ⟨g1, nf * 2, none⟩)), Fx (.pointer (some ⟨g1, nf * 2, none⟩)), Fx (.int .i64 777), Fx (.bool true), Fx (.bool true), Fx (.bool true), Fx (.pointer (some ⟨z2, 2, none⟩)), Fx (.slice (some ⟨g2, 0, none⟩) nd d2), Fx (.pointer (some ⟨z3, 2, none⟩)), Fx (.slice xd nd cd), Fx (.int .i64 (nd : Int)), Fx (.int .i64 ((nd : Int) + 1 : Int)), Fx (.slice (some ⟨g2, 0, none⟩) (nd + 1) d2), Fx (.pointer (some ⟨z3, 2, none⟩)), Fx (.slice xd nd cd), Fx (.int .i64 (nd : Int)), Fx (.pointer (some ⟨g2, nd * 32, none⟩)), Fx (.agg (dg_secA dg7)), Fx (.agg (dg_secA dg7)), Fx (.bool true), Fx (.bool true), Fx (.bool true), Fx (.pointer (some ⟨z2, 3, none⟩)), Fx (.slice (some ⟨g3, 0, none⟩) ni d3), Fx (.pointer (some ⟨z3, 3, none⟩)), Fx (.slice xi ni ci), Fx (.int .i64 (ni : Int)), Fx (.int .i64 ((ni : Int) + 1 : Int)), Fx (.slice (some ⟨g3, 0, none⟩) (ni + 1) d3), Fx (.pointer (some ⟨z3, 3, none⟩)), Fx (.slice xi ni ci), Fx (.int .i64 (ni : Int)), Fx (.pointer (some ⟨g3, ni, none⟩)), Fx (.int .i64 777), Fx (.bool true), Fx (.bool true)] (by kernel_rfl) (by kernel_rfl) ?_ ?_ ?_
  · repeat' (first | exact all_nil | apply all_cons)
    all_goals intro v y y' hv hb
    all_goals first | exact Fx_mono _ _ _ _ hv hb
  · refine ⟨?_, ?_, ?_, ?_, ?_, ?_, ?_, ?_, ?_, ?_, ?_, ?_, ?_, ?_, ?_, ?_, ?_, ?_, ?_, ?_, ?_, ?_, ?_, ?_, ?_, ?_, ?_, ?_, ?_, ?_, ?_, ?_, ?_, ?_, ?_, ?_, ?_, ?_, ?_, ?_, ?_, ?_, ?_, ?_, ?_, ?_, ?_, ?_, ?_, ?_, trivial⟩
    all_goals
      intro ρ y9 hp ρc ρg ρf ho hd
      have o2 : ρ (.tmp 2) = .pointer (some ⟨z2, 0, none⟩) := ho 2 rfl
      have o3 : ρ (.tmp 3) = .pointer (some ⟨z3, 0, none⟩) := ho 3 rfl
      clear ho
      replace a1 := cell_later hp a1
      replace a2 := cell_later hp a2
      replace a3 := cell_later hp a3
      replace b1 := cell_later hp b1
      replace b2 := cell_later hp b2
      replace b3 := cell_later hp b3
      replace m1 := cell_later hp m1
      replace m3 := cell_later hp m3
      simp only [depsR, depR, slotR, Fx, List.getElem?_cons_succ, List.getElem?_cons_zero, Region.binds, forall_const] at hd
      simp only [guardR]
      go_split_ands
    · have l1 := LT.out y9 hp
      go_simp
    · have l1 := LR.out y9 hp
      go_simp
    · go_simp
      exact (HA.out y9 hp).mono fun e w' ⟨q1, q2⟩ => ⟨_, q1, rfl, q2⟩
    · go_simp
    · refine ⟨fun _ => ?_, fun hy => absurd (by simp [yieldR, slotR, *]) hy⟩
      go_simp
    · refine ⟨fun _ => ?_, fun hy => absurd (by simp [yieldR, slotR, *]) hy⟩
      go_simp
    · refine ⟨fun _ => ?_, fun hy => absurd (by simp [yieldR, slotR, *]) hy⟩
      go_simp
    · refine ⟨fun _ => ?_, fun hy => absurd (by simp [yieldR, slotR, *]) hy⟩
      go_simp
    · refine ⟨fun _ => ?_, fun hy => absurd (by simp [yieldR, slotR, *]) hy⟩
      go_simp
    · refine ⟨fun _ => ?_, fun hy => absurd (by simp [yieldR, slotR, *]) hy⟩
      go_simp
    · refine ⟨fun _ => ?_, fun hy => absurd (by simp [yieldR, slotR, *]) hy⟩
      go_simp
    · refine ⟨fun _ => ?_, fun hy => absurd (by simp [yieldR, slotR, *]) hy⟩
      go_simp
    · refine ⟨fun _ => ?_, fun hy => absurd (by simp [yieldR, slotR, *]) hy⟩
      go_simp
    · refine ⟨fun _ => ?_, fun hy => absurd (by simp [yieldR, slotR, *]) hy⟩
      go_simp
    · refine ⟨fun _ => ?_, fun hy => absurd (by simp [yieldR, slotR, *]) hy⟩
      go_simp
    · refine ⟨fun _ => ?_, fun hy => absurd (by simp [yieldR, slotR, *]) hy⟩
      go_simp
    · refine ⟨fun _ => ?_, fun hy => absurd (by simp [yieldR, slotR, *]) hy⟩
      go_simp
    · refine ⟨fun _ => ?_, fun hy => absurd (by simp [yieldR, slotR, *]) hy⟩
      go_simp
    · go_simp
    · go_simp
    · refine ⟨fun _ => ?_, fun hy => absurd (by simp [yieldR, slotR, *]) hy⟩
      go_simp
    · refine ⟨fun _ => ?_, fun hy => absurd (by simp [yieldR, slotR, *]) hy⟩
      go_simp
    · refine ⟨fun _ => ?_, fun hy => absurd (by simp [yieldR, slotR, *]) hy⟩
      go_simp
    · refine ⟨fun _ => ?_, fun hy => absurd (by simp [yieldR, slotR, *]) hy⟩
      go_simp
    · refine ⟨fun _ => ?_, fun hy => absurd (by simp [yieldR, slotR, *]) hy⟩
      go_simp
    · refine ⟨fun _ => ?_, fun hy => absurd (by simp [yieldR, slotR, *]) hy⟩
      go_simp
    · refine ⟨fun _ => ?_, fun hy => absurd (by simp [yieldR, slotR, *]) hy⟩
      go_simp
    · refine ⟨fun _ => ?_, fun hy => absurd (by simp [yieldR, slotR, *]) hy⟩
      go_simp
    · refine ⟨fun _ => ?_, fun hy => absurd (by simp [yieldR, slotR, *]) hy⟩
      go_simp
    · refine ⟨fun _ => ?_, fun hy => absurd (by simp [yieldR, slotR, *]) hy⟩
      go_simp
    · refine ⟨fun _ => ?_, fun hy => absurd (by simp [yieldR, slotR, *]) hy⟩
      go_simp
    · refine ⟨fun _ => ?_, fun hy => absurd (by simp [yieldR, slotR, *]) hy⟩
      have l1 := LD.out y9 hp
      go_simp
    · refine ⟨fun _ => ?_, fun hy => absurd (by simp [yieldR, slotR, *]) hy⟩
      go_simp
    · refine ⟨fun _ => ?_, fun hy => absurd (by simp [yieldR, slotR, *]) hy⟩
      go_simp
    · go_simp
    · go_simp
    · refine ⟨fun _ => ?_, fun hy => absurd (by simp [yieldR, slotR, *]) hy⟩
      go_simp
    · refine ⟨fun _ => ?_, fun hy => absurd (by simp [yieldR, slotR, *]) hy⟩
      go_simp
    · refine ⟨fun _ => ?_, fun hy => absurd (by simp [yieldR, slotR, *]) hy⟩
      go_simp
    · refine ⟨fun _ => ?_, fun hy => absurd (by simp [yieldR, slotR, *]) hy⟩
      go_simp
    · refine ⟨fun _ => ?_, fun hy => absurd (by simp [yieldR, slotR, *]) hy⟩
      go_simp
    · refine ⟨fun _ => ?_, fun hy => absurd (by simp [yieldR, slotR, *]) hy⟩
      go_simp
    · refine ⟨fun _ => ?_, fun hy => absurd (by simp [yieldR, slotR, *]) hy⟩
      go_simp
    · refine ⟨fun _ => ?_, fun hy => absurd (by simp [yieldR, slotR, *]) hy⟩
      go_simp
    · refine ⟨fun _ => ?_, fun hy => absurd (by simp [yieldR, slotR, *]) hy⟩
      go_simp
    · refine ⟨fun _ => ?_, fun hy => absurd (by simp [yieldR, slotR, *]) hy⟩
      go_simp
    · refine ⟨fun _ => ?_, fun hy => absurd (by simp [yieldR, slotR, *]) hy⟩
      go_simp
    · refine ⟨fun _ => ?_, fun hy => absurd (by simp [yieldR, slotR, *]) hy⟩
      go_simp
    · refine ⟨fun _ => ?_, fun hy => absurd (by simp [yieldR, slotR, *]) hy⟩
      go_simp
    · go_simp
  · intro us x1 hp1 hw
    simp only [owed, Fx] at hw
    obtain ⟨e0, e1, e2, e3, e4, e5, e6, e7, e8, e9, e10, e11, e12, e13, e14, e15, e16, e17, e18, e19, e20, e21, e22, e23, e24, e25, e26, e27, e28, e29, e30, e31, e32, e33, e34, e35, e36, e37, e38, e39, e40, e41, e42, e43, e44, e45, e46, e47, e48, e49, -⟩ := hw
    simp only [List.length_cons, List.length_nil, List.take_succ_cons, List.take_zero, List.drop_succ_cons, List.drop_zero, asg, List.cons_append, List.nil_append, e0, e1, e2, e3, e4, e5, e6, e7, e8, e9, e10, e11, e12, e13, e14, e15, e16, e17, e18, e19, e20, e21, e22, e23, e24, e25, e26, e27, e28, e29, e30, e31, e32, e33, e34, e35, e36, e37, e38, e39, e40, e41, e42, e43, e44, e45, e46, e47, e48, e49]
    clear e0 e1 e2 e3 e4 e5 e6 e7 e8 e9 e10 e11 e12 e13 e14 e15 e16 e17 e18 e19 e20 e21 e22 e23 e24 e25 e26 e27 e28 e29 e30 e31 e32 e33 e34 e35 e36 e37 e38 e39 e40 e41 e42 e43 e44 e45 e46 e47 e48 e49
    clear LT LR HA LD
    go_wp2
    go_ret
    exact ⟨rfl, HB.out.trans (hp1.mono HB.out.size)⟩
end Go.Proofs.YtklbdhpnbjhgkaaGreatDoor
