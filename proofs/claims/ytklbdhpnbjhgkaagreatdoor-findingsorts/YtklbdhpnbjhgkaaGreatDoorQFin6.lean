import Derived.Test.YtklbdhpnbjhgkaaGreatDoorQFin5
import Derived.Lib.BytesEntry
namespace Go.Proofs.YtklbdhpnbjhgkaaGreatDoor
open Go.RowKit Go.Sort

/-! The orders of digests and of slots; bytes.Equal -/
theorem ba_empty (L : List UInt8) : (⟨ByteArray.empty.data ++ L.toArray⟩ : ByteArray) = ⟨L.toArray⟩ := by
  apply ByteArray.ext
  show (#[] : Array UInt8) ++ L.toArray = L.toArray
  simp
theorem loadB22 (w : World) (g c : Nat) (d : Dg) (h : RowC w g (dg_secA d)) : (Extern.Bytes.bytesOf (.slice (some ⟨g, 0, none⟩) 32 c)).run Tryz.prog w = .ok ⟨(dB d).toArray⟩ w := by
  have hl := Lib.run_loadBytesX (P := Tryz.prog) w ((dB d).map fun b => (b.toNat : Int)) ⟨g, 0, none⟩ .empty (fun j x hj => by
    rw [List.getElem?_map] at hj
    obtain ⟨y, hy, rfl⟩ := Option.map_eq_some_iff.1 hj
    have hj32 : j < 32 := by have := (List.getElem?_eq_some_iff.1 hy).1; rwa [dB_len] at this
    have hyd : y = d j := by
      have := dB_lB d j hj32
      unfold lB at this
      rw [hy] at this
      exact this
    rw [addr_add, Nat.zero_add, h.cell, dg_secA_get d j hj32, hyd])
  have e1 : ((dB d).map fun b => (b.toNat : Int)).length = 32 := by rw [List.length_map, dB_len]
  have e2 : Lib.bytesOf ((dB d).map fun b => (b.toNat : Int)) = dB d := by
    unfold Lib.bytesOf
    rw [List.map_map]
    conv => rhs; rw [← List.map_id (dB d)]
    apply List.map_congr_left
    intro b _
    simp
  rw [e1, e2] at hl
  simp only [Extern.Bytes.bytesOf]
  rw [hl, ba_empty]
theorem cmp22 (a b : Dg) : Extern.BytealgCompare.cmp ⟨(dB a).toArray⟩ ⟨(dB b).toArray⟩ = dcmp a b := by
  rw [Lib.cmp_eq, ← Lib.cmpL_eq]
  unfold Lib.cmpL
  simp only [dB_len, Nat.min_self, Nat.lt_irrefl, if_false]
  have hg : ∀ (d : Dg) i, i < 32 → (dB d).getD i 0 = d i := fun d i hi => by
    have := dB_lB d i hi
    unfold lB at this
    rw [List.getD_eq_getElem?_getD]; exact this
  cases hf : (List.range 32).find? fun i => (dB a).getD i 0 != (dB b).getD i 0 with
  | none =>
    have h := List.find?_eq_none.1 hf
    refine (dcmp_eq fun j hj => ?_).symm
    have := h j (by simpa using hj)
    rw [hg a j hj, hg b j hj] at this
    simpa using this
  | some i =>
    obtain ⟨hp, hi, hbef⟩ := List.find?_range_eq_some.1 hf
    have hi32 : i < 32 := by simpa using hi
    rw [hg a i hi32, hg b i hi32] at hp
    have hne : a i ≠ b i := by simpa using hp
    have hall : ∀ j, j < i → a j = b j := fun j hj => by
      have := hbef j hj
      rw [hg a j (by omega), hg b j (by omega)] at this
      simpa using this
    show (if (dB a).getD i 0 < (dB b).getD i 0 then (-1 : Int) else 1) = _
    rw [hg a i hi32, hg b i hi32]
    by_cases hl : a i < b i
    · rw [if_pos hl, dcmp_lt hall (UInt8.lt_iff_toNat_lt.1 hl) hi32]
    · rw [if_neg hl]
      have : (b i).toNat < (a i).toNat := by
        have h1 : ¬ (a i).toNat < (b i).toNat := fun h => hl (UInt8.lt_iff_toNat_lt.2 h)
        have h2 : (a i).toNat ≠ (b i).toNat := fun h => hne (UInt8.toNat_inj.1 h)
        omega
      rw [dcmp_gt hall this hi32]
theorem run_cmp22 (w : World) (ga gb : Nat) (a b : Dg) (hA : RowC w ga (dg_secA a)) (hB : RowC w gb (dg_secA b)) :
    (callFunc 107 #[.slice (some ⟨ga, 0, none⟩) 32 32, .slice (some ⟨gb, 0, none⟩) 32 32]).run Tryz.prog w = .ok (.value (.int .i64 (dcmp a b))) w := by
  rw [run_callFunc_extern Tryz.func107 (by kernel_rfl) (by kernel_rfl) (by kernel_rfl) (e := Extern.BytealgCompare.compare) (by kernel_rfl)]
  have : (Extern.BytealgCompare.compare #[.slice (some ⟨ga, 0, none⟩) 32 32, .slice (some ⟨gb, 0, none⟩) 32 32]).run Tryz.prog w = .ok (goInt (Extern.BytealgCompare.cmp ⟨(dB a).toArray⟩ ⟨(dB b).toArray⟩)) w := by
    change Sem.run Tryz.prog (do pure (goInt (Extern.BytealgCompare.cmp (← Extern.Bytes.bytesOf (.slice (some ⟨ga, 0, none⟩) 32 32)) (← Extern.Bytes.bytesOf (.slice (some ⟨gb, 0, none⟩) 32 32))))) w = _
    simp only [Sem.run_bind, loadB22 w ga 32 a hA, loadB22 w gb 32 b hB, Result.andThen_ok, Sem.run_pure]
  rw [this, cmp22]
  generalize dcmp a b = r
  rfl
theorem bytesCompare22 (w : World) (ga gb : Nat) (a b : Dg) (hA : RowC w ga (dg_secA a)) (hB : RowC w gb (dg_secA b)) :
    Calls Tryz.prog 87 #[.slice (some ⟨ga, 0, none⟩) 32 32, .slice (some ⟨gb, 0, none⟩) 32 32] w fun e w' => e = .returned (.int .i64 (dcmp a b)) ∧ w' = w := by
  have h := run_cmp22 w ga gb a b hA hB
  generalize dcmp a b = r at h ⊢
  clear hA hB
  go_enter Tryz.func87, Tryz.ntmps87
  go_wp2
  go_ret
  exact ⟨rfl, rfl⟩
set_option linter.unusedSimpArgs false in
set_option maxRecDepth 100000 in
theorem byBytes22 (a b : Dg) (w : World) : Calls Tryz.prog 47 #[.agg (dg_secA a), .agg (dg_secA b)] w fun e w' => e = .returned (.int .i64 (dcmp a b)) ∧ Below w.heap.size w w' := by
  have b0 := below_al2 w (.cells (dg_secA a) 50) (.cells (dg_secA b) 50)
  have hA : RowC ((w.alloc (.cells (dg_secA a) 50)).alloc (.cells (dg_secA b) 50)) w.heap.size (dg_secA a) := (RowC.new w (dg_secA a) 50).kept (below_alloc _ _)
  have hB : RowC ((w.alloc (.cells (dg_secA a) 50)).alloc (.cells (dg_secA b) 50)) (w.heap.size + 1) (dg_secA b) := by
    have := RowC.new (w.alloc (.cells (dg_secA a) 50)) (dg_secA b) 50
    rwa [World.size_alloc] at this
  go_enter Tryz.func47, Tryz.ntmps47
  go_upto_region 1 with fail
  obtain ⟨gb, hgb⟩ : ∃ z, w.heap.size + 1 = z := ⟨_, rfl⟩
  obtain ⟨ga, hga⟩ : ∃ z, w.heap.size = z := ⟨_, rfl⟩
  simp only [hgb]
  simp only [hga]
  rw [hgb] at hB
  rw [hga] at hA
  clear hga hgb
  generalize (w.alloc (.cells (dg_secA a) 50)).alloc (.cells (dg_secA b) 50) = X at hA hB b0 ⊢
  refine wp_relies [Fx (.slice (some ⟨ga, 0, none⟩) 32 32), Fx (.slice (some ⟨gb, 0, none⟩) 32 32), Fx (.int .i64 (dcmp a b))] (by kernel_rfl) (by kernel_rfl) ?_ ?_ ?_
  · repeat' (first | exact all_nil | apply all_cons)
    all_goals intro v y y' hv hb
    all_goals first | exact Fx_mono _ _ _ _ hv hb
  · refine ⟨?_, ?_, ?_, trivial⟩
    all_goals
      intro ρ y9 hp ρc ρg ρf ho hd
      have o2 : ρ (.tmp 2) = .pointer (some ⟨ga, 0, none⟩) := ho 2 rfl
      have o3 : ρ (.tmp 3) = .pointer (some ⟨gb, 0, none⟩) := ho 3 rfl
      clear ho
      simp only [depsR, depR, slotR, Fx, List.getElem?_cons_succ, List.getElem?_cons_zero, Region.binds, forall_const] at hd
      simp only [guardR]
      go_split_ands
    · go_simp
    · go_simp
    · have h1 := hA.kept hp
      have h2 := hB.kept hp
      go_simp
      exact (bytesCompare22 _ _ _ _ _ h1 h2).mono fun e w' ⟨q1, q2⟩ => by subst q2; exact ⟨_, q1, rfl, Below.refl _ _⟩
  · intro us x1 hp1 hw
    simp only [owed, Fx] at hw
    obtain ⟨e0, e1, e2, -⟩ := hw
    simp only [List.length_cons, List.length_nil, List.take_succ_cons, List.take_zero, List.drop_succ_cons, List.drop_zero, asg, List.cons_append, List.nil_append, e0, e1, e2]
    clear e0 e1 e2
    have HX : Hid (Below w.heap.size w x1) := b0.trans (hp1.mono b0.size)
    clear hA hB b0 hp1
    go_wp2
    go_ret
    exact ⟨rfl, HX.out⟩
theorem bySlot22 (a b : Int) (w : World) : Calls Tryz.prog 50 #[.int .i64 a, .int .i64 b] w fun e w' => e = .returned (.int .i64 (cmpI a b)) ∧ Below w.heap.size w w' := by
  have h := cmpc22 a b w
  go_enter Tryz.func50, Tryz.ntmps50
  go_wp2_with fail
  refine h.mono ?_
  rintro e w' ⟨rfl, rfl⟩
  go_wp2
  go_ret
  exact ⟨rfl, Below.refl _ _⟩
theorem bytesEqual22 (v u : Value) (l m : List UInt8) (w : World) (hl : IsB w v l) (hm : IsB w u m) : Calls Tryz.prog 88 #[v, u] w fun e w' => e = .returned (.bool (decide (l = m))) ∧ w' = w := by
  have h1 := hl.str
  have h2 := hm.str
  clear hl hm
  go_enter Tryz.func88, Tryz.ntmps88
  go_wp2
  go_ret
  refine ⟨?_, rfl⟩
  exact ret_bool (by rw [Bool.eq_iff_iff]; simp)
end Go.Proofs.YtklbdhpnbjhgkaaGreatDoor
