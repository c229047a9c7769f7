import Derived.Test.YtklbdhpnbjhgkaaGreatDoorQFin4
namespace Go.Proofs.YtklbdhpnbjhgkaaGreatDoor
open Go.RowKit Go.Sort

/-! The reader: a digest -/
theorem RowC.dg {w : World} {g : Nat} {s : Dg} (h : RowC w g (dg_secA s)) : dg_rowOk w g = true ∧ dg_rowAt w g = dg_secA s := by
  obtain ⟨t, hg⟩ := row_of_L h.1
  rw [h.2] at hg
  constructor
  · unfold dg_rowOk; rw [hg]; simp
  · unfold dg_rowAt; rw [hg]
theorem run_copy_dg9 (w : World) (g : Nat) (y : Option Addr) (d : Nat) (ty : TypeId) (s0 : Dg) (l : List UInt8) (hg : RowC w g (dg_secA s0)) (hl : l.length = 32) (hb : IsB w (.slice y 32 d) l) :
    (Builtin.copy_ #[33, 33] ty #[.slice (some ⟨g, 0, none⟩) 32 32, .slice y 32 d]).run Tryz.prog w = .ok (goInt 32) (w.setRow g (dg_secA (fun k => if k < 32 then lB l k else 0))) := by
  obtain ⟨tg, hg'⟩ := row_of_L hg.1
  rw [hg.2] at hg'
  obtain ⟨D, hD⟩ : ∃ q, dg_secA s0 = q := ⟨_, rfl⟩
  have hDs : D.size = 32 := by rw [← hD, dg_secA_size]
  rw [hD] at hg'
  rcases hb with ⟨h1, -⟩ | ⟨a, c9, he, hc⟩
  · simp at h1
  · simp only [Value.slice.injEq] at he
    obtain ⟨rfl, -, rfl⟩ := he
    have hlb : (bytesA l).toList.length = 32 := by simp [hl]
    have := run_copy_row (P := Tryz.prog) w 33 33 ty 5 g 0 32 32 a 32 d D tg (bytesA l).toList Tryz.underlying33 (by kernel_rfl) hg' (by rw [hlb]; exact (Nat.min_self 32).symm)
      (fun j v hv => by
        have hj : j < l.length := by have := (List.getElem?_eq_some_iff.1 hv).1; simpa using this
        rw [Array.getElem?_toList, bytesA_get l j hj] at hv
        rw [hc j hj]; exact hv) (by rw [hlb, hDs]; omega) (fun v hv => by
        simp only [bytesA, List.mem_map] at hv
        obtain ⟨b, _, rfl⟩ := hv
        rfl)
    have e9 : (D.toList.take 0 ++ (bytesA l).toList ++ D.toList.drop (0 + 32)).toArray = dg_secA (fun k => if k < 32 then lB l k else 0) := by
      rw [List.take_zero, List.nil_append, List.drop_of_length_le (by simp [hDs]), List.append_nil]
      apply Array.ext_getElem?
      intro i
      by_cases hi : i < 32
      · rw [dg_secA_get _ i hi, List.getElem?_toArray, Array.getElem?_toList, bytesA_get l i (by omega), if_pos hi]
        unfold lB
        rw [List.getElem?_eq_getElem (by omega)]
        rfl
      · rw [Array.getElem?_eq_none (by simp [hl]; omega), Array.getElem?_eq_none (by simp; omega)]
    rw [hlb, e9] at this
    exact this
theorem run_copy_no9 (w : World) (y : Option Addr) (n m : Nat) (ty : TypeId) :
    (Builtin.copy_ #[33, 33] ty #[.slice y n m, .slice none 0 0]).run Tryz.prog w = .ok (goInt 0) w :=
  run_copy_none _ _ _ ty 5 _ _ _ _ _ _ Tryz.underlying33 (by kernel_rfl) (by simp)
theorem dgAt_cut (b : List UInt8) (i : Nat) : (fun k => if k < 32 then lB ((b.drop i).take 32) k else 0) = dgAt b i := by
  funext k
  unfold dgAt
  by_cases hk : k < 32
  · rw [if_pos hk, if_pos hk]
    unfold lB
    rw [List.getElem?_take_of_lt hk, List.getElem?_drop]
  · rw [if_neg hk, if_neg hk]
set_option linter.unusedSimpArgs false in
set_option maxRecDepth 100000 in
set_option maxHeartbeats 1600000 in
theorem digest22 (w : World) (g : Nat) (x : Option Addr) (n c : Nat) (b : List UInt8) (i : Nat) (h : RdI w g x n c b i) :
    Calls Tryz.prog 46 #[.pointer (some ⟨g, 0, none⟩)] w fun e w' => RdQ (fun d : Dg => .agg (dg_secA d)) (.agg (dg_secA dg_secZ)) w g x n c b (rdD b i) e w' := by
  have b0 := below_al2 w (.cells (dg_secA dg_secZ) 50) (.cells (dg_secA dg_secZ) 50)
  have hn := take22 _ g x n c b i 32 (by omega) (h.later b0)
  have hZ : RowC ((w.alloc (.cells (dg_secA dg_secZ) 50)).alloc (.cells (dg_secA dg_secZ) 50)) w.heap.size (dg_secA dg_secZ) := (RowC.new w (dg_secA dg_secZ) 50).kept (below_alloc _ _)
  have hY : RowC ((w.alloc (.cells (dg_secA dg_secZ) 50)).alloc (.cells (dg_secA dg_secZ) 50)) (w.heap.size + 1) (dg_secA dg_secZ) := by
    have := RowC.new (w.alloc (.cells (dg_secA dg_secZ) 50)) (dg_secA dg_secZ) 50
    rwa [World.size_alloc] at this
  have hg := h.row.lt
  obtain ⟨z, hz⟩ : ∃ z, w.heap.size = z := ⟨_, rfl⟩
  obtain ⟨y, hy⟩ : ∃ y, w.heap.size + 1 = y := ⟨_, rfl⟩
  have hgz : z ≠ g := by omega
  have hgy : y ≠ g := by omega
  have hyz : y ≠ z := by omega
  have HZ : Hid (w.heap.size = z) := hz
  have HY : Hid (w.heap.size + 1 = y) := hy
  have HF : Hid (0 < n → ∀ a, x = some a → a.block ≠ z ∧ a.block ≠ y) := fun h0 a ha => by
    have := h.old h0 a ha
    omega
  have hL := h.len
  have hsl := fun W => dg_run_sliceAt_lo W y 0 (by omega)
  rw [hy] at hY
  rw [hz] at hZ
  clear hsl
  have hy2 : z + 1 = y := by omega
  clear hy
  by_cases hlt : n < i + 32
  · have hs : rdD b i = .error (i, 10) := by unfold rdD; rw [if_pos (by omega)]
    rw [hs]
    clear hs
    go_enter Tryz.func46, Tryz.ntmps46
    go_upto_region 2 with fail
    generalize (w.alloc (.cells (dg_secA dg_secZ) 50)).alloc (.cells (dg_secA dg_secZ) 50) = W at b0 hn hZ hY ⊢
    clear hz hy2 h
    go_wp2_with fail
    refine hn.mono ?_
    rintro e w1 ⟨-, h2⟩
    obtain ⟨q, rfl, hq, hR, hK⟩ := h2 hlt
    have hcp := fun ty => run_copy_no9 w1 (some ⟨y, 0, none⟩) 32 32 ty
    have hZ1 := hZ.keepsF hK (by simpa using hgz)
    have hY1 := hY.keepsF hK (by simpa using hgy)
    have K1 := (Keep.of_below b0).trans hK
    have hzq : z ≠ q := by have := hZ.lt; omega
    have HQ : Hid (w.heap.size ≤ q) := Nat.le_trans b0.size hq
    have K9 : Hid (Keep [g] w (w1.setRow z (dg_secA dg_secZ))) := K1.mine (by rw [HZ.out]; exact Nat.le_refl _) _
    have hR9 : Hid (RowC (w1.setRow z (dg_secA dg_secZ)) q (ftA i 10)) := hR.setRow_ne _ hzq.symm
    have hZ9 : Hid (RowC (w1.setRow z (dg_secA dg_secZ)) z (dg_secA dg_secZ)) := hZ1.setRow _
    obtain ⟨k1, -⟩ := hZ1.dg
    obtain ⟨k3, k4⟩ := hY1.dg
    have st := dg_run_secStore w1 z dg_secZ k1
    have ld := dg_run_secLoad w1 y k3
    rw [k4] at ld
    clear hn b0 hZ hK hR hq hZ1 hY1 hY K1 k1 k3 k4 h2 hL hlt hyz
    go_wp2
    (try simp only [Exit.inBlock, Exit.then])
    exact dg_ret2 2 3 z _ rfl rfl rfl hZ9.out (dg_secA_size _) ⟨K9.out, q, rfl, HQ.out, hR9.out⟩
  · have hs : rdD b i = .ok (dgAt b i, i + 32) := by unfold rdD; rw [if_neg (by omega)]
    rw [hs]
    clear hs
    obtain ⟨D, hD⟩ : ∃ D, dgAt b i = D := ⟨_, rfl⟩
    rw [hD]
    have HP : Hid (0 < n) := by show _ < _; omega
    have hl32 : ((b.drop i).take 32).length = 32 := by simp; omega
    go_enter Tryz.func46, Tryz.ntmps46
    go_upto_region 2 with fail
    generalize (w.alloc (.cells (dg_secA dg_secZ) 50)).alloc (.cells (dg_secA dg_secZ) 50) = W at b0 hn hZ hY ⊢
    clear hz hy2 h
    go_wp2_with fail
    refine hn.mono ?_
    rintro e w1 ⟨h2, -⟩
    obtain ⟨y9, d, hd, rfl, hyb, hR, hK⟩ := h2 (by omega)
    have hZ1 := hZ.keepsF hK (by simpa using hgz)
    have hY1 := hY.keepsF hK (by simpa using hgy)
    have hcp := fun ty => run_copy_dg9 w1 y y9 d ty dg_secZ _ hY1 hl32 hyb
    rw [dgAt_cut b i, hD] at hcp
    have K1 := (Keep.of_below b0).trans hK
    have K2 : Keep [g] w (w1.setRow y (dg_secA D)) := K1.mine (by have := HY.out; omega) _
    have K9 : Hid (Keep [g] w ((w1.setRow y (dg_secA D)).setRow z (dg_secA D))) := K2.mine (by rw [HZ.out]; exact Nat.le_refl _) _
    have hR2 := hR.apart (Keep.mine1 w1 y (dg_secA D)) (by simp only [List.mem_singleton]; exact fun e => hgy e.symm) (fun a ha => by simpa using (HF.out HP.out a ha).2)
    have hR9 : Hid (RdI ((w1.setRow y (dg_secA D)).setRow z (dg_secA D)) g x n c b (i + 32)) := hR2.apart (Keep.mine1 _ z (dg_secA D)) (by simp only [List.mem_singleton]; exact fun e => hgz e.symm) (fun a ha => by simpa using (HF.out HP.out a ha).1)
    have hZ2 : RowC (w1.setRow y (dg_secA D)) z (dg_secA dg_secZ) := hZ1.setRow_ne _ hyz.symm
    have hY2 : RowC (w1.setRow y (dg_secA D)) y (dg_secA D) := hY1.setRow _
    have hZ9 : Hid (RowC ((w1.setRow y (dg_secA D)).setRow z (dg_secA D)) z (dg_secA D)) := hZ2.setRow _
    obtain ⟨k1, -⟩ := hZ2.dg
    obtain ⟨k3, k4⟩ := hY2.dg
    have st := dg_run_secStore (w1.setRow y (dg_secA D)) z D k1
    have ld := dg_run_secLoad (w1.setRow y (dg_secA D)) y k3
    rw [k4] at ld
    clear hn b0 hZ hK hR hZ1 hY1 hY K1 k1 k3 k4 h2 hL hlt hyz K2 hR2 hZ2 hY2 hD hyb hd hl32
    go_wp2
    (try simp only [Exit.inBlock, Exit.then])
    exact dg_ret2 2 3 z _ rfl rfl rfl hZ9.out (dg_secA_size _) ⟨K9.out, rfl, hR9.out⟩
end Go.Proofs.YtklbdhpnbjhgkaaGreatDoor
