
import Derived.Test.YtmdhgadmfcmecaaCrcR
import Derived.Test.YtmdhgadmfcmecaaRely
import Derived.Deep.MidRow
import Derived.Deep.DeepCutAuto
namespace Go.Proofs.Ytmdhgadmfcmecaa
open Go.RowKit

theorem sec_isB {w : World} {n m : Nat} {s : Nat → UInt8} (c : Nat) (h : rowOk w n = true) (hs : rowAt w n = secA s) (hm : m ≤ 64) : IsB w (.slice (some ⟨n, 0, none⟩) (subL s 0 m).length c) (subL s 0 m) := by
  refine .inr ⟨_, c, rfl, fun i hi => ?_⟩
  have hadd : (⟨n, 0, none⟩ : Addr).add i = ⟨n, i, none⟩ := by unfold Addr.add; split <;> simp_all
  have hi2 : i < m := by simpa using hi
  rw [hadd, cell_rowAt h, hs, secA_get s i (by omega), subL_get, Nat.zero_add]
/-- The sector's sum, and the sector with it. -/
def secSum (s : Nat → UInt8) : BitVec 32 := sumL (subL s 0 60)
def sealS (s : Nat → UInt8) : Nat → UInt8 := putN s 60 (secSum s).toNat 4
theorem set_int (s : Nat → UInt8) (i : Nat) (x : Int) (b : UInt8) (hi : i < 64) (hx : x = (b.toNat : Int)) : (secA s).setIfInBounds i (Value.int .u8 x) = secA (upd s i b) := by
  rw [hx]; exact secA_set s i b hi
theorem put_four (s : Nat → UInt8) (x : Nat) : upd (upd (upd (upd s 60 (UInt8.ofNat (x / 256 ^ 0))) 61 (UInt8.ofNat (x / 256 ^ 1))) 62 (UInt8.ofNat (x / 256 ^ 2))) 63 (UInt8.ofNat (x / 256 ^ 3)) = putN s 60 x 4 := by
  rw [putN_succ, putN_succ, putN_succ, putN_succ, putN_zero]
set_option maxHeartbeats 400000 in
theorem refSeal_any (s : Nat → UInt8) (w : World) :
    Calls Try.prog 13 #[.agg (secA s)] w fun e w' => e = .returned (.agg (secA (sealS s))) ∧ Below w.heap.size w w' := by
  have hi : IsB ((w.alloc (.cells (secA s) 33)).alloc (.cells (secA secZ) 33)) (.slice (some ⟨w.heap.size, 0, none⟩) 60 64) (subL s 0 60) := by
    have := sec_isB (w := (w.alloc (.cells (secA s) 33)).alloc (.cells (secA secZ) 33)) (n := w.heap.size) (m := 60) (s := s) 64 (by go_simp) (by go_simp) (by omega)
    rw [subL_length] at this
    exact this
  have hc := refSum_any _ (subL s 0 60) _ (by rw [subL_length]; unfold maxLen; omega) hi
  obtain ⟨x, hx⟩ : ∃ x, (sumL (subL s 0 60)).toNat = x := ⟨_, rfl⟩
  have hn : x < 4294967296 := by rw [← hx]; exact (sumL (subL s 0 60)).isLt
  rw [hx] at hc
  have e0 : sealS s = putN s 60 x 4 := by rw [← hx]; rfl
  rw [e0]
  clear hi hx e0
  have HC := hc
  clear hc
  go_enter Try.func13, Try.ntmps13
  go_wp2_with fail
  refine HC.mono ?_
  rintro e w1 ⟨rfl, rfl⟩
  clear HC
  have q0 : ∀ s, (secA s).setIfInBounds 60 (Value.int .u8 ((x : Int) % 256)) = secA (upd s 60 (UInt8.ofNat (x / 256 ^ 0))) := fun s => set_int s 60 _ _ (by omega) (by simp)
  have q1 : ∀ s, (secA s).setIfInBounds 61 (Value.int .u8 ((x : Int) / 256 % 256)) = secA (upd s 61 (UInt8.ofNat (x / 256 ^ 1))) := fun s => set_int s 61 _ _ (by omega) (by simp)
  have q2 : ∀ s, (secA s).setIfInBounds 62 (Value.int .u8 ((x : Int) / 65536 % 256)) = secA (upd s 62 (UInt8.ofNat (x / 256 ^ 2))) := fun s => set_int s 62 _ _ (by omega) (by simp)
  have q3 : ∀ s, (secA s).setIfInBounds 63 (Value.int .u8 ((x : Int) / 16777216 % 256)) = secA (upd s 63 (UInt8.ofNat (x / 256 ^ 3))) := fun s => set_int s 63 _ _ (by omega) (by simp)
  have q4 : ∀ s, (secA s).setIfInBounds 63 (Value.int .u8 ((x : Int) / 16777216)) = secA (upd s 63 (UInt8.ofNat (x / 256 ^ 3))) := fun s => set_int s 63 _ _ (by omega) (by simp; omega)
  have HP : Hid (upd (upd (upd (upd s 60 (UInt8.ofNat (x / 256 ^ 0))) 61 (UInt8.ofNat (x / 256 ^ 1))) 62 (UInt8.ofNat (x / 256 ^ 2))) 63 (UInt8.ofNat (x / 256 ^ 3)) = putN s 60 x 4) := put_four s x
  generalize UInt8.ofNat (x / 256 ^ 0) = b0 at q0 HP
  generalize UInt8.ofNat (x / 256 ^ 1) = b1 at q1 HP
  generalize UInt8.ofNat (x / 256 ^ 2) = b2 at q2 HP
  generalize UInt8.ofNat (x / 256 ^ 3) = b3 at q3 q4 HP
  go_wp2_with fail
  refine bodyPost_sec 2 (w.heap.size + 1) rfl rfl rfl (by go_simp) ⟨?_, ?_⟩
  · rw [← HP.out]; go_simp
  · exact ((Below.refl _ _).alloc (Nat.le_refl _) _).alloc (by simp) _
theorem k_sec {w x : World} {o : Obj} (hp : Below (w.alloc o).heap.size (w.alloc o) x) : Below w.heap.size w x := ((Below.refl _ _).alloc (Nat.le_refl _) _).trans (hp.mono (by simp))
set_option linter.unusedSimpArgs false in
set_option maxHeartbeats 400000 in
theorem refSealed_any (s : Nat → UInt8) (w : World) :
    Calls Try.prog 14 #[.agg (secA s)] w fun e w' => e = .returned (.bool (secEq (sealS s) s)) ∧ Below w.heap.size w w' := by
  go_enter Try.func14, Try.ntmps14
  go_upto_region 1 with fail
  refine wp_relies [Fx (.agg (secA s)), Fx (.agg (secA (sealS s))), Fx (.agg (secA s)), Fx (.bool (secEq (sealS s) s))] (by kernel_rfl) (by kernel_rfl) ?_ ?_ ?_
  · repeat' (first | exact all_nil | apply all_cons)
    all_goals intro v y y' hv hb
    all_goals first | exact Fx_mono _ _ _ _ hv hb
  · refine ⟨?_, ?_, ?_, ?_, trivial⟩
    all_goals
      intro ρ x hp ρc ρg ρf ho hd
      have o1 : ρ (.tmp 1) = .pointer (some ⟨w.heap.size, 0, none⟩) := ho 1 rfl
      clear ho
      obtain ⟨r1, r2⟩ := keepRow hp (n := w.heap.size) (c := secA s) (by simp) (rowOk_new _ _ _ _ rfl (secA_size _)) (rowAt_new _ _ _ _ rfl)
      simp only [depsR, depR, slotR, Fx, List.getElem?_cons_succ, List.getElem?_cons_zero, Region.binds, forall_const] at hd
      simp only [guardR]
      go_split_ands
    · go_simp
    · go_simp
      refine (refSeal_any s _).mono ?_
      rintro e x' ⟨rfl, hb⟩
      exact ⟨_, rfl, rfl, hb⟩
    · go_simp
    · go_simp
  · intro vs x hp hw
    simp only [owed, Fx] at hw
    obtain ⟨e0, e1, e2, e3, -⟩ := hw
    simp only [List.length_cons, List.length_nil, List.take_succ_cons, List.take_zero, List.drop_succ_cons, List.drop_zero, asg, List.cons_append, List.nil_append, e0, e1, e2, e3]
    clear e0 e1 e2 e3
    go_wp2
    go_ret
    exact ⟨rfl, (k_sec hp)⟩
end Go.Proofs.Ytmdhgadmfcmecaa
