import Derived.Test.YtadnfiikfhdphaaQDzG
namespace Go.Proofs.Ytadnfiikfhdphaa
open Go.RowKit

/-! The landed device owes what a device owes. -/
theorem devOk : DevOk DevIs where
  keeps := fun ⟨r, vl, vp, ps, sp, e, h⟩ hK hd => ⟨r, vl, vp, ps, sp, e, h.keeps hK hd⟩
  sub := fun ⟨_, _, _, _, _, _, h⟩ => h.sub
  lt := fun ⟨_, _, _, _, _, _, h⟩ => h.lt
  ok := fun ⟨_, _, _, _, _, _, h⟩ => h.ok
  ptr := fun ⟨_, _, _, _, _, e, _⟩ => ⟨_, e⟩
  new := fun w x n c ss h1 h2 h3 => devNew w x n c ss h1 h2 h3
  n := devN
  down := devDown
  acts := devActs
  read := fun w d st F R a h h1 h2 _ _ => devRead w d st F R a h h1 h2
  write := fun w d st F R a s h h1 h2 _ _ => devWrite w d st F R a s h h1 h2
  flush := devFlush
  stop := devStop
  restart := fun w d st F R xb nb cb bs h h1 h2 _ h4 h5 => devRestart w d st F R xb nb cb bs h h1 h2 h4 (fun _ => h5)
  sectors := devSectors
  durable := devDurable
  pending := devPending
  copy := devCopy
set_option linter.unusedSimpArgs false in
theorem nilN (w : World) : Calls Try.prog 15 #[.pointer none] w fun e w' => e = .returned (.int .i64 0) ∧ Below w.heap.size w w' := by
  go_enter Try.func15, Try.ntmps15
  go_wp2
  go_ret
  exact ⟨rfl, Below.refl _ _⟩
set_option linter.unusedSimpArgs false in
theorem nilDown (w : World) : Calls Try.prog 24 #[.pointer none] w fun e w' => e = .returned (.bool false) ∧ Below w.heap.size w w' := by
  go_enter Try.func24, Try.ntmps24
  go_wp2
  go_ret
  exact ⟨rfl, Below.refl _ _⟩
set_option linter.unusedSimpArgs false in
theorem nilActs (w : World) : Calls Try.prog 23 #[.pointer none] w fun e w' => e = .returned (.tuple #[.int .i64 0, .int .i64 0, .int .i64 0]) ∧ Below w.heap.size w w' := by
  go_enter Try.func23, Try.ntmps23
  go_wp2
  go_ret3
  exact ⟨rfl, Below.refl _ _⟩
set_option linter.unusedSimpArgs false in
theorem nilFlush (w : World) : Calls Try.prog 20 #[.pointer none] w fun e w' => e = .returned (.int .i64 0) ∧ Below w.heap.size w w' := by
  go_enter Try.func20, Try.ntmps20
  go_wp2
  go_ret
  exact ⟨rfl, Below.refl _ _⟩
set_option linter.unusedSimpArgs false in
theorem nilStop (w : World) (k : Int) : Calls Try.prog 21 #[.pointer none, .int .i64 k] w fun e w' => e = .returned (.tuple #[]) ∧ Below w.heap.size w w' := by
  go_enter Try.func21, Try.ntmps21
  go_wp2
  refine bodyPost_ret (results_none rfl _ _ _) rfl ?_
  exact ⟨rfl, Below.refl _ _⟩
set_option linter.unusedSimpArgs false in
theorem nilRestart (w : World) (x : Option Addr) (n c : Nat) : Calls Try.prog 22 #[.pointer none, .slice x n c] w fun e w' => e = .returned (.tuple #[]) ∧ Below w.heap.size w w' := by
  go_enter Try.func22, Try.ntmps22
  go_wp2
  refine bodyPost_ret (results_none rfl _ _ _) rfl ?_
  exact ⟨rfl, Below.refl _ _⟩
set_option linter.unusedSimpArgs false in
theorem nilSectors (w : World) : Calls Try.prog 25 #[.pointer none] w fun e w' => (∃ y c, e = .returned (.slice y 0 c)) ∧ Below w.heap.size w w' := by
  go_enter Try.func25, Try.ntmps25
  go_wp2
  go_ret
  exact ⟨⟨none, 0, rfl⟩, Below.refl _ _⟩
set_option linter.unusedSimpArgs false in
theorem nilDurable (w : World) : Calls Try.prog 18 #[.pointer none] w fun e w' => (∃ y c, e = .returned (.slice y 0 c)) ∧ Below w.heap.size w w' := by
  go_enter Try.func18, Try.ntmps18
  go_wp2
  go_ret
  exact ⟨⟨none, 0, rfl⟩, Below.refl _ _⟩
set_option linter.unusedSimpArgs false in
theorem nilPending (w : World) : Calls Try.prog 17 #[.pointer none] w fun e w' => (∃ y c, e = .returned (.slice y 0 c)) ∧ Below w.heap.size w w' := by
  go_enter Try.func17, Try.ntmps17
  go_wp2
  go_ret
  exact ⟨⟨none, 0, rfl⟩, Below.refl _ _⟩
set_option linter.unusedSimpArgs false in
theorem nilCopy (w : World) : Calls Try.prog 10 #[.pointer none] w fun e w' => e = .returned (.pointer none) ∧ Below w.heap.size w w' := by
  go_enter Try.func10, Try.ntmps10
  go_wp2
  go_ret
  exact ⟨rfl, Below.refl _ _⟩
set_option linter.unusedSimpArgs false in
theorem nilRead (w : World) (a : Int) : Calls Try.prog 19 #[.pointer none, .int .i64 a] w fun e w' => (∃ s, e = .returned (.tuple #[.agg (secA s), .int .i64 0])) ∧ Below w.heap.size w w' := by
  have b0 := below_alloc w (.cells (secA secZ) 27)
  have hZ := ScR.new w secZ 27
  go_enter Try.func19, Try.ntmps19
  go_upto_region 2 with fail
  obtain ⟨z, hz⟩ : ∃ z, w.heap.size = z := ⟨_, rfl⟩
  simp only [hz]
  rw [hz] at hZ
  generalize w.alloc (.cells (secA secZ) 27) = W at b0 hZ ⊢
  have hE : ScR (W.setRow z (secA secZ)) z secZ := ⟨rowOk_setRow_same _ _ _ hZ.1 (secA_size _), rowAt_setRow_same _ _ _ hZ.1⟩
  have HE : Hid _ := hE
  have HB : Hid (Below w.heap.size w (W.setRow z (secA secZ))) := setRow_bel b0 (by omega) _
  obtain ⟨rok, rat⟩ := hZ
  clear hE
  go_wp2
  exact sec_bodyPost2 4 5 z secZ rfl rfl rfl HE.out ⟨⟨secZ, rfl⟩, HB.out⟩
set_option linter.unusedSimpArgs false in
theorem nilWrite (w : World) (a : Int) (s : Sc) : Calls Try.prog 16 #[.pointer none, .int .i64 a, .agg (secA s)] w fun e w' => e = .returned (.int .i64 0) ∧ Below w.heap.size w w' := by
  have bA := below_alloc w (.cells #[.int .i64 a] 3)
  have bS := below_alloc (w.alloc (.cells #[.int .i64 a] 3)) (.cells (secA s) 27)
  have b0 : Below w.heap.size w ((w.alloc (.cells #[.int .i64 a] 3)).alloc (.cells (secA s) 27)) := bA.trans (bS.mono bA.size)
  go_enter Try.func16, Try.ntmps16
  go_upto_region 1 with fail
  generalize (w.alloc (.cells #[.int .i64 a] 3)).alloc (.cells (secA s) 27) = X at b0 ⊢
  go_wp2
  go_ret
  exact ⟨rfl, b0⟩
theorem devNil : DevNil := ⟨nilN, nilDown, nilActs, nilRead, nilWrite, nilFlush, nilStop, nilRestart, nilSectors, nilDurable, nilPending, nilCopy⟩
end Go.Proofs.Ytadnfiikfhdphaa
