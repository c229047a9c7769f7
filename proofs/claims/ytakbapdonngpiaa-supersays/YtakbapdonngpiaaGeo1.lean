
import Derived.Test.YtakbapdonngpiaaSec
namespace Go.Proofs.Ytakbapdonngpiaa
open Go.RowKit

/-! Geom: thirteen numbers -/
def gA (f : Nat → Int) : Array Value := #[.int .i64 (f 0), .int .i64 (f 1), .int .i64 (f 2), .int .i64 (f 3), .int .i64 (f 4), .int .i64 (f 5), .int .i64 (f 6), .int .i64 (f 7), .int .i64 (f 8), .int .i64 (f 9), .int .i64 (f 10), .int .i64 (f 11), .int .i64 (f 12)]
def geoOk (n : Int) : Bool := decide (64 ≤ n) && decide (n ≤ 1024)
/-- The thirteen places by the number of sectors; all 0, if no disk has so many. -/
def geoF (n : Int) (k : Nat) : Int :=
  if 64 ≤ n ∧ n ≤ 1024 then
    match k with
    | 0 => n
    | 1 => 11
    | 2 => (n + 479) / 480
    | 3 => 11 + (n + 479) / 480
    | 4 => n / 8
    | 5 => 11 + (n + 479) / 480 + n / 8
    | 6 => n / 16
    | 7 => 11 + (n + 479) / 480 + n / 8 + n / 16
    | 8 => n / 16
    | 9 => 11 + (n + 479) / 480 + n / 8 + n / 16 + n / 16
    | 10 => (n / 8 + 14) / 15
    | 11 => 11 + (n + 479) / 480 + n / 8 + n / 16 + n / 16 + (n / 8 + 14) / 15
    | 12 => n / 8 / 4
    | _ => 0
  else 0
theorem gA_open (f : Nat → Int) : gA f = #[.int .i64 (f 0), .int .i64 (f 1), .int .i64 (f 2), .int .i64 (f 3), .int .i64 (f 4), .int .i64 (f 5), .int .i64 (f 6), .int .i64 (f 7), .int .i64 (f 8), .int .i64 (f 9), .int .i64 (f 10), .int .i64 (f 11), .int .i64 (f 12)] := rfl
attribute [local go_sem] gA_open
theorem gA_congr {f g : Nat → Int} (h : ∀ k, k < 13 → f k = g k) : gA f = gA g := by
  unfold gA
  rw [h 0 (by omega), h 1 (by omega), h 2 (by omega), h 3 (by omega), h 4 (by omega), h 5 (by omega), h 6 (by omega), h 7 (by omega), h 8 (by omega), h 9 (by omega), h 10 (by omega), h 11 (by omega), h 12 (by omega)]
theorem geoF_no (n : Int) (h : ¬ (64 ≤ n ∧ n ≤ 1024)) (k : Nat) : geoF n k = 0 := by unfold geoF; rw [if_neg h]
set_option maxHeartbeats 400000 in
theorem gparts_any (n e : Int) (w : World) (h0 : 0 ≤ n) (h1 : n ≤ 1024) (h2 : 0 < e) (h3 : e ≤ 480) :
    Calls Try.prog 20 #[.int .i64 n, .int .i64 e] w fun r w' => r = .returned (.int .i64 ((n + e - 1) / e)) ∧ w' = w := by
  go_enter Try.func20, Try.ntmps20
  go_wp2
  go_ret
  exact ⟨rfl, rfl⟩
theorem size37 : (Try.prog.info? 37).map (·.size) = some 13 := by kernel_rfl
theorem geo_bodyPost {fn : Func} {R : Ending → World → Prop} {a : Act} {w : World} (p n : Nat) (t : TypeId) (f : Nat → Int) (hres : fn.results = #[.cell p 37]) (hp : a.tmps.getD p undef = .pointer (some ⟨n, 0, none⟩)) (hd : a.defers = [])
    (hg : w.heap[n]? = some (.cells (gA f) t (0, 0))) (h : R (.returned (.agg (gA f))) w) : bodyPost Try.prog fn R .ret a w :=
  bodyPost_ret (results_cell_row hres a.tmps w n t (gA f) (0, 0) _ hp hg Try.underlying37 rfl (by rw [size37]; rfl)) hd h
theorem geo_bodyPost2 {fn : Func} {R : Ending → World → Prop} {a : Act} {w : World} (p q n : Nat) (t : TypeId) (f : Nat → Int) (hres : fn.results = #[.cell p 37, .tmp q]) (hp : a.tmps.getD p undef = .pointer (some ⟨n, 0, none⟩)) (hd : a.defers = [])
    (hg : w.heap[n]? = some (.cells (gA f) t (0, 0))) (h : R (.returned (.tuple #[.agg (gA f), a.tmps.getD q undef])) w) : bodyPost Try.prog fn R .ret a w := by
  have hp' : a.tmps[p]?.getD undef = .pointer (some ⟨n, 0, none⟩) := by simpa using hp
  have hl := run_loadVar_row (P := Try.prog) w n t 37 (gA f) (0, 0) _ hg Try.underlying37 rfl (by rw [size37]; rfl)
  refine bodyPost_ret (v := .tuple #[.agg (gA f), a.tmps.getD q undef]) ?_ hd h
  simp [results, hres, hp', asAddr, hl]
set_option maxHeartbeats 400000 in
theorem laid_yes (n : Int) (w : World) (h0 : 64 ≤ n) (h1 : n ≤ 1024) :
    Calls Try.prog 16 #[.int .i64 n] w fun r w' => r = .returned (.agg (gA (geoF n))) ∧ w' = (w.alloc (.cells (gA (geoF n)) 37)).alloc (.cells (gA (geoF n)) 37) := by
  have hg : gA (geoF n) = #[.int .i64 n, .int .i64 11, .int .i64 ((n + 480 - 1) / 480), .int .i64 (11 + (n + 480 - 1) / 480), .int .i64 (n / 8), .int .i64 (11 + (n + 480 - 1) / 480 + n / 8), .int .i64 (n / 16), .int .i64 (11 + (n + 480 - 1) / 480 + n / 8 + n / 16), .int .i64 (n / 16), .int .i64 (11 + (n + 480 - 1) / 480 + n / 8 + n / 16 + n / 16), .int .i64 ((n / 8 + 15 - 1) / 15), .int .i64 (11 + (n + 480 - 1) / 480 + n / 8 + n / 16 + n / 16 + (n / 8 + 15 - 1) / 15), .int .i64 (n / 8 / 4)] := by
    have e1 : n + 480 - 1 = n + 479 := by omega
    have e2 : n / 8 + 15 - 1 = n / 8 + 14 := by omega
    unfold gA geoF
    simp [h0, h1, e1, e2]
  have hG : Hid (gA (geoF n) = #[.int .i64 n, .int .i64 11, .int .i64 ((n + 480 - 1) / 480), .int .i64 (11 + (n + 480 - 1) / 480), .int .i64 (n / 8), .int .i64 (11 + (n + 480 - 1) / 480 + n / 8), .int .i64 (n / 16), .int .i64 (11 + (n + 480 - 1) / 480 + n / 8 + n / 16), .int .i64 (n / 16), .int .i64 (11 + (n + 480 - 1) / 480 + n / 8 + n / 16 + n / 16), .int .i64 ((n / 8 + 15 - 1) / 15), .int .i64 (11 + (n + 480 - 1) / 480 + n / 8 + n / 16 + n / 16 + (n / 8 + 15 - 1) / 15), .int .i64 (n / 8 / 4)]) := hg
  clear hg
  go_enter Try.func16, Try.ntmps16
  go_wp2_with (go_at_call 20; refine (gparts_any _ _ _ (by omega) (by omega) (by omega) (by omega)).mono ?_; rintro e w' ⟨rfl, rfl⟩)
  rw [← hG.out]
  refine geo_bodyPost 2 w.heap.size 37 (geoF n) rfl rfl rfl ?_ ⟨rfl, rfl⟩
  rw [heap_old _ _ _ (by simp), heap_new]
set_option maxHeartbeats 400000 in
theorem laid_no (n : Int) (w : World) (h : ¬ (64 ≤ n ∧ n ≤ 1024)) (h0 : -9223372036854775808 ≤ n) (h1 : n ≤ 9223372036854775807) :
    Calls Try.prog 16 #[.int .i64 n] w fun r w' => r = .returned (.agg (gA fun _ => 0)) ∧ w' = w.alloc (.cells (gA fun _ => 0) 37) := by
  by_cases ha : n < 64
  · go_enter Try.func16, Try.ntmps16
    go_wp2
    exact geo_bodyPost 2 w.heap.size 37 (fun _ => 0) rfl rfl rfl (heap_new _ _) ⟨rfl, rfl⟩
  · have hb : 1024 < n := by omega
    go_enter Try.func16, Try.ntmps16
    go_wp2
    exact geo_bodyPost 2 w.heap.size 37 (fun _ => 0) rfl rfl rfl (heap_new _ _) ⟨rfl, rfl⟩
set_option maxHeartbeats 400000 in
theorem of_yes (n : Int) (w : World) (h0 : 64 ≤ n) (h1 : n ≤ 1024) :
    Calls Try.prog 10 #[.int .i64 n] w fun r w' => r = .returned (.tuple #[.agg (gA (geoF n)), .int .i64 0]) ∧ Below w.heap.size w w' := by
  have hn : geoF n 0 = n := by unfold geoF; simp [h0, h1]
  have hz : ¬ geoF n 0 = 0 := by omega
  clear hn
  have hL := fun w => laid_yes n w h0 h1
  clear h0 h1
  generalize geoF n = f at hz hL ⊢
  go_enter Try.func10, Try.ntmps10
  go_wp2_with (go_at_call 16; refine (hL _).mono ?_; rintro e w1 ⟨rfl, rfl⟩)
  refine geo_bodyPost2 2 3 w.heap.size 37 f rfl rfl rfl ?_ ⟨rfl, ?_⟩
  · rw [heap_old _ _ _ (by simp <;> omega), heap_old _ _ _ (by simp <;> omega), heap_old _ _ _ (by simp <;> omega), heap_new]; rfl
  · exact ((((Below.refl _ _).alloc (Nat.le_refl _) _).alloc (by simp <;> omega) _).alloc (by simp <;> omega) _).alloc (by simp <;> omega) _
set_option maxHeartbeats 400000 in
theorem of_no (n : Int) (w : World) (h : ¬ (64 ≤ n ∧ n ≤ 1024)) (h0 : -9223372036854775808 ≤ n) (h1 : n ≤ 9223372036854775807) :
    Calls Try.prog 10 #[.int .i64 n] w fun r w' => r = .returned (.tuple #[.agg (gA fun _ => 0), .int .i64 22]) ∧ Below w.heap.size w w' := by
  have hL := fun w => laid_no n w h h0 h1
  go_enter Try.func10, Try.ntmps10
  go_wp2_with (go_at_call 16; refine (hL _).mono ?_; rintro e w1 ⟨rfl, rfl⟩)
  refine geo_bodyPost2 2 3 w.heap.size 37 (fun _ => 0) rfl rfl rfl ?_ ⟨rfl, ?_⟩
  · rw [heap_old _ _ _ (by simp <;> omega), heap_old _ _ _ (by simp <;> omega), heap_new]; rfl
  · exact (((Below.refl _ _).alloc (Nat.le_refl _) _).alloc (by simp <;> omega) _).alloc (by simp <;> omega) _
def tgtB (n at' : Int) : Bool := decide (0 ≤ at') && decide (at' < n) && (decide (at' < 2) || decide (10 < at'))
end Go.Proofs.Ytakbapdonngpiaa
