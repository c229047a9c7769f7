import Derived.Test.YtpckdkgbeemalaaQNum
import Derived.Test.YtpckdkgbeemalaaQGeoT
import Derived.Test.YtpckdkgbeemalaaQRelp
import Derived.Defers
import Derived.Recover
import Derived.WalkLawsBesides
namespace Go.Proofs.Ytpckdkgbeemalaa
open Go.RowKit

/-! mark: giving up (a panic with an Errno), the disk's places. -/
def gup (e : Int) : List PanicEntry := [{ v := .iface 29 (.int .i64 e), recovered := false }]
theorem giveUp_any (e : Int) (w : World) :
    Calls Try.prog 73 #[.int .i64 e] w fun r w' => r = .panicked (gup e) ∧ w' = w := by
  go_enter Try.func73, Try.ntmps73
  go_wp2
  exact ⟨rfl, rfl, rfl⟩
theorem geo_postC {fn : Func} {R : Ending → World → Prop} {a : Act} {w : World} (p n : Nat) (f : Nat → Int) (hres : fn.results = #[.cell p 106]) (hp : a.tmps.getD p undef = .pointer (some ⟨n, 0, none⟩)) (hd : a.defers = [])
    (hg : RowC w n (gA f)) (h : R (.returned (.agg (gA f))) w) : bodyPost Try.prog fn R .ret a w := by
  obtain ⟨t, ht⟩ : ∃ t, w.heap[n]? = some (.cells (gA f) t (0, 0)) := by
    obtain ⟨h1, h2⟩ := hg
    unfold rowL at h1
    unfold rowAt at h2
    split at h1
    · rename_i c t fr hq
      rw [hq] at h2
      simp only at h2
      simp only [beq_iff_eq] at h1
      exact ⟨t, by rw [hq, h1, h2]⟩
    · cases h1
  exact geo_bodyPost p n t f hres hp hd ht h
theorem disk_yes (n : Int) (w : World) (h0 : 64 ≤ n) (h1 : n ≤ 1024) :
    Calls Try.prog 55 #[.int .i64 n] w fun r w' => r = .returned (.agg (gA (geoF n))) ∧ Below w.heap.size w w' := by
  have hO := fun w => of_yes n w h0 h1
  clear h0 h1
  go_enter Try.func55, Try.ntmps55
  go_wp2_with (go_at_call 72; refine (hO _).mono ?_; rintro e w1 ⟨rfl, hB⟩; have hR : RowC w1 w.heap.size (gA fun _ => 0) := (RowC.new w _ _).kept hB; have HR : Hid (RowC w1 w.heap.size (gA fun _ => 0)) := hR; have hl : w.heap.size < w1.heap.size := hR.lt; obtain ⟨q1, q2⟩ := hR)
  have H1 := HR.out.kept (below_alloc w1 (.cells (gA (geoF n)) 106))
  refine geo_postC 2 w.heap.size (geoF n) rfl rfl rfl ?_ ⟨rfl, ?_⟩
  · first | exact H1.setRow _ | exact (HR.out.setRow _).kept (below_alloc _ _)
  · first | exact below_row (((below_alloc w _).trans (hB.mono (by simp))).alloc (by omega) _) (Nat.le_refl _) _ | exact (below_row (((below_alloc w _).trans (hB.mono (by simp)))) (Nat.le_refl _) _).alloc (by simp; omega) _
theorem disk_no (n : Int) (w : World) (h : ¬ (64 ≤ n ∧ n ≤ 1024)) (h0 : -9223372036854775808 ≤ n) (h1 : n ≤ 9223372036854775807) :
    Calls Try.prog 55 #[.int .i64 n] w fun r w' => r = .panicked (gup 22) ∧ Below w.heap.size w w' := by
  have hO := fun w => of_no n w h h0 h1
  clear h h0 h1
  go_enter Try.func55, Try.ntmps55
  go_wp2_with (first | (go_at_call 72; refine (hO _).mono ?_; rintro e w1 ⟨rfl, hB⟩) | (go_at_call 73; refine (giveUp_any _ _).mono ?_; rintro e w2 ⟨rfl, rfl⟩))
  have hB1 : Below w.heap.size w w1 := (below_alloc w _).trans (hB.mono (by simp))
  exact ⟨rfl, rfl, hB1.alloc hB1.size _⟩
end Go.Proofs.Ytpckdkgbeemalaa
