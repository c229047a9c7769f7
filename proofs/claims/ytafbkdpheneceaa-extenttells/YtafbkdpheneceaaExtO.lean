
import Derived.Test.YtafbkdpheneceaaExt2
import Derived.Test.YtafbkdpheneceaaExtN
namespace Go.Proofs.Ytafbkdpheneceaa
open Go.RowKit

/-! assaylaw08's Op: four numbers -/
structure Op8 where
  k : Int
  on : Int
  a : Int
  b : Int
def op8A (o : Op8) : Array Value := #[.int .i64 o.k, .int .i64 o.on, .int .i64 o.a, .int .i64 o.b]
def op8Z : Op8 := ⟨0, 0, 0, 0⟩
@[go_sem] theorem op8A_size (o : Op8) : (op8A o).size = 4 := by unfold op8A; simp
theorem op8A_one (o : Op8) : OneC (op8A o) = true := by simp [OneC, op8A, Value.oneCell']
def opE8 : EK Op8 := { T := 29, S := 22, k := 4, bytes := 32, z := .agg (op8A op8Z), enc := fun o => (op8A o).toList }
theorem opE8_enc (o : Op8) : opE8.enc o = (op8A o).toList := by simp only [opE8]
theorem opE8_k : opE8.k = 4 := rfl
theorem opE8_ok : opE8.Ok where
  len x := by rw [opE8_enc, Array.length_toList, op8A_size]; rfl
  one x v hv := by
    have h := op8A_one x
    unfold OneC at h
    exact Array.all_eq_true_iff_forall_mem.1 h v (by rw [opE8_enc] at hv; simpa using hv)
  und := Try.underlying22
  info := by
    have h : (Try.prog.info? 29).map (fun i => (i.zero, i.size, i.bytes)) = some (some (.agg (op8A op8Z)), 4, 32) := by kernel_rfl
    exact h
  zc := by show (op8A op8Z).size = 4; simp [op8A]
  kp := by show 0 < 4; omega
  row := ⟨_, Try.underlying29, rfl⟩
def Op8.Ok (o : Op8) : Prop := i64 o.k ∧ i64 o.on ∧ i64 o.a ∧ i64 o.b
theorem op8_cells {w : World} {b o : Nat} {x : Op8} (h : w.rangeAt b o (opE8.enc x)) : w.cell? ⟨b, o, none⟩ = some (.int .i64 x.k) ∧ w.cell? ⟨b, o + 1, none⟩ = some (.int .i64 x.on) ∧ w.cell? ⟨b, o + 2, none⟩ = some (.int .i64 x.a) ∧ w.cell? ⟨b, o + 3, none⟩ = some (.int .i64 x.b) := by
  rw [opE8_enc] at h
  exact ⟨h 0 _ rfl, h 1 _ rfl, h 2 _ rfl, h 3 _ rfl⟩
theorem pr_cells {w : World} {b o : Nat} {p : Pr} (h : w.rangeAt b o (prE.enc p)) : w.cell? ⟨b, o, none⟩ = some (.int .i64 p.1) ∧ w.cell? ⟨b, o + 1, none⟩ = some (.int .i64 p.2) := by
  rw [prE_enc] at h
  exact ⟨h 0 _ rfl, h 1 _ rfl⟩
theorem rI_at {l : List (Nat × Nat)} {i : Nat} {p : Nat × Nat} (h : l[i]? = some p) : (rI l)[i]? = some ((p.1 : Int), (p.2 : Int)) := by simp [rI, h]
theorem slice_block {y : Option Addr} {n c : Nat} {W : World} {B : Nat} {ds : List Pr} (h : OwnK prE W B (.slice y n c) ds) (h0 : 0 < ds.length) : ∃ g, y = some ⟨g, 0, none⟩ := by
  obtain ⟨g, hg, -⟩ := h.form h0
  exact ⟨g, hg⟩
end Go.Proofs.Ytafbkdpheneceaa
