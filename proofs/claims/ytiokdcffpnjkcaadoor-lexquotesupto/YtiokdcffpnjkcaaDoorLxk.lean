
import Derived.Test.YtiokdcffpnjkcaaDoorCards
import Derived.Test.YtiokdcffpnjkcaaDoorTie
import Derived.Test.YtiokdcffpnjkcaaDoorLexZ
import Derived.Test.YtiokdcffpnjkcaaDoorOpen
import Derived.Stop.LaidErr
import Derived.LaidMore
import Derived.Deep.DeepWitnessRowRef
namespace Go.Proofs.YtiokdcffpnjkcaaDoor
open Go.ChangeShapes Go.WideShapes Go.ChangeAt Go.RowKit

/-! What the listed variables give -/
theorem gES : Tryd.prog.globalNamed "strconv.ErrSyntax" = some 0 := by kernel_rfl
theorem gER : Tryd.prog.globalNamed "strconv.ErrRange" = some 1 := by kernel_rfl
theorem gEST : (Tryd.prog.globals[0]?).map (·.type) = some 49 := by kernel_rfl
theorem gERT : (Tryd.prog.globals[1]?).map (·.type) = some 49 := by kernel_rfl
theorem cellsES : Tryd.prog.cellsOf 97 = 1 := by kernel_rfl
theorem cellsSt : Tryd.prog.cellsOf 9 = 1 := by kernel_rfl
theorem starES : "*" ++ "errors.errorString" = "*errors.errorString" := by decide
theorem rowES (u : TypeId) (h : Tryd.prog.typeName? 3 u = some "*errors.errorString") : u = 95 :=
  typeName_ptr_named (nm := "errors.errorString") (by rw [starES]; kernel_rfl) (by kernel_rfl) (by decide) u (by rw [starES]; exact h)


theorem vx_of_laid {W : World} (h : laidMetH Tryd.prog Rows.lexCutsRow.laid W) : Vx W := by
  rw [MakeChecks.laidMetH_plain _ _ _ (by kernel_rfl)] at h
  have h3 := h.tail.tail.tail
  have h4 := h3.tail
  obtain ⟨a3, s3, hv3, -⟩ := laid_sentinel h3 gER gERT Tryd.underlying49 rowES Tryd.underlying95 Tryd.underlying97 rfl rfl Tryd.underlying9 cellsES cellsSt
  obtain ⟨a4, s4, hv4, -⟩ := laid_sentinel h4 gES gEST Tryd.underlying49 rowES Tryd.underlying95 Tryd.underlying97 rfl rfl Tryd.underlying9 cellsES cellsSt
  refine ⟨⟨95, .pointer (some a4), ?_⟩, ⟨95, .pointer (some a3), ?_⟩⟩
  · have h0 := World.var?_cell gES hv4 0
    simpa using h0
  · have h0 := World.var?_cell gER hv3 0
    simpa using h0
/-- The door's own heap meets the list. -/
theorem door_met (os : Os) (args : Array Value) : laidMetH Tryd.prog Rows.lexCutsRow.laid ((World.doorLaid Tryd.prog 400 os).forCall (fun _ _ => 0) ⟨#[], args, []⟩).memory :=
  laidMetH_of_parts3 (fuel := 8) (laidMet_of_run' 8 (by kernel_rfl) (by kernel_rfl)) (by kernel_rfl) (by kernel_rfl)
end Go.Proofs.YtiokdcffpnjkcaaDoor
