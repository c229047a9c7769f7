import Derived.Test.YtddmmmfpdmejbaaGreatDoorCards
import Derived.Test.YtddmmmfpdmejbaaGreatDoorTie
import Derived.Test.YtddmmmfpdmejbaaGreatDoorQJsZ
import Derived.Test.YtddmmmfpdmejbaaGreatDoorQOpen
import Derived.Stop.LaidErr
import Derived.LaidMore
import Derived.Deep.DeepWitnessRowRef
namespace Go.Proofs.YtddmmmfpdmejbaaGreatDoor
open Go.ChangeShapes Go.WideShapes Go.ChangeAt Go.RowKit

/-! What the listed variables give -/
theorem gES : Tryz.prog.globalNamed "strconv.ErrSyntax" = some 1 := by kernel_rfl
theorem gER : Tryz.prog.globalNamed "strconv.ErrRange" = some 2 := by kernel_rfl
theorem gEST : (Tryz.prog.globals[1]?).map (·.type) = some 102 := by kernel_rfl
theorem gERT : (Tryz.prog.globals[2]?).map (·.type) = some 102 := by kernel_rfl
theorem gTB : Tryz.prog.globalNamed "internal/strconv.uint64pow10" = some 0 := by kernel_rfl
theorem gTBT : (Tryz.prog.globals[0]?).map (·.type) = some 188 := by kernel_rfl
theorem cellsTB : Tryz.prog.cellsOf 188 = 20 := by kernel_rfl
theorem cellsU64 : Tryz.prog.cellsOf 12 = 1 := by kernel_rfl
theorem cellsES : Tryz.prog.cellsOf 204 = 1 := by kernel_rfl
theorem cellsSt : Tryz.prog.cellsOf 9 = 1 := by kernel_rfl
theorem starES : "*" ++ "errors.errorString" = "*errors.errorString" := by decide
theorem rowES (u : TypeId) (h : Tryz.prog.typeName? 3 u = some "*errors.errorString") : u = 202 :=
  typeName_ptr_named (nm := "errors.errorString") (by rw [starES]; kernel_rfl) (by kernel_rfl) (by decide) u (by rw [starES]; exact h)
set_option maxRecDepth 100000 in
theorem v15 {W : World} (h : laidMetH Tryz.prog Rows.jsonReadsRow.laid W) : VJ W := by
  rw [MakeChecks.laidMetH_plain _ _ _ (by kernel_rfl)] at h
  have h2 := h.tail.tail
  have h3 := h2.tail
  have h4 := h3.tail
  obtain ⟨a3, s3, hv3, -⟩ := laid_sentinel h3 gER gERT Tryz.underlying102 rowES Tryz.underlying202 Tryz.underlying204 rfl rfl Tryz.underlying9 cellsES cellsSt
  obtain ⟨a4, s4, hv4, -⟩ := laid_sentinel h4 gES gEST Tryz.underlying102 rowES Tryz.underlying202 Tryz.underlying204 rfl rfl Tryz.underlying9 cellsES cellsSt
  refine ⟨⟨⟨202, .pointer (some a4), ?_⟩, ⟨202, .pointer (some a3), ?_⟩⟩, ?_⟩
  · have h0 := World.var?_cell gES hv4 0
    simpa using h0
  · have h0 := World.var?_cell gER hv3 0
    simpa using h0
  · exact Lib.tabIs_of_head gTB gTBT Tryz.underlying188 Tryz.underlying12 cellsU64 cellsTB h2
end Go.Proofs.YtddmmmfpdmejbaaGreatDoor
