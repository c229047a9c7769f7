import Derived.Test.YtalnbddkhojjbaaGreatDoorQMzh
import Derived.Test.YtalnbddkhojjbaaGreatDoorQJsZ
import Derived.Test.YtalnbddkhojjbaaGreatDoorQDig2
import Derived.Test.YtalnbddkhojjbaaGreatDoorCards
import Derived.Test.YtalnbddkhojjbaaGreatDoorTie
import Derived.Test.YtalnbddkhojjbaaGreatDoorQNum
import Derived.Stop.LaidErr
import Derived.LaidMore
import Derived.Deep.DeepWitnessRowRef
namespace Go.Proofs.YtalnbddkhojjbaaGreatDoor
open Go.RowKit

set_option linter.unusedSimpArgs false in
set_option maxRecDepth 100000 in
set_option maxHeartbeats 8000000 in
theorem fldOk : FldOk := by
  intro d F v s w hv hd
  have hf := fieldI15_any d F v s w hv
  have hdp := fun x hx => fldN_dep d x (lS s) hx
  obtain ⟨O, hO⟩ : ∃ q, fldN d (lS s) = q := ⟨_, rfl⟩
  rw [hO] at hf hdp
  rw [hO]
  clear hO
  go_enter Tryz.func38, Tryz.ntmps38
  go_wp2_with fail
  refine hf.mono ?_
  rintro e w1 ⟨⟨x, b, rfl, hy, hno⟩, hb1⟩
  clear hf
  cases O with
  | none =>
    obtain ⟨rfl, rfl⟩ := hno rfl
    clear hy hno
    go_wp2
    go_ret2
    exact ⟨⟨_, _, rfl, fun d h => (by cases h), fun _ => ⟨rfl, rfl⟩⟩, hb1⟩
  | some dd =>
    obtain ⟨rfl, hx⟩ := hy dd rfl
    have hdd := hdp dd rfl
    have h1 := deeper15_any dd w1 F x 65536 hx (by omega)
    rw [decide_eq_false (by omega)] at h1
    have h1' : Calls Tryz.prog 50 #[x, .int .i64 65536] w1 fun e w' => e = .returned (.bool false) ∧ Below w1.heap.size w1 w' := h1
    clear h1 hy hno hdp
    go_wp2_with fail
    refine h1'.mono ?_
    rintro e w2 ⟨rfl, hb2⟩
    clear h1'
    have hC := cloneV15_any dd w2 F x (hx.kept hb2)
    go_wp2_with fail
    refine hC.mono ?_
    rintro e w3 ⟨v', rfl, hv3, hb3⟩
    clear hC
    have hBl : Below w.heap.size w w3 := (hb1.trans (hb2.mono hb1.size)).trans (hb3.mono (Nat.le_trans hb1.size hb2.size))
    have HV : Hid (VlG w3 (w.heap.size ≤ ·) v' dd) := hv3.mono (fun b hb => Nat.le_trans (Nat.le_trans hb1.size hb2.size) hb)
    have hif := hv3.ifz
    clear hv3
    rcases hif with rfl | ⟨vt, vp, rfl⟩
    · go_wp2
      go_ret2
      exact ⟨⟨_, _, rfl, fun d h => ⟨rfl, by cases h; exact HV.out⟩, fun h => (by cases h)⟩, hBl⟩
    · go_wp2
      go_ret2
      exact ⟨⟨_, _, rfl, fun d h => ⟨rfl, by cases h; exact HV.out⟩, fun h => (by cases h)⟩, hBl⟩
theorem manOk : ManOk VJ := manOk_any jsOk fldOk textOk parseOk
end Go.Proofs.YtalnbddkhojjbaaGreatDoor
namespace Go.Proofs.YtalnbddkhojjbaaGreatDoor
open Go.ChangeShapes Go.WideShapes Go.ChangeAt Go.RowKit

theorem gES : Tryz.prog.globalNamed "strconv.ErrSyntax" = some 1 := by kernel_rfl
theorem gER : Tryz.prog.globalNamed "strconv.ErrRange" = some 2 := by kernel_rfl
theorem gEST : (Tryz.prog.globals[1]?).map (·.type) = some 118 := by kernel_rfl
theorem gERT : (Tryz.prog.globals[2]?).map (·.type) = some 118 := by kernel_rfl
theorem gTB : Tryz.prog.globalNamed "internal/strconv.uint64pow10" = some 0 := by kernel_rfl
theorem gTBT : (Tryz.prog.globals[0]?).map (·.type) = some 211 := by kernel_rfl
theorem cellsTB : Tryz.prog.cellsOf 211 = 20 := by kernel_rfl
theorem cellsU64 : Tryz.prog.cellsOf 12 = 1 := by kernel_rfl
theorem cellsES : Tryz.prog.cellsOf 225 = 1 := by kernel_rfl
theorem cellsSt : Tryz.prog.cellsOf 9 = 1 := by kernel_rfl
theorem starES : "*" ++ "errors.errorString" = "*errors.errorString" := by decide
theorem rowES (u : TypeId) (h : Tryz.prog.typeName? 3 u = some "*errors.errorString") : u = 223 :=
  typeName_ptr_named (nm := "errors.errorString") (by rw [starES]; kernel_rfl) (by kernel_rfl) (by decide) u (by rw [starES]; exact h)
set_option maxRecDepth 100000 in
theorem v16 {W : World} (h : laidMetH Tryz.prog Rows.manifestReadsRow.laid W) : VJ W := by
  rw [MakeChecks.laidMetH_plain _ _ _ (by kernel_rfl)] at h
  have h2 := h.tail.tail
  have h3 := h2.tail
  have h4 := h3.tail
  obtain ⟨a3, s3, hv3, -⟩ := laid_sentinel h3 gER gERT Tryz.underlying118 rowES Tryz.underlying223 Tryz.underlying225 rfl rfl Tryz.underlying9 cellsES cellsSt
  obtain ⟨a4, s4, hv4, -⟩ := laid_sentinel h4 gES gEST Tryz.underlying118 rowES Tryz.underlying223 Tryz.underlying225 rfl rfl Tryz.underlying9 cellsES cellsSt
  refine ⟨⟨⟨223, .pointer (some a4), ?_⟩, ⟨223, .pointer (some a3), ?_⟩⟩, ?_⟩
  · have h0 := World.var?_cell gES hv4 0
    simpa using h0
  · have h0 := World.var?_cell gER hv3 0
    simpa using h0
  · exact Lib.tabIs_of_head gTB gTBT Tryz.underlying211 Tryz.underlying12 cellsU64 cellsTB h2
end Go.Proofs.YtalnbddkhojjbaaGreatDoor
