
import Derived.Test.YtmbkkdojjfdliaaKel
import Derived.Test.YtmbkkdojjfdliaaRely
import Derived.Test.YtmbkkdojjfdliaaRelt
import Derived.BigQuiet
import Derived.Deep.QuietTactic
import Derived.WalkSpells
import Derived.Laws.StructEq
namespace Go.Proofs.Ytmbkkdojjfdliaa
open Go.RowKit

/-! Slices of sectors and of writes -/
abbrev Sc := Nat → UInt8
abbrev Wr := Int × Sc
def rgOk (w : World) (b o k : Nat) : Bool := (List.range k).all fun j => (w.cell? ⟨b, o + j, none⟩).isSome
def rg (w : World) (b o k : Nat) : Array Value := ((List.range k).map fun j => (w.cell? ⟨b, o + j, none⟩).getD undef).toArray
theorem rg_of {w : World} {b o k : Nat} {cs : List Value} (h : w.rangeAt b o cs) (hk : cs.length = k) : rgOk w b o k = true ∧ rg w b o k = cs.toArray := by
  subst hk
  have hc : ∀ j (hj : j < cs.length), w.cell? ⟨b, o + j, none⟩ = some cs[j] := fun j hj => h j _ (List.getElem?_eq_getElem hj)
  constructor
  · unfold rgOk
    rw [List.all_eq_true]
    intro j hj
    rw [hc j (by simpa using hj)]; rfl
  · unfold rg
    congr 1
    apply List.ext_getElem (by simp)
    intro j h1 h2
    simp [hc j h2]
theorem rangeAt_rg {w : World} {b o k : Nat} (h : rgOk w b o k = true) : w.rangeAt b o (rg w b o k).toList := fun j v hv => by
  have hj : j < k := by have := (List.getElem?_eq_some_iff.1 hv).1; simpa [rg] using this
  unfold rgOk at h
  have hs := List.all_eq_true.1 h j (by simpa using hj)
  obtain ⟨u, hu⟩ := Option.isSome_iff_exists.1 hs
  simp [rg, hj, hu] at hv
  rw [hu, hv]
theorem rg_size (w : World) (b o k : Nat) : (rg w b o k).size = k := by simp [rg]
@[go_sem] theorem rg_drewN (w : World) (n b o k : Nat) : rg (w.drewN n) b o k = rg w b o k := rfl
@[go_sem] theorem rgOk_drewN (w : World) (n b o k : Nat) : rgOk (w.drewN n) b o k = rgOk w b o k := rfl
@[go_sem] theorem rg_drew (w : World) (b o k : Nat) : rg w.drew b o k = rg w b o k := rfl
@[go_sem] theorem rgOk_drew (w : World) (b o k : Nat) : rgOk w.drew b o k = rgOk w b o k := rfl
theorem rg_later {w w1 : World} {b : Nat} (hb : Below w.heap.size w w1) (hlt : b < w.heap.size) (o k : Nat) : rgOk w1 b o k = rgOk w b o k ∧ rg w1 b o k = rg w b o k := by
  have h : ∀ j, w1.cell? ⟨b, o + j, none⟩ = w.cell? ⟨b, o + j, none⟩ := fun j => hb.cell (p := ⟨b, o + j, none⟩) hlt
  unfold rgOk rg
  simp only [h]
  exact ⟨trivial, trivial⟩
def wrA (x : Wr) : Array Value := #[.int .i64 x.1] ++ secA x.2
theorem wrA_size (x : Wr) : (wrA x).size = 65 := by simp [wrA]
theorem wrA_list (x : Wr) : (wrA x).toList = .int .i64 x.1 :: (secA x.2).toList := by simp [wrA]
theorem wrA_one (x : Wr) : (wrA x).all (·.oneCell') = true := by
  rw [Array.all_eq_true_iff_forall_mem]
  intro v hv
  simp only [wrA, Array.mem_append] at hv
  rcases hv with hv | hv
  · simp at hv; subst hv; rfl
  · exact Array.all_eq_true_iff_forall_mem.1 (secA_one x.2) v hv
def wrZ : Wr := (0, secZ)
def wrE : EK Wr := { T := 29, S := 22, k := 65, bytes := 72, z := .agg (wrA wrZ), enc := fun x => (wrA x).toList }
theorem wrE_ok : wrE.Ok where
  len x := by unfold wrE; simp only; rw [Array.length_toList]; exact wrA_size x
  one x v hv := by
    unfold wrE at hv
    simp only at hv
    exact Array.all_eq_true_iff_forall_mem.1 (wrA_one x) v (Array.mem_toList_iff.1 hv)
  und := Try.underlying22
  info := by
    have h : (Try.prog.info? 29).map (fun i => (i.zero, i.size, i.bytes)) = some (some (.agg (wrA wrZ)), 65, 72) := by kernel_rfl
    exact h
  zc := by unfold wrE; simp only [Value.cells]; exact wrA_size wrZ
  kp := by show 0 < 65; omega
  row := ⟨_, Try.underlying29, rfl⟩
/-! Operations on whole sectors in the middle of a row, and on whole writes -/
@[go_sem] theorem run_secLoad_mid (w : World) (b o : Nat) (h : rgOk w b o 64 = true) : (secLoad (.pointer (some ⟨b, o, none⟩))).run Try.prog w = .ok (.value (.agg (rg w b o 64))) w := by
  simp only [secLoad, Sem.run_bind]
  rw [run_loadAt_mid w b o 27 _ _ (rangeAt_rg h) Try.underlying27 rfl (by rw [size27, Array.length_toList, rg_size])]
  rfl
theorem size_wr : (Try.prog.info? 29).map (·.size) = some 65 := by kernel_rfl
def wrLoad (p : Value) : Sem Next := do pure (.value (← Instr.loadAt 29 p))
def wrStore (p x : Value) : Sem Next := do Instr.storeAt 29 p x; pure .skip
def wrBuild2 (x y : Value) : Sem Next := do pure (.value (← Instr.build 29 #[(0, x), (1, y)]))
def wrBuild1 (x : Value) : Sem Next := do pure (.value (← Instr.build 29 #[(0, x)]))
def wrBin (op : BinOp) (x y : Operand) (u v : Value) : Sem Next := do pure (.value (← (do eqGuard op 29 x y u v; binOp op 29 u v)))
section
variable (ρ : Operand → Value) (dst : Option Tmp) (ty ty' : TypeId) (pos : String) (after : Array Edge) (guard : Option (Nat × Bool))
@[go_sem ↓] theorem execOp_wrLoad (x : Operand) : execOp ρ { dst, op := .load 29 x, type := ty, pos, after, guard } = wrLoad (ρ x) := rfl
@[go_sem ↓] theorem execOp_wrStore (x y : Operand) : execOp ρ { dst, op := .store 29 x y, type := ty, pos, after, guard } = wrStore (ρ x) (ρ y) := rfl
@[go_sem ↓] theorem execOp_wrBuild2 (x y : Operand) : execOp ρ { dst, op := .build 29 #[(0, x), (1, y)], type := ty, pos, after, guard } = wrBuild2 (ρ x) (ρ y) := by simp [execOp, wrBuild2]
@[go_sem ↓] theorem execOp_wrBuild1 (x : Operand) : execOp ρ { dst, op := .build 29 #[(0, x)], type := ty, pos, after, guard } = wrBuild1 (ρ x) := by simp [execOp, wrBuild1]
@[go_sem ↓] theorem execOp_wrBin (op : BinOp) (x y : Operand) : execOp ρ { dst, op := .binOp op 29 x y ty', type := ty, pos, after, guard } = wrBin op x y (ρ x) (ρ y) := rfl
end
@[go_sem] theorem run_wrLoad_mid (w : World) (b o : Nat) (h : rgOk w b o 65 = true) : (wrLoad (.pointer (some ⟨b, o, none⟩))).run Try.prog w = .ok (.value (.agg (rg w b o 65))) w := by
  simp only [wrLoad, Sem.run_bind]
  rw [run_loadAt_mid w b o 29 _ _ (rangeAt_rg h) Try.underlying29 rfl (by rw [size_wr, Array.length_toList, rg_size])]
  rfl
def wrEq (x y : Wr) : Bool := (x.1 == y.1) && secEq x.2 y.2
theorem wrA_at (x : Wr) : (wrA x)[0]? = some (.int .i64 x.1) := by simp [wrA]
theorem wrA_data (x : Wr) : (wrA x).extract 1 (1 + 64) = secA x.2 := by
  apply Array.ext_getElem?
  intro i
  by_cases hi : i < 64
  · rw [Array.getElem?_extract, if_pos (by rw [wrA_size]; omega)]
    unfold wrA
    rw [Array.getElem?_append_right (by simp)]
    congr 1
    simp
  · rw [Array.getElem?_eq_none (by simp [wrA_size]; omega), Array.getElem?_eq_none (by simp; omega)]
theorem run_equal_sec9 (w : World) (s t : Sc) : (Op.equalIn 9999 27 (.agg (secA s)) (.agg (secA t))).run Try.prog w = .ok (secEq s t) w := by
  rw [secA_cells, secA_cells, run_equalIn_bytes w 9997 27 5 64 Try.underlying27 Try.underlying5 sizeE _ _ (by simp) (by simp), beq_secL]
theorem run_equal_wr (w : World) (x y : Wr) : (Op.equalIn 10000 29 (.agg (wrA x)) (.agg (wrA y))).run Try.prog w = .ok (wrEq x y) w := by
  have p1 : ∀ (x : Wr) (W : World), (part 3 (wrA x) 0).run Try.prog W = .ok (.int .i64 x.1) W := fun x W => by
    unfold part
    simp only [Sem.run_bind, Try.isAgg3, Result.andThen_ok, Bool.false_eq_true, if_false, wrA_at, Sem.run_pure]
  have p2 : ∀ (x : Wr) (W : World), (part 27 (wrA x) 1).run Try.prog W = .ok (.agg (secA x.2)) W := fun x W => by
    unfold part
    simp only [Sem.run_bind, Try.isAgg27, Result.andThen_ok, if_true, Try.sizeOf27, Sem.run_pure, wrA_data]
  have p3 : ∀ (a b : Int) (W : World), (Op.equalIn 9999 3 (.int .i64 a) (.int .i64 b)).run Try.prog W = .ok (a == b) W := fun a b W => run_equalIn_int W 9998 3 .i64 .i64 _ _ Try.underlying3
  rw [run_equalIn_struct w 9999 29 _ _ (by kernel_rfl) (by kernel_rfl)]
  simp only [Program.fieldsOf, Try.underlying29]
  simp [Op.eqFields, p1, p2, p3, run_equal_sec9, wrEq]
  by_cases h : x.1 = y.1
  · cases h2 : secEq x.2 y.2 <;> simp [h]
  · simp [h]
theorem eqGuard_wr (w : World) (op : BinOp) (x y : Operand) (xs ys : Array Value) : (eqGuard op 29 x y (.agg xs) (.agg ys)).run Try.prog w = .ok () w :=
  run_eqGuard_agg w op 29 x y xs ys (by kernel_rfl)
@[go_sem] theorem run_wrNeq (w : World) (x y : Operand) (s t : Wr) : (wrBin .neq x y (.agg (wrA s)) (.agg (wrA t))).run Try.prog w = .ok (.value (.bool (!wrEq s t))) w := by
  simp only [wrBin, Sem.run_bind, eqGuard_wr, Result.andThen_ok]
  rw [run_neq_struct, run_equal_wr]; rfl
theorem wrPlaces : (Try.prog.info? 3).map (·.size) = some 1 ∧ (Try.prog.info? 27).map (·.size) = some 64 := ⟨by kernel_rfl, by kernel_rfl⟩
theorem built_wr (ps : List (Nat × Value)) : Try.prog.built 29 ps = Instr.fill (fun i => #[(0, 1), (1, 64)][i]?) (wrA wrZ) ps := by
  obtain ⟨i, hi, hzz⟩ := Option.map_eq_some_iff.1 wrE_ok.info
  simp only [Prod.mk.injEq] at hzz
  obtain ⟨i1, h1, s1⟩ := Option.map_eq_some_iff.1 wrPlaces.1
  obtain ⟨i2, h2, s2⟩ := Option.map_eq_some_iff.1 wrPlaces.2
  have hz : i.zero = some (.agg (wrA wrZ)) := hzz.1
  have hi' : Try.prog.info? 29 = some i := hi
  unfold Program.built
  simp only [hi', Try.underlying29, hz]
  simp [h1, h2, s1, s2, Value.cells]
theorem blit_at (a : Int) (x : Wr) : (#[Value.int .i64 a].zipIdx.foldl (fun (cs : Array Value) p => cs.setIfInBounds (0 + p.2) p.1) (wrA x)) = wrA (a, x.2) := by
  apply Array.ext_getElem?
  intro i
  rw [blit_get, wrA_size]
  by_cases h0 : i = 0
  · subst h0; simp [wrA]
  · rw [if_neg (by simp; omega)]
    unfold wrA
    rw [Array.getElem?_append_right (by simp; omega), Array.getElem?_append_right (by simp; omega)]
    rfl
theorem blit_data (s : Sc) (x : Wr) : ((secA s).zipIdx.foldl (fun (cs : Array Value) p => cs.setIfInBounds (1 + p.2) p.1) (wrA x)) = wrA (x.1, s) := by
  apply Array.ext_getElem?
  intro i
  rw [blit_get, wrA_size, secA_size]
  by_cases h0 : i = 0
  · subst h0
    rw [if_neg (by omega), wrA_at, wrA_at]
  · by_cases h1 : i < 65
    · rw [if_pos (by omega)]
      unfold wrA
      rw [Array.getElem?_append_right (by simp; omega)]
      congr 1
    · rw [if_neg (by omega), Array.getElem?_eq_none (by rw [wrA_size]; omega), Array.getElem?_eq_none (by rw [wrA_size]; omega)]
def wrP (i : Nat) : Option (Nat × Nat) := #[(0, 1), (1, 64)][i]?
theorem fill_at (a : Int) (x : Wr) (ps : List (Nat × Value)) : Instr.fill wrP (wrA x) ((0, .int .i64 a) :: ps) = Instr.fill wrP (wrA (a, x.2)) ps := by
  have hc : (Value.int .i64 a).cells = #[.int .i64 a] := rfl
  have hp : wrP 0 = some (0, 1) := rfl
  rw [← blit_at a x]
  generalize hx : wrA x = X
  have hs : X.size = 65 := by rw [← hx]; exact wrA_size x
  rw [Instr.fill]
  simp only [hc, hp]
  rw [if_neg (by simp [hs])]
theorem fill_data (s : Sc) (x : Wr) (ps : List (Nat × Value)) : Instr.fill wrP (wrA x) ((1, .agg (secA s)) :: ps) = Instr.fill wrP (wrA (x.1, s)) ps := by
  have hc : (Value.agg (secA s)).cells = secA s := rfl
  have hp : wrP 1 = some (1, 64) := rfl
  rw [← blit_data s x]
  generalize hx : wrA x = X
  have hs : X.size = 65 := by rw [← hx]; exact wrA_size x
  have hq := secA_size s
  generalize secA s = Y at hc hq
  rw [Instr.fill]
  simp only [hp]
  rw [hc, if_neg (by simp [hs, hq])]
@[go_sem] theorem run_wrBuild2 (w : World) (a : Int) (s : Sc) : (wrBuild2 (.int .i64 a) (.agg (secA s))).run Try.prog w = .ok (.value (.agg (wrA (a, s)))) w := by
  simp only [wrBuild2, Sem.run_bind]
  rw [run_build w 29 _ (wrA (a, s)) (by rw [built_wr]; show Instr.fill wrP _ [(0, .int .i64 a), (1, .agg (secA s))] = _; rw [fill_at, fill_data]; rfl)]
  rfl
@[go_sem] theorem run_wrBuild1 (w : World) (a : Int) : (wrBuild1 (.int .i64 a)).run Try.prog w = .ok (.value (.agg (wrA (a, secZ)))) w := by
  simp only [wrBuild1, Sem.run_bind]
  rw [run_build w 29 _ (wrA (a, secZ)) (by rw [built_wr]; show Instr.fill wrP _ [(0, .int .i64 a)] = _; rw [fill_at]; rfl)]
  rfl
def wrBS (x : Value) : Sem Next := do pure (.value (← Instr.buildSlice 22 1 #[(0, x)]))
section
variable (ρ : Operand → Value) (dst : Option Tmp) (ty : TypeId) (pos : String) (after : Array Edge) (guard : Option (Nat × Bool))
@[go_sem ↓] theorem execOp_wrBS (x : Operand) : execOp ρ { dst, op := .buildSlice 22 1 #[(0, x)], type := ty, pos, after, guard } = wrBS (ρ x) := by simp [execOp, wrBS]
end
theorem toA (a : Array Value) : a.toList.toArray = a := Array.toArray_toList
@[go_sem] theorem run_wrBS (w : World) (x : Wr) : (wrBS (.agg (wrA x))).run Try.prog w = .ok (.value (.slice (some ⟨w.heap.size, 0, none⟩) 1 1)) (w.alloc (.cells (wrA x) 29)) := by
  have h := run_litK1 wrE_ok (by show 65 ≤ 1000; omega) w x
  simp only [wrE, toA] at h
  simp only [wrBS, Sem.run_bind, h]
  rfl
end Go.Proofs.Ytmbkkdojjfdliaa
