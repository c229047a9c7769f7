import Derived.Test.YtalnbddkhojjbaaGreatDoorQNum
import Derived.Test.YtalnbddkhojjbaaGreatDoorQDigM
import Derived.Test.YtalnbddkhojjbaaGreatDoorQApp
import Derived.BigQuiet
import Derived.Deep.QuietTactic
import Derived.WalkSpells
import Derived.Deep.MidRow
import Derived.Deep.AppendLies
import Derived.Sort.Grow
import Derived.Lib.SlBytesConst
import Derived.Great.BuildSlice
import Derived.Lib.OthersKept
import Derived.Laws.RangeAny
namespace Go.Proofs.YtalnbddkhojjbaaGreatDoor
open Go.RowKit

/-- A row that holds a digest. -/
def DgR (w : World) (g : Nat) (s : Nat → UInt8) : Prop := dg_rowOk w g = true ∧ dg_rowAt w g = dg_secA s
theorem DgR.kept {w w1 : World} {g : Nat} {s : Nat → UInt8} (h : DgR w g s) (hb : Below w.heap.size w w1) : DgR w1 g s := dg_keepRow hb (dg_lt_of_rowOk h.1) h.1 h.2
theorem DgR.new (w : World) (s : Nat → UInt8) (t : TypeId) : DgR (w.alloc (.cells (dg_secA s) t)) w.heap.size s := ⟨dg_rowOk_new _ _ _ _ rfl (dg_secA_size _), dg_rowAt_new _ _ _ _ rfl⟩
theorem DgR.lt {w : World} {g : Nat} {s : Nat → UInt8} (h : DgR w g s) : g < w.heap.size := dg_lt_of_rowOk h.1
theorem DgR.cell {w : World} {g : Nat} {s : Nat → UInt8} (h : DgR w g s) (i : Nat) (hi : i < 32) : w.cell? ⟨g, i, none⟩ = some (Value.int .u8 ((s i).toNat : Int)) := by
  rw [dg_cell_rowAt h.1, h.2, dg_secA_get s i hi]
theorem DgR.frozen {w : World} {g : Nat} {s : Nat → UInt8} (h : DgR w g s) (i : Nat) : w.frozen? ⟨g, i, none⟩ = false := by
  obtain ⟨t, hg, _⟩ := dg_row_of_ok h.1
  simp [World.frozen?, hg]
theorem heap_setCell4 (w : World) (g i : Nat) (v : Value) (c : Array Value) (t : TypeId) (fr : Nat × Nat) (h : w.heap[g]? = some (.cells c t fr)) : (w.setCell ⟨g, i, none⟩ v).heap[g]? = some (.cells (c.setIfInBounds i v) t fr) := by
  unfold World.setCell
  rw [Array.getElem?_modify, if_pos rfl, h]
  rfl
theorem DgR.set {w : World} {g : Nat} {s : Nat → UInt8} (h : DgR w g s) (i : Nat) (b : UInt8) (hi : i < 32) : DgR (w.setCell ⟨g, i, none⟩ (.int .u8 (b.toNat : Int))) g (upd s i b) := by
  obtain ⟨t, hg, hs⟩ := dg_row_of_ok h.1
  have e := heap_setCell4 w g i (.int .u8 (b.toNat : Int)) _ t _ hg
  constructor
  · unfold dg_rowOk; rw [e]; simp [hs]
  · have e2 : dg_rowAt (w.setCell ⟨g, i, none⟩ (.int .u8 (b.toNat : Int))) g = (dg_rowAt w g).setIfInBounds i (.int .u8 (b.toNat : Int)) := by
      show (match (w.setCell ⟨g, i, none⟩ (.int .u8 (b.toNat : Int))).heap[g]? with | some (.cells c _ _) => c | _ => #[]) = _
      rw [e]
    rw [e2, h.2]; exact dg_secA_set s i b hi
theorem DgR.set_ne {w : World} {g k : Nat} {s : Nat → UInt8} (h : DgR w k s) (i : Nat) (v : Value) (hn : g ≠ k) : DgR (w.setCell ⟨g, i, none⟩ v) k s := by
  unfold DgR dg_rowOk dg_rowAt at *
  have e : (w.setCell ⟨g, i, none⟩ v).heap[k]? = w.heap[k]? := by simp only [World.setCell, Array.getElem?_modify]; rw [if_neg hn]
  rw [e]; exact h
def dg_box (x : Value) : Sem Next := do pure (.value (← Instr.box 33 x))
@[go_sem ↓] theorem execOp_box_dg (ρ : Operand → Value) (dst : Option Tmp) (ty : TypeId) (pos : String) (after : Array Edge) (guard : Option (Nat × Bool)) (x : Operand) : execOp ρ { dst, op := .box 33 x, type := ty, pos, after, guard } = dg_box (ρ x) := rfl
@[go_sem] theorem run_box_dg (w : World) (c : Array Value) : (dg_box (.agg c)).run Tryz.prog w = .ok (.value (.pointer (some ⟨w.heap.size, 0, none⟩))) (w.alloc (.cells c 33)) := by
  simp only [dg_box, Instr.box, newVar, Value.cells, Sem.run_bind]
  rfl
theorem below_drew4 {B : Nat} {W X : World} (h : Below B W X) (n : Nat) : Below B W (X.drewN n) := ⟨h.os, h.tape, h.output, h.size, h.block⟩
theorem digits_cut (n : Nat) (h : n < 16) : (ByteArray.mk #[48, 49, 50, 51, 52, 53, 54, 55, 56, 57, 97, 98, 99, 100, 101, 102]).extract n (n + 1) = ⟨#[digC n]⟩ := by
  rcases (by omega : n = 0 ∨ n = 1 ∨ n = 2 ∨ n = 3 ∨ n = 4 ∨ n = 5 ∨ n = 6 ∨ n = 7 ∨ n = 8 ∨ n = 9 ∨ n = 10 ∨ n = 11 ∨ n = 12 ∨ n = 13 ∨ n = 14 ∨ n = 15) with rfl | rfl | rfl | rfl | rfl | rfl | rfl | rfl | rfl | rfl | rfl | rfl | rfl | rfl | rfl | rfl <;> rfl
/-! Parts of strings -/
def strCut (x lo hi : Value) : Sem Next := do pure (.value (← Instr.sliceAt 9 x (some lo) (some hi) none))
def strCut0 (x hi : Value) : Sem Next := do pure (.value (← Instr.sliceAt 9 x none (some hi) none))
@[go_sem ↓] theorem execOp_strCut (ρ : Operand → Value) (dst : Option Tmp) (ty : TypeId) (pos : String) (after : Array Edge) (guard : Option (Nat × Bool)) (x lo hi : Operand) : execOp ρ { dst, op := .slice 9 x (some lo) (some hi) none, type := ty, pos, after, guard } = strCut (ρ x) (ρ lo) (ρ hi) := rfl
@[go_sem ↓] theorem execOp_strCut0 (ρ : Operand → Value) (dst : Option Tmp) (ty : TypeId) (pos : String) (after : Array Edge) (guard : Option (Nat × Bool)) (x hi : Operand) : execOp ρ { dst, op := .slice 9 x none (some hi) none, type := ty, pos, after, guard } = strCut0 (ρ x) (ρ hi) := rfl
@[go_sem] theorem run_strCut (w : World) (s : ByteArray) (lo hi : Nat) (a1 : (lo : Int) ≤ (hi : Int)) (a2 : (hi : Int) ≤ (s.size : Int)) : (strCut (.string s) (.int .i64 (lo : Int)) (.int .i64 (hi : Int))).run Tryz.prog w = .ok (.value (.string (s.extract lo hi))) w := by
  have b1 : ∀ W : World, (Instr.sliceBound (.int .i64 (hi : Int)) s.size BoundsCode.sliceAlen).run Tryz.prog W = .ok hi W := fun W => by
    have := run_sliceBound (P := Tryz.prog) W .i64 (hi : Int) s.size BoundsCode.sliceAlen (by omega) a2
    simpa using this
  have b2 : ∀ W : World, (Instr.sliceBound (.int .i64 (lo : Int)) hi BoundsCode.sliceB).run Tryz.prog W = .ok lo W := fun W => by
    have := run_sliceBound (P := Tryz.prog) W .i64 (lo : Int) hi BoundsCode.sliceB (by omega) a1
    simpa using this
  simp [strCut, Instr.sliceAt, Instr.slice, run_underlying Tryz.underlying9, Instr.sliceBounds, b1, b2]
theorem run_strCut0 (w : World) (s : ByteArray) (hi : Nat) (a2 : hi ≤ s.size) : (strCut0 (.string s) (.int .i64 (hi : Int))).run Tryz.prog w = .ok (.value (.string (s.extract 0 hi))) w := by
  have b1 : ∀ W : World, (Instr.sliceBound (.int .i64 (hi : Int)) s.size BoundsCode.sliceAlen).run Tryz.prog W = .ok hi W := fun W => by
    have := run_sliceBound (P := Tryz.prog) W .i64 (hi : Int) s.size BoundsCode.sliceAlen (by omega) (by omega)
    simpa using this
  simp [strCut0, Instr.sliceAt, Instr.slice, run_underlying Tryz.underlying9, Instr.sliceBounds, b1]
/-! One sign of a string -/
def strB (s : ByteArray) (k : Nat) : UInt8 := s.data[k]?.getD 0
def strAt (x i : Value) : Sem Next := do pure (.value (← Instr.index 9 x i))
@[go_sem ↓] theorem execOp_strAt (ρ : Operand → Value) (dst : Option Tmp) (ty : TypeId) (pos : String) (after : Array Edge) (guard : Option (Nat × Bool)) (x i : Operand) : execOp ρ { dst, op := .index 9 x i, type := ty, pos, after, guard } = strAt (ρ x) (ρ i) := rfl
@[go_sem] theorem run_strAt (w : World) (s : ByteArray) (k : Nat) (h : (k : Int) < (s.size : Int)) : (strAt (.string s) (.int .i64 (k : Int))).run Tryz.prog w = .ok (.value (.int .u8 ((strB s k).toNat : Int))) w := by
  have hk : k < s.size := by omega
  have hg : s[k]? = some (strB s k) := by
    rw [getElem?_pos s k hk]
    unfold strB
    have h2 : k < s.data.size := hk
    rw [Array.getElem?_eq_getElem h2]; rfl
  simp [strAt, Instr.index, run_underlying Tryz.underlying9, asIntOf, hg]
end Go.Proofs.YtalnbddkhojjbaaGreatDoor
namespace Go.Proofs.YtalnbddkhojjbaaGreatDoor
open Go.RowKit

/-! The document's own answers of chapter 4 -/
theorem str_snoc2 (l : List UInt8) (a b : UInt8) : (ByteArray.mk l.toArray ++ ByteArray.mk #[a]) ++ ByteArray.mk #[b] = ByteArray.mk (l ++ [a, b]).toArray := by
  apply ByteArray.ext
  simp
set_option linter.unusedSimpArgs false in
set_option maxHeartbeats 400000 in
theorem refText4_any (s : Nat → UInt8) (w : World) : Calls Tryz.prog 42 #[.agg (dg_secA s)] w fun e w' => e = .returned (.string ⟨(textL s).toArray⟩) ∧ Below w.heap.size w w' := by
  have hR := DgR.new w s 33
  have hB := below_alloc w (.cells (dg_secA s) 33)
  have HT : Hid (textL s = frontS ++ hexL s 32) := rfl
  have H0 : Hid (ByteArray.mk #[115, 104, 97, 50, 53, 54, 58] = ByteArray.mk (frontS ++ hexL s 0).toArray) := rfl
  rw [HT.out]
  go_enter Tryz.func42, Tryz.ntmps42
  go_wp2_with fail
  generalize w.heap.size = g at hR ⊢
  generalize w.alloc (.cells (dg_secA s) 33) = X at hR hB ⊢
  go_loopw [3, 4] (fun v i wr => ∃ k : Nat, k ≤ 32 ∧ i = .int .i64 k ∧ v = .string ⟨(frontS ++ hexL s k).toArray⟩ ∧ Below X.heap.size X wr) (fun _ i _ => 32 - (intOf i).toNat)
  case atStart => exact ⟨0, by omega, rfl, by rw [H0.out], Below.refl _ _⟩
  case round =>
    obtain ⟨k, hk, rfl, rfl, hBk⟩ := hrel
    by_cases hlt : k < 32
    · have hc : wr.cell? ⟨g, k, none⟩ = some (.int .u8 ((s k).toNat : Int)) := (hR.kept hBk).cell k hlt
      have hb := (s k).toNat_lt
      obtain ⟨h, hh⟩ : ∃ h, (s k).toNat / 16 = h := ⟨_, rfl⟩
      obtain ⟨m, hm⟩ : ∃ m, (s k).toNat % 16 = m := ⟨_, rfl⟩
      have n1 : ((s k).toNat : Int) / 16 = (h : Int) := by omega
      have n2 : ((s k).toNat : Int) % 16 = (m : Int) := by omega
      have c1 := digits_cut h (by omega)
      have c2 := digits_cut m (by omega)
      have hs := str_snoc2 (frontS ++ hexL s k) (digC h) (digC m)
      have HS : Hid ((frontS ++ hexL s k) ++ [digC h, digC m] = frontS ++ hexL s (k + 1)) := by show _ = _; rw [hexL, hh, hm, List.append_assoc]
      rw [HS.out] at hs
      have hk0 : (0 : Int) ≤ (k : Int) := by omega
      have hk1 : (k : Int) < 32 := by omega
      obtain ⟨h', hh'⟩ : ∃ h', h + 1 = h' := ⟨_, rfl⟩
      obtain ⟨m', hm'⟩ : ∃ m', m + 1 = m' := ⟨_, rfl⟩
      rw [hh'] at c1
      rw [hm'] at c2
      have a1 : (h : Int) + 1 = (h' : Int) := by omega
      have a2 : (m : Int) + 1 = (m' : Int) := by omega
      have w1 : IntKind.i64.wrap (h' : Int) = (h' : Int) := by rw [IntKind.wrap_i64]; omega
      have w2 : IntKind.i64.wrap (m' : Int) = (m' : Int) := by rw [IntKind.wrap_i64]; omega
      have h0 : (h : Int) ≤ (h' : Int) := by omega
      have h1 : (h' : Int) ≤ 16 := by omega
      have m0 : (m : Int) ≤ (m' : Int) := by omega
      have m1 : (m' : Int) ≤ 16 := by omega
      have z0 : (ByteArray.mk (frontS ++ hexL s k).toArray).size = 7 + 2 * k := by
        have h9 := hexL_len s k
        show (frontS ++ hexL s k).toArray.size = _
        rw [List.size_toArray, List.length_append, h9]; rfl
      have z1 : (ByteArray.mk (frontS ++ hexL s k).toArray ++ ByteArray.mk #[digC h]).size = 8 + 2 * k := by
        rw [ByteArray.size_append, z0]; show 7 + 2 * k + 1 = _; omega
      have z2 : (ByteArray.mk #[digC h]).size = 1 := rfl
      have z3 : (ByteArray.mk #[digC m]).size = 1 := rfl
      generalize (s k).toNat = b at *
      generalize ByteArray.mk (frontS ++ hexL s k).toArray = T0 at *
      have hsz : (ByteArray.mk #[48, 49, 50, 51, 52, 53, 54, 55, 56, 57, 97, 98, 99, 100, 101, 102]).size = 16 := rfl
      clear hh hm hh' hm'
      go_upto_region 7 with fail
      go_quiet (fail)
      have HB : Hid (Below X.heap.size X (wr.drewN nq)) := below_drew4 hBk nq
      clear hBk hc
      go_wp2
      go_roundw
      case rel => first | exact ⟨k + 1, by omega, by go_num, by first | rfl | rw [hs], HB.out⟩ | ((repeat apply Exists.intro); refine ⟨⟨k + 1, by omega, ?_, ?_, HB.out⟩, rfl⟩; go_num; first | rfl | rw [hs])
      case measure => simp [intOf]; omega
    · obtain rfl : k = 32 := by omega
      have HB : Hid _ := hB.trans (hBk.mono hB.size)
      go_wp2
      go_ret
      exact ⟨rfl, HB.out⟩
end Go.Proofs.YtalnbddkhojjbaaGreatDoor
namespace Go.Proofs.YtalnbddkhojjbaaGreatDoor
open Go.RowKit

/-- Two results: a digest out of its variable, and a number. -/
theorem dg_bodyPost2 {fn : Func} {R : Ending → World → Prop} {a : Act} {w : World} (p q n : Nat) (s : Nat → UInt8) (hres : fn.results = #[.cell p 33, .tmp q]) (hp : a.tmps.getD p undef = .pointer (some ⟨n, 0, none⟩)) (hd : a.defers = [])
    (hok : DgR w n s) (h : R (.returned (.tuple #[.agg (dg_secA s), a.tmps.getD q undef])) w) : bodyPost Tryz.prog fn R .ret a w := by
  obtain ⟨t, hg, hs⟩ := dg_row_of_ok hok.1
  rw [hok.2] at hg
  have hp' : a.tmps[p]?.getD undef = .pointer (some ⟨n, 0, none⟩) := by simpa using hp
  have hl := run_loadVar_row (P := Tryz.prog) w n t 33 (dg_secA s) (0, 0) _ hg Tryz.underlying33 rfl (by rw [size33, dg_secA_size])
  refine bodyPost_ret (v := .tuple #[.agg (dg_secA s), a.tmps.getD q undef]) ?_ hd h
  simp [results, hres, hp', asAddr, hl]
/-- What reading a text owes. -/
def ParsedTo (l : List UInt8) (d : Nat → UInt8) (c : Int) : Prop := (PGood l ∧ d = pval l ∧ c = 0) ∨ (¬ PGood l ∧ d = dg_secZ ∧ c = 35)
theorem cut7 (l : List UInt8) : ((ByteArray.mk l.toArray).extract 0 7).toList = l.take 7 := by
  rw [ByteArray.toList_eq]
  simp
theorem front_eq (l : List UInt8) (h : l.take 7 = frontS) : (((ByteArray.mk l.toArray).extract 0 7).toList == [115, 104, 97, 50, 53, 54, 58]) = true := by
  rw [cut7, h]; rfl
theorem front_ne (l : List UInt8) (h : ¬ l.take 7 = frontS) : (((ByteArray.mk l.toArray).extract 0 7).toList == [115, 104, 97, 50, 53, 54, 58]) = false := by
  rw [cut7]
  exact beq_eq_false_iff_ne.2 h
end Go.Proofs.YtalnbddkhojjbaaGreatDoor
namespace Go.Proofs.YtalnbddkhojjbaaGreatDoor
open Go.RowKit

/-! Slices of digests -/
abbrev Dg := Nat → UInt8
/-- The digest's cells at an address. -/
def rngOk (w : World) (b o : Nat) : Bool := (List.range 32).all fun j => (w.cell? ⟨b, o + j, none⟩).isSome
def rng (w : World) (b o : Nat) : Array Value := ((List.range 32).map fun j => (w.cell? ⟨b, o + j, none⟩).getD undef).toArray
theorem rng_of {w : World} {b o : Nat} {d : Dg} (h : w.rangeAt b o (dg_secA d).toList) : rngOk w b o = true ∧ rng w b o = dg_secA d := by
  have hc : ∀ j, j < 32 → w.cell? ⟨b, o + j, none⟩ = some (.int .u8 ((d j).toNat : Int)) := fun j hj => h j _ (by rw [Array.getElem?_toList, dg_secA_get d j hj])
  constructor
  · unfold rngOk
    rw [List.all_eq_true]
    intro j hj
    rw [hc j (by simpa using hj)]; rfl
  · unfold rng
    apply Array.ext_getElem?
    intro j
    by_cases hj : j < 32
    · rw [dg_secA_get d j hj]
      simp [hj, hc j hj]
    · rw [Array.getElem?_eq_none (by simp; omega), Array.getElem?_eq_none (by simp; omega)]
@[go_sem] theorem run_dgLoad_mid (w : World) (b o : Nat) (h : rngOk w b o = true) : (dg_secLoad (.pointer (some ⟨b, o, none⟩))).run Tryz.prog w = .ok (.value (.agg (rng w b o))) w := by
  have hr : w.rangeAt b o ((List.range 32).map fun j => (w.cell? ⟨b, o + j, none⟩).getD undef) := fun j v hv => by
    have hj : j < 32 := by have := (List.getElem?_eq_some_iff.1 hv).1; simpa using this
    unfold rngOk at h
    have hs := List.all_eq_true.1 h j (by simpa using hj)
    obtain ⟨u, hu⟩ := Option.isSome_iff_exists.1 hs
    simp [hj, hu] at hv
    rw [hu, hv]
  simp only [dg_secLoad, Sem.run_bind]
  rw [run_loadAt_mid w b o 33 _ _ hr Tryz.underlying33 rfl (by rw [size33]; simp)]
  rfl
@[go_sem] theorem rng_drewN (w : World) (n b o : Nat) : rng (w.drewN n) b o = rng w b o := rfl
@[go_sem] theorem rngOk_drewN (w : World) (n b o : Nat) : rngOk (w.drewN n) b o = rngOk w b o := rfl
@[go_sem] theorem rng_drew (w : World) (b o : Nat) : rng w.drew b o = rng w b o := rfl
@[go_sem] theorem rngOk_drew (w : World) (b o : Nat) : rngOk w.drew b o = rngOk w b o := rfl
def IsDs (w : World) (v : Value) (ds : List Dg) : Prop := ∃ x c, v = .slice x ds.length c ∧ ds.length ≤ c ∧ ∀ (i : Nat) d, ds[i]? = some d → ∃ b o, x = some ⟨b, o, none⟩ ∧ b < w.heap.size ∧ w.rangeAt b (o + i * 32) (dg_secA d).toList
theorem rangeAt_later {w w1 : World} {b o : Nat} {cs : List Value} (h : w.rangeAt b o cs) (hb : Below w.heap.size w w1) : w1.rangeAt b o cs := fun j v hv => by
  have h1 := h j v hv
  have h2 := World.block_lt_of_cell? w _ h1
  rw [hb.cell h2]; exact h1
theorem IsDs.kept {w w1 : World} {v : Value} {ds : List Dg} (h : IsDs w v ds) (hb : Below w.heap.size w w1) : IsDs w1 v ds := by
  obtain ⟨x, c, rfl, hc, hd⟩ := h
  refine ⟨x, c, rfl, hc, fun i d hi => ?_⟩
  obtain ⟨b, o, rfl, h1, h2⟩ := hd i d hi
  exact ⟨b, o, rfl, Nat.lt_of_lt_of_le h1 hb.size, rangeAt_later h2 hb⟩
theorem IsDs.len {w : World} {v : Value} {ds : List Dg} (h : IsDs w v ds) : ∃ x c, v = .slice x ds.length c := by
  obtain ⟨x, c, rfl, -, -⟩ := h
  exact ⟨x, c, rfl⟩
theorem IsDs.at {w : World} {x : Option Addr} {n c : Nat} {ds : List Dg} (h : IsDs w (.slice x n c) ds) (i : Nat) (d : Dg) (hi : ds[i]? = some d) : ∃ b o, x = some ⟨b, o, none⟩ ∧ b < w.heap.size ∧ rngOk w b (o + i * 32) = true ∧ rng w b (o + i * 32) = dg_secA d := by
  obtain ⟨y, e, he, -, hd⟩ := h
  simp only [Value.slice.injEq] at he
  obtain ⟨rfl, -, rfl⟩ := he
  obtain ⟨b, o, rfl, h1, h2⟩ := hd i d hi
  exact ⟨b, o, rfl, h1, rng_of h2⟩
def flatD : List Dg → List Value
  | [] => []
  | d :: r => (dg_secA d).toList ++ flatD r
theorem flatD_len : ∀ ds : List Dg, (flatD ds).length = ds.length * 32
  | [] => rfl
  | d :: r => by simp [flatD, flatD_len r]; omega
/-- A slice of digests of the call's own. -/
def OwnDs (w : World) (B : Nat) (v : Value) (ds : List Dg) : Prop := w.ownsRow B 33 32 v ds.length (flatD ds)
theorem OwnDs.nil (w : World) (B : Nat) : OwnDs w B (.slice none 0 0) [] := World.ownsRow_nil w B 33 32
theorem OwnDs.keep {w w' : World} {B : Nat} {v : Value} {ds : List Dg} (h : OwnDs w B v ds) (hb : Below w.heap.size w w') : OwnDs w' B v ds :=
  World.ownsRow.kept h (row := none) ⟨hb.os, hb.tape, hb.output, hb.size, fun k hk _ => hb.block k hk⟩ (by
    rcases h.2 with ⟨rfl, _⟩ | ⟨g, cap, cur, rfl, _⟩
    · exact .inl rfl
    · exact .inr (by simp [Value.ownBlock]))
end Go.Proofs.YtalnbddkhojjbaaGreatDoor
namespace Go.Proofs.YtalnbddkhojjbaaGreatDoor
open Go.RowKit

def dN (d : Dg) : Nat := dnum d 32
def nums (ds : List Dg) : List Nat := ds.map dN
theorem nums_len (ds : List Dg) : (nums ds).length = ds.length := by simp [nums]
theorem nums_get (ds : List Dg) (i : Nat) (d : Dg) (h : ds[i]? = some d) : (nums ds)[i]? = some (dN d) := by simp [nums, h]
theorem asc_len : ∀ (l m : List Nat), l.Pairwise (· < ·) → (∀ x ∈ l, x ∈ m) → l.length ≤ m.length
  | [], m, _, _ => by simp
  | x :: l, m, hl, h => by
    rw [List.pairwise_cons] at hl
    have hx := h x (by simp)
    have := asc_len l (m.erase x) hl.2 (fun z hz => (List.mem_erase_of_ne (by have := hl.1 z hz; omega)).2 (h z (by simp [hz])))
    rw [List.length_erase_of_mem hx] at this
    have hp := List.length_pos_of_mem hx
    simp only [List.length_cons]
    omega
end Go.Proofs.YtalnbddkhojjbaaGreatDoor
namespace Go.Proofs.YtalnbddkhojjbaaGreatDoor
open Go.RowKit

/-! What digest's functions owe -/
def TextOk : Prop := ∀ (s : Dg) (w : World), Calls Tryz.prog 61 #[.agg (dg_secA s)] w fun e w' => e = .returned (.string ⟨(textL s).toArray⟩) ∧ Below w.heap.size w w'
def ParseOk : Prop := ∀ (l : List UInt8) (w : World), Calls Tryz.prog 39 #[.string ⟨l.toArray⟩] w fun e w' => (∃ d c, e = .returned (.tuple #[.agg (dg_secA d), .int .i64 c]) ∧ ParsedTo l d c) ∧ Below w.heap.size w w'
end Go.Proofs.YtalnbddkhojjbaaGreatDoor
namespace Go.Proofs.YtalnbddkhojjbaaGreatDoor
open Go.RowKit Go.Sort

/-! digest.Compare -/
end Go.Proofs.YtalnbddkhojjbaaGreatDoor
namespace Go.Proofs.YtalnbddkhojjbaaGreatDoor
open Go.RowKit

theorem digC_lo (v : Nat) (h : v < 10) : ((digC v).toNat : Int) = 48 + (v : Int) := by
  rcases (by omega : v = 0 ∨ v = 1 ∨ v = 2 ∨ v = 3 ∨ v = 4 ∨ v = 5 ∨ v = 6 ∨ v = 7 ∨ v = 8 ∨ v = 9) with rfl | rfl | rfl | rfl | rfl | rfl | rfl | rfl | rfl | rfl <;> rfl
theorem digC_hi (v : Nat) (h : 10 ≤ v) (h2 : v < 16) : ((digC v).toNat : Int) = 87 + (v : Int) := by
  rcases (by omega : v = 10 ∨ v = 11 ∨ v = 12 ∨ v = 13 ∨ v = 14 ∨ v = 15) with rfl | rfl | rfl | rfl | rfl | rfl <;> rfl
theorem shr4 (b h : Nat) (e : b / 16 = h) : (b : Int) / 16 = (h : Int) := by omega
theorem and15 (b m : Nat) (hb : b < 256) (e : b % 16 = m) : bits .and .u8 (b : Int) 15 = (m : Int) := by
  have h : ∀ x : Fin 256, bits .and .u8 ((x.val : Nat) : Int) 15 = ((x.val % 16 : Nat) : Int) := by decide +kernel
  rw [← e]
  exact h ⟨b, hb⟩
set_option linter.unusedSimpArgs false in
theorem digit_any (v : Nat) (h : v < 16) (w : World) : Calls Tryz.prog 89 #[.int .u8 (v : Int)] w fun e w' => e = .returned (.int .u8 ((digC v).toNat : Int)) ∧ Below w.heap.size w w' := by
  have hb := (digC v).toNat_lt
  by_cases h10 : v < 10
  · have e := digC_lo v h10
    have h1 : (v : Int) < 10 := by omega
    generalize (digC v).toNat = r at e hb ⊢
    have e2 : IntKind.u8.wrap (48 + (v : Int)) = (r : Int) := by rw [← e]; simp [IntKind.wrap, IntKind.bits, IntKind.signed]; omega
    clear e
    go_enter Tryz.func89, Tryz.ntmps89
    go_wp2
    go_ret
    exact ⟨by first | rfl | rw [e2], Below.refl _ _⟩
  · have e := digC_hi v (by omega) h
    have h1 : ¬ (v : Int) < 10 := by omega
    generalize (digC v).toNat = r at e hb ⊢
    have e1 : IntKind.u8.wrap (97 + (v : Int)) = 97 + (v : Int) := by simp [IntKind.wrap, IntKind.bits, IntKind.signed]; omega
    have e2 : IntKind.u8.wrap (97 + (v : Int) - 10) = (r : Int) := by simp [IntKind.wrap, IntKind.bits, IntKind.signed]; omega
    clear e
    go_enter Tryz.func89, Tryz.ntmps89
    go_wp2
    go_ret
    exact ⟨by first | rfl | rw [e2], Below.refl _ _⟩
theorem run_app2 (w : World) (base y c : Nat) (v : Value) (l : List UInt8) (b1 b2 : UInt8) (ty : TypeId) (h : OwnB w base v l) (hy : w.cell? ⟨y, 0, none⟩ = some (Value.int .u8 (b1.toNat : Int))) (hy2 : w.cell? ⟨y, 1, none⟩ = some (Value.int .u8 (b2.toNat : Int))) (hl : l.length + 2 ≤ 140737488355328) (hb : base ≤ w.heap.size) :
    ∃ v' w', (Builtin.append_ #[24, 24] ty #[v, .slice (some ⟨y, 0, none⟩) 2 c]).run Tryz.prog w = .ok v' w' ∧ OwnB w' base v' (l ++ [b1, b2]) ∧ Below base w w' ∧ w.heap.size ≤ w'.heap.size := by
  obtain ⟨i, hi, hzz⟩ := Option.map_eq_some_iff.1 info5
  simp only [Prod.mk.injEq] at hzz
  obtain ⟨hz, hs, hby⟩ := hzz
  obtain ⟨g, cap, w', hr, h2, h3, h4, h5⟩ := run_append_lies (P := Tryz.prog) w 24 ty base 5 i _ 1 1 Tryz.underlying24 hi hz hs hby rfl (by omega) v l.length (bytesA l).toList h ⟨y, 0, none⟩ 2 c [Value.int .u8 (b1.toNat : Int), Value.int .u8 (b2.toNat : Int)] rfl
    (fun j u hu => by
      rw [addr_add, Nat.zero_add]
      rcases j with _ | _ | j
      · simp at hu; subst hu; exact hy
      · simp at hu; subst hu; exact hy2
      · simp at hu) (by simp [Value.oneCell']) (by omega) (by unfold maxLen; omega) (by omega) hb _ rfl
  refine ⟨_, w', hr, ?_, below_grown h h3 hb, h3.size⟩
  have e : (bytesA (l ++ [b1, b2])).toList = (bytesA l).toList ++ [Value.int .u8 (b1.toNat : Int), Value.int .u8 (b2.toNat : Int)] := by simp [bytesA]
  unfold OwnB
  rw [List.length_append, e]
  exact h2
/-- A row that was made of a constant text: its end is marked, so that it is never grown in place. -/
def MarkB (w : World) (base : Nat) (v : Value) (l : List UInt8) : Prop := ∃ g, v = .slice (some ⟨g, 0, none⟩) l.length l.length ∧ base ≤ g ∧ w.heap[g]? = some (.cells (bytesA l) 5 (l.length, l.length + 1))
def OwnT (w : World) (base : Nat) (v : Value) (l : List UInt8) : Prop := OwnB w base v l ∨ MarkB w base v l
theorem OwnT.keep {w w' : World} {base : Nat} {v : Value} {l : List UInt8} (h : OwnT w base v l) (hb : Below w.heap.size w w') : OwnT w' base v l := by
  rcases h with h | ⟨g, rfl, hg, hh⟩
  · exact .inl (h.keep hb)
  · have hlt : g < w.heap.size := by
      rcases Nat.lt_or_ge g w.heap.size with h' | h'
      · exact h'
      · rw [Array.getElem?_eq_none h'] at hh; cases hh
    exact .inr ⟨g, rfl, hg, by rw [hb.block g hlt]; exact hh⟩
theorem MarkB.lit (w : World) (l : List UInt8) (cs : Array Value) (hc : cs = bytesA l) : MarkB (w.alloc (.cells cs 5 (l.length, l.length + 1))) w.heap.size (.slice (some ⟨w.heap.size, 0, none⟩) l.length l.length) l := by
  subst hc
  exact ⟨w.heap.size, rfl, Nat.le_refl _, heap_alloc_last w _⟩
theorem run_app2T (w : World) (base y c : Nat) (v : Value) (l : List UInt8) (b1 b2 : UInt8) (ty : TypeId) (h : OwnT w base v l) (hy : w.cell? ⟨y, 0, none⟩ = some (Value.int .u8 (b1.toNat : Int))) (hy2 : w.cell? ⟨y, 1, none⟩ = some (Value.int .u8 (b2.toNat : Int))) (hl : l.length + 2 ≤ 140737488355328) (hb : base ≤ w.heap.size) :
    ∃ v' w', (Builtin.append_ #[24, 24] ty #[v, .slice (some ⟨y, 0, none⟩) 2 c]).run Tryz.prog w = .ok v' w' ∧ OwnB w' base v' (l ++ [b1, b2]) ∧ Below base w w' ∧ w.heap.size ≤ w'.heap.size := by
  rcases h with h | ⟨g, rfl, hg, hh⟩
  · exact run_app2 w base y c v l b1 b2 ty h hy hy2 hl hb
  · obtain ⟨i, hi, hzz⟩ := Option.map_eq_some_iff.1 info5
    simp only [Prod.mk.injEq] at hzz
    obtain ⟨hz, hs, hby⟩ := hzz
    have hr := run_append_grow (P := Tryz.prog) w 24 ty 5 i _ Tryz.underlying24 hi hz ⟨g, 0, none⟩ l.length l.length (bytesA l).toList (by rw [hs]; simp [bytesA])
      (fun j u hu => by
        rw [addr_add, Nat.zero_add]
        unfold World.cell?
        simp only [hh]
        rw [Array.getElem?_toList] at hu
        simpa using hu) ⟨y, 0, none⟩ 2 c [Value.int .u8 (b1.toNat : Int), Value.int .u8 (b2.toNat : Int)] (by rw [hs]; rfl)
      (fun j u hu => by
        rw [addr_add, Nat.zero_add]
        rcases j with _ | _ | j
        · simp at hu; subst hu; exact hy
        · simp at hu; subst hu; exact hy2
        · simp at hu) (by omega) (by omega) (growslice_fits (by omega) (by rw [hby]; omega))
    refine ⟨_, _, hr, ?_, (below_alloc _ _).drew.mono hb, by simp⟩
    have e : (bytesA (l ++ [b1, b2])).toList = (bytesA l).toList ++ [Value.int .u8 (b1.toNat : Int), Value.int .u8 (b2.toNat : Int)] := by simp [bytesA]
    have hlen : ((bytesA l).toList ++ [Value.int .u8 (b1.toNat : Int), Value.int .u8 (b2.toNat : Int)]).length = (l.length + 2) * 1 := by simp [bytesA]
    have hge := grownCap_ge w (l.length + 2) l.length 5
    have hcm : grownCap w (l.length + 2) l.length 5 ≤ maxLen := grownCap_le_maxLen w _ _ _ (by unfold maxLen; omega)
    unfold OwnB
    rw [List.length_append, e]
    refine ⟨hlen, .inr ⟨w.heap.size, _, _, rfl, hb, heap_alloc_new w.drew _, hge, hcm, ?_, ?_⟩⟩
    · simp only [Array.size_append, List.size_toArray, size_zeroCells, Array.length_toList]
      simp [bytesA, Value.cells]
      omega
    · simp only [Array.toList_append, List.append_assoc]
      rw [← List.append_assoc]
      have hq := hlen
      simp only [List.length_append] at hq
      exact (congrArg (fun n => List.take n _) hlen.symm).trans List.take_left
theorem OwnT.isB {w : World} {base : Nat} {v : Value} {l : List UInt8} (h : OwnT w base v l) : IsB w v l := by
  rcases h with h | ⟨g, rfl, hg, hh⟩
  · exact h.isB
  · refine .inr ⟨_, _, rfl, fun i hi => ?_⟩
    rw [addr_add, Nat.zero_add]
    unfold World.cell?
    simp only [hh]
    have := bytesA_get l i hi
    simpa using this
theorem OwnT.str {w : World} {base : Nat} {v : Value} {l : List UInt8} (h : OwnT w base v l) (h0 : 0 < l.length) : (convert 24 9 v).run Tryz.prog w = .ok (.string ⟨l.toArray⟩) w := by
  rcases h.isB with ⟨_, rfl⟩ | ⟨x, c, rfl, hc⟩
  · simp at h0
  · exact run_convert_bytes_back w _ _ 5 x c l Tryz.underlying24 Tryz.underlying5 Tryz.underlying9 hc
set_option linter.unusedSimpArgs false in
set_option maxHeartbeats 400000 in
set_option maxRecDepth 100000 in
theorem textOk : TextOk := by
  intro s w
  have hR := DgR.new w s 33
  have hB := below_alloc w (.cells (dg_secA s) 33)
  have hO : OwnT _ _ _ _ := .inr (MarkB.lit (w.alloc (.cells (dg_secA s) 33)) (frontS ++ hexL s 0) #[.int .u8 115, .int .u8 104, .int .u8 97, .int .u8 50, .int .u8 53, .int .u8 54, .int .u8 58] rfl)
  have hl0 : (frontS ++ hexL s 0).length = 7 := rfl
  rw [hl0] at hO
  have kc := Lib.run_convert_bytes_const (P := Tryz.prog) (w.alloc (.cells (dg_secA s) 33)) 24 5 #[.int .u8 115, .int .u8 104, .int .u8 97, .int .u8 50, .int .u8 53, .int .u8 54, .int .u8 58] 7 7 Tryz.underlying24 Tryz.underlying5
  rw [World.size_alloc] at kc
  have k7 : (#[.int .u8 115, .int .u8 104, .int .u8 97, .int .u8 50, .int .u8 53, .int .u8 54, .int .u8 58] : Array Value).size = 7 := rfl
  rw [k7] at kc
  clear k7
  have hB2 := below_alloc (w.alloc (.cells (dg_secA s) 33)) (.cells #[.int .u8 115, .int .u8 104, .int .u8 97, .int .u8 50, .int .u8 53, .int .u8 54, .int .u8 58] 5 (7, 8))
  rw [World.size_alloc] at hO
  have HT : Hid (textL s = frontS ++ hexL s 32) := rfl
  rw [HT.out]
  go_enter Tryz.func61, Tryz.ntmps61
  go_wp2_with fail
  obtain ⟨gb, hgb⟩ : ∃ g, w.heap.size + 1 = g := ⟨_, rfl⟩
  have hXs : (w.alloc (.cells (dg_secA s) 33)).heap.size = gb := by rw [World.size_alloc]; exact hgb
  rw [hgb] at hO
  simp only [hgb]
  clear hgb
  generalize (w.alloc (.cells (dg_secA s) 33)).alloc (.cells #[.int .u8 115, .int .u8 104, .int .u8 97, .int .u8 50, .int .u8 53, .int .u8 54, .int .u8 58] 5 (7, 8)) = X2 at hO hB2 ⊢
  generalize w.alloc (.cells (dg_secA s) 33) = X at hR hB hB2 hXs
  have hl : ∀ k, k < 32 → (frontS ++ hexL s k).length + 2 ≤ 140737488355328 := fun k hk => by
    have h9 := hexL_len s k
    rw [List.length_append, h9]
    have : frontS.length = 7 := rfl
    omega
  have hl2 : 0 < (frontS ++ hexL s 32).length := by rw [List.length_append]; show 0 < 7 + _; omega
  obtain ⟨g, hg⟩ : ∃ g, w.heap.size = g := ⟨_, rfl⟩
  simp only [hg]
  rw [hg] at hR hB
  have hgg : g ≤ X.heap.size := by have := hB.size; omega
  have HG : Hid _ := hg
  clear hg kc
  go_loopw [3, 7] (fun v i wr => ∃ k : Nat, k ≤ 32 ∧ i = .int .i64 k ∧ OwnT wr gb v (frontS ++ hexL s k) ∧ Below gb X wr) (fun _ i _ => 32 - (intOf i).toNat)
  case atStart => exact ⟨0, by omega, rfl, hO, by rw [← hXs]; exact hB2⟩
  case round =>
    clear hO
    obtain ⟨k, hk, rfl, hO, hBk⟩ := hrel
    by_cases hlt : k < 32
    · have hc : wr.cell? ⟨g, k, none⟩ = some (.int .u8 ((s k).toNat : Int)) := (hR.kept (hXs ▸ hBk)).cell k hlt
      have hb := (s k).toNat_lt
      have hl1 := hl k hlt
      obtain ⟨h, hh⟩ : ∃ h, (s k).toNat / 16 = h := ⟨_, rfl⟩
      obtain ⟨m, hm⟩ : ∃ m, (s k).toNat % 16 = m := ⟨_, rfl⟩
      have HS : Hid ((frontS ++ hexL s k) ++ [digC h, digC m] = frontS ++ hexL s (k + 1)) := by show _ = _; rw [hexL, hh, hm, List.append_assoc]
      have d1 := digit_any h (by omega)
      have d2 := digit_any m (by omega)
      generalize frontS ++ hexL s k = T at hO HS hl1
      generalize digC h = c1 at d1 HS
      generalize digC m = c2 at d2 HS
      have n1 := shr4 (s k).toNat h hh
      have n2 := and15 (s k).toNat m hb hm
      have n3 : (h : Int) < 256 := by omega
      have n4 : (m : Int) < 256 := by omega
      generalize (s k).toNat = b at *
      clear hh hm hl
      have hk0 : (0 : Int) ≤ (k : Int) := by omega
      have hk1 : (k : Int) < 32 := by omega
      have hgs : gb ≤ wr.heap.size := by have := hBk.size; omega
      go_upto_region 5 with fail
      refine wp_reliesT [Fx (u3), Fx (.int .i64 (k : Nat)), Fx (.pointer (some ⟨g, k, none⟩)), Fx (.int .u8 (b : Nat)), Fx (.int .u8 (h : Nat)), Fx (.int .u8 (c1.toNat : Int)), Fx (.int .i64 (k : Nat)), Fx (.pointer (some ⟨g, k, none⟩)), Fx (.int .u8 (b : Nat)), Fx (.int .u8 (m : Nat)), Fx (.int .u8 (c2.toNat : Int)), fun v x => ∃ q, v = .slice (some ⟨q, 0, none⟩) 2 2 ∧ x.cell? ⟨q, 0, none⟩ = some (.int .u8 (c1.toNat : Int)) ∧ x.cell? ⟨q, 1, none⟩ = some (.int .u8 (c2.toNat : Int))] (by kernel_rfl) (by kernel_rfl) ?_ ?_ ?_
      · repeat' (first | exact all_nil | apply all_cons)
        all_goals intro v y y' hv hb
        all_goals first | exact Fx_mono _ _ _ _ hv hb | (obtain ⟨g, h1, h2, h3⟩ := hv; exact ⟨g, h1, cell_later hb h2, cell_later hb h3⟩)
      · refine ⟨?_, ?_, ?_, ?_, ?_, ?_, ?_, ?_, ?_, ?_, ?_, ?_, trivial⟩
        all_goals
          intro ρ x hp ρc ρg ρf ho hd
          have o1 : ρ (.tmp 1) = .pointer (some ⟨g, 0, none⟩) := ho 1 rfl
          have o3 : ρ (.tmp 3) = u3 := ho 3 rfl
          have o4 : ρ (.tmp 4) = .int .i64 (k : Nat) := ho 4 rfl
          clear ho
          have qa := cell_later hp hc
          simp only [depsR, depR, slotR, Fx, List.getElem?_cons_succ, List.getElem?_cons_zero, Region.binds, forall_const] at hd
          simp only [guardR]
          go_split_ands
        · go_simp
        · go_simp
        · go_simp
        · go_simp
        · go_simp
        · go_simp
          refine (d1 x).mono ?_
          rintro e x' ⟨rfl, hb⟩
          exact ⟨_, rfl, rfl, hb⟩
        · go_simp
        · go_simp
        · go_simp
        · go_simp
        · go_simp
          refine (d2 x).mono ?_
          rintro e x' ⟨rfl, hb⟩
          exact ⟨_, rfl, rfl, hb⟩
        · go_simp
          exact below_alloc _ _
      · intro vs x_1 hp hw
        simp only [owed, Fx] at hw
        obtain ⟨e0, e1, e2, e3, e4, e5, e6, e7, e8, e9, e10, ⟨q, e11, hq1, hq2⟩, -⟩ := hw
        simp only [List.length_cons, List.length_nil, List.take_succ_cons, List.take_zero, List.drop_succ_cons, List.drop_zero, asg, List.cons_append, List.nil_append, e0, e1, e2, e3, e4, e5, e6, e7, e8, e9, e10, e11]
        clear e0 e1 e2 e3 e4 e5 e6 e7 e8 e9 e10 e11
        obtain ⟨v', w', hr, hO', hB', hs'⟩ := run_app2T x_1 gb q 2 u3 T c1 c2 24 (hO.keep hp) hq1 hq2 hl1 (by have := hp.size; omega)
        have HO : Hid (OwnT w' gb v' (frontS ++ hexL s (k + 1))) := by show OwnT _ _ _ _; rw [← HS.out]; exact .inl hO'
        have HB : Hid (Below gb X w') := (hBk.trans (hp.mono hgs)).trans hB'
        clear hO hBk hO' hB' hq1 hq2 hc
        go_wp2_with (at_builtin; refine wpL_app rfl _ _ rfl v' w' (by exact hr) ?_)
        go_roundw
        case rel => exact ⟨k + 1, by omega, by go_num, HO.out, HB.out⟩
        case measure => simp [intOf]; omega
    · obtain rfl : k = 32 := by omega
      have HB : Hid _ := hB.trans (hBk.mono (by omega))
      have hcv := hO.str hl2
      clear hO
      go_wp2
      go_ret
      exact ⟨rfl, by rw [HG.out]; exact HB.out⟩
end Go.Proofs.YtalnbddkhojjbaaGreatDoor
namespace Go.Proofs.YtalnbddkhojjbaaGreatDoor
open Go.RowKit

/-! Literals of digests: some bytes, the others 0. -/
def dgOf : List (Nat × UInt8) → Dg → Dg
  | [], s => s
  | (i, b) :: r, s => dgOf r (upd s i b)
def dgPs (ps : List (Nat × UInt8)) : List (Nat × Value) := ps.map fun p => (p.1, Value.int .u8 (p.2.toNat : Int))
theorem fill_ps (place : Nat → Option (Nat × Nat)) (hp : ∀ i, i < 32 → place i = some (i, 1)) : ∀ (ps : List (Nat × UInt8)) (s : Dg), (∀ p ∈ ps, p.1 < 32) → Instr.fill place (dg_secA s) (dgPs ps) = some (dg_secA (dgOf ps s))
  | [], s, _ => rfl
  | (i, b) :: r, s, h => by
    have hi : i < 32 := h (i, b) (by simp)
    have hc : (Value.int .u8 (b.toNat : Int)).cells = #[Value.int .u8 (b.toNat : Int)] := rfl
    unfold dgPs
    rw [List.map_cons]
    unfold Instr.fill
    simp only [hp i hi, hc, dg_secA_size]
    rw [if_neg (by simp; omega)]
    have e : (#[Value.int .u8 (b.toNat : Int)].zipIdx.foldl (fun (cs : Array Value) (x : Value × Nat) => cs.setIfInBounds (i + x.2) x.1) (dg_secA s)) = dg_secA (upd s i b) := by
      simp [dg_secA_set s i b hi]
    have := fill_ps place hp r (upd s i b) (fun p hp' => h p (by simp [hp']))
    unfold dgPs at this
    rw [dgOf, ← this]
    congr 1
theorem built_dg (ps : List (Nat × UInt8)) (h : ∀ p ∈ ps, p.1 < 32) : Tryz.prog.built 33 (dgPs ps) = some (dg_secA (dgOf ps dg_secZ)) := by
  have hz := info33
  obtain ⟨i, hi, hzz⟩ := Option.map_eq_some_iff.1 hz
  simp only [Prod.mk.injEq] at hzz
  have hb : (Tryz.prog.info? 5).map (·.size) = some 1 := by kernel_rfl
  obtain ⟨ib, hib, hsb⟩ := Option.map_eq_some_iff.1 hb
  unfold Program.built
  simp only [hi, Tryz.underlying33, hzz.1, hib, hsb]
  have hcz : (Value.agg (dg_secA dg_secZ)).cells = dg_secA dg_secZ := rfl
  rw [hcz]
  exact fill_ps _ (fun i _ => by simp) ps dg_secZ h
theorem nat_back {n : Int} (h0 : 0 ≤ n) (h1 : n < 256) : ((UInt8.ofNat n.toNat).toNat : Int) = n := by
  rw [UInt8.toNat_ofNat']; omega
def dgB1 (i0 : Nat) (x0 : Value) : Sem Next := do pure (.value (← Instr.build 33 #[(i0, x0)]))
@[go_sem ↓] theorem execOp_dgB1 (ρ : Operand → Value) (dst : Option Tmp) (ty : TypeId) (pos : String) (after : Array Edge) (guard : Option (Nat × Bool)) (i0 : Nat) (x0 : Operand) : execOp ρ { dst, op := .build 33 #[(i0, x0)], type := ty, pos, after, guard } = dgB1 i0 (ρ x0) := by simp [execOp, dgB1]
@[go_sem] theorem run_dgB1 (w : World) (i0 : Nat) (n0 : Int) (hi0 : i0 < 32) (an0 : 0 ≤ n0) (bn0 : n0 < 256) : (dgB1 i0 (.int .u8 n0)).run Tryz.prog w = .ok (.value (.agg (dg_secA (dgOf [(i0, UInt8.ofNat n0.toNat)] dg_secZ)))) w := by
  have h := built_dg [(i0, UInt8.ofNat n0.toNat)] (by simp [hi0])
  unfold dgPs at h
  simp only [List.map_cons, List.map_nil, nat_back an0 bn0] at h
  simp only [dgB1, Sem.run_bind]
  rw [run_build w 33 _ _ h]
  rfl
def dgB2 (i0 i1 : Nat) (x0 x1 : Value) : Sem Next := do pure (.value (← Instr.build 33 #[(i0, x0), (i1, x1)]))
@[go_sem ↓] theorem execOp_dgB2 (ρ : Operand → Value) (dst : Option Tmp) (ty : TypeId) (pos : String) (after : Array Edge) (guard : Option (Nat × Bool)) (i0 i1 : Nat) (x0 x1 : Operand) : execOp ρ { dst, op := .build 33 #[(i0, x0), (i1, x1)], type := ty, pos, after, guard } = dgB2 i0 i1 (ρ x0) (ρ x1) := by simp [execOp, dgB2]
@[go_sem] theorem run_dgB2 (w : World) (i0 i1 : Nat) (n0 n1 : Int) (hi0 : i0 < 32) (an0 : 0 ≤ n0) (bn0 : n0 < 256) (hi1 : i1 < 32) (an1 : 0 ≤ n1) (bn1 : n1 < 256) : (dgB2 i0 i1 (.int .u8 n0) (.int .u8 n1)).run Tryz.prog w = .ok (.value (.agg (dg_secA (dgOf [(i0, UInt8.ofNat n0.toNat), (i1, UInt8.ofNat n1.toNat)] dg_secZ)))) w := by
  have h := built_dg [(i0, UInt8.ofNat n0.toNat), (i1, UInt8.ofNat n1.toNat)] (by simp [hi0, hi1])
  unfold dgPs at h
  simp only [List.map_cons, List.map_nil, nat_back an0 bn0, nat_back an1 bn1] at h
  simp only [dgB2, Sem.run_bind]
  rw [run_build w 33 _ _ h]
  rfl
def dgB4 (i0 i1 i2 i3 : Nat) (x0 x1 x2 x3 : Value) : Sem Next := do pure (.value (← Instr.build 33 #[(i0, x0), (i1, x1), (i2, x2), (i3, x3)]))
@[go_sem ↓] theorem execOp_dgB4 (ρ : Operand → Value) (dst : Option Tmp) (ty : TypeId) (pos : String) (after : Array Edge) (guard : Option (Nat × Bool)) (i0 i1 i2 i3 : Nat) (x0 x1 x2 x3 : Operand) : execOp ρ { dst, op := .build 33 #[(i0, x0), (i1, x1), (i2, x2), (i3, x3)], type := ty, pos, after, guard } = dgB4 i0 i1 i2 i3 (ρ x0) (ρ x1) (ρ x2) (ρ x3) := by simp [execOp, dgB4]
@[go_sem] theorem run_dgB4 (w : World) (i0 i1 i2 i3 : Nat) (n0 n1 n2 n3 : Int) (hi0 : i0 < 32) (an0 : 0 ≤ n0) (bn0 : n0 < 256) (hi1 : i1 < 32) (an1 : 0 ≤ n1) (bn1 : n1 < 256) (hi2 : i2 < 32) (an2 : 0 ≤ n2) (bn2 : n2 < 256) (hi3 : i3 < 32) (an3 : 0 ≤ n3) (bn3 : n3 < 256) : (dgB4 i0 i1 i2 i3 (.int .u8 n0) (.int .u8 n1) (.int .u8 n2) (.int .u8 n3)).run Tryz.prog w = .ok (.value (.agg (dg_secA (dgOf [(i0, UInt8.ofNat n0.toNat), (i1, UInt8.ofNat n1.toNat), (i2, UInt8.ofNat n2.toNat), (i3, UInt8.ofNat n3.toNat)] dg_secZ)))) w := by
  have h := built_dg [(i0, UInt8.ofNat n0.toNat), (i1, UInt8.ofNat n1.toNat), (i2, UInt8.ofNat n2.toNat), (i3, UInt8.ofNat n3.toNat)] (by simp [hi0, hi1, hi2, hi3])
  unfold dgPs at h
  simp only [List.map_cons, List.map_nil, nat_back an0 bn0, nat_back an1 bn1, nat_back an2 bn2, nat_back an3 bn3] at h
  simp only [dgB4, Sem.run_bind]
  rw [run_build w 33 _ _ h]
  rfl
end Go.Proofs.YtalnbddkhojjbaaGreatDoor
namespace Go.Proofs.YtalnbddkhojjbaaGreatDoor
open Go.RowKit

/-! Sorting by choosing: what is so behind each step. -/
def Beh (rs : List Dg) (n : Nat) : Prop := ∀ m ∈ nums rs, m < n
/-- Some of the list in order; what isn't there yet comes behind all of it. -/
structure SortUp (ds rs : List Dg) : Prop where
  asc : (nums rs).Pairwise (· < ·)
  sub : ∀ n ∈ nums rs, n ∈ nums ds
  rest : ∀ n ∈ nums ds, n ∉ nums rs → Beh rs n
theorem SortUp.nil (ds : List Dg) : SortUp ds [] := ⟨List.Pairwise.nil, fun n h => (by cases h), fun _ _ _ m hm => (by cases hm)⟩
theorem SortUp.len {ds rs : List Dg} (h : SortUp ds rs) : rs.length ≤ ds.length := by
  have := asc_len _ _ h.asc h.sub
  rwa [nums_len, nums_len] at this
theorem nums_snoc (rs : List Dg) (d : Dg) : nums (rs ++ [d]) = nums rs ++ [dN d] := by simp [nums]
theorem SortUp.more {ds rs : List Dg} {d : Dg} (h : SortUp ds rs) (hd : dN d ∈ nums ds) (hb : Beh rs (dN d)) (hmin : ∀ n ∈ nums ds, Beh rs n → dN d ≤ n) : SortUp ds (rs ++ [d]) := by
  refine ⟨?_, fun n hn => ?_, fun n hn hx m hm => ?_⟩
  · rw [nums_snoc, List.pairwise_append]
    refine ⟨h.asc, by simp, fun a ha b hb' => ?_⟩
    simp only [List.mem_singleton] at hb'
    subst hb'
    exact hb a ha
  · rw [nums_snoc, List.mem_append, List.mem_singleton] at hn
    rcases hn with hn | rfl
    · exact h.sub n hn
    · exact hd
  · rw [nums_snoc, List.mem_append, List.mem_singleton, not_or] at hx
    have hbn := h.rest n hn hx.1
    rw [nums_snoc, List.mem_append, List.mem_singleton] at hm
    rcases hm with hm | rfl
    · exact hbn m hm
    · have := hmin n hn hbn
      have := hx.2
      omega
/-- The best of the first k. -/
def BestAt (ds rs : List Dg) (bst : Int) (k : Nat) : Prop :=
  (bst = -1 ∧ ∀ (j : Nat) d, j < k → ds[j]? = some d → ¬ Beh rs (dN d)) ∨
  ∃ (b : Nat) (e : Dg), bst = b ∧ b < k ∧ ds[b]? = some e ∧ Beh rs (dN e) ∧ ∀ (j : Nat) d, j < k → ds[j]? = some d → Beh rs (dN d) → dN e ≤ dN d
theorem BestAt.zero (ds rs : List Dg) : BestAt ds rs (-1) 0 := .inl ⟨rfl, fun j d hj => by omega⟩
theorem lt_succ_cases {j k : Nat} (h : j < k + 1) : j < k ∨ j = k := by omega
theorem BestAt.no {ds rs : List Dg} {bst : Int} {k : Nat} {d : Dg} (h : BestAt ds rs bst k) (hd : ds[k]? = some d) (hn : ¬ Beh rs (dN d)) : BestAt ds rs bst (k + 1) := by
  rcases h with ⟨h1, h2⟩ | ⟨b, e, h1, h2, h3, h4, h5⟩
  · refine .inl ⟨h1, fun j x hj hx => ?_⟩
    rcases lt_succ_cases hj with h | rfl
    · exact h2 j x h hx
    · rw [hd] at hx; cases hx; exact hn
  · refine .inr ⟨b, e, h1, by omega, h3, h4, fun j x hj hx hb => ?_⟩
    rcases lt_succ_cases hj with h | rfl
    · exact h5 j x h hx hb
    · rw [hd] at hx; cases hx; exact absurd hb hn
theorem BestAt.first {ds rs : List Dg} {k : Nat} {d : Dg} (h : BestAt ds rs (-1) k) (hd : ds[k]? = some d) (hb : Beh rs (dN d)) : BestAt ds rs (k : Nat) (k + 1) := by
  rcases h with ⟨_, h2⟩ | ⟨b, e, h1, _⟩
  · refine .inr ⟨k, d, rfl, by omega, hd, hb, fun j x hj hx hbx => ?_⟩
    rcases lt_succ_cases hj with h | rfl
    · exact absurd hbx (h2 j x h hx)
    · rw [hd] at hx; cases hx; exact Nat.le_refl _
  · omega
theorem BestAt.keep {ds rs : List Dg} {k b : Nat} {d e : Dg} (h : BestAt ds rs (b : Nat) k) (hd : ds[k]? = some d) (he : ds[b]? = some e) (hl : ¬ dN d < dN e) : BestAt ds rs (b : Nat) (k + 1) := by
  rcases h with ⟨h1, _⟩ | ⟨b', e', h1, h2, h3, h4, h5⟩
  · omega
  · obtain rfl : b = b' := by omega
    rw [he] at h3; cases h3
    refine .inr ⟨b, e, rfl, by omega, he, h4, fun j x hj hx hbx => ?_⟩
    rcases lt_succ_cases hj with h | rfl
    · exact h5 j x h hx hbx
    · rw [hd] at hx; cases hx; omega
theorem BestAt.form {ds rs : List Dg} {bst : Int} {k : Nat} (h : BestAt ds rs bst k) : bst = -1 ∨ ∃ b : Nat, ∃ e, bst = (b : Int) ∧ b < k ∧ ds[b]? = some e := by
  rcases h with ⟨h1, _⟩ | ⟨b, e, h1, h2, h3, _⟩
  · exact .inl h1
  · exact .inr ⟨b, e, h1, h2, h3⟩
theorem mem_nums {ds : List Dg} {n : Nat} (h : n ∈ nums ds) : ∃ (j : Nat) (d : Dg), j < ds.length ∧ ds[j]? = some d ∧ dN d = n := by
  simp only [nums, List.mem_map] at h
  obtain ⟨d, hd, rfl⟩ := h
  obtain ⟨j, hj, rfl⟩ := List.getElem_of_mem hd
  exact ⟨j, _, hj, List.getElem?_eq_getElem hj, rfl⟩
theorem BestAt.some {ds rs : List Dg} {b : Nat} {e : Dg} (h : BestAt ds rs (b : Nat) ds.length) (he : ds[b]? = some e) : dN e ∈ nums ds ∧ Beh rs (dN e) ∧ ∀ n ∈ nums ds, Beh rs n → dN e ≤ n := by
  rcases h with ⟨h1, _⟩ | ⟨b', e', h1, h2, h3, h4, h5⟩
  · omega
  · obtain rfl : b = b' := by omega
    rw [he] at h3; cases h3
    refine ⟨List.mem_of_getElem? (nums_get ds b e he), h4, fun n hn hb => ?_⟩
    obtain ⟨j, d, hj, hd, rfl⟩ := mem_nums hn
    exact h5 j d hj hd hb
end Go.Proofs.YtalnbddkhojjbaaGreatDoor
namespace Go.Proofs.YtalnbddkhojjbaaGreatDoor
open Go.RowKit

end Go.Proofs.YtalnbddkhojjbaaGreatDoor
namespace Go.Proofs.YtalnbddkhojjbaaGreatDoor
open Go.RowKit

end Go.Proofs.YtalnbddkhojjbaaGreatDoor
namespace Go.Proofs.YtalnbddkhojjbaaGreatDoor
open Go.RowKit

/-! Literals of slices of digests -/
theorem OwnDs.lit (w : World) (ds : List Dg) (h : ds.length ≤ maxLen) : OwnDs (w.alloc (.cells (flatD ds).toArray 33)) w.heap.size (.slice (some ⟨w.heap.size, 0, none⟩) ds.length ds.length) ds :=
  ⟨flatD_len ds, .inr ⟨w.heap.size, ds.length, (flatD ds).toArray, rfl, Nat.le_refl _, heap_alloc_last w _, Nat.le_refl _, h, by simp [flatD_len], by rw [List.toList_toArray, List.take_of_length_le (by rw [flatD_len]; omega)]⟩⟩
end Go.Proofs.YtalnbddkhojjbaaGreatDoor
namespace Go.Proofs.YtalnbddkhojjbaaGreatDoor
open Go.RowKit

def strCut1 (x lo : Value) : Sem Next := do pure (.value (← Instr.sliceAt 9 x (some lo) none none))
@[go_sem ↓] theorem execOp_strCut1 (ρ : Operand → Value) (dst : Option Tmp) (ty : TypeId) (pos : String) (after : Array Edge) (guard : Option (Nat × Bool)) (x lo : Operand) : execOp ρ { dst, op := .slice 9 x (some lo) none none, type := ty, pos, after, guard } = strCut1 (ρ x) (ρ lo) := rfl
theorem run_strCut1 (w : World) (s : ByteArray) (lo : Nat) (a2 : lo ≤ s.size) : (strCut1 (.string s) (.int .i64 (lo : Int))).run Tryz.prog w = .ok (.value (.string (s.extract lo s.size))) w := by
  have b1 : ∀ W : World, (Instr.sliceBound (.int .i64 (lo : Int)) s.size BoundsCode.sliceB).run Tryz.prog W = .ok lo W := fun W => by
    have := run_sliceBound (P := Tryz.prog) W .i64 (lo : Int) s.size BoundsCode.sliceB (by omega) (by omega)
    simpa using this
  simp [strCut1, Instr.sliceAt, Instr.slice, run_underlying Tryz.underlying9, Instr.sliceBounds, b1]
end Go.Proofs.YtalnbddkhojjbaaGreatDoor
namespace Go.Proofs.YtalnbddkhojjbaaGreatDoor
open Go.RowKit

/-! digest.Parse -/
theorem take_short (l : List UInt8) (h : l.length < 7) : ¬ l.take 7 = frontS := fun e => by
  have := congrArg List.length e
  rw [List.length_take] at this
  have h7 : frontS.length = 7 := rfl
  omega
set_option linter.unusedSimpArgs false in
theorem hasFront (l : List UInt8) (w : World) : Calls Tryz.prog 118 #[.string ⟨l.toArray⟩, .string ⟨#[115, 104, 97, 50, 53, 54, 58]⟩] w fun e w' => e = .returned (.bool (decide (l.take 7 = frontS))) ∧ w' = w := by
  have hsz : (ByteArray.mk l.toArray).size = l.length := by show l.toArray.size = _; simp
  have hz7 : (ByteArray.mk #[115, 104, 97, 50, 53, 54, 58]).size = 7 := rfl
  obtain ⟨r, hr⟩ : ∃ r, decide (l.take 7 = frontS) = r := ⟨_, rfl⟩
  rw [hr]
  by_cases h7 : 7 ≤ l.length
  · have hi7 : (7 : Int) ≤ (l.length : Int) := by omega
    have hq : ∀ W, (strCut0 (.string ⟨l.toArray⟩) (.int .i64 7)).run Tryz.prog W = .ok (.value (.string ((ByteArray.mk l.toArray).extract 0 7))) W := fun W => run_strCut0 W _ 7 (by omega)
    by_cases hf : l.take 7 = frontS
    · have hx := front_eq l hf
      obtain rfl : r = true := by rw [← hr]; simp [hf]
      clear hr hf
      generalize (ByteArray.mk l.toArray).extract 0 7 = S7 at hx hq
      go_enter Tryz.func118, Tryz.ntmps118
      go_wp2
      go_ret
      exact ⟨rfl, rfl⟩
    · have hx := front_ne l hf
      obtain rfl : r = false := by rw [← hr]; simp [hf]
      clear hr hf
      generalize (ByteArray.mk l.toArray).extract 0 7 = S7 at hx hq
      go_enter Tryz.func118, Tryz.ntmps118
      go_wp2
      go_ret
      exact ⟨rfl, rfl⟩
  · have hi7 : ¬ (7 : Int) ≤ (l.length : Int) := by omega
    obtain rfl : r = false := by rw [← hr]; simp [take_short l (by omega)]
    clear hr
    go_enter Tryz.func118, Tryz.ntmps118
    go_wp2
    go_ret
    exact ⟨rfl, rfl⟩
theorem cutEnd (l : List UInt8) : (ByteArray.mk l.toArray).extract 7 l.length = ⟨(l.drop 7).toArray⟩ := by
  apply ByteArray.ext
  simp
  exact List.take_of_length_le (by simp)
set_option linter.unusedSimpArgs false in
theorem cutFront (l : List UInt8) (w : World) : Calls Tryz.prog 99 #[.string ⟨l.toArray⟩, .string ⟨#[115, 104, 97, 50, 53, 54, 58]⟩] w fun e w' => e = .returned (.tuple #[.string ⟨(if l.take 7 = frontS then l.drop 7 else l).toArray⟩, .bool (decide (l.take 7 = frontS))]) ∧ w' = w := by
  have hsz : (ByteArray.mk l.toArray).size = l.length := by show l.toArray.size = _; simp
  have hz7 : (ByteArray.mk #[115, 104, 97, 50, 53, 54, 58]).size = 7 := rfl
  have hH := hasFront l w
  by_cases hf : l.take 7 = frontS
  · have hl : 7 ≤ l.length := by
      rcases Nat.lt_or_ge l.length 7 with h | h
      · exact absurd hf (take_short l h)
      · exact h
    have hq : ∀ W, (strCut1 (.string ⟨l.toArray⟩) (.int .i64 7)).run Tryz.prog W = .ok (.value (.string ⟨(l.drop 7).toArray⟩)) W := fun W => by
      have := run_strCut1 W (ByteArray.mk l.toArray) 7 (by omega)
      rw [hsz, cutEnd] at this
      exact this
    rw [if_pos hf]
    rw [decide_eq_true hf] at hH ⊢
    generalize l.drop 7 = m at hq ⊢
    clear hf
    go_enter Tryz.func99, Tryz.ntmps99
    go_wp2_with fail
    refine hH.mono ?_
    rintro e w' ⟨rfl, rfl⟩
    go_wp2
    go_ret2
    exact ⟨rfl, rfl⟩
  · rw [if_neg hf]
    rw [decide_eq_false hf] at hH ⊢
    clear hf
    go_enter Tryz.func99, Tryz.ntmps99
    go_wp2_with fail
    refine hH.mono ?_
    rintro e w' ⟨rfl, rfl⟩
    go_wp2
    go_ret2
    exact ⟨rfl, rfl⟩
set_option linter.unusedSimpArgs false in
theorem cutFront2 (l : List UInt8) (w : World) : Calls Tryz.prog 70 #[.string ⟨l.toArray⟩, .string ⟨#[115, 104, 97, 50, 53, 54, 58]⟩] w fun e w' => e = .returned (.tuple #[.string ⟨(if l.take 7 = frontS then l.drop 7 else l).toArray⟩, .bool (decide (l.take 7 = frontS))]) ∧ w' = w := by
  have hH := cutFront l w
  generalize (if l.take 7 = frontS then l.drop 7 else l) = m at hH ⊢
  generalize decide (l.take 7 = frontS) = r at hH ⊢
  go_enter Tryz.func70, Tryz.ntmps70
  go_wp2_with fail
  refine hH.mono ?_
  rintro e w' ⟨rfl, rfl⟩
  go_wp2
  go_ret2
  exact ⟨rfl, rfl⟩
/-- What a rune stands for. -/
def rv (r : Int) : Int := if 48 ≤ r ∧ r ≤ 57 then r - 48 else if 97 ≤ r ∧ r ≤ 102 then r - 87 else -1
theorem rv_digV (c : UInt8) : rv (c.toNat : Int) = digV c := by
  have h : ∀ x : Fin 256, rv ((x.val : Nat) : Int) = digV (UInt8.ofNat x.val) := by decide +kernel
  have := h ⟨c.toNat, c.toNat_lt⟩
  simpa using this
theorem rv_high (r : Int) (h : 128 ≤ r) : rv r = -1 := by
  unfold rv
  rw [if_neg (by omega), if_neg (by omega)]
set_option linter.unusedSimpArgs false in
theorem value_any (r : Int) (h0 : 0 ≤ r) (h1 : r ≤ 2147483647) (w : World) : Calls Tryz.prog 71 #[.int .i32 r] w fun e w' => e = .returned (.tuple #[.int .u8 (if 0 ≤ rv r then rv r else 0), .bool (decide (0 ≤ rv r))]) ∧ w' = w := by
  by_cases ha : 48 ≤ r ∧ r ≤ 57
  · obtain ⟨a1, a2⟩ := ha
    have e : rv r = r - 48 := by unfold rv; rw [if_pos ⟨a1, a2⟩]
    rw [e, if_pos (by omega), decide_eq_true (by omega)]
    have w1 : IntKind.i32.wrap (r - 48) = r - 48 := by simp [IntKind.wrap, IntKind.bits, IntKind.signed]; omega
    have w2 : IntKind.u8.wrap (r - 48) = r - 48 := by simp [IntKind.wrap, IntKind.bits, IntKind.signed]; omega
    go_enter Tryz.func71, Tryz.ntmps71
    go_wp2
    go_ret2
    exact ⟨rfl, rfl⟩
  · by_cases hb : 97 ≤ r ∧ r ≤ 102
    · obtain ⟨a1, a2⟩ := hb
      have e : rv r = r - 87 := by unfold rv; rw [if_neg ha, if_pos ⟨a1, a2⟩]
      rw [e, if_pos (by omega), decide_eq_true (by omega)]
      have a3 : 48 ≤ r := by omega
      have a4 : ¬ r ≤ 57 := by omega
      have w1 : IntKind.i32.wrap (r - 97) = r - 97 := by simp [IntKind.wrap, IntKind.bits, IntKind.signed]; omega
      have w2 : IntKind.u8.wrap (r - 97) = r - 97 := by simp [IntKind.wrap, IntKind.bits, IntKind.signed]; omega
      have w3 : IntKind.u8.wrap (r - 97 + 10) = r - 87 := by simp [IntKind.wrap, IntKind.bits, IntKind.signed]; omega
      clear ha
      go_enter Tryz.func71, Tryz.ntmps71
      go_wp2
      go_ret2
      exact ⟨by first | rfl | rw [w3], rfl⟩
    · have e : rv r = -1 := by unfold rv; rw [if_neg ha, if_neg hb]
      rw [e, if_neg (by omega), decide_eq_false (by omega)]
      clear e
      rcases (by omega : r < 48 ∨ (57 < r ∧ r < 97) ∨ 102 < r) with c | ⟨c, c'⟩ | c
      · have a3 : ¬ 48 ≤ r := by omega
        have a4 : ¬ 97 ≤ r := by omega
        clear ha hb
        go_enter Tryz.func71, Tryz.ntmps71
        go_wp2
        go_ret2
        exact ⟨rfl, rfl⟩
      · have a3 : 48 ≤ r := by omega
        have a5 : ¬ r ≤ 57 := by omega
        have a4 : ¬ 97 ≤ r := by omega
        clear ha hb
        go_enter Tryz.func71, Tryz.ntmps71
        go_wp2
        go_ret2
        exact ⟨rfl, rfl⟩
      · have a3 : 48 ≤ r := by omega
        have a5 : ¬ r ≤ 57 := by omega
        have a4 : 97 ≤ r := by omega
        have a6 : ¬ r ≤ 102 := by omega
        clear ha hb
        go_enter Tryz.func71, Tryz.ntmps71
        go_wp2
        go_ret2
        exact ⟨rfl, rfl⟩
end Go.Proofs.YtalnbddkhojjbaaGreatDoor
namespace Go.Proofs.YtalnbddkhojjbaaGreatDoor
open Go.RowKit

/-! The digits one by one -/
def pd (l : List UInt8) (k : Nat) : Nat → UInt8 := fun j => if 2 * j + 1 < k then pval l j else if 2 * j < k then UInt8.ofNat (hiV l j).toNat else 0
def PU (l : List UInt8) (k : Nat) : Prop := ∀ i, i < k → 0 ≤ digV (lAt l (7 + i))
theorem pd_zero (l : List UInt8) : pd l 0 = dg_secZ := by
  funext j
  simp [pd, dg_secZ]
theorem pd_all (l : List UInt8) : dg_secA (pd l 64) = dg_secA (pval l) := (dg_secA_inj _ _).2 fun i hi => by
  unfold pd
  rw [if_pos (by omega)]
theorem pu_all {l : List UInt8} (h : PU l 64) : PUp l 32 := fun i hi => by
  have h1 := h (2 * i) (by omega)
  have h2 := h (2 * i + 1) (by omega)
  unfold hiV loV
  rw [show 8 + 2 * i = 7 + (2 * i + 1) by omega]
  exact ⟨h1, h2⟩
theorem pu_not {l : List UInt8} {k : Nat} (hk : k < 64) (h : ¬ 0 ≤ digV (lAt l (7 + k))) : ¬ PGood l := fun hg => by
  have h1 := hg.2.2 (k / 2) (by omega)
  unfold hiV loV at h1
  rcases (by omega : k % 2 = 0 ∨ k % 2 = 1) with e | e
  · rw [show 7 + 2 * (k / 2) = 7 + k by omega] at h1
    exact h h1.1
  · rw [show 8 + 2 * (k / 2) = 7 + k by omega] at h1
    exact h h1.2
theorem pd_step (l : List UInt8) (k : Nat) (hk : k < 64) (hu : PU l (k + 1)) : ∃ a : Nat, a < 16 ∧ (pd l k (k / 2)).toNat = a ∧ ((pd l (k + 1) (k / 2)).toNat : Int) = 16 * a + digV (lAt l (7 + k)) ∧ pd l (k + 1) = upd (pd l k) (k / 2) (pd l (k + 1) (k / 2)) := by
  have hup : ∀ j, pd l (k + 1) j = upd (pd l k) (k / 2) (pd l (k + 1) (k / 2)) j := fun j => by
    unfold upd
    by_cases e : j = k / 2
    · subst e; simp
    · rw [if_neg e]
      unfold pd
      by_cases h1 : 2 * j + 1 < k
      · rw [if_pos (by omega), if_pos h1]
      · have h2 : ¬ 2 * j < k := by omega
        rw [if_neg (by omega), if_neg (by omega), if_neg h1, if_neg h2]
  have hx := digV_range (lAt l (7 + k))
  have h0 := hu k (by omega)
  rcases (by omega : k % 2 = 0 ∨ k % 2 = 1) with e | e
  · refine ⟨0, by omega, ?_, ?_, funext hup⟩
    · unfold pd
      rw [if_neg (by omega), if_neg (by omega)]
      rfl
    · unfold pd
      rw [if_neg (by omega), if_pos (by omega)]
      unfold hiV
      rw [show 7 + 2 * (k / 2) = 7 + k by omega, UInt8.toNat_ofNat']
      omega
  · have hh := hu (k - 1) (by omega)
    have hr := digV_range (lAt l (7 + (k - 1)))
    have e1 : hiV l (k / 2) = digV (lAt l (7 + (k - 1))) := by unfold hiV; rw [show 7 + 2 * (k / 2) = 7 + (k - 1) by omega]
    have e2 : loV l (k / 2) = digV (lAt l (7 + k)) := by unfold loV; rw [show 8 + 2 * (k / 2) = 7 + k by omega]
    refine ⟨(hiV l (k / 2)).toNat, by omega, ?_, ?_, funext hup⟩
    · unfold pd
      rw [if_neg (by omega), if_pos (by omega), UInt8.toNat_ofNat']
      omega
    · have hn := pval_nat l (k / 2) (by rw [e1, e2]; exact ⟨hh, h0⟩)
      unfold pd
      rw [if_pos (by omega), hn, e2]
      omega
theorem or16 (a : Nat) (x : Int) (ha : a < 16) (h0 : 0 ≤ x) (h1 : x < 16) : bits .or .u8 (16 * (a : Int)) x = 16 * (a : Int) + x := by
  have h : ∀ (p q : Fin 16), bits .or .u8 (16 * ((p.val : Nat) : Int)) ((q.val : Nat) : Int) = 16 * ((p.val : Nat) : Int) + ((q.val : Nat) : Int) := by decide +kernel
  have := h ⟨a, ha⟩ ⟨x.toNat, by omega⟩
  simp only [Int.toNat_of_nonneg h0] at this
  exact this
theorem DgR.iter {w : World} {g it : Nat} {s : Nat → UInt8} (h : DgR w g s) (S : ByteArray) (p : Nat) (hn : g ≠ it) : DgR (w.iterAt it S p) g s := by
  unfold DgR dg_rowOk dg_rowAt at *
  rw [Lib.iterAt_other w it g S p hn]; exact h
theorem iter_setCell {w : World} {g it i : Nat} {o : Obj} (v : Value) (h : w.heap[it]? = some o) (hn : g ≠ it) : (w.setCell ⟨g, i, none⟩ v).heap[it]? = some o := by
  simp only [World.setCell, Array.getElem?_modify]
  rw [if_neg hn]; exact h
theorem rune_at (l : List UInt8) (k : Nat) (hk : k < 64) (hl : l.length = 71) : ∃ r wd : Nat, Utf8.decode ⟨(l.drop 7).toArray⟩ k = (r, wd) ∧ r ≤ 2147483647 ∧ rv (r : Int) = digV (lAt l (7 + k)) ∧ (0 ≤ digV (lAt l (7 + k)) → wd = 1) := by
  have hs : k < (ByteArray.mk (l.drop 7).toArray).size := by show k < (l.drop 7).toArray.size; simp; omega
  have hb : (ByteArray.mk (l.drop 7).toArray)[k]'hs = lAt l (7 + k) := by
    show (l.drop 7).toArray[k]'(by simp; omega) = _
    unfold lAt
    rw [List.getElem?_eq_getElem (by omega)]
    simp
  by_cases ha : (lAt l (7 + k)).toNat < 128
  · refine ⟨_, _, decode_ascii _ k hs (by rw [hb]; exact ha), ?_, ?_, fun _ => rfl⟩
    · have := ((ByteArray.mk (l.drop 7).toArray)[k]'hs).toNat_lt; omega
    · rw [hb, rv_digV]
  · have h1 := decode_high (ByteArray.mk (l.drop 7).toArray) k hs (by rw [hb]; omega)
    have h2 := decode_le (ByteArray.mk (l.drop 7).toArray) k
    have h3 : digV (lAt l (7 + k)) = -1 := by rw [← rv_digV]; exact rv_high _ (by omega)
    refine ⟨(Utf8.decode ⟨(l.drop 7).toArray⟩ k).1, (Utf8.decode ⟨(l.drop 7).toArray⟩ k).2, rfl, h2, ?_, fun h => by omega⟩
    rw [h3]
    exact rv_high _ (by omega)
set_option linter.unusedSimpArgs false in
set_option maxHeartbeats 800000 in
theorem parseOk : ParseOk := by
  intro l w
  have hsz : (ByteArray.mk l.toArray).size = l.length := by show l.toArray.size = _; simp
  have hsm : (ByteArray.mk (l.drop 7).toArray).size = l.length - 7 := by show (l.drop 7).toArray.size = _; simp
  have hB : Below w.heap.size w ((w.alloc (.cells (dg_secA dg_secZ) 33)).alloc (.cells (dg_secA dg_secZ) 33)) := (below_alloc w _).alloc (by simp) _
  have hRr : DgR ((w.alloc (.cells (dg_secA dg_secZ) 33)).alloc (.cells (dg_secA dg_secZ) 33)) w.heap.size dg_secZ := (DgR.new w dg_secZ _).kept (below_alloc _ _)
  have hRd : DgR ((w.alloc (.cells (dg_secA dg_secZ) 33)).alloc (.cells (dg_secA dg_secZ) 33)) (w.heap.size + 1) dg_secZ := by
    have := DgR.new (w.alloc (.cells (dg_secA dg_secZ) 33)) dg_secZ 33
    rw [World.size_alloc] at this
    exact this
  have hXs : ((w.alloc (.cells (dg_secA dg_secZ) 33)).alloc (.cells (dg_secA dg_secZ) 33)).heap.size = w.heap.size + 2 := by simp
  have hC := cutFront2 l
  go_enter Tryz.func39, Tryz.ntmps39
  go_upto_region 2 with fail
  obtain ⟨gd, hgd⟩ : ∃ g, w.heap.size + 1 = g := ⟨_, rfl⟩
  obtain ⟨gr, hgr⟩ : ∃ g, w.heap.size = g := ⟨_, rfl⟩
  have hne : gd ≠ gr := by omega
  have hlr : w.heap.size ≤ gr := by omega
  have hld : w.heap.size ≤ gd := by omega
  rw [hgd] at hRd
  rw [hgr] at hRr
  simp only [hgd]
  simp only [hgr]
  generalize (w.alloc (.cells (dg_secA dg_secZ) 33)).alloc (.cells (dg_secA dg_secZ) 33) = X at hB hRr hRd hXs ⊢
  have hdX : gd < X.heap.size := by omega
  have hrX : gr < X.heap.size := by omega
  clear hgd hXs
  go_wp2_with fail
  refine (hC _).mono ?_
  rintro e w1 ⟨rfl, rfl⟩
  by_cases hf : l.take 7 = frontS
  · simp only [if_pos hf, decide_eq_true hf]
    by_cases h71 : l.length = 71
    · have hm64 : (ByteArray.mk (l.drop 7).toArray).size = 64 := by omega
      have hru := fun k hk => rune_at l k hk h71
      obtain ⟨S, hS⟩ : ∃ S, ByteArray.mk (l.drop 7).toArray = S := ⟨_, rfl⟩
      rw [hS] at hm64 hru
      simp only [hS]
      clear hS hsm hsz
      go_wp2_with fail
      have hit := World.iter_heap w1 S 0
      have hBi : Below w1.heap.size w1 (w1.iter S 0) := below_alloc _ _
      obtain ⟨it, hitE⟩ : ∃ i, w1.heap.size = i := ⟨_, rfl⟩
      rw [hitE] at hit hdX hrX
      simp only [hitE]
      have hnd : gd ≠ it := by omega
      have hnr : gr ≠ it := by omega
      have hli : w.heap.size ≤ it := by omega
      replace hRd := hRd.kept hBi
      replace hRr := hRr.kept hBi
      replace hB := hB.trans (hBi.mono (by omega))
      generalize w1.iter S 0 = X1 at hit hBi hRd hRr hB ⊢
      clear hBi hC hitE
      go_loopw [] (fun wr => ∃ k : Nat, k ≤ 64 ∧ wr.heap[it]? = some (.stringIter S k) ∧ PU l k ∧ DgR wr gd (pd l k) ∧ DgR wr gr dg_secZ ∧ Below w.heap.size w wr) (fun wr => 64 - wr.iterPos it)
      case atStart => exact ⟨0, by omega, hit, fun i hi => by omega, by rw [pd_zero]; exact hRd, hRr, hB⟩
      case round =>
        clear hRd hRr hB hit
        obtain ⟨k, hk, hit, hU, hRd, hRr, hB⟩ := hrel
        by_cases hlt : k < 64
        · obtain ⟨r, wd, hde, hr1, hrv, hwd⟩ := hru k hlt
          have hnx : ∀ ty, (Instr.next (.pointer (some ⟨it, 0, none⟩)) true ty).run Tryz.prog wr = _ := fun ty => Lib.run_next_any_at wr it S k ty hit (by omega)
          rw [hde] at hnx
          simp only at hnx
          have hpos : wr.iterPos it = k := by unfold World.iterPos; rw [hit]
          have hit1 := Lib.iterAt_heap wr it S k (k + wd) hit
          replace hRd := hRd.iter S (k + wd) hnd
          replace hRr := hRr.iter S (k + wd) hnr
          replace hB := Lib.below_iterAt hB hli S (k + wd)
          have hx := digV_range (lAt l (7 + k))
          have hv := value_any (r : Int) (by omega) (by omega)
          have hr0 : (0 : Int) ≤ (r : Int) := by omega
          rw [hrv] at hv
          clear hrv hde hru hit
          by_cases hd : 0 ≤ digV (lAt l (7 + k))
          · obtain rfl := hwd hd
            have HU : Hid (PU l (k + 1)) := fun i hi => by
              rcases Nat.lt_or_ge i k with h | h
              · exact hU i h
              · obtain rfl : i = k := by omega
                exact hd
            obtain ⟨a, ha, hpa, hpn, hps⟩ := pd_step l k hlt HU.out
            obtain ⟨j, hj⟩ : ∃ j, k / 2 = j := ⟨_, rfl⟩
            rw [hj] at hpa hpn hps
            obtain ⟨x, hxe⟩ : ∃ x : Nat, digV (lAt l (7 + k)) = x := ⟨(digV (lAt l (7 + k))).toNat, by omega⟩
            rw [hxe] at hpn hv hx
            rw [if_pos (by omega), decide_eq_true (by omega)] at hv
            obtain ⟨nb, hnb⟩ : ∃ b, pd l (k + 1) j = b := ⟨_, rfl⟩
            rw [hnb] at hpn hps
            have hb9 := nb.toNat_lt
            have hcd := hRd.cell j (by omega)
            rw [hpa] at hcd
            have hfz := hRd.frozen j
            generalize hW1 : wr.iterAt it S (k + 1) = W1 at *
            have HI : Hid ((W1.setCell ⟨gd, j, none⟩ (.int .u8 (nb.toNat : Int))).heap[it]? = some (.stringIter S (k + 1))) := iter_setCell _ hit1 hnd
            have HR : Hid (DgR (W1.setCell ⟨gd, j, none⟩ (.int .u8 (nb.toNat : Int))) gd (pd l (k + 1))) := by show DgR _ _ _; rw [hps]; exact hRd.set j nb (by omega)
            have HZ : Hid _ := hRr.set_ne j (.int .u8 (nb.toNat : Int)) hne
            have HB : Hid _ := hB.setCell (p := ⟨gd, j, none⟩) hld (.int .u8 (nb.toNat : Int))
            have o1 := or16 a x ha (by omega) (by omega)
            rw [← hpn] at o1
            have q1 : (k : Int) / 2 = (j : Int) := by omega
            have j0 : (0 : Int) ≤ (j : Int) := by omega
            have j1 : (j : Int) < 32 := by omega
            have k0 : (0 : Int) ≤ (k : Int) := by omega
            have a1 : (16 * (a : Int)) < 256 := by omega
            have a2 : IntKind.u8.wrap (16 * (a : Int)) = 16 * (a : Int) := by simp [IntKind.wrap, IntKind.bits, IntKind.signed]; omega
            have a3 : IntKind.u8.wrap ((a : Int) * 16) = 16 * (a : Int) := by rw [Int.mul_comm]; exact a2
            have HM : Hid (wr.iterPos it = k) := hpos
            have H64 : Hid (k < 64) := hlt
            clear hRd hRr hB hU hps hpn hpa hit1 hd hwd hnb hxe hpos
            go_wp2_with fail
            refine (hv _).mono ?_
            rintro e w2 ⟨rfl, rfl⟩
            clear hv hnx
            go_wp2
            go_roundw
            case rel => exact ⟨k + 1, by omega, HI.out, HU.out, HR.out, HZ.out, HB.out⟩
            case measure =>
              have hm := HM.out
              have h64 := H64.out
              have : (w2.setCell ⟨gd, j, none⟩ (.int .u8 (nb.toNat : Int))).iterPos it = k + 1 := by unfold World.iterPos; rw [HI.out]
              omega
          · have HP : Hid (ParsedTo l dg_secZ 35) := .inr ⟨pu_not hlt hd, rfl, rfl⟩
            rw [if_neg hd, decide_eq_false hd] at hv
            generalize wr.iterAt it S (k + wd) = W1 at *
            have hR9 : DgR (W1.setRow gr (dg_secA dg_secZ)) gr dg_secZ := ⟨dg_rowOk_setRow_same _ _ _ hRr.1 (dg_secA_size _), dg_rowAt_setRow_same _ _ _ hRr.1⟩
            have HR9 : Hid _ := hR9
            have HB : Hid _ := dg_below_row hB hlr (dg_secA dg_secZ)
            obtain ⟨r1, q1⟩ := hRr
            clear hR9 hRd hB hU hit1 hd hwd hpos hx
            go_wp2_with fail
            refine (hv _).mono ?_
            rintro e w2 ⟨rfl, rfl⟩
            clear hv hnx
            go_wp2
            exact dg_bodyPost2 2 3 gr dg_secZ rfl rfl rfl HR9.out ⟨⟨_, 35, rfl, HP.out⟩, HB.out⟩
        · obtain rfl : k = 64 := by omega
          have hnx : ∀ ty, (Instr.next (.pointer (some ⟨it, 0, none⟩)) true ty).run Tryz.prog wr = _ := fun ty => Lib.run_next_end_at wr it S 64 ty hit (by omega)
          have HP : Hid (ParsedTo l (pval l) 0) := .inl ⟨⟨h71, hf, pu_all hU⟩, rfl, rfl⟩
          obtain ⟨r1, q1⟩ := hRd
          rw [pd_all] at q1
          have HR9 : Hid (DgR (wr.setRow gr (dg_secA (pval l))) gr (pval l)) := ⟨dg_rowOk_setRow_same _ _ _ hRr.1 (dg_secA_size _), dg_rowAt_setRow_same _ _ _ hRr.1⟩
          have HB : Hid _ := dg_below_row hB hlr (dg_secA (pval l))
          obtain ⟨r2, q2⟩ := hRr
          clear hB hU hit hru
          generalize pval l = d at *
          go_wp2
          exact dg_bodyPost2 2 3 gr d rfl rfl rfl HR9.out ⟨⟨d, 0, rfl, HP.out⟩, HB.out⟩
    · have HP : Hid (ParsedTo l dg_secZ 35) := .inr ⟨fun h => h71 h.1, rfl, rfl⟩
      have hR9 : DgR (w1.setRow gr (dg_secA dg_secZ)) gr dg_secZ := ⟨dg_rowOk_setRow_same _ _ _ hRr.1 (dg_secA_size _), dg_rowAt_setRow_same _ _ _ hRr.1⟩
      obtain ⟨r1, q1⟩ := hRr
      obtain ⟨S, hS⟩ : ∃ S, ByteArray.mk (l.drop 7).toArray = S := ⟨_, rfl⟩
      have h64 : ((S.size : Int) != 64) = true := by
        rw [← hS, hsm]
        have : 7 ≤ l.length := by
          rcases Nat.lt_or_ge l.length 7 with h | h
          · exact absurd hf (take_short l h)
          · exact h
        simp
        omega
      have h64' : ¬ (S.size : Int) = 64 := by simpa using h64
      simp only [hS]
      clear hf hC hS hsm hsz
      go_wp2
      exact dg_bodyPost2 2 3 gr dg_secZ rfl rfl rfl hR9 ⟨⟨_, 35, rfl, HP.out⟩, dg_below_row hB hlr _⟩
  · simp only [if_neg hf, decide_eq_false hf]
    have HP : Hid (ParsedTo l dg_secZ 35) := .inr ⟨fun h => hf h.2.1, rfl, rfl⟩
    have hR9 : DgR (w1.setRow gr (dg_secA dg_secZ)) gr dg_secZ := ⟨dg_rowOk_setRow_same _ _ _ hRr.1 (dg_secA_size _), dg_rowAt_setRow_same _ _ _ hRr.1⟩
    obtain ⟨r1, q1⟩ := hRr
    clear hf hC
    go_wp2
    exact dg_bodyPost2 2 3 gr dg_secZ rfl rfl rfl hR9 ⟨⟨_, 35, rfl, HP.out⟩, dg_below_row hB hlr _⟩
end Go.Proofs.YtalnbddkhojjbaaGreatDoor
