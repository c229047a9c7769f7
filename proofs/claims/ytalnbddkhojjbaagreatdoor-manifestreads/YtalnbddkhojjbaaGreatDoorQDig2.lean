import Derived.Test.YtalnbddkhojjbaaGreatDoorQNum
import Derived.Test.YtalnbddkhojjbaaGreatDoorQDigM
import Derived.Test.YtalnbddkhojjbaaGreatDoorQApp
import Derived.BigQuiet
import Derived.Deep.QuietTactic
import Derived.WalkSpells
import Derived.Deep.MidRow
import Derived.Deep.AppendLies
import Derived.Sort.Grow
import Derived.Lib.SlBytesConst
import Derived.Great.BuildSlice
import Derived.Lib.OthersKept
import Derived.Laws.RangeAny
namespace Go.Proofs.YtalnbddkhojjbaaGreatDoor
open Go.RowKit

def DgR (w : World) (g : Nat) (s : Nat → UInt8) : Prop := dg_rowOk w g = true ∧ dg_rowAt w g = dg_secA s
theorem DgR.kept {w w1 : World} {g : Nat} {s : Nat → UInt8} (h : DgR w g s) (hb : Below w.heap.size w w1) : DgR w1 g s := dg_keepRow hb (dg_lt_of_rowOk h.1) h.1 h.2
theorem DgR.new (w : World) (s : Nat → UInt8) (t : TypeId) : DgR (w.alloc (.cells (dg_secA s) t)) w.heap.size s := ⟨dg_rowOk_new _ _ _ _ rfl (dg_secA_size _), dg_rowAt_new _ _ _ _ rfl⟩
theorem DgR.cell {w : World} {g : Nat} {s : Nat → UInt8} (h : DgR w g s) (i : Nat) (hi : i < 32) : w.cell? ⟨g, i, none⟩ = some (Value.int .u8 ((s i).toNat : Int)) := by
  rw [dg_cell_rowAt h.1, h.2, dg_secA_get s i hi]
theorem DgR.frozen {w : World} {g : Nat} {s : Nat → UInt8} (h : DgR w g s) (i : Nat) : w.frozen? ⟨g, i, none⟩ = false := by
  obtain ⟨t, hg, _⟩ := dg_row_of_ok h.1
  simp [World.frozen?, hg]
theorem heap_setCell4 (w : World) (g i : Nat) (v : Value) (c : Array Value) (t : TypeId) (fr : Nat × Nat) (h : w.heap[g]? = some (.cells c t fr)) : (w.setCell ⟨g, i, none⟩ v).heap[g]? = some (.cells (c.setIfInBounds i v) t fr) := by
  unfold World.setCell
  rw [Array.getElem?_modify, if_pos rfl, h]
  rfl
theorem DgR.set {w : World} {g : Nat} {s : Nat → UInt8} (h : DgR w g s) (i : Nat) (b : UInt8) (hi : i < 32) : DgR (w.setCell ⟨g, i, none⟩ (.int .u8 (b.toNat : Int))) g (upd s i b) := by
  obtain ⟨t, hg, hs⟩ := dg_row_of_ok h.1
  have e := heap_setCell4 w g i (.int .u8 (b.toNat : Int)) _ t _ hg
  constructor
  · unfold dg_rowOk; rw [e]; simp [hs]
  · have e2 : dg_rowAt (w.setCell ⟨g, i, none⟩ (.int .u8 (b.toNat : Int))) g = (dg_rowAt w g).setIfInBounds i (.int .u8 (b.toNat : Int)) := by
      show (match (w.setCell ⟨g, i, none⟩ (.int .u8 (b.toNat : Int))).heap[g]? with | some (.cells c _ _) => c | _ => #[]) = _
      rw [e]
    rw [e2, h.2]; exact dg_secA_set s i b hi
theorem DgR.set_ne {w : World} {g k : Nat} {s : Nat → UInt8} (h : DgR w k s) (i : Nat) (v : Value) (hn : g ≠ k) : DgR (w.setCell ⟨g, i, none⟩ v) k s := by
  unfold DgR dg_rowOk dg_rowAt at *
  have e : (w.setCell ⟨g, i, none⟩ v).heap[k]? = w.heap[k]? := by simp only [World.setCell, Array.getElem?_modify]; rw [if_neg hn]
  rw [e]; exact h
def dg_box (x : Value) : Sem Next := do pure (.value (← Instr.box 33 x))
@[go_sem ↓] theorem execOp_box_dg (ρ : Operand → Value) (dst : Option Tmp) (ty : TypeId) (pos : String) (after : Array Edge) (guard : Option (Nat × Bool)) (x : Operand) : execOp ρ { dst, op := .box 33 x, type := ty, pos, after, guard } = dg_box (ρ x) := rfl
@[go_sem] theorem run_box_dg (w : World) (c : Array Value) : (dg_box (.agg c)).run Tryz.prog w = .ok (.value (.pointer (some ⟨w.heap.size, 0, none⟩))) (w.alloc (.cells c 33)) := by
  simp only [dg_box, Instr.box, newVar, Value.cells, Sem.run_bind]
  rfl
def upT (d : Nat → UInt8) (k : Nat) : Nat → UInt8 := fun j => if j < k then d j else 0
theorem upT_zero (d : Nat → UInt8) : upT d 0 = dg_secZ := by funext j; simp [upT, dg_secZ]
theorem upT_succ (d : Nat → UInt8) (k : Nat) : upT d (k + 1) = upd (upT d k) k (d k) := by
  funext j
  unfold upT upd
  by_cases h : j = k
  · subst h; simp
  · have : (j < k + 1) = (j < k) := by simp; omega
    simp [h, this]
theorem upT_all (d : Nat → UInt8) : dg_secA (upT d 32) = dg_secA d := (dg_secA_inj _ _).2 fun i hi => by simp [upT, hi]
theorem digits_cut (n : Nat) (h : n < 16) : (ByteArray.mk #[48, 49, 50, 51, 52, 53, 54, 55, 56, 57, 97, 98, 99, 100, 101, 102]).extract n (n + 1) = ⟨#[digC n]⟩ := by
  rcases (by omega : n = 0 ∨ n = 1 ∨ n = 2 ∨ n = 3 ∨ n = 4 ∨ n = 5 ∨ n = 6 ∨ n = 7 ∨ n = 8 ∨ n = 9 ∨ n = 10 ∨ n = 11 ∨ n = 12 ∨ n = 13 ∨ n = 14 ∨ n = 15) with rfl | rfl | rfl | rfl | rfl | rfl | rfl | rfl | rfl | rfl | rfl | rfl | rfl | rfl | rfl | rfl <;> rfl
def strCut (x lo hi : Value) : Sem Next := do pure (.value (← Instr.sliceAt 9 x (some lo) (some hi) none))
def strCut0 (x hi : Value) : Sem Next := do pure (.value (← Instr.sliceAt 9 x none (some hi) none))
@[go_sem ↓] theorem execOp_strCut (ρ : Operand → Value) (dst : Option Tmp) (ty : TypeId) (pos : String) (after : Array Edge) (guard : Option (Nat × Bool)) (x lo hi : Operand) : execOp ρ { dst, op := .slice 9 x (some lo) (some hi) none, type := ty, pos, after, guard } = strCut (ρ x) (ρ lo) (ρ hi) := rfl
@[go_sem ↓] theorem execOp_strCut0 (ρ : Operand → Value) (dst : Option Tmp) (ty : TypeId) (pos : String) (after : Array Edge) (guard : Option (Nat × Bool)) (x hi : Operand) : execOp ρ { dst, op := .slice 9 x none (some hi) none, type := ty, pos, after, guard } = strCut0 (ρ x) (ρ hi) := rfl
theorem run_strCut0 (w : World) (s : ByteArray) (hi : Nat) (a2 : hi ≤ s.size) : (strCut0 (.string s) (.int .i64 (hi : Int))).run Tryz.prog w = .ok (.value (.string (s.extract 0 hi))) w := by
  have b1 : ∀ W : World, (Instr.sliceBound (.int .i64 (hi : Int)) s.size BoundsCode.sliceAlen).run Tryz.prog W = .ok hi W := fun W => by
    have := run_sliceBound (P := Tryz.prog) W .i64 (hi : Int) s.size BoundsCode.sliceAlen (by omega) (by omega)
    simpa using this
  simp [strCut0, Instr.sliceAt, Instr.slice, run_underlying Tryz.underlying9, Instr.sliceBounds, b1]
def strB (s : ByteArray) (k : Nat) : UInt8 := s.data[k]?.getD 0
def strAt (x i : Value) : Sem Next := do pure (.value (← Instr.index 9 x i))
@[go_sem ↓] theorem execOp_strAt (ρ : Operand → Value) (dst : Option Tmp) (ty : TypeId) (pos : String) (after : Array Edge) (guard : Option (Nat × Bool)) (x i : Operand) : execOp ρ { dst, op := .index 9 x i, type := ty, pos, after, guard } = strAt (ρ x) (ρ i) := rfl
@[go_sem] theorem run_strAt (w : World) (s : ByteArray) (k : Nat) (h : (k : Int) < (s.size : Int)) : (strAt (.string s) (.int .i64 (k : Int))).run Tryz.prog w = .ok (.value (.int .u8 ((strB s k).toNat : Int))) w := by
  have hk : k < s.size := by omega
  have hg : s[k]? = some (strB s k) := by
    rw [getElem?_pos s k hk]
    unfold strB
    have h2 : k < s.data.size := hk
    rw [Array.getElem?_eq_getElem h2]; rfl
  simp [strAt, Instr.index, run_underlying Tryz.underlying9, asIntOf, hg]
theorem strB_list (l : List UInt8) (k : Nat) : strB ⟨l.toArray⟩ k = lAt l k := by unfold strB lAt; simp
theorem strB_digits (i : Nat) (h : i < 16) : strB ⟨#[48, 49, 50, 51, 52, 53, 54, 55, 56, 57, 97, 98, 99, 100, 101, 102]⟩ i = digC i := by
  rcases (by omega : i = 0 ∨ i = 1 ∨ i = 2 ∨ i = 3 ∨ i = 4 ∨ i = 5 ∨ i = 6 ∨ i = 7 ∨ i = 8 ∨ i = 9 ∨ i = 10 ∨ i = 11 ∨ i = 12 ∨ i = 13 ∨ i = 14 ∨ i = 15) with rfl | rfl | rfl | rfl | rfl | rfl | rfl | rfl | rfl | rfl | rfl | rfl | rfl | rfl | rfl | rfl <;> rfl
end Go.Proofs.YtalnbddkhojjbaaGreatDoor
namespace Go.Proofs.YtalnbddkhojjbaaGreatDoor
open Go.RowKit

set_option linter.unusedSimpArgs false in
set_option maxHeartbeats 400000 in
theorem refDigit_any (c : UInt8) (w : World) : Calls Tryz.prog 76 #[.int .u8 (c.toNat : Int)] w fun e w' => e = .returned (.int .i64 (digV c)) ∧ Below w.heap.size w w' := by
  obtain ⟨r, hr⟩ : ∃ r, digV c = r := ⟨_, rfl⟩
  have HR : Hid _ := hr
  rw [hr]
  clear hr
  go_enter Tryz.func76, Tryz.ntmps76
  go_wp2_with fail
  go_loopw [3] (fun i wr => ∃ k : Nat, k ≤ 16 ∧ i = .int .i64 k ∧ (∀ j, j < k → digC j ≠ c) ∧ Below w.heap.size w wr) (fun i _ => 16 - (intOf i).toNat)
  case atStart => exact ⟨0, by omega, rfl, fun j hj => by omega, Below.refl _ _⟩
  case round =>
    obtain ⟨k, hk, rfl, hno, hB⟩ := hrel
    by_cases hlt : k < 16
    · have hd := strB_digits k hlt
      have hsz : (ByteArray.mk #[48, 49, 50, 51, 52, 53, 54, 55, 56, 57, 97, 98, 99, 100, 101, 102]).size = 16 := rfl
      have hk0 : (0 : Int) ≤ (k : Int) := by omega
      have hk1 : (k : Int) < 16 := by omega
      by_cases he : digC k = c
      · have HV : Hid (r = (k : Int)) := by show _ = _; rw [← HR.out]; exact digV_at c k hlt hno he
        rw [he] at hd
        go_wp2
        go_ret
        exact ⟨by rw [HV.out]; rfl, hB⟩
      · have hne : ¬ (digC k).toNat = c.toNat := fun e => he (UInt8.toNat_inj.1 e)
        have HN : Hid (∀ j, j < k + 1 → digC j ≠ c) := fun j hj => by
          rcases Nat.lt_or_ge j k with h | h
          · exact hno j h
          · obtain rfl : j = k := by omega
            exact he
        clear hno he
        have hne' : ¬ ((digC k).toNat : Int) = (c.toNat : Int) := by omega
        generalize digC k = b at hd hne hne'
        go_wp2
        go_roundw
        case rel => first | exact ⟨k + 1, by omega, by go_num, HN.out, hB⟩ | ((repeat apply Exists.intro); refine ⟨⟨k + 1, by omega, ?_, HN.out, hB⟩, rfl⟩; go_num)
        case measure => simp [intOf]; omega
    · obtain rfl : k = 16 := by omega
      have HV : Hid (r = -1) := by show _ = _; rw [← HR.out]; exact digV_none c hno
      clear hno
      go_wp2
      go_ret
      exact ⟨by rw [HV.out]; rfl, hB⟩
end Go.Proofs.YtalnbddkhojjbaaGreatDoor
namespace Go.Proofs.YtalnbddkhojjbaaGreatDoor
open Go.RowKit

theorem dg_bodyPost2 {fn : Func} {R : Ending → World → Prop} {a : Act} {w : World} (p q n : Nat) (s : Nat → UInt8) (hres : fn.results = #[.cell p 33, .tmp q]) (hp : a.tmps.getD p undef = .pointer (some ⟨n, 0, none⟩)) (hd : a.defers = [])
    (hok : DgR w n s) (h : R (.returned (.tuple #[.agg (dg_secA s), a.tmps.getD q undef])) w) : bodyPost Tryz.prog fn R .ret a w := by
  obtain ⟨t, hg, hs⟩ := dg_row_of_ok hok.1
  rw [hok.2] at hg
  have hp' : a.tmps[p]?.getD undef = .pointer (some ⟨n, 0, none⟩) := by simpa using hp
  have hl := run_loadVar_row (P := Tryz.prog) w n t 33 (dg_secA s) (0, 0) _ hg Tryz.underlying33 rfl (by rw [size33, dg_secA_size])
  refine bodyPost_ret (v := .tuple #[.agg (dg_secA s), a.tmps.getD q undef]) ?_ hd h
  simp [results, hres, hp', asAddr, hl]
def ParsedTo (l : List UInt8) (d : Nat → UInt8) (c : Int) : Prop := (PGood l ∧ d = pval l ∧ c = 0) ∨ (¬ PGood l ∧ d = dg_secZ ∧ c = 35)
theorem cut7 (l : List UInt8) : ((ByteArray.mk l.toArray).extract 0 7).toList = l.take 7 := by
  rw [ByteArray.toList_eq]
  simp
theorem front_eq (l : List UInt8) (h : l.take 7 = frontS) : (((ByteArray.mk l.toArray).extract 0 7).toList == [115, 104, 97, 50, 53, 54, 58]) = true := by
  rw [cut7, h]; rfl
theorem front_ne (l : List UInt8) (h : ¬ l.take 7 = frontS) : (((ByteArray.mk l.toArray).extract 0 7).toList == [115, 104, 97, 50, 53, 54, 58]) = false := by
  rw [cut7]
  exact beq_eq_false_iff_ne.2 h
set_option linter.unusedSimpArgs false in
set_option maxHeartbeats 800000 in
theorem refParse4_any (l : List UInt8) (w : World) : Calls Tryz.prog 48 #[.string ⟨l.toArray⟩] w fun e w' => (∃ d c, e = .returned (.tuple #[.agg (dg_secA d), .int .i64 c]) ∧ ParsedTo l d c) ∧ Below w.heap.size w w' := by
  have hsz : (ByteArray.mk l.toArray).size = l.length := by show l.toArray.size = _; simp
  have hB : Below w.heap.size w ((w.alloc (.cells (dg_secA dg_secZ) 33)).alloc (.cells (dg_secA dg_secZ) 33)) := (below_alloc w _).alloc (by simp) _
  have hRr : DgR ((w.alloc (.cells (dg_secA dg_secZ) 33)).alloc (.cells (dg_secA dg_secZ) 33)) w.heap.size dg_secZ := (DgR.new w dg_secZ _).kept (below_alloc _ _)
  have hRd : DgR ((w.alloc (.cells (dg_secA dg_secZ) 33)).alloc (.cells (dg_secA dg_secZ) 33)) (w.heap.size + 1) dg_secZ := by
    have := DgR.new (w.alloc (.cells (dg_secA dg_secZ) 33)) dg_secZ 33
    rw [World.size_alloc] at this
    exact this
  go_enter Tryz.func48, Tryz.ntmps48
  go_upto_region 2 with fail
  obtain ⟨gd, hgd⟩ : ∃ g, w.heap.size + 1 = g := ⟨_, rfl⟩
  obtain ⟨gr, hgr⟩ : ∃ g, w.heap.size = g := ⟨_, rfl⟩
  have hne : gd ≠ gr := by omega
  have hlr : w.heap.size ≤ gr := by omega
  have hld : w.heap.size ≤ gd := by omega
  rw [hgd] at hRd
  rw [hgr] at hRr
  simp only [hgd]
  simp only [hgr]
  generalize (w.alloc (.cells (dg_secA dg_secZ) 33)).alloc (.cells (dg_secA dg_secZ) 33) = X at hB hRr hRd ⊢
  clear hgd
  by_cases h71 : l.length = 71
  · have hi71 : (l.length : Int) = 71 := by omega
    have hb71 : ((l.length : Int) != 71) = false := by simp [hi71]
    have hq : ∀ W, (strCut0 (.string ⟨l.toArray⟩) (.int .i64 7)).run Tryz.prog W = .ok (.value (.string ((ByteArray.mk l.toArray).extract 0 7))) W := fun W => run_strCut0 W _ 7 (by omega)
    by_cases hf : l.take 7 = frontS
    · have hx := front_eq l hf
      generalize (ByteArray.mk l.toArray).extract 0 7 = S7 at hx hq
      go_wp2_with fail
      clear hx hq
      go_loopw [5] (fun i wr => ∃ k : Nat, k ≤ 32 ∧ i = .int .i64 k ∧ PUp l k ∧ DgR wr gd (upT (pval l) k) ∧ DgR wr gr dg_secZ ∧ Below w.heap.size w wr) (fun i _ => 32 - (intOf i).toNat)
      case atStart => exact ⟨0, by omega, rfl, fun j hj => by omega, by rw [upT_zero]; exact hRd, hRr, hB⟩
      case round =>
        clear hRd hRr hB
        obtain ⟨k, hk, rfl, hU, hRd, hRr, hB⟩ := hrel
        by_cases hlt : k < 32
        · have hk0 : (0 : Int) ≤ (k : Int) := by omega
          have hk1 : (k : Int) < 32 := by omega
          obtain ⟨p1, hp1⟩ : ∃ p, 7 + 2 * k = p := ⟨_, rfl⟩
          obtain ⟨p2, hp2⟩ : ∃ p, 8 + 2 * k = p := ⟨_, rfl⟩
          have n1 : (7 : Int) + 2 * (k : Int) = (p1 : Int) := by omega
          have n2 : (8 : Int) + 2 * (k : Int) = (p2 : Int) := by omega
          have b1 : (p1 : Int) < 71 := by omega
          have b2 : (p2 : Int) < 71 := by omega
          have s1 := strB_list l p1
          have s2 := strB_list l p2
          have v1 := refDigit_any (lAt l p1)
          have v2 := refDigit_any (lAt l p2)
          have eh : hiV l k = digV (lAt l p1) := by unfold hiV; rw [hp1]
          have el : loV l k = digV (lAt l p2) := by unfold loV; rw [hp2]
          rw [← eh] at v1
          rw [← el] at v2
          have r1 : -1 ≤ hiV l k ∧ hiV l k < 16 := digV_range _
          have r2 : -1 ≤ loV l k ∧ loV l k < 16 := digV_range _
          have hpn := pval_nat l k
          have HS : Hid (∀ b, pval l k = b → upT (pval l) (k + 1) = upd (upT (pval l) k) k b) := fun b hb => by rw [upT_succ, hb]
          have HN : Hid (¬ (0 ≤ hiV l k ∧ 0 ≤ loV l k) → ParsedTo l dg_secZ 35) := fun h => .inr ⟨fun hg => h (hg.2.2 k hlt), rfl, rfl⟩
          have HU : Hid (0 ≤ hiV l k ∧ 0 ≤ loV l k → PUp l (k + 1)) := fun h j hj => by
            rcases Nat.lt_or_ge j k with h1 | h1
            · exact hU j h1
            · obtain rfl : j = k := by omega
              exact h
          clear hU eh el hp1 hp2 hb71
          generalize hiV l k = vh at *
          generalize loV l k = vl at *
          generalize lAt l p1 = ch at *
          generalize lAt l p2 = cl at *
          go_wp2_with fail
          refine (v1 _).mono ?_
          rintro e w1 ⟨rfl, hw1⟩
          go_wp2_with fail
          refine (v2 _).mono ?_
          rintro e w2 ⟨rfl, hw2⟩
          replace hRd := (hRd.kept hw1).kept hw2
          replace hRr := (hRr.kept hw1).kept hw2
          replace hB := (hB.trans (hw1.mono hB.size))
          replace hB := (hB.trans (hw2.mono hB.size))
          clear hw1 hw2 v1 v2 s1 s2 n1 n2
          by_cases hv : 0 ≤ vh ∧ 0 ≤ vl
          · obtain ⟨b, hb⟩ : ∃ b, pval l k = b := ⟨_, rfl⟩
            have hbn := hpn hv
            rw [hb] at hbn
            have hbl := b.toNat_lt
            have hcd := hRd.cell k hlt
            have hfz := hRd.frozen k
            have HR : Hid (DgR (w2.setCell ⟨gd, k, none⟩ (.int .u8 (b.toNat : Int))) gd (upT (pval l) (k + 1))) := by show DgR _ _ _; rw [HS.out b hb]; exact hRd.set k b hlt
            have HZ : Hid _ := hRr.set_ne k (.int .u8 (b.toNat : Int)) hne
            have HB : Hid _ := hB.setCell (p := ⟨gd, k, none⟩) hld (.int .u8 (b.toNat : Int))
            obtain ⟨x, rfl⟩ : ∃ x : Nat, vh = (x : Int) := ⟨vh.toNat, by omega⟩
            obtain ⟨y, rfl⟩ : ∃ y : Nat, vl = (y : Int) := ⟨vl.toNat, by omega⟩
            have HU2 := HU.out hv
            have HU3 : Hid _ := HU2
            have e1 : (16 : Int) * (x : Int) + (y : Int) = (b.toNat : Int) := by omega
            have x0 : ¬ (x : Int) < 0 := by omega
            have y0 : ¬ (y : Int) < 0 := by omega
            clear hRd hRr hB hb hbn hpn HS HN HU HU2
            go_wp2
            go_roundw
            case rel => first | exact ⟨k + 1, by omega, by go_num, HU3.out, HR.out, HZ.out, HB.out⟩ | ((repeat apply Exists.intro); refine ⟨⟨k + 1, by omega, ?_, HU3.out, HR.out, HZ.out, HB.out⟩, rfl⟩; go_num)
            case measure => simp [intOf]; omega
          · have HP : Hid (ParsedTo l dg_secZ 35) := HN.out hv
            have hR9 : DgR (w2.setRow gr (dg_secA dg_secZ)) gr dg_secZ := ⟨dg_rowOk_setRow_same _ _ _ hRr.1 (dg_secA_size _), dg_rowAt_setRow_same _ _ _ hRr.1⟩
            have HR9 : Hid _ := hR9
            have HB : Hid _ := dg_below_row hB hlr (dg_secA dg_secZ)
            obtain ⟨r1, q1⟩ := hRr
            clear hR9 hRd hB hpn HS HN HU
            by_cases hv1 : vh < 0
            · go_wp2
              exact dg_bodyPost2 2 3 gr dg_secZ rfl rfl rfl HR9.out ⟨⟨_, 35, rfl, HP.out⟩, HB.out⟩
            · have hv2 : vl < 0 := by omega
              go_wp2
              exact dg_bodyPost2 2 3 gr dg_secZ rfl rfl rfl HR9.out ⟨⟨_, 35, rfl, HP.out⟩, HB.out⟩
        · obtain rfl : k = 32 := by omega
          have HP : Hid (ParsedTo l (pval l) 0) := .inl ⟨⟨h71, hf, hU⟩, rfl, rfl⟩
          obtain ⟨r1, q1⟩ := hRd
          rw [upT_all] at q1
          have HR9 : Hid (DgR (wr.setRow gr (dg_secA (pval l))) gr (pval l)) := ⟨dg_rowOk_setRow_same _ _ _ hRr.1 (dg_secA_size _), dg_rowAt_setRow_same _ _ _ hRr.1⟩
          have HB : Hid _ := dg_below_row hB hlr (dg_secA (pval l))
          obtain ⟨r2, q2⟩ := hRr
          clear hB hU
          generalize pval l = d at *
          go_wp2
          exact dg_bodyPost2 2 3 gr d rfl rfl rfl HR9.out ⟨⟨d, 0, rfl, HP.out⟩, HB.out⟩
    · have hx := front_ne l hf
      have HP : Hid (ParsedTo l dg_secZ 35) := .inr ⟨fun h => hf h.2.1, rfl, rfl⟩
      generalize (ByteArray.mk l.toArray).extract 0 7 = S7 at hx hq
      have hR9 : DgR (X.setRow gr (dg_secA dg_secZ)) gr dg_secZ := ⟨dg_rowOk_setRow_same _ _ _ hRr.1 (dg_secA_size _), dg_rowAt_setRow_same _ _ _ hRr.1⟩
      obtain ⟨r1, q1⟩ := hRr
      clear hf
      go_wp2
      exact dg_bodyPost2 2 3 gr dg_secZ rfl rfl rfl hR9 ⟨⟨_, 35, rfl, HP.out⟩, dg_below_row hB hlr _⟩
  · have hi71 : ¬ (l.length : Int) = 71 := by omega
    have HP : Hid (ParsedTo l dg_secZ 35) := .inr ⟨fun h => h71 h.1, rfl, rfl⟩
    have hR9 : DgR (X.setRow gr (dg_secA dg_secZ)) gr dg_secZ := ⟨dg_rowOk_setRow_same _ _ _ hRr.1 (dg_secA_size _), dg_rowAt_setRow_same _ _ _ hRr.1⟩
    obtain ⟨r1, q1⟩ := hRr
    have hb71 : ((l.length : Int) != 71) = true := by simp; omega
    go_wp2
    exact dg_bodyPost2 2 3 gr dg_secZ rfl rfl rfl hR9 ⟨⟨_, 35, rfl, HP.out⟩, dg_below_row hB hlr _⟩
end Go.Proofs.YtalnbddkhojjbaaGreatDoor
namespace Go.Proofs.YtalnbddkhojjbaaGreatDoor
open Go.RowKit

abbrev Dg := Nat → UInt8
def rngOk (w : World) (b o : Nat) : Bool := (List.range 32).all fun j => (w.cell? ⟨b, o + j, none⟩).isSome
def rng (w : World) (b o : Nat) : Array Value := ((List.range 32).map fun j => (w.cell? ⟨b, o + j, none⟩).getD undef).toArray
@[go_sem] theorem rng_drewN (w : World) (n b o : Nat) : rng (w.drewN n) b o = rng w b o := rfl
@[go_sem] theorem rngOk_drewN (w : World) (n b o : Nat) : rngOk (w.drewN n) b o = rngOk w b o := rfl
@[go_sem] theorem rng_drew (w : World) (b o : Nat) : rng w.drew b o = rng w b o := rfl
@[go_sem] theorem rngOk_drew (w : World) (b o : Nat) : rngOk w.drew b o = rngOk w b o := rfl
end Go.Proofs.YtalnbddkhojjbaaGreatDoor
namespace Go.Proofs.YtalnbddkhojjbaaGreatDoor
open Go.RowKit

def dN (d : Dg) : Nat := dnum d 32
def nums (ds : List Dg) : List Nat := ds.map dN
end Go.Proofs.YtalnbddkhojjbaaGreatDoor
namespace Go.Proofs.YtalnbddkhojjbaaGreatDoor
open Go.RowKit

def TextOk : Prop := ∀ (s : Dg) (w : World), Calls Tryz.prog 61 #[.agg (dg_secA s)] w fun e w' => e = .returned (.string ⟨(textL s).toArray⟩) ∧ Below w.heap.size w w'
def ParseOk : Prop := ∀ (l : List UInt8) (w : World), Calls Tryz.prog 39 #[.string ⟨l.toArray⟩] w fun e w' => (∃ d c, e = .returned (.tuple #[.agg (dg_secA d), .int .i64 c]) ∧ ParsedTo l d c) ∧ Below w.heap.size w w'
end Go.Proofs.YtalnbddkhojjbaaGreatDoor
namespace Go.Proofs.YtalnbddkhojjbaaGreatDoor
open Go.RowKit Go.Sort

end Go.Proofs.YtalnbddkhojjbaaGreatDoor
namespace Go.Proofs.YtalnbddkhojjbaaGreatDoor
set_option linter.unusedSimpArgs false
open Go.RowKit

theorem digC_lo (v : Nat) (h : v < 10) : ((digC v).toNat : Int) = 48 + (v : Int) := by
  rcases (by omega : v = 0 ∨ v = 1 ∨ v = 2 ∨ v = 3 ∨ v = 4 ∨ v = 5 ∨ v = 6 ∨ v = 7 ∨ v = 8 ∨ v = 9) with rfl | rfl | rfl | rfl | rfl | rfl | rfl | rfl | rfl | rfl <;> rfl
theorem digC_hi (v : Nat) (h : 10 ≤ v) (h2 : v < 16) : ((digC v).toNat : Int) = 87 + (v : Int) := by
  rcases (by omega : v = 10 ∨ v = 11 ∨ v = 12 ∨ v = 13 ∨ v = 14 ∨ v = 15) with rfl | rfl | rfl | rfl | rfl | rfl <;> rfl
theorem shr4 (b h : Nat) (e : b / 16 = h) : (b : Int) / 16 = (h : Int) := by omega
theorem and15 (b m : Nat) (hb : b < 256) (e : b % 16 = m) : bits .and .u8 (b : Int) 15 = (m : Int) := by
  have h : ∀ x : Fin 256, bits .and .u8 ((x.val : Nat) : Int) 15 = ((x.val % 16 : Nat) : Int) := by decide +kernel
  rw [← e]
  exact h ⟨b, hb⟩
theorem digit_any (v : Nat) (h : v < 16) (w : World) : Calls Tryz.prog 89 #[.int .u8 (v : Int)] w fun e w' => e = .returned (.int .u8 ((digC v).toNat : Int)) ∧ Below w.heap.size w w' := by
  have hb := (digC v).toNat_lt
  by_cases h10 : v < 10
  · have e := digC_lo v h10
    have h1 : (v : Int) < 10 := by omega
    generalize (digC v).toNat = r at e hb ⊢
    have e2 : IntKind.u8.wrap (48 + (v : Int)) = (r : Int) := by rw [← e]; simp [IntKind.wrap, IntKind.bits, IntKind.signed]; omega
    clear e
    go_enter Tryz.func89, Tryz.ntmps89
    go_wp2
    go_ret
    exact ⟨by first | rfl | rw [e2], Below.refl _ _⟩
  · have e := digC_hi v (by omega) h
    have h1 : ¬ (v : Int) < 10 := by omega
    generalize (digC v).toNat = r at e hb ⊢
    have e1 : IntKind.u8.wrap (97 + (v : Int)) = 97 + (v : Int) := by simp [IntKind.wrap, IntKind.bits, IntKind.signed]; omega
    have e2 : IntKind.u8.wrap (97 + (v : Int) - 10) = (r : Int) := by simp [IntKind.wrap, IntKind.bits, IntKind.signed]; omega
    clear e
    go_enter Tryz.func89, Tryz.ntmps89
    go_wp2
    go_ret
    exact ⟨by first | rfl | rw [e2], Below.refl _ _⟩
theorem run_app2 (w : World) (base y c : Nat) (v : Value) (l : List UInt8) (b1 b2 : UInt8) (ty : TypeId) (h : OwnB w base v l) (hy : w.cell? ⟨y, 0, none⟩ = some (Value.int .u8 (b1.toNat : Int))) (hy2 : w.cell? ⟨y, 1, none⟩ = some (Value.int .u8 (b2.toNat : Int))) (hl : l.length + 2 ≤ 140737488355328) (hb : base ≤ w.heap.size) :
    ∃ v' w', (Builtin.append_ #[24, 24] ty #[v, .slice (some ⟨y, 0, none⟩) 2 c]).run Tryz.prog w = .ok v' w' ∧ OwnB w' base v' (l ++ [b1, b2]) ∧ Below base w w' ∧ w.heap.size ≤ w'.heap.size := by
  obtain ⟨i, hi, hzz⟩ := Option.map_eq_some_iff.1 info5
  simp only [Prod.mk.injEq] at hzz
  obtain ⟨hz, hs, hby⟩ := hzz
  obtain ⟨g, cap, w', hr, h2, h3, h4, h5⟩ := run_append_lies (P := Tryz.prog) w 24 ty base 5 i _ 1 1 Tryz.underlying24 hi hz hs hby rfl (by omega) v l.length (bytesA l).toList h ⟨y, 0, none⟩ 2 c [Value.int .u8 (b1.toNat : Int), Value.int .u8 (b2.toNat : Int)] rfl
    (fun j u hu => by
      rw [addr_add, Nat.zero_add]
      rcases j with _ | _ | j
      · simp at hu; subst hu; exact hy
      · simp at hu; subst hu; exact hy2
      · simp at hu) (by simp [Value.oneCell']) (by omega) (by unfold maxLen; omega) (by omega) hb _ rfl
  refine ⟨_, w', hr, ?_, below_grown h h3 hb, h3.size⟩
  have e : (bytesA (l ++ [b1, b2])).toList = (bytesA l).toList ++ [Value.int .u8 (b1.toNat : Int), Value.int .u8 (b2.toNat : Int)] := by simp [bytesA]
  unfold OwnB
  rw [List.length_append, e]
  exact h2
def MarkB (w : World) (base : Nat) (v : Value) (l : List UInt8) : Prop := ∃ g, v = .slice (some ⟨g, 0, none⟩) l.length l.length ∧ base ≤ g ∧ w.heap[g]? = some (.cells (bytesA l) 5 (l.length, l.length + 1))
def OwnT (w : World) (base : Nat) (v : Value) (l : List UInt8) : Prop := OwnB w base v l ∨ MarkB w base v l
theorem OwnT.keep {w w' : World} {base : Nat} {v : Value} {l : List UInt8} (h : OwnT w base v l) (hb : Below w.heap.size w w') : OwnT w' base v l := by
  rcases h with h | ⟨g, rfl, hg, hh⟩
  · exact .inl (h.keep hb)
  · have hlt : g < w.heap.size := by
      rcases Nat.lt_or_ge g w.heap.size with h' | h'
      · exact h'
      · rw [Array.getElem?_eq_none h'] at hh; cases hh
    exact .inr ⟨g, rfl, hg, by rw [hb.block g hlt]; exact hh⟩
theorem MarkB.lit (w : World) (l : List UInt8) (cs : Array Value) (hc : cs = bytesA l) : MarkB (w.alloc (.cells cs 5 (l.length, l.length + 1))) w.heap.size (.slice (some ⟨w.heap.size, 0, none⟩) l.length l.length) l := by
  subst hc
  exact ⟨w.heap.size, rfl, Nat.le_refl _, heap_alloc_last w _⟩
theorem run_app2T (w : World) (base y c : Nat) (v : Value) (l : List UInt8) (b1 b2 : UInt8) (ty : TypeId) (h : OwnT w base v l) (hy : w.cell? ⟨y, 0, none⟩ = some (Value.int .u8 (b1.toNat : Int))) (hy2 : w.cell? ⟨y, 1, none⟩ = some (Value.int .u8 (b2.toNat : Int))) (hl : l.length + 2 ≤ 140737488355328) (hb : base ≤ w.heap.size) :
    ∃ v' w', (Builtin.append_ #[24, 24] ty #[v, .slice (some ⟨y, 0, none⟩) 2 c]).run Tryz.prog w = .ok v' w' ∧ OwnB w' base v' (l ++ [b1, b2]) ∧ Below base w w' ∧ w.heap.size ≤ w'.heap.size := by
  rcases h with h | ⟨g, rfl, hg, hh⟩
  · exact run_app2 w base y c v l b1 b2 ty h hy hy2 hl hb
  · obtain ⟨i, hi, hzz⟩ := Option.map_eq_some_iff.1 info5
    simp only [Prod.mk.injEq] at hzz
    obtain ⟨hz, hs, hby⟩ := hzz
    have hr := run_append_grow (P := Tryz.prog) w 24 ty 5 i _ Tryz.underlying24 hi hz ⟨g, 0, none⟩ l.length l.length (bytesA l).toList (by rw [hs]; simp [bytesA])
      (fun j u hu => by
        rw [addr_add, Nat.zero_add]
        unfold World.cell?
        simp only [hh]
        rw [Array.getElem?_toList] at hu
        simpa using hu) ⟨y, 0, none⟩ 2 c [Value.int .u8 (b1.toNat : Int), Value.int .u8 (b2.toNat : Int)] (by rw [hs]; rfl)
      (fun j u hu => by
        rw [addr_add, Nat.zero_add]
        rcases j with _ | _ | j
        · simp at hu; subst hu; exact hy
        · simp at hu; subst hu; exact hy2
        · simp at hu) (by omega) (by omega) (growslice_fits (by omega) (by rw [hby]; omega))
    refine ⟨_, _, hr, ?_, (below_alloc _ _).drew.mono hb, by simp⟩
    have e : (bytesA (l ++ [b1, b2])).toList = (bytesA l).toList ++ [Value.int .u8 (b1.toNat : Int), Value.int .u8 (b2.toNat : Int)] := by simp [bytesA]
    have hlen : ((bytesA l).toList ++ [Value.int .u8 (b1.toNat : Int), Value.int .u8 (b2.toNat : Int)]).length = (l.length + 2) * 1 := by simp [bytesA]
    have hge := grownCap_ge w (l.length + 2) l.length 5
    have hcm : grownCap w (l.length + 2) l.length 5 ≤ maxLen := grownCap_le_maxLen w _ _ _ (by unfold maxLen; omega)
    unfold OwnB
    rw [List.length_append, e]
    refine ⟨hlen, .inr ⟨w.heap.size, _, _, rfl, hb, heap_alloc_new w.drew _, hge, hcm, ?_, ?_⟩⟩
    · simp only [Array.size_append, List.size_toArray, size_zeroCells, Array.length_toList]
      simp [bytesA, Value.cells]
      omega
    · simp only [Array.toList_append, List.append_assoc]
      rw [← List.append_assoc]
      have hq := hlen
      simp only [List.length_append] at hq
      exact (congrArg (fun n => List.take n _) hlen.symm).trans List.take_left
theorem OwnT.isB {w : World} {base : Nat} {v : Value} {l : List UInt8} (h : OwnT w base v l) : IsB w v l := by
  rcases h with h | ⟨g, rfl, hg, hh⟩
  · exact h.isB
  · refine .inr ⟨_, _, rfl, fun i hi => ?_⟩
    rw [addr_add, Nat.zero_add]
    unfold World.cell?
    simp only [hh]
    have := bytesA_get l i hi
    simpa using this
theorem OwnT.str {w : World} {base : Nat} {v : Value} {l : List UInt8} (h : OwnT w base v l) (h0 : 0 < l.length) : (convert 24 9 v).run Tryz.prog w = .ok (.string ⟨l.toArray⟩) w := by
  rcases h.isB with ⟨_, rfl⟩ | ⟨x, c, rfl, hc⟩
  · simp at h0
  · exact run_convert_bytes_back w _ _ 5 x c l Tryz.underlying24 Tryz.underlying5 Tryz.underlying9 hc
set_option maxHeartbeats 400000 in
set_option maxRecDepth 100000 in
theorem textOk : TextOk := by
  intro s w
  have hR := DgR.new w s 33
  have hB := below_alloc w (.cells (dg_secA s) 33)
  have hO : OwnT _ _ _ _ := .inr (MarkB.lit (w.alloc (.cells (dg_secA s) 33)) (frontS ++ hexL s 0) #[.int .u8 115, .int .u8 104, .int .u8 97, .int .u8 50, .int .u8 53, .int .u8 54, .int .u8 58] rfl)
  have hl0 : (frontS ++ hexL s 0).length = 7 := rfl
  rw [hl0] at hO
  have kc := Lib.run_convert_bytes_const (P := Tryz.prog) (w.alloc (.cells (dg_secA s) 33)) 24 5 #[.int .u8 115, .int .u8 104, .int .u8 97, .int .u8 50, .int .u8 53, .int .u8 54, .int .u8 58] 7 7 Tryz.underlying24 Tryz.underlying5
  rw [World.size_alloc] at kc
  have k7 : (#[.int .u8 115, .int .u8 104, .int .u8 97, .int .u8 50, .int .u8 53, .int .u8 54, .int .u8 58] : Array Value).size = 7 := rfl
  rw [k7] at kc
  clear k7
  have hB2 := below_alloc (w.alloc (.cells (dg_secA s) 33)) (.cells #[.int .u8 115, .int .u8 104, .int .u8 97, .int .u8 50, .int .u8 53, .int .u8 54, .int .u8 58] 5 (7, 8))
  rw [World.size_alloc] at hO
  have HT : Hid (textL s = frontS ++ hexL s 32) := rfl
  rw [HT.out]
  go_enter Tryz.func61, Tryz.ntmps61
  go_wp2_with fail
  obtain ⟨gb, hgb⟩ : ∃ g, w.heap.size + 1 = g := ⟨_, rfl⟩
  have hXs : (w.alloc (.cells (dg_secA s) 33)).heap.size = gb := by rw [World.size_alloc]; exact hgb
  rw [hgb] at hO
  simp only [hgb]
  clear hgb
  generalize (w.alloc (.cells (dg_secA s) 33)).alloc (.cells #[.int .u8 115, .int .u8 104, .int .u8 97, .int .u8 50, .int .u8 53, .int .u8 54, .int .u8 58] 5 (7, 8)) = X2 at hO hB2 ⊢
  generalize w.alloc (.cells (dg_secA s) 33) = X at hR hB hB2 hXs
  have hl : ∀ k, k < 32 → (frontS ++ hexL s k).length + 2 ≤ 140737488355328 := fun k hk => by
    have h9 := hexL_len s k
    rw [List.length_append, h9]
    have : frontS.length = 7 := rfl
    omega
  have hl2 : 0 < (frontS ++ hexL s 32).length := by rw [List.length_append]; show 0 < 7 + _; omega
  obtain ⟨g, hg⟩ : ∃ g, w.heap.size = g := ⟨_, rfl⟩
  simp only [hg]
  rw [hg] at hR hB
  have hgg : g ≤ X.heap.size := by have := hB.size; omega
  have HG : Hid _ := hg
  clear hg kc
  go_loopw [3, 7] (fun v i wr => ∃ k : Nat, k ≤ 32 ∧ i = .int .i64 k ∧ OwnT wr gb v (frontS ++ hexL s k) ∧ Below gb X wr) (fun _ i _ => 32 - (intOf i).toNat)
  case atStart => exact ⟨0, by omega, rfl, hO, by rw [← hXs]; exact hB2⟩
  case round =>
    clear hO
    obtain ⟨k, hk, rfl, hO, hBk⟩ := hrel
    by_cases hlt : k < 32
    · have hc : wr.cell? ⟨g, k, none⟩ = some (.int .u8 ((s k).toNat : Int)) := (hR.kept (hXs ▸ hBk)).cell k hlt
      have hb := (s k).toNat_lt
      have hl1 := hl k hlt
      obtain ⟨h, hh⟩ : ∃ h, (s k).toNat / 16 = h := ⟨_, rfl⟩
      obtain ⟨m, hm⟩ : ∃ m, (s k).toNat % 16 = m := ⟨_, rfl⟩
      have HS : Hid ((frontS ++ hexL s k) ++ [digC h, digC m] = frontS ++ hexL s (k + 1)) := by show _ = _; rw [hexL, hh, hm, List.append_assoc]
      have d1 := digit_any h (by omega)
      have d2 := digit_any m (by omega)
      generalize frontS ++ hexL s k = T at hO HS hl1
      generalize digC h = c1 at d1 HS
      generalize digC m = c2 at d2 HS
      have n1 := shr4 (s k).toNat h hh
      have n2 := and15 (s k).toNat m hb hm
      have n3 : (h : Int) < 256 := by omega
      have n4 : (m : Int) < 256 := by omega
      generalize (s k).toNat = b at *
      clear hh hm hl
      have hk0 : (0 : Int) ≤ (k : Int) := by omega
      have hk1 : (k : Int) < 32 := by omega
      have hgs : gb ≤ wr.heap.size := by have := hBk.size; omega
      go_upto_region 5 with fail
      refine wp_reliesT [Fx (u3), Fx (.int .i64 (k : Nat)), Fx (.pointer (some ⟨g, k, none⟩)), Fx (.int .u8 (b : Nat)), Fx (.int .u8 (h : Nat)), Fx (.int .u8 (c1.toNat : Int)), Fx (.int .i64 (k : Nat)), Fx (.pointer (some ⟨g, k, none⟩)), Fx (.int .u8 (b : Nat)), Fx (.int .u8 (m : Nat)), Fx (.int .u8 (c2.toNat : Int)), fun v x => ∃ q, v = .slice (some ⟨q, 0, none⟩) 2 2 ∧ x.cell? ⟨q, 0, none⟩ = some (.int .u8 (c1.toNat : Int)) ∧ x.cell? ⟨q, 1, none⟩ = some (.int .u8 (c2.toNat : Int))] (by kernel_rfl) (by kernel_rfl) ?_ ?_ ?_
      · repeat' (first | exact all_nil | apply all_cons)
        all_goals intro v y y' hv hb
        all_goals first | exact Fx_mono _ _ _ _ hv hb | (obtain ⟨g, h1, h2, h3⟩ := hv; exact ⟨g, h1, cell_later hb h2, cell_later hb h3⟩)
      · refine ⟨?_, ?_, ?_, ?_, ?_, ?_, ?_, ?_, ?_, ?_, ?_, ?_, trivial⟩
        all_goals
          intro ρ x hp ρc ρg ρf ho hd
          have o1 : ρ (.tmp 1) = .pointer (some ⟨g, 0, none⟩) := ho 1 rfl
          have o3 : ρ (.tmp 3) = u3 := ho 3 rfl
          have o4 : ρ (.tmp 4) = .int .i64 (k : Nat) := ho 4 rfl
          clear ho
          have qa := cell_later hp hc
          simp only [depsR, depR, slotR, Fx, List.getElem?_cons_succ, List.getElem?_cons_zero, Region.binds, forall_const] at hd
          simp only [guardR]
          go_split_ands
        · go_simp
        · go_simp
        · go_simp
        · go_simp
        · go_simp
        · go_simp
          refine (d1 x).mono ?_
          rintro e x' ⟨rfl, hb⟩
          exact ⟨_, rfl, rfl, hb⟩
        · go_simp
        · go_simp
        · go_simp
        · go_simp
        · go_simp
          refine (d2 x).mono ?_
          rintro e x' ⟨rfl, hb⟩
          exact ⟨_, rfl, rfl, hb⟩
        · go_simp
          exact below_alloc _ _
      · intro vs x_1 hp hw
        simp only [owed, Fx] at hw
        obtain ⟨e0, e1, e2, e3, e4, e5, e6, e7, e8, e9, e10, ⟨q, e11, hq1, hq2⟩, -⟩ := hw
        simp only [List.length_cons, List.length_nil, List.take_succ_cons, List.take_zero, List.drop_succ_cons, List.drop_zero, asg, List.cons_append, List.nil_append, e0, e1, e2, e3, e4, e5, e6, e7, e8, e9, e10, e11]
        clear e0 e1 e2 e3 e4 e5 e6 e7 e8 e9 e10 e11
        obtain ⟨v', w', hr, hO', hB', hs'⟩ := run_app2T x_1 gb q 2 u3 T c1 c2 24 (hO.keep hp) hq1 hq2 hl1 (by have := hp.size; omega)
        have HO : Hid (OwnT w' gb v' (frontS ++ hexL s (k + 1))) := by show OwnT _ _ _ _; rw [← HS.out]; exact .inl hO'
        have HB : Hid (Below gb X w') := (hBk.trans (hp.mono hgs)).trans hB'
        clear hO hBk hO' hB' hq1 hq2 hc
        go_wp2_with (at_builtin; refine wpL_app rfl _ _ rfl v' w' (by exact hr) ?_)
        go_roundw
        case rel => exact ⟨k + 1, by omega, by go_num, HO.out, HB.out⟩
        case measure => simp [intOf]; omega
    · obtain rfl : k = 32 := by omega
      have HB : Hid _ := hB.trans (hBk.mono (by omega))
      have hcv := hO.str hl2
      clear hO
      go_wp2
      go_ret
      exact ⟨rfl, by rw [HG.out]; exact HB.out⟩
end Go.Proofs.YtalnbddkhojjbaaGreatDoor
namespace Go.Proofs.YtalnbddkhojjbaaGreatDoor
open Go.RowKit

end Go.Proofs.YtalnbddkhojjbaaGreatDoor
namespace Go.Proofs.YtalnbddkhojjbaaGreatDoor
open Go.RowKit

def Beh (rs : List Dg) (n : Nat) : Prop := ∀ m ∈ nums rs, m < n
structure SortUp (ds rs : List Dg) : Prop where
  asc : (nums rs).Pairwise (· < ·)
  sub : ∀ n ∈ nums rs, n ∈ nums ds
  rest : ∀ n ∈ nums ds, n ∉ nums rs → Beh rs n
end Go.Proofs.YtalnbddkhojjbaaGreatDoor
namespace Go.Proofs.YtalnbddkhojjbaaGreatDoor
open Go.RowKit

end Go.Proofs.YtalnbddkhojjbaaGreatDoor
namespace Go.Proofs.YtalnbddkhojjbaaGreatDoor
open Go.RowKit

end Go.Proofs.YtalnbddkhojjbaaGreatDoor
namespace Go.Proofs.YtalnbddkhojjbaaGreatDoor
open Go.RowKit

end Go.Proofs.YtalnbddkhojjbaaGreatDoor
namespace Go.Proofs.YtalnbddkhojjbaaGreatDoor
open Go.RowKit

def strCut1 (x lo : Value) : Sem Next := do pure (.value (← Instr.sliceAt 9 x (some lo) none none))
@[go_sem ↓] theorem execOp_strCut1 (ρ : Operand → Value) (dst : Option Tmp) (ty : TypeId) (pos : String) (after : Array Edge) (guard : Option (Nat × Bool)) (x lo : Operand) : execOp ρ { dst, op := .slice 9 x (some lo) none none, type := ty, pos, after, guard } = strCut1 (ρ x) (ρ lo) := rfl
theorem run_strCut1 (w : World) (s : ByteArray) (lo : Nat) (a2 : lo ≤ s.size) : (strCut1 (.string s) (.int .i64 (lo : Int))).run Tryz.prog w = .ok (.value (.string (s.extract lo s.size))) w := by
  have b1 : ∀ W : World, (Instr.sliceBound (.int .i64 (lo : Int)) s.size BoundsCode.sliceB).run Tryz.prog W = .ok lo W := fun W => by
    have := run_sliceBound (P := Tryz.prog) W .i64 (lo : Int) s.size BoundsCode.sliceB (by omega) (by omega)
    simpa using this
  simp [strCut1, Instr.sliceAt, Instr.slice, run_underlying Tryz.underlying9, Instr.sliceBounds, b1]
end Go.Proofs.YtalnbddkhojjbaaGreatDoor
namespace Go.Proofs.YtalnbddkhojjbaaGreatDoor
set_option linter.unusedSimpArgs false
open Go.RowKit

theorem take_short (l : List UInt8) (h : l.length < 7) : ¬ l.take 7 = frontS := fun e => by
  have := congrArg List.length e
  rw [List.length_take] at this
  have h7 : frontS.length = 7 := rfl
  omega
theorem hasFront (l : List UInt8) (w : World) : Calls Tryz.prog 118 #[.string ⟨l.toArray⟩, .string ⟨#[115, 104, 97, 50, 53, 54, 58]⟩] w fun e w' => e = .returned (.bool (decide (l.take 7 = frontS))) ∧ w' = w := by
  have hsz : (ByteArray.mk l.toArray).size = l.length := by show l.toArray.size = _; simp
  have hz7 : (ByteArray.mk #[115, 104, 97, 50, 53, 54, 58]).size = 7 := rfl
  obtain ⟨r, hr⟩ : ∃ r, decide (l.take 7 = frontS) = r := ⟨_, rfl⟩
  rw [hr]
  by_cases h7 : 7 ≤ l.length
  · have hi7 : (7 : Int) ≤ (l.length : Int) := by omega
    have hq : ∀ W, (strCut0 (.string ⟨l.toArray⟩) (.int .i64 7)).run Tryz.prog W = .ok (.value (.string ((ByteArray.mk l.toArray).extract 0 7))) W := fun W => run_strCut0 W _ 7 (by omega)
    by_cases hf : l.take 7 = frontS
    · have hx := front_eq l hf
      obtain rfl : r = true := by rw [← hr]; simp [hf]
      clear hr hf
      generalize (ByteArray.mk l.toArray).extract 0 7 = S7 at hx hq
      go_enter Tryz.func118, Tryz.ntmps118
      go_wp2
      go_ret
      exact ⟨rfl, rfl⟩
    · have hx := front_ne l hf
      obtain rfl : r = false := by rw [← hr]; simp [hf]
      clear hr hf
      generalize (ByteArray.mk l.toArray).extract 0 7 = S7 at hx hq
      go_enter Tryz.func118, Tryz.ntmps118
      go_wp2
      go_ret
      exact ⟨rfl, rfl⟩
  · have hi7 : ¬ (7 : Int) ≤ (l.length : Int) := by omega
    obtain rfl : r = false := by rw [← hr]; simp [take_short l (by omega)]
    clear hr
    go_enter Tryz.func118, Tryz.ntmps118
    go_wp2
    go_ret
    exact ⟨rfl, rfl⟩
theorem cutEnd (l : List UInt8) : (ByteArray.mk l.toArray).extract 7 l.length = ⟨(l.drop 7).toArray⟩ := by
  apply ByteArray.ext
  simp
  exact List.take_of_length_le (by simp)
theorem cutFront (l : List UInt8) (w : World) : Calls Tryz.prog 99 #[.string ⟨l.toArray⟩, .string ⟨#[115, 104, 97, 50, 53, 54, 58]⟩] w fun e w' => e = .returned (.tuple #[.string ⟨(if l.take 7 = frontS then l.drop 7 else l).toArray⟩, .bool (decide (l.take 7 = frontS))]) ∧ w' = w := by
  have hsz : (ByteArray.mk l.toArray).size = l.length := by show l.toArray.size = _; simp
  have hz7 : (ByteArray.mk #[115, 104, 97, 50, 53, 54, 58]).size = 7 := rfl
  have hH := hasFront l w
  by_cases hf : l.take 7 = frontS
  · have hl : 7 ≤ l.length := by
      rcases Nat.lt_or_ge l.length 7 with h | h
      · exact absurd hf (take_short l h)
      · exact h
    have hq : ∀ W, (strCut1 (.string ⟨l.toArray⟩) (.int .i64 7)).run Tryz.prog W = .ok (.value (.string ⟨(l.drop 7).toArray⟩)) W := fun W => by
      have := run_strCut1 W (ByteArray.mk l.toArray) 7 (by omega)
      rw [hsz, cutEnd] at this
      exact this
    rw [if_pos hf]
    rw [decide_eq_true hf] at hH ⊢
    generalize l.drop 7 = m at hq ⊢
    clear hf
    go_enter Tryz.func99, Tryz.ntmps99
    go_wp2_with fail
    refine hH.mono ?_
    rintro e w' ⟨rfl, rfl⟩
    go_wp2
    go_ret2
    exact ⟨rfl, rfl⟩
  · rw [if_neg hf]
    rw [decide_eq_false hf] at hH ⊢
    clear hf
    go_enter Tryz.func99, Tryz.ntmps99
    go_wp2_with fail
    refine hH.mono ?_
    rintro e w' ⟨rfl, rfl⟩
    go_wp2
    go_ret2
    exact ⟨rfl, rfl⟩
theorem cutFront2 (l : List UInt8) (w : World) : Calls Tryz.prog 70 #[.string ⟨l.toArray⟩, .string ⟨#[115, 104, 97, 50, 53, 54, 58]⟩] w fun e w' => e = .returned (.tuple #[.string ⟨(if l.take 7 = frontS then l.drop 7 else l).toArray⟩, .bool (decide (l.take 7 = frontS))]) ∧ w' = w := by
  have hH := cutFront l w
  generalize (if l.take 7 = frontS then l.drop 7 else l) = m at hH ⊢
  generalize decide (l.take 7 = frontS) = r at hH ⊢
  go_enter Tryz.func70, Tryz.ntmps70
  go_wp2_with fail
  refine hH.mono ?_
  rintro e w' ⟨rfl, rfl⟩
  go_wp2
  go_ret2
  exact ⟨rfl, rfl⟩
def rv (r : Int) : Int := if 48 ≤ r ∧ r ≤ 57 then r - 48 else if 97 ≤ r ∧ r ≤ 102 then r - 87 else -1
theorem rv_digV (c : UInt8) : rv (c.toNat : Int) = digV c := by
  have h : ∀ x : Fin 256, rv ((x.val : Nat) : Int) = digV (UInt8.ofNat x.val) := by decide +kernel
  have := h ⟨c.toNat, c.toNat_lt⟩
  simpa using this
theorem rv_high (r : Int) (h : 128 ≤ r) : rv r = -1 := by
  unfold rv
  rw [if_neg (by omega), if_neg (by omega)]
theorem value_any (r : Int) (h0 : 0 ≤ r) (h1 : r ≤ 2147483647) (w : World) : Calls Tryz.prog 71 #[.int .i32 r] w fun e w' => e = .returned (.tuple #[.int .u8 (if 0 ≤ rv r then rv r else 0), .bool (decide (0 ≤ rv r))]) ∧ w' = w := by
  by_cases ha : 48 ≤ r ∧ r ≤ 57
  · obtain ⟨a1, a2⟩ := ha
    have e : rv r = r - 48 := by unfold rv; rw [if_pos ⟨a1, a2⟩]
    rw [e, if_pos (by omega), decide_eq_true (by omega)]
    have w1 : IntKind.i32.wrap (r - 48) = r - 48 := by simp [IntKind.wrap, IntKind.bits, IntKind.signed]; omega
    have w2 : IntKind.u8.wrap (r - 48) = r - 48 := by simp [IntKind.wrap, IntKind.bits, IntKind.signed]; omega
    go_enter Tryz.func71, Tryz.ntmps71
    go_wp2
    go_ret2
    exact ⟨rfl, rfl⟩
  · by_cases hb : 97 ≤ r ∧ r ≤ 102
    · obtain ⟨a1, a2⟩ := hb
      have e : rv r = r - 87 := by unfold rv; rw [if_neg ha, if_pos ⟨a1, a2⟩]
      rw [e, if_pos (by omega), decide_eq_true (by omega)]
      have a3 : 48 ≤ r := by omega
      have a4 : ¬ r ≤ 57 := by omega
      have w1 : IntKind.i32.wrap (r - 97) = r - 97 := by simp [IntKind.wrap, IntKind.bits, IntKind.signed]; omega
      have w2 : IntKind.u8.wrap (r - 97) = r - 97 := by simp [IntKind.wrap, IntKind.bits, IntKind.signed]; omega
      have w3 : IntKind.u8.wrap (r - 97 + 10) = r - 87 := by simp [IntKind.wrap, IntKind.bits, IntKind.signed]; omega
      clear ha
      go_enter Tryz.func71, Tryz.ntmps71
      go_wp2
      go_ret2
      exact ⟨by first | rfl | rw [w3], rfl⟩
    · have e : rv r = -1 := by unfold rv; rw [if_neg ha, if_neg hb]
      rw [e, if_neg (by omega), decide_eq_false (by omega)]
      clear e
      rcases (by omega : r < 48 ∨ (57 < r ∧ r < 97) ∨ 102 < r) with c | ⟨c, c'⟩ | c
      · have a3 : ¬ 48 ≤ r := by omega
        have a4 : ¬ 97 ≤ r := by omega
        clear ha hb
        go_enter Tryz.func71, Tryz.ntmps71
        go_wp2
        go_ret2
        exact ⟨rfl, rfl⟩
      · have a3 : 48 ≤ r := by omega
        have a5 : ¬ r ≤ 57 := by omega
        have a4 : ¬ 97 ≤ r := by omega
        clear ha hb
        go_enter Tryz.func71, Tryz.ntmps71
        go_wp2
        go_ret2
        exact ⟨rfl, rfl⟩
      · have a3 : 48 ≤ r := by omega
        have a5 : ¬ r ≤ 57 := by omega
        have a4 : 97 ≤ r := by omega
        have a6 : ¬ r ≤ 102 := by omega
        clear ha hb
        go_enter Tryz.func71, Tryz.ntmps71
        go_wp2
        go_ret2
        exact ⟨rfl, rfl⟩
end Go.Proofs.YtalnbddkhojjbaaGreatDoor
namespace Go.Proofs.YtalnbddkhojjbaaGreatDoor
open Go.RowKit

def pd (l : List UInt8) (k : Nat) : Nat → UInt8 := fun j => if 2 * j + 1 < k then pval l j else if 2 * j < k then UInt8.ofNat (hiV l j).toNat else 0
def PU (l : List UInt8) (k : Nat) : Prop := ∀ i, i < k → 0 ≤ digV (lAt l (7 + i))
theorem pd_zero (l : List UInt8) : pd l 0 = dg_secZ := by
  funext j
  simp [pd, dg_secZ]
theorem pd_all (l : List UInt8) : dg_secA (pd l 64) = dg_secA (pval l) := (dg_secA_inj _ _).2 fun i hi => by
  unfold pd
  rw [if_pos (by omega)]
theorem pu_all {l : List UInt8} (h : PU l 64) : PUp l 32 := fun i hi => by
  have h1 := h (2 * i) (by omega)
  have h2 := h (2 * i + 1) (by omega)
  unfold hiV loV
  rw [show 8 + 2 * i = 7 + (2 * i + 1) by omega]
  exact ⟨h1, h2⟩
theorem pu_not {l : List UInt8} {k : Nat} (hk : k < 64) (h : ¬ 0 ≤ digV (lAt l (7 + k))) : ¬ PGood l := fun hg => by
  have h1 := hg.2.2 (k / 2) (by omega)
  unfold hiV loV at h1
  rcases (by omega : k % 2 = 0 ∨ k % 2 = 1) with e | e
  · rw [show 7 + 2 * (k / 2) = 7 + k by omega] at h1
    exact h h1.1
  · rw [show 8 + 2 * (k / 2) = 7 + k by omega] at h1
    exact h h1.2
theorem pd_step (l : List UInt8) (k : Nat) (hk : k < 64) (hu : PU l (k + 1)) : ∃ a : Nat, a < 16 ∧ (pd l k (k / 2)).toNat = a ∧ ((pd l (k + 1) (k / 2)).toNat : Int) = 16 * a + digV (lAt l (7 + k)) ∧ pd l (k + 1) = upd (pd l k) (k / 2) (pd l (k + 1) (k / 2)) := by
  have hup : ∀ j, pd l (k + 1) j = upd (pd l k) (k / 2) (pd l (k + 1) (k / 2)) j := fun j => by
    unfold upd
    by_cases e : j = k / 2
    · subst e; simp
    · rw [if_neg e]
      unfold pd
      by_cases h1 : 2 * j + 1 < k
      · rw [if_pos (by omega), if_pos h1]
      · have h2 : ¬ 2 * j < k := by omega
        rw [if_neg (by omega), if_neg (by omega), if_neg h1, if_neg h2]
  have hx := digV_range (lAt l (7 + k))
  have h0 := hu k (by omega)
  rcases (by omega : k % 2 = 0 ∨ k % 2 = 1) with e | e
  · refine ⟨0, by omega, ?_, ?_, funext hup⟩
    · unfold pd
      rw [if_neg (by omega), if_neg (by omega)]
      rfl
    · unfold pd
      rw [if_neg (by omega), if_pos (by omega)]
      unfold hiV
      rw [show 7 + 2 * (k / 2) = 7 + k by omega, UInt8.toNat_ofNat']
      omega
  · have hh := hu (k - 1) (by omega)
    have hr := digV_range (lAt l (7 + (k - 1)))
    have e1 : hiV l (k / 2) = digV (lAt l (7 + (k - 1))) := by unfold hiV; rw [show 7 + 2 * (k / 2) = 7 + (k - 1) by omega]
    have e2 : loV l (k / 2) = digV (lAt l (7 + k)) := by unfold loV; rw [show 8 + 2 * (k / 2) = 7 + k by omega]
    refine ⟨(hiV l (k / 2)).toNat, by omega, ?_, ?_, funext hup⟩
    · unfold pd
      rw [if_neg (by omega), if_pos (by omega), UInt8.toNat_ofNat']
      omega
    · have hn := pval_nat l (k / 2) (by rw [e1, e2]; exact ⟨hh, h0⟩)
      unfold pd
      rw [if_pos (by omega), hn, e2]
      omega
theorem or16 (a : Nat) (x : Int) (ha : a < 16) (h0 : 0 ≤ x) (h1 : x < 16) : bits .or .u8 (16 * (a : Int)) x = 16 * (a : Int) + x := by
  have h : ∀ (p q : Fin 16), bits .or .u8 (16 * ((p.val : Nat) : Int)) ((q.val : Nat) : Int) = 16 * ((p.val : Nat) : Int) + ((q.val : Nat) : Int) := by decide +kernel
  have := h ⟨a, ha⟩ ⟨x.toNat, by omega⟩
  simp only [Int.toNat_of_nonneg h0] at this
  exact this
theorem DgR.iter {w : World} {g it : Nat} {s : Nat → UInt8} (h : DgR w g s) (S : ByteArray) (p : Nat) (hn : g ≠ it) : DgR (w.iterAt it S p) g s := by
  unfold DgR dg_rowOk dg_rowAt at *
  rw [Lib.iterAt_other w it g S p hn]; exact h
theorem iter_setCell {w : World} {g it i : Nat} {o : Obj} (v : Value) (h : w.heap[it]? = some o) (hn : g ≠ it) : (w.setCell ⟨g, i, none⟩ v).heap[it]? = some o := by
  simp only [World.setCell, Array.getElem?_modify]
  rw [if_neg hn]; exact h
theorem rune_at (l : List UInt8) (k : Nat) (hk : k < 64) (hl : l.length = 71) : ∃ r wd : Nat, Utf8.decode ⟨(l.drop 7).toArray⟩ k = (r, wd) ∧ r ≤ 2147483647 ∧ rv (r : Int) = digV (lAt l (7 + k)) ∧ (0 ≤ digV (lAt l (7 + k)) → wd = 1) := by
  have hs : k < (ByteArray.mk (l.drop 7).toArray).size := by show k < (l.drop 7).toArray.size; simp; omega
  have hb : (ByteArray.mk (l.drop 7).toArray)[k]'hs = lAt l (7 + k) := by
    show (l.drop 7).toArray[k]'(by simp; omega) = _
    unfold lAt
    rw [List.getElem?_eq_getElem (by omega)]
    simp
  by_cases ha : (lAt l (7 + k)).toNat < 128
  · refine ⟨_, _, decode_ascii _ k hs (by rw [hb]; exact ha), ?_, ?_, fun _ => rfl⟩
    · have := ((ByteArray.mk (l.drop 7).toArray)[k]'hs).toNat_lt; omega
    · rw [hb, rv_digV]
  · have h1 := decode_high (ByteArray.mk (l.drop 7).toArray) k hs (by rw [hb]; omega)
    have h2 := decode_le (ByteArray.mk (l.drop 7).toArray) k
    have h3 : digV (lAt l (7 + k)) = -1 := by rw [← rv_digV]; exact rv_high _ (by omega)
    refine ⟨(Utf8.decode ⟨(l.drop 7).toArray⟩ k).1, (Utf8.decode ⟨(l.drop 7).toArray⟩ k).2, rfl, h2, ?_, fun h => by omega⟩
    rw [h3]
    exact rv_high _ (by omega)
set_option linter.unusedSimpArgs false in
set_option maxHeartbeats 800000 in
theorem parseOk : ParseOk := by
  intro l w
  have hsz : (ByteArray.mk l.toArray).size = l.length := by show l.toArray.size = _; simp
  have hsm : (ByteArray.mk (l.drop 7).toArray).size = l.length - 7 := by show (l.drop 7).toArray.size = _; simp
  have hB : Below w.heap.size w ((w.alloc (.cells (dg_secA dg_secZ) 33)).alloc (.cells (dg_secA dg_secZ) 33)) := (below_alloc w _).alloc (by simp) _
  have hRr : DgR ((w.alloc (.cells (dg_secA dg_secZ) 33)).alloc (.cells (dg_secA dg_secZ) 33)) w.heap.size dg_secZ := (DgR.new w dg_secZ _).kept (below_alloc _ _)
  have hRd : DgR ((w.alloc (.cells (dg_secA dg_secZ) 33)).alloc (.cells (dg_secA dg_secZ) 33)) (w.heap.size + 1) dg_secZ := by
    have := DgR.new (w.alloc (.cells (dg_secA dg_secZ) 33)) dg_secZ 33
    rw [World.size_alloc] at this
    exact this
  have hXs : ((w.alloc (.cells (dg_secA dg_secZ) 33)).alloc (.cells (dg_secA dg_secZ) 33)).heap.size = w.heap.size + 2 := by simp
  have hC := cutFront2 l
  go_enter Tryz.func39, Tryz.ntmps39
  go_upto_region 2 with fail
  obtain ⟨gd, hgd⟩ : ∃ g, w.heap.size + 1 = g := ⟨_, rfl⟩
  obtain ⟨gr, hgr⟩ : ∃ g, w.heap.size = g := ⟨_, rfl⟩
  have hne : gd ≠ gr := by omega
  have hlr : w.heap.size ≤ gr := by omega
  have hld : w.heap.size ≤ gd := by omega
  rw [hgd] at hRd
  rw [hgr] at hRr
  simp only [hgd]
  simp only [hgr]
  generalize (w.alloc (.cells (dg_secA dg_secZ) 33)).alloc (.cells (dg_secA dg_secZ) 33) = X at hB hRr hRd hXs ⊢
  have hdX : gd < X.heap.size := by omega
  have hrX : gr < X.heap.size := by omega
  clear hgd hXs
  go_wp2_with fail
  refine (hC _).mono ?_
  rintro e w1 ⟨rfl, rfl⟩
  by_cases hf : l.take 7 = frontS
  · simp only [if_pos hf, decide_eq_true hf]
    by_cases h71 : l.length = 71
    · have hm64 : (ByteArray.mk (l.drop 7).toArray).size = 64 := by omega
      have hru := fun k hk => rune_at l k hk h71
      obtain ⟨S, hS⟩ : ∃ S, ByteArray.mk (l.drop 7).toArray = S := ⟨_, rfl⟩
      rw [hS] at hm64 hru
      simp only [hS]
      clear hS hsm hsz
      go_wp2_with fail
      have hit := World.iter_heap w1 S 0
      have hBi : Below w1.heap.size w1 (w1.iter S 0) := below_alloc _ _
      obtain ⟨it, hitE⟩ : ∃ i, w1.heap.size = i := ⟨_, rfl⟩
      rw [hitE] at hit hdX hrX
      simp only [hitE]
      have hnd : gd ≠ it := by omega
      have hnr : gr ≠ it := by omega
      have hli : w.heap.size ≤ it := by omega
      replace hRd := hRd.kept hBi
      replace hRr := hRr.kept hBi
      replace hB := hB.trans (hBi.mono (by omega))
      generalize w1.iter S 0 = X1 at hit hBi hRd hRr hB ⊢
      clear hBi hC hitE
      go_loopw [] (fun wr => ∃ k : Nat, k ≤ 64 ∧ wr.heap[it]? = some (.stringIter S k) ∧ PU l k ∧ DgR wr gd (pd l k) ∧ DgR wr gr dg_secZ ∧ Below w.heap.size w wr) (fun wr => 64 - wr.iterPos it)
      case atStart => exact ⟨0, by omega, hit, fun i hi => by omega, by rw [pd_zero]; exact hRd, hRr, hB⟩
      case round =>
        clear hRd hRr hB hit
        obtain ⟨k, hk, hit, hU, hRd, hRr, hB⟩ := hrel
        by_cases hlt : k < 64
        · obtain ⟨r, wd, hde, hr1, hrv, hwd⟩ := hru k hlt
          have hnx : ∀ ty, (Instr.next (.pointer (some ⟨it, 0, none⟩)) true ty).run Tryz.prog wr = _ := fun ty => Lib.run_next_any_at wr it S k ty hit (by omega)
          rw [hde] at hnx
          simp only at hnx
          have hpos : wr.iterPos it = k := by unfold World.iterPos; rw [hit]
          have hit1 := Lib.iterAt_heap wr it S k (k + wd) hit
          replace hRd := hRd.iter S (k + wd) hnd
          replace hRr := hRr.iter S (k + wd) hnr
          replace hB := Lib.below_iterAt hB hli S (k + wd)
          have hx := digV_range (lAt l (7 + k))
          have hv := value_any (r : Int) (by omega) (by omega)
          have hr0 : (0 : Int) ≤ (r : Int) := by omega
          rw [hrv] at hv
          clear hrv hde hru hit
          by_cases hd : 0 ≤ digV (lAt l (7 + k))
          · obtain rfl := hwd hd
            have HU : Hid (PU l (k + 1)) := fun i hi => by
              rcases Nat.lt_or_ge i k with h | h
              · exact hU i h
              · obtain rfl : i = k := by omega
                exact hd
            obtain ⟨a, ha, hpa, hpn, hps⟩ := pd_step l k hlt HU.out
            obtain ⟨j, hj⟩ : ∃ j, k / 2 = j := ⟨_, rfl⟩
            rw [hj] at hpa hpn hps
            obtain ⟨x, hxe⟩ : ∃ x : Nat, digV (lAt l (7 + k)) = x := ⟨(digV (lAt l (7 + k))).toNat, by omega⟩
            rw [hxe] at hpn hv hx
            rw [if_pos (by omega), decide_eq_true (by omega)] at hv
            obtain ⟨nb, hnb⟩ : ∃ b, pd l (k + 1) j = b := ⟨_, rfl⟩
            rw [hnb] at hpn hps
            have hb9 := nb.toNat_lt
            have hcd := hRd.cell j (by omega)
            rw [hpa] at hcd
            have hfz := hRd.frozen j
            generalize hW1 : wr.iterAt it S (k + 1) = W1 at *
            have HI : Hid ((W1.setCell ⟨gd, j, none⟩ (.int .u8 (nb.toNat : Int))).heap[it]? = some (.stringIter S (k + 1))) := iter_setCell _ hit1 hnd
            have HR : Hid (DgR (W1.setCell ⟨gd, j, none⟩ (.int .u8 (nb.toNat : Int))) gd (pd l (k + 1))) := by show DgR _ _ _; rw [hps]; exact hRd.set j nb (by omega)
            have HZ : Hid _ := hRr.set_ne j (.int .u8 (nb.toNat : Int)) hne
            have HB : Hid _ := hB.setCell (p := ⟨gd, j, none⟩) hld (.int .u8 (nb.toNat : Int))
            have o1 := or16 a x ha (by omega) (by omega)
            rw [← hpn] at o1
            have q1 : (k : Int) / 2 = (j : Int) := by omega
            have j0 : (0 : Int) ≤ (j : Int) := by omega
            have j1 : (j : Int) < 32 := by omega
            have k0 : (0 : Int) ≤ (k : Int) := by omega
            have a1 : (16 * (a : Int)) < 256 := by omega
            have a2 : IntKind.u8.wrap (16 * (a : Int)) = 16 * (a : Int) := by simp [IntKind.wrap, IntKind.bits, IntKind.signed]; omega
            have a3 : IntKind.u8.wrap ((a : Int) * 16) = 16 * (a : Int) := by rw [Int.mul_comm]; exact a2
            have HM : Hid (wr.iterPos it = k) := hpos
            have H64 : Hid (k < 64) := hlt
            clear hRd hRr hB hU hps hpn hpa hit1 hd hwd hnb hxe hpos
            go_wp2_with fail
            refine (hv _).mono ?_
            rintro e w2 ⟨rfl, rfl⟩
            clear hv hnx
            go_wp2
            go_roundw
            case rel => exact ⟨k + 1, by omega, HI.out, HU.out, HR.out, HZ.out, HB.out⟩
            case measure =>
              have hm := HM.out
              have h64 := H64.out
              have : (w2.setCell ⟨gd, j, none⟩ (.int .u8 (nb.toNat : Int))).iterPos it = k + 1 := by unfold World.iterPos; rw [HI.out]
              omega
          · have HP : Hid (ParsedTo l dg_secZ 35) := .inr ⟨pu_not hlt hd, rfl, rfl⟩
            rw [if_neg hd, decide_eq_false hd] at hv
            generalize wr.iterAt it S (k + wd) = W1 at *
            have hR9 : DgR (W1.setRow gr (dg_secA dg_secZ)) gr dg_secZ := ⟨dg_rowOk_setRow_same _ _ _ hRr.1 (dg_secA_size _), dg_rowAt_setRow_same _ _ _ hRr.1⟩
            have HR9 : Hid _ := hR9
            have HB : Hid _ := dg_below_row hB hlr (dg_secA dg_secZ)
            obtain ⟨r1, q1⟩ := hRr
            clear hR9 hRd hB hU hit1 hd hwd hpos hx
            go_wp2_with fail
            refine (hv _).mono ?_
            rintro e w2 ⟨rfl, rfl⟩
            clear hv hnx
            go_wp2
            exact dg_bodyPost2 2 3 gr dg_secZ rfl rfl rfl HR9.out ⟨⟨_, 35, rfl, HP.out⟩, HB.out⟩
        · obtain rfl : k = 64 := by omega
          have hnx : ∀ ty, (Instr.next (.pointer (some ⟨it, 0, none⟩)) true ty).run Tryz.prog wr = _ := fun ty => Lib.run_next_end_at wr it S 64 ty hit (by omega)
          have HP : Hid (ParsedTo l (pval l) 0) := .inl ⟨⟨h71, hf, pu_all hU⟩, rfl, rfl⟩
          obtain ⟨r1, q1⟩ := hRd
          rw [pd_all] at q1
          have HR9 : Hid (DgR (wr.setRow gr (dg_secA (pval l))) gr (pval l)) := ⟨dg_rowOk_setRow_same _ _ _ hRr.1 (dg_secA_size _), dg_rowAt_setRow_same _ _ _ hRr.1⟩
          have HB : Hid _ := dg_below_row hB hlr (dg_secA (pval l))
          obtain ⟨r2, q2⟩ := hRr
          clear hB hU hit hru
          generalize pval l = d at *
          go_wp2
          exact dg_bodyPost2 2 3 gr d rfl rfl rfl HR9.out ⟨⟨d, 0, rfl, HP.out⟩, HB.out⟩
    · have HP : Hid (ParsedTo l dg_secZ 35) := .inr ⟨fun h => h71 h.1, rfl, rfl⟩
      have hR9 : DgR (w1.setRow gr (dg_secA dg_secZ)) gr dg_secZ := ⟨dg_rowOk_setRow_same _ _ _ hRr.1 (dg_secA_size _), dg_rowAt_setRow_same _ _ _ hRr.1⟩
      obtain ⟨r1, q1⟩ := hRr
      obtain ⟨S, hS⟩ : ∃ S, ByteArray.mk (l.drop 7).toArray = S := ⟨_, rfl⟩
      have h64 : ((S.size : Int) != 64) = true := by
        rw [← hS, hsm]
        have : 7 ≤ l.length := by
          rcases Nat.lt_or_ge l.length 7 with h | h
          · exact absurd hf (take_short l h)
          · exact h
        simp
        omega
      have h64' : ¬ (S.size : Int) = 64 := by simpa using h64
      simp only [hS]
      clear hf hC hS hsm hsz
      go_wp2
      exact dg_bodyPost2 2 3 gr dg_secZ rfl rfl rfl hR9 ⟨⟨_, 35, rfl, HP.out⟩, dg_below_row hB hlr _⟩
  · simp only [if_neg hf, decide_eq_false hf]
    have HP : Hid (ParsedTo l dg_secZ 35) := .inr ⟨fun h => hf h.2.1, rfl, rfl⟩
    have hR9 : DgR (w1.setRow gr (dg_secA dg_secZ)) gr dg_secZ := ⟨dg_rowOk_setRow_same _ _ _ hRr.1 (dg_secA_size _), dg_rowAt_setRow_same _ _ _ hRr.1⟩
    obtain ⟨r1, q1⟩ := hRr
    clear hf hC
    go_wp2
    exact dg_bodyPost2 2 3 gr dg_secZ rfl rfl rfl hR9 ⟨⟨_, 35, rfl, HP.out⟩, dg_below_row hB hlr _⟩
end Go.Proofs.YtalnbddkhojjbaaGreatDoor
