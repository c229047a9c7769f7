import Derived.Test.YtddmmmfpdmejbaaGreatDoorQLex8
import Derived.Test.YtddmmmfpdmejbaaGreatDoorQKel
import Derived.Test.YtddmmmfpdmejbaaGreatDoorQGenA
import Derived.Lib.AtoiErrMem
import Derived.Test.YtddmmmfpdmejbaaGreatDoorQRowg
import Derived.Lib.ConvBytes
import Derived.Laws.AppendOwn
namespace Go.Proofs.YtddmmmfpdmejbaaGreatDoor
open Go.RowKit

/-! assayref14.All -/
@[go_sem] theorem tkA_one (k a n : Int) (S : ByteArray) : OneC (tkA k a n S) = true := tk_one k a n S
def tkR (x : Tk) : Array Value := tkA x.kind x.at_ x.n ⟨x.text.toArray⟩
@[go_sem] theorem tkR_size (x : Tk) : (tkR x).size = 4 := rfl
def tkE14 : EK Tk := { T := 123, S := 92, k := 4, bytes := 40, z := .agg (tkA 0 0 0 ⟨#[]⟩), enc := fun x => (tkR x).toList }
theorem tkE14_ok : tkE14.Ok where
  len x := rfl
  one x v hv := by
    unfold tkE14 tkR tkA at hv
    simp only [List.mem_cons, List.not_mem_nil, or_false] at hv
    rcases hv with rfl | rfl | rfl | rfl <;> rfl
  und := Tryz.underlying92
  info := by
    have h : (Tryz.prog.info? 123).map (fun i => (i.zero, i.size, i.bytes)) = some (some (.agg (tkA 0 0 0 ⟨#[]⟩)), 4, 40) := by kernel_rfl
    exact h
  zc := rfl
  kp := by show 0 < 4; omega
  row := ⟨_, Tryz.underlying123, rfl⟩
def tkBS (x : Value) : Sem Next := do pure (.value (← Instr.buildSlice 92 1 #[(0, x)]))
section
variable (ρ : Operand → Value) (dst : Option Tmp) (ty : TypeId) (pos : String) (after : Array Edge) (guard : Option (Nat × Bool))
@[go_sem ↓] theorem execOp_load_tk (x : Operand) : execOp ρ { dst, op := .load 123 x, type := ty, pos, after, guard } = bigLoad 123 (ρ x) := rfl
@[go_sem ↓] theorem execOp_tkBS (x : Operand) : execOp ρ { dst, op := .buildSlice 92 1 #[(0, x)], type := ty, pos, after, guard } = tkBS (ρ x) := by simp [execOp, tkBS]
end
@[go_sem] theorem run_load_tk (w : World) (g : Nat) (h : rowL w g = true) (hs : (rowAt w g).size = 4) : (bigLoad 123 (.pointer (some ⟨g, 0, none⟩))).run Tryz.prog w = .ok (.value (.agg (rowAt w g))) w := by
  rw [run_bigLoad 123 _ 4 Tryz.underlying123 rfl sizeT_tk w g 0 h (by omega), Nat.zero_add, Array.extract_eq_self_of_le (by omega)]
@[go_sem] theorem run_tkBS (w : World) (x : Tk) : (tkBS (.agg (tkR x))).run Tryz.prog w = .ok (.value (.slice (some ⟨w.heap.size, 0, none⟩) 1 1)) (w.alloc (.cells (tkR x) 123)) := by
  have h := run_litK1 tkE14_ok (by show 4 ≤ 1000; omega) w x
  simp only [tkE14, Array.toArray_toList] at h
  simp only [tkBS, Sem.run_bind, h]
  rfl
theorem OwnK.other14 {α : Type} {E : EK α} {w w' : World} {B : Nat} {v : Value} {ds : List α} (h : OwnK E w B v ds) (hl : ∀ g, v.ownBlock = some g → w'.heap[g]? = w.heap[g]?) : OwnK E w' B v ds := by
  obtain ⟨h1, h2⟩ := h
  refine ⟨h1, ?_⟩
  rcases h2 with hn | ⟨g, cap, cur, hv, hb, hg, r⟩
  · exact .inl hn
  · refine .inr ⟨g, cap, cur, hv, hb, ?_, r⟩
    rw [hl g (by rw [hv]; rfl)]; exact hg
theorem below_grown14 {α : Type} {E : EK α} {w w' : World} {B : Nat} {v : Value} {ds : List α} (h : OwnK E w B v ds) (hg : w.grownBy w' v.ownBlock) (hb : B ≤ w.heap.size) : Below B w w' :=
  ⟨hg.os, hg.tape, hg.output, hg.size, fun k hk => hg.block k (by omega) (fun e => by have := (World.ownsRow.lt h k e.symm).1; omega)⟩
def AllP (E : EK Tk) (l : List UInt8) (w : World) (e : Ending) (w' : World) : Prop := (∃ y n c, e = .returned (.tuple #[.slice y n c, .int .i64 (cutE l), .int .i64 (cutP l)]) ∧ OwnK E w' w.heap.size (.slice y n c) (cutL l)) ∧ Below w.heap.size w w'
theorem txt_le (l : List UInt8) : ∀ f k out, (txt l f k out).2 ≤ l.length
  | 0, _, _ => by simp [txt]
  | f + 1, k, out => by
    rw [txt]
    split
    · split
      · simp only; omega
      · split
        · simp
        · exact txt_le l f _ _
    · simp
theorem one_le (l : List UInt8) (h : 0 < l.length) : (oneTk l).2 ≤ l.length := by
  unfold oneTk
  split
  · simp only; omega
  · split
    · exact txt_le l _ _ _
    · have h9 := wl_le l
      unfold wordTk
      (repeat' split) <;> simp only <;> omega
theorem one_at (l : List UInt8) : (oneTk l).1.at_ = 0 := by
  unfold oneTk
  split
  · rfl
  · split
    · rfl
    · unfold wordTk
      (repeat' split) <;> rfl
theorem cutF_go (l : List UInt8) (f k : Nat) (ts : List Tk) (hk : k < l.length) : cutF l (f + 1) k ts = if blk (lB l k) = true then cutF l f (k + 1) ts else if (oneTk (l.drop k)).2 = 0 then (none, k) else cutF l f (k + (oneTk (l.drop k)).2) (ts ++ [{ (oneTk (l.drop k)).1 with at_ := (k : Int) }]) := by
  rw [cutF, if_pos hk]
end Go.Proofs.YtddmmmfpdmejbaaGreatDoor
namespace Go.Proofs.YtddmmmfpdmejbaaGreatDoor
open Go.RowKit

/-! What lex owes; known; LexQuotes -/
def tkEL : EK Tk := { T := 85, S := 77, k := 4, bytes := 40, z := .agg (tkA 0 0 0 ⟨#[]⟩), enc := fun x => (tkR x).toList }
theorem tkEL_ok : tkEL.Ok where
  len x := rfl
  one x v hv := by
    unfold tkEL tkR tkA at hv
    simp only [List.mem_cons, List.not_mem_nil, or_false] at hv
    rcases hv with rfl | rfl | rfl | rfl <;> rfl
  und := Tryz.underlying77
  info := by
    have h : (Tryz.prog.info? 85).map (fun i => (i.zero, i.size, i.bytes)) = some (some (.agg (tkA 0 0 0 ⟨#[]⟩)), 4, 40) := by kernel_rfl
    exact h
  zc := rfl
  kp := by show 0 < 4; omega
  row := ⟨_, Tryz.underlying85, rfl⟩
/-- strconv's two errors lie in their variables. -/
def Vx (w : World) : Prop := (∃ tp p, w.cell? ⟨1, 0, none⟩ = some (.iface tp p)) ∧ ∃ tp p, w.cell? ⟨2, 0, none⟩ = some (.iface tp p)
theorem Vx.below {w W : World} (h : Vx w) (hb : Below w.heap.size w W) : Vx W := by
  obtain ⟨⟨t1, p1, h1⟩, ⟨t2, p2, h2⟩⟩ := h
  have l1 : (⟨1, 0, none⟩ : Addr).block < w.heap.size := Lib.lt_of_cell h1
  have l2 : (⟨2, 0, none⟩ : Addr).block < w.heap.size := Lib.lt_of_cell h2
  exact ⟨⟨t1, p1, (hb.cell l1).trans h1⟩, ⟨t2, p2, (hb.cell l2).trans h2⟩⟩
structure LexOk : Prop where
  all : ∀ (l : List UInt8) (x : Option Addr) (L c : Nat) (w : World), l.length = L → L ≤ c → L ≤ 4611686018427387904 → IsB w (.slice x L c) l → Vx w → Calls Tryz.prog 29 #[.slice x L c] w fun e w' => AllP tkEL l w e w'
  quo : ∀ (s : ByteArray) (w : World), s.size ≤ 17592186044416 → Calls Tryz.prog 78 #[.string s] w fun e w' => QuP (lS s) w e w'
end Go.Proofs.YtddmmmfpdmejbaaGreatDoor
namespace Go.Proofs.YtddmmmfpdmejbaaGreatDoor
open Go.RowKit

/-! lex.Token as a whole row -/
section
variable (ρ : Operand → Value) (dst : Option Tmp) (ty : TypeId) (pos : String) (after : Array Edge) (guard : Option (Nat × Bool))
@[go_sem ↓] theorem execOp_load_tl (x : Operand) : execOp ρ { dst, op := .load 85 x, type := ty, pos, after, guard } = bigLoad 85 (ρ x) := rfl
@[go_sem ↓] theorem execOp_store_tl (x y : Operand) : execOp ρ { dst, op := .store 85 x y, type := ty, pos, after, guard } = bigStore 85 (ρ x) (ρ y) := rfl
@[go_sem ↓] theorem execOp_alloc_tl : execOp ρ { dst, op := .alloc 85, type := ty, pos, after, guard } = bigAlloc 85 := rfl
@[go_sem ↓] theorem execOp_box_tl (x : Operand) : execOp ρ { dst, op := .box 85 x, type := ty, pos, after, guard } = bigBox 85 (ρ x) := rfl
end
theorem info_tl : (Tryz.prog.info? 85).map (fun i => (i.zero, i.size)) = some (some (.agg (tkA 0 0 0 ⟨#[]⟩)), 4) := by kernel_rfl
theorem sizeT_tl : (Tryz.prog.info? 85).map (·.size) = some 4 := (zero_of_info info_tl).2
@[go_sem] theorem run_load_tl (w : World) (g : Nat) (h : rowL w g = true) (hs : (rowAt w g).size = 4) : (bigLoad 85 (.pointer (some ⟨g, 0, none⟩))).run Tryz.prog w = .ok (.value (.agg (rowAt w g))) w := by
  rw [run_bigLoad 85 _ 4 Tryz.underlying85 rfl sizeT_tl w g 0 h (by omega), Nat.zero_add, Array.extract_eq_self_of_le (by omega)]
@[go_sem] theorem run_store_tl (w : World) (g : Nat) (c : Array Value) (h : rowL w g = true) (hs : (rowAt w g).size = 4) (hc : c.size = 4) (h1 : OneC c = true) : (bigStore 85 (.pointer (some ⟨g, 0, none⟩)) (.agg c)).run Tryz.prog w = .ok .skip (w.setRow g c) := by
  rw [run_bigStore 85 4 sizeT_tl w g 0 c h hc (by omega) h1, layC_all _ _ (by omega)]
@[go_sem] theorem run_alloc_tl (w : World) : (bigAlloc 85).run Tryz.prog w = .ok (.value (.pointer (some ⟨w.heap.size, 0, none⟩))) (w.alloc (.cells (tkA 0 0 0 ⟨#[]⟩) 85)) := by
  simp only [bigAlloc, Instr.alloc, Sem.run_bind, (zero_of_info info_tl).1 w, Result.andThen_ok]
  rfl
@[go_sem] theorem run_box_tl (w : World) (c : Array Value) : (bigBox 85 (.agg c)).run Tryz.prog w = .ok (.value (.pointer (some ⟨w.heap.size, 0, none⟩))) (w.alloc (.cells c 85)) := run_bigBox _ c w
/-- Two results: a token out of its variable, and a second one. -/
theorem tl_bodyPost2 {fn : Func} {R : Ending → World → Prop} {a : Act} {w : World} (p q n : Nat) (c : Array Value) (hres : fn.results = #[.cell p 85, .tmp q]) (hp : a.tmps.getD p undef = .pointer (some ⟨n, 0, none⟩)) (hd : a.defers = [])
    (hok : RowC w n c) (hc : c.size = 4) (h : R (.returned (.tuple #[.agg c, a.tmps.getD q undef])) w) : bodyPost Tryz.prog fn R .ret a w := by
  obtain ⟨t, hg⟩ := row_of_L hok.1
  rw [hok.2] at hg
  have hp' : a.tmps[p]?.getD undef = .pointer (some ⟨n, 0, none⟩) := by simpa using hp
  have hl := run_loadVar_row (P := Tryz.prog) w n t 85 c (0, 0) _ hg Tryz.underlying85 rfl (by rw [sizeT_tl, hc])
  refine bodyPost_ret (v := .tuple #[.agg c, a.tmps.getD q undef]) ?_ hd h
  simp [results, hres, hp', asAddr, hl]
/-- One result: a token out of its variable. -/
theorem tl_bodyPost1 {fn : Func} {R : Ending → World → Prop} {a : Act} {w : World} (p n : Nat) (c : Array Value) (hres : fn.results = #[.cell p 85]) (hp : a.tmps.getD p undef = .pointer (some ⟨n, 0, none⟩)) (hd : a.defers = [])
    (hok : RowC w n c) (hc : c.size = 4) (h : R (.returned (.agg c)) w) : bodyPost Tryz.prog fn R .ret a w := by
  obtain ⟨t, hg⟩ := row_of_L hok.1
  rw [hok.2] at hg
  have hp' : a.tmps[p]?.getD undef = .pointer (some ⟨n, 0, none⟩) := by simpa using hp
  have hl := run_loadVar_row (P := Tryz.prog) w n t 85 c (0, 0) _ hg Tryz.underlying85 rfl (by rw [sizeT_tl, hc])
  refine bodyPost_ret (v := .agg c) ?_ hd h
  simp [results, hres, hp', asAddr, hl]
/-- A token in a list. -/
theorem run_load_tlm (w : World) (g o : Nat) (h : rowL w g = true) (hs : decide (o + 4 ≤ (rowAt w g).size) = true) : (bigLoad 85 (.pointer (some ⟨g, o, none⟩))).run Tryz.prog w = .ok (.value (.agg ((rowAt w g).extract o (o + 4)))) w :=
  run_bigLoad 85 _ 4 Tryz.underlying85 rfl sizeT_tl w g o h (of_decide_eq_true hs)
theorem tk_ext {w : World} {B g n c : Nat} {ms : List Tk} (h : OwnK tkEL w B (.slice (some ⟨g, 0, none⟩) n c) ms) (i : Nat) (d : Tk) (hi : ms[i]? = some d) : rowL w g = true ∧ i * 4 + 4 ≤ (rowAt w g).size ∧ (rowAt w g).extract (i * 4) (i * 4 + 4) = tkR d := by
  obtain ⟨cur, h1, h2, h3, h4, h5, h6, h7⟩ := h.heap
  obtain ⟨hi9, -⟩ := List.getElem?_eq_some_iff.1 hi
  have hk : tkEL.k = 4 := rfl
  rw [hk] at h6
  have e1 : rowL w g = true := by unfold rowL; rw [h3]; rfl
  have e2 : rowAt w g = cur := by unfold rowAt; rw [h3]
  have hsz : i * 4 + 4 ≤ cur.size := by omega
  refine ⟨e1, by rw [e2]; exact hsz, ?_⟩
  rw [e2]
  have hr := h.range tkEL_ok i d hi
  have hc : ∀ j, w.cell? ⟨g, j, none⟩ = cur[j]? := fun j => by rw [cell_rowL e1, e2]
  apply Array.ext
  · rw [Array.size_extract, tkR_size]; omega
  · intro j q1 q2
    rw [tkR_size] at q2
    have h9 := hr j (tkR d)[j] (by show (tkR d).toList[j]? = _; rw [Array.getElem?_toList, Array.getElem?_eq_getElem (by rw [tkR_size]; omega)]; rfl)
    rw [hk, hc] at h9
    rw [Array.getElem_extract]
    rw [Array.getElem?_eq_getElem (by omega)] at h9
    exact Option.some.inj h9
end Go.Proofs.YtddmmmfpdmejbaaGreatDoor
namespace Go.Proofs.YtddmmmfpdmejbaaGreatDoor
open Go.RowKit

/-! []byte of a string -/
theorem conv14 (w : World) (s : ByteArray) : ∃ C W, (convert 9 26 (.string s)).run Tryz.prog w = .ok (.slice (some ⟨w.heap.size, 0, none⟩) s.size C) W ∧ s.size ≤ C ∧ Below w.heap.size w W ∧ IsB W (.slice (some ⟨w.heap.size, 0, none⟩) s.size C) (lS s) := by
  refine ⟨_, _, Lib.run_convert_string_bytes w 9 26 5 s Tryz.underlying9 Tryz.underlying26 Tryz.underlying5, grownCap_ge _ _ _ _, ⟨rfl, rfl, rfl, ?_, fun k hk => Lib.bytesWorld_at_old w _ s k hk⟩, ?_⟩
  · rw [Lib.bytesWorld_size]; omega
  · refine .inr ⟨⟨w.heap.size, 0, none⟩, _, by rw [lS_len], fun i hi => ?_⟩
    rw [lS_len] at hi
    rw [addr_add, Nat.zero_add, Lib.bytesWorld_cell w _ s i hi]
    have h2 : i < s.data.toList.length := by rw [Array.length_toList]; exact hi
    rw [List.getD_eq_getElem?_getD, List.getElem?_eq_getElem h2]; rfl
end Go.Proofs.YtddmmmfpdmejbaaGreatDoor
