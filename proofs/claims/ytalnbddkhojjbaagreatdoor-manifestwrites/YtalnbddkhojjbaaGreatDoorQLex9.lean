import Derived.Test.YtalnbddkhojjbaaGreatDoorQLex1
import Derived.Test.YtalnbddkhojjbaaGreatDoorQApp
import Derived.Lib.ConvBytes
import Derived.Laws.AppendOwn
import Derived.ArgAppend
import Derived.Lib.AtoiErrMem
import Derived.Test.YtalnbddkhojjbaaGreatDoorQNum
import Derived.Lib.RuneBytes
import Derived.Lib.UnsafeStr
namespace Go.Proofs.YtalnbddkhojjbaaGreatDoor
open Go.RowKit

/-! assayref14.All -/
@[go_sem] theorem tkA_one (k a n : Int) (S : ByteArray) : OneC (tkA k a n S) = true := tk_one k a n S
def tkR (x : Tk) : Array Value := tkA x.kind x.at_ x.n ⟨x.text.toArray⟩
@[go_sem] theorem tkR_size (x : Tk) : (tkR x).size = 4 := rfl
def tkE14 : EK Tk := { T := 140, S := 101, k := 4, bytes := 40, z := .agg (tkA 0 0 0 ⟨#[]⟩), enc := fun x => (tkR x).toList }
theorem tkE14_ok : tkE14.Ok where
  len x := rfl
  one x v hv := by
    unfold tkE14 tkR tkA at hv
    simp only [List.mem_cons, List.not_mem_nil, or_false] at hv
    rcases hv with rfl | rfl | rfl | rfl <;> rfl
  und := Tryz.underlying101
  info := by
    have h : (Tryz.prog.info? 140).map (fun i => (i.zero, i.size, i.bytes)) = some (some (.agg (tkA 0 0 0 ⟨#[]⟩)), 4, 40) := by kernel_rfl
    exact h
  zc := rfl
  kp := by show 0 < 4; omega
  row := ⟨_, Tryz.underlying140, rfl⟩
def tkBS (x : Value) : Sem Next := do pure (.value (← Instr.buildSlice 101 1 #[(0, x)]))
section
variable (ρ : Operand → Value) (dst : Option Tmp) (ty : TypeId) (pos : String) (after : Array Edge) (guard : Option (Nat × Bool))
@[go_sem ↓] theorem execOp_load_tk (x : Operand) : execOp ρ { dst, op := .load 140 x, type := ty, pos, after, guard } = bigLoad 140 (ρ x) := rfl
@[go_sem ↓] theorem execOp_tkBS (x : Operand) : execOp ρ { dst, op := .buildSlice 101 1 #[(0, x)], type := ty, pos, after, guard } = tkBS (ρ x) := by simp [execOp, tkBS]
end
@[go_sem] theorem run_load_tk (w : World) (g : Nat) (h : rowL w g = true) (hs : (rowAt w g).size = 4) : (bigLoad 140 (.pointer (some ⟨g, 0, none⟩))).run Tryz.prog w = .ok (.value (.agg (rowAt w g))) w := by
  rw [run_bigLoad 140 _ 4 Tryz.underlying140 rfl sizeT_tk w g 0 h (by omega), Nat.zero_add, Array.extract_eq_self_of_le (by omega)]
@[go_sem] theorem run_tkBS (w : World) (x : Tk) : (tkBS (.agg (tkR x))).run Tryz.prog w = .ok (.value (.slice (some ⟨w.heap.size, 0, none⟩) 1 1)) (w.alloc (.cells (tkR x) 140)) := by
  have h := run_litK1 tkE14_ok (by show 4 ≤ 1000; omega) w x
  simp only [tkE14, Array.toArray_toList] at h
  simp only [tkBS, Sem.run_bind, h]
  rfl
theorem OwnK.other14 {α : Type} {E : EK α} {w w' : World} {B : Nat} {v : Value} {ds : List α} (h : OwnK E w B v ds) (hl : ∀ g, v.ownBlock = some g → w'.heap[g]? = w.heap[g]?) : OwnK E w' B v ds := by
  obtain ⟨h1, h2⟩ := h
  refine ⟨h1, ?_⟩
  rcases h2 with hn | ⟨g, cap, cur, hv, hb, hg, r⟩
  · exact .inl hn
  · refine .inr ⟨g, cap, cur, hv, hb, ?_, r⟩
    rw [hl g (by rw [hv]; rfl)]; exact hg
theorem below_grown14 {α : Type} {E : EK α} {w w' : World} {B : Nat} {v : Value} {ds : List α} (h : OwnK E w B v ds) (hg : w.grownBy w' v.ownBlock) (hb : B ≤ w.heap.size) : Below B w w' :=
  ⟨hg.os, hg.tape, hg.output, hg.size, fun k hk => hg.block k (by omega) (fun e => by have := (World.ownsRow.lt h k e.symm).1; omega)⟩
def AllP (E : EK Tk) (l : List UInt8) (w : World) (e : Ending) (w' : World) : Prop := (∃ y n c, e = .returned (.tuple #[.slice y n c, .int .i64 (cutE l), .int .i64 (cutP l)]) ∧ OwnK E w' w.heap.size (.slice y n c) (cutL l)) ∧ Below w.heap.size w w'
theorem txt_le (l : List UInt8) : ∀ f k out, (txt l f k out).2 ≤ l.length
  | 0, _, _ => by simp [txt]
  | f + 1, k, out => by
    rw [txt]
    split
    · split
      · simp only; omega
      · split
        · simp
        · exact txt_le l f _ _
    · simp
theorem one_le (l : List UInt8) (h : 0 < l.length) : (oneTk l).2 ≤ l.length := by
  unfold oneTk
  split
  · simp only; omega
  · split
    · exact txt_le l _ _ _
    · have h9 := wl_le l
      unfold wordTk
      (repeat' split) <;> simp only <;> omega
theorem one_at (l : List UInt8) : (oneTk l).1.at_ = 0 := by
  unfold oneTk
  split
  · rfl
  · split
    · rfl
    · unfold wordTk
      (repeat' split) <;> rfl
theorem cutF_go (l : List UInt8) (f k : Nat) (ts : List Tk) (hk : k < l.length) : cutF l (f + 1) k ts = if blk (lB l k) = true then cutF l f (k + 1) ts else if (oneTk (l.drop k)).2 = 0 then (none, k) else cutF l f (k + (oneTk (l.drop k)).2) (ts ++ [{ (oneTk (l.drop k)).1 with at_ := (k : Int) }]) := by
  rw [cutF, if_pos hk]
end Go.Proofs.YtalnbddkhojjbaaGreatDoor
namespace Go.Proofs.YtalnbddkhojjbaaGreatDoor
open Go.RowKit

/-! []byte of a string -/
theorem conv14 (w : World) (s : ByteArray) : ∃ C W, (convert 9 24 (.string s)).run Tryz.prog w = .ok (.slice (some ⟨w.heap.size, 0, none⟩) s.size C) W ∧ s.size ≤ C ∧ Below w.heap.size w W ∧ IsB W (.slice (some ⟨w.heap.size, 0, none⟩) s.size C) (lS s) := by
  refine ⟨_, _, Lib.run_convert_string_bytes w 9 24 5 s Tryz.underlying9 Tryz.underlying24 Tryz.underlying5, grownCap_ge _ _ _ _, ⟨rfl, rfl, rfl, ?_, fun k hk => Lib.bytesWorld_at_old w _ s k hk⟩, ?_⟩
  · rw [Lib.bytesWorld_size]; omega
  · refine .inr ⟨⟨w.heap.size, 0, none⟩, _, by rw [lS_len], fun i hi => ?_⟩
    rw [lS_len] at hi
    rw [addr_add, Nat.zero_add, Lib.bytesWorld_cell w _ s i hi]
    have h2 : i < s.data.toList.length := by rw [Array.length_toList]; exact hi
    rw [List.getD_eq_getElem?_getD, List.getElem?_eq_getElem h2]; rfl
end Go.Proofs.YtalnbddkhojjbaaGreatDoor
namespace Go.Proofs.YtalnbddkhojjbaaGreatDoor
open Go.RowKit

/-! Bytes of one's own, marked as a conversion's or not: they may be written, and lengthened -/
structure RowM (w : World) (g cap : Nat) (l : List UInt8) : Prop where
  le : l.length ≤ cap
  max : cap ≤ maxLen
  cell : ∀ i, i < l.length → w.cell? ⟨g, i, none⟩ = some (.int .u8 ((lB l i).toNat : Int))
  there : ∀ i, i < cap → (w.cell? ⟨g, i, none⟩).isSome = true
  soft : ∀ i, i < cap → w.frozen? ⟨g, i, none⟩ = false
def OwM (w : World) (B : Nat) (v : Value) (l : List UInt8) : Prop := (v = .slice none 0 0 ∧ l = []) ∨ ∃ g cap, v = .slice (some ⟨g, 0, none⟩) l.length cap ∧ B ≤ g ∧ g < w.heap.size ∧ RowM w g cap l
theorem RowM.block {w w1 : World} {g cap : Nat} {l : List UInt8} (h : RowM w g cap l) (hb : w1.heap[g]? = w.heap[g]?) : RowM w1 g cap l :=
  ⟨h.le, h.max, fun i hi => by rw [World.cell?_of_block (a := ⟨g, i, none⟩) hb]; exact h.cell i hi, fun i hi => by rw [World.cell?_of_block (a := ⟨g, i, none⟩) hb]; exact h.there i hi, fun i hi => by rw [World.frozen?_of_block (a := ⟨g, i, none⟩) hb]; exact h.soft i hi⟩
theorem OwM.other {w w1 : World} {B : Nat} {v : Value} {l : List UInt8} (h : OwM w B v l) (hb : ∀ q, v.ownBlock = some q → w1.heap[q]? = w.heap[q]?) (hs : w.heap.size ≤ w1.heap.size) : OwM w1 B v l := by
  rcases h with h | ⟨g, cap, rfl, h1, h2, h3⟩
  · exact .inl h
  · exact .inr ⟨g, cap, rfl, h1, by omega, h3.block (hb g rfl)⟩
theorem OwM.lt {w : World} {B : Nat} {v : Value} {l : List UInt8} (h : OwM w B v l) : ∀ q, v.ownBlock = some q → B ≤ q ∧ q < w.heap.size := by
  intro q hq
  rcases h with ⟨rfl, -⟩ | ⟨g, cap, rfl, h1, h2, -⟩
  · cases hq
  · have h9 : some g = some q := hq
    cases h9
    exact ⟨h1, h2⟩
theorem OwM.keep {w w1 : World} {B : Nat} {v : Value} {l : List UInt8} (h : OwM w B v l) (hb : Below w.heap.size w w1) : OwM w1 B v l := h.other (fun q hq => hb.block q (h.lt q hq).2) hb.size
theorem OwM.le {w : World} {B B' : Nat} {v : Value} {l : List UInt8} (h : OwM w B v l) (hB : B' ≤ B) : OwM w B' v l := by
  rcases h with h | ⟨g, cap, rfl, h1, h2, h3⟩
  · exact .inl h
  · exact .inr ⟨g, cap, rfl, by omega, h2, h3⟩
theorem OwM.isB {w : World} {B : Nat} {v : Value} {l : List UInt8} (h : OwM w B v l) : IsB w v l := by
  rcases h with h | ⟨g, cap, rfl, h1, h2, h3⟩
  · exact .inl h
  · refine .inr ⟨⟨g, 0, none⟩, cap, rfl, fun i hi => ?_⟩
    rw [addr_add, Nat.zero_add, h3.cell i hi]
    unfold lB
    rw [List.getElem?_eq_getElem hi]
    rfl
theorem OwM.form {w : World} {B : Nat} {v : Value} {l : List UInt8} (h : OwM w B v l) : ∃ x c, v = .slice x l.length c ∧ l.length ≤ c := by
  rcases h with ⟨rfl, rfl⟩ | ⟨g, cap, rfl, h1, h2, h3⟩
  · exact ⟨none, 0, rfl, Nat.le_refl _⟩
  · exact ⟨_, _, rfl, h3.le⟩
theorem OwM.ofB {w : World} {B : Nat} {v : Value} {l : List UInt8} (h : OwnB w B v l) : OwM w B v l := by
  have h0 := h
  obtain ⟨hl, h9⟩ := h
  rcases h9 with ⟨rfl, hn⟩ | ⟨g, cap, cur, rfl, hg, hh, hc, hm, hs, ht⟩
  · exact .inl ⟨rfl, List.length_eq_zero_iff.1 hn⟩
  · refine .inr ⟨g, cap, rfl, hg, (World.ownsRow.lt h0 g rfl).2, hc, hm, fun i hi => h0.cellB i hi, fun i hi => ?_, fun i hi => ?_⟩
    · unfold World.cell?
      simp only [hh]
      simp
      omega
    · unfold World.frozen?
      simp only [hh]
      simp
theorem OwM.nil (w : World) (B : Nat) : OwM w B (.slice none 0 0) [] := .inl ⟨rfl, rfl⟩
theorem lB_set (l : List UInt8) (j : Nat) (b : UInt8) (i : Nat) (hj : j < l.length) : lB (l.set j b) i = if i = j then b else lB l i := by
  unfold lB
  rw [List.getElem?_set]
  by_cases h : j = i
  · subst h; simp [hj]
  · rw [if_neg h, if_neg (fun e => h e.symm)]
theorem OwM.set {w : World} {B g n c : Nat} {l : List UInt8} (h : OwM w B (.slice (some ⟨g, 0, none⟩) n c) l) (j : Nat) (b : UInt8) (hj : j < l.length) : OwM (w.setCell ⟨g, j, none⟩ (.int .u8 (b.toNat : Int))) B (.slice (some ⟨g, 0, none⟩) n c) (l.set j b) := by
  rcases h with ⟨h, -⟩ | ⟨g', cap, he, h1, h2, h3⟩
  · cases h
  · simp only [Value.slice.injEq, Option.some.injEq, Addr.mk.injEq] at he
    obtain ⟨⟨rfl, -⟩, rfl, rfl⟩ := he
    have hc : ∀ i, (w.setCell ⟨g, j, none⟩ (.int .u8 (b.toNat : Int))).cell? ⟨g, i, none⟩ = if i = j then some (.int .u8 (b.toNat : Int)) else w.cell? ⟨g, i, none⟩ := fun i => by
      have hjj : (w.cell? ⟨g, j, none⟩).isSome = true := h3.there j (by have := h3.le; omega)
      by_cases hij : i = j
      · subst hij
        rw [if_pos rfl]
        have := World.cell?_setCells_in g [.int .u8 (b.toNat : Int)] i w (fun q hq => by simp at hq; subst hq; simpa using hjj) 0 (by simp)
        simpa [World.setCells] using this
      · rw [if_neg hij]
        have := World.cell?_setCells_out g [.int .u8 (b.toNat : Int)] j w ⟨g, i, none⟩ (fun _ _ => by simp; omega)
        simpa [World.setCells] using this
    have hf : ∀ i, (w.setCell ⟨g, j, none⟩ (.int .u8 (b.toNat : Int))).frozen? ⟨g, i, none⟩ = w.frozen? ⟨g, i, none⟩ := fun i => by simp
    refine .inr ⟨g, c, by rw [List.length_set], h1, by simp [World.setCell]; omega, by rw [List.length_set]; exact h3.le, h3.max, fun i hi => ?_, fun i hi => ?_, fun i hi => by rw [hf]; exact h3.soft i hi⟩
    · rw [List.length_set] at hi
      rw [hc, lB_set l j b i hj]
      split
      · rfl
      · exact h3.cell i hi
    · rw [hc]
      split
      · rfl
      · exact h3.there i hi
/-- append(v, b) -/
theorem OwM.app {w : World} {B y c : Nat} {v : Value} {l : List UInt8} (b : UInt8) (ty : TypeId) (h : OwM w B v l) (hy : w.cell? ⟨y, 0, none⟩ = some (Value.int .u8 (b.toNat : Int))) (hl : l.length + 1 ≤ 140737488355328) (hb : B ≤ w.heap.size) :
    ∃ v' w', (Builtin.append_ #[24, 24] ty #[v, .slice (some ⟨y, 0, none⟩) 1 c]).run Tryz.prog w = .ok v' w' ∧ OwM w' B v' (l ++ [b]) ∧ w.grownBy w' v.ownBlock ∧ (v'.ownBlock = v.ownBlock ∨ ∀ q, v'.ownBlock = some q → w.heap.size ≤ q) ∧ (∀ q i, i < l.length → v.ownBlock = some q → w'.cell? ⟨q, i, none⟩ = w.cell? ⟨q, i, none⟩) := by
  rcases h with ⟨rfl, rfl⟩ | ⟨g, cap, rfl, h1, h2, h3⟩
  · obtain ⟨v', w', hr, hO, hB', hs⟩ := run_app1 w w.heap.size y c (.slice none 0 0) [] b ty (OwnB.nil w _) hy hl (Nat.le_refl _)
    exact ⟨v', w', hr, (OwM.ofB hO).le hb, ⟨hB'.os, hB'.tape, hB'.output, hB'.size, fun k hk _ => hB'.block k hk⟩, .inr (fun q hq => (World.ownsRow.lt hO q hq).1), fun q i hi => absurd hi (by simp)⟩
  · obtain ⟨i, hi, hzz⟩ := Option.map_eq_some_iff.1 info5
    simp only [Prod.mk.injEq] at hzz
    obtain ⟨hz, hs, hby⟩ := hzz
    have hnews : ∀ j u, ([Value.int .u8 (b.toNat : Int)] : List Value)[j]? = some u → w.cell? ((⟨y, 0, none⟩ : Addr).add j) = some u := fun j u hu => by
      rcases j with _ | j
      · simp at hu; subst hu; rw [addr_add]; exact hy
      · simp at hu
    by_cases hroom : l.length + 1 ≤ cap
    · have hr := run_append_room_cells (P := Tryz.prog) w 24 ty 5 i Tryz.underlying24 hi g 0 l.length cap ⟨y, 0, none⟩ 1 c [Value.int .u8 (b.toNat : Int)] (by rw [hs]; rfl) hnews (fun u hu => by simp at hu; subst hu; rfl) hroom
        (fun j hj => by simp at hj; subst hj; rw [hs]; exact h3.there _ (by omega)) (fun j hj => by simp at hj; subst hj; rw [hs]; exact h3.soft _ (by omega))
      rw [hs, Nat.mul_one, Nat.zero_add] at hr
      have hout : ∀ j, j ≠ l.length → (w.setCells g l.length [Value.int .u8 (b.toNat : Int)]).cell? ⟨g, j, none⟩ = w.cell? ⟨g, j, none⟩ := fun j hj => World.cell?_setCells_out g _ l.length w ⟨g, j, none⟩ (fun _ _ => by simp; omega)
      have hin : (w.setCells g l.length [Value.int .u8 (b.toNat : Int)]).cell? ⟨g, l.length, none⟩ = some (Value.int .u8 (b.toNat : Int)) := World.cell?_setCells_in g [Value.int .u8 (b.toNat : Int)] l.length w (fun q hq => by simp at hq; subst hq; exact h3.there _ (by omega)) 0 (by simp)
      refine ⟨_, _, hr, .inr ⟨g, cap, by rw [List.length_append]; rfl, h1, by rw [(setC_frame g _ _ w).1]; exact h2, by rw [List.length_append]; exact hroom, h3.max, fun j hj => ?_, fun j hj => World.isSome_setCells g _ _ w _ (h3.there j hj), fun j hj => by rw [World.frozen?_setCells]; exact h3.soft j hj⟩, grown_setC w g _ _, .inl rfl, fun q j hj hq => ?_⟩
      · rw [List.length_append, List.length_singleton] at hj
        by_cases hjl : j = l.length
        · subst hjl
          rw [hin]
          unfold lB
          rw [List.getElem?_append_right (Nat.le_refl _)]
          simp
        · rw [hout j hjl, h3.cell j (by omega)]
          unfold lB
          rw [List.getElem?_append_left (by omega)]
      · have h9 : some g = some q := hq
        cases h9
        exact hout j (by omega)
    · have holds : ∀ j u, (bytesA l).toList[j]? = some u → w.cell? ((⟨g, 0, none⟩ : Addr).add j) = some u := fun j u hu => by
        rw [Array.getElem?_toList] at hu
        rw [addr_add, Nat.zero_add]
        have hjl : j < l.length := by have := (Array.getElem?_eq_some_iff.1 hu).1; simpa [bytesA] using this
        rw [h3.cell j hjl]
        unfold lB
        rw [List.getElem?_eq_getElem hjl]
        simpa [bytesA, hjl] using hu
      obtain ⟨v', w', hr, hO, hg⟩ := run_append_arg_grows (P := Tryz.prog) w 24 ty 5 i _ 1 1 Tryz.underlying24 hi hz hs hby rfl (by omega) ⟨g, 0, none⟩ l.length cap (bytesA l).toList (by simp [bytesA]) holds ⟨y, 0, none⟩ 1 c [Value.int .u8 (b.toNat : Int)] rfl hnews (by omega) (by unfold maxLen; omega) (by omega)
      have hO' : OwnB w' w.heap.size v' (l ++ [b]) := by
        unfold OwnB
        rw [List.length_append, show (bytesA (l ++ [b])).toList = (bytesA l).toList ++ [Value.int .u8 (b.toNat : Int)] by simp [bytesA]]
        exact hO
      exact ⟨v', w', hr, (OwM.ofB hO').le hb, ⟨hg.os, hg.tape, hg.output, hg.size, fun k hk _ => hg.block k hk (by simp)⟩, .inr (fun q hq => (World.ownsRow.lt hO' q hq).1), fun q j hj hq => by
        have h9 : some g = some q := hq
        cases h9
        exact World.cell?_of_block (a := ⟨g, j, none⟩) (hg.block g h2 (by simp))⟩
/-- []byte(s) -/
theorem OwM.conv (w : World) (s : ByteArray) (hs : s.size ≤ 140737488355328) : ∃ C W, (convert 9 24 (.string s)).run Tryz.prog w = .ok (.slice (some ⟨w.heap.size, 0, none⟩) s.size C) W ∧ Below w.heap.size w W ∧ OwM W w.heap.size (.slice (some ⟨w.heap.size, 0, none⟩) s.size C) (lS s) := by
  have hge := grownCap_ge w s.size 0 5
  have hcm : grownCap w s.size 0 5 ≤ maxLen := grownCap_le_maxLen w _ _ _ (by unfold maxLen; omega)
  have hsz : (Lib.bytesCells w 5 s).size = grownCap w s.size 0 5 := by
    unfold Lib.bytesCells
    rw [Array.size_append, Array.size_map, Array.size_replicate]
    have : s.data.size = s.size := rfl
    omega
  refine ⟨_, _, Lib.run_convert_string_bytes w 9 24 5 s Tryz.underlying9 Tryz.underlying24 Tryz.underlying5, ⟨rfl, rfl, rfl, by rw [Lib.bytesWorld_size]; omega, fun k hk => Lib.bytesWorld_at_old w _ s k hk⟩, .inr ⟨w.heap.size, _, by rw [lS_len], Nat.le_refl _, by rw [Lib.bytesWorld_size]; omega, by rw [lS_len]; exact hge, hcm, fun i hi => ?_, fun i hi => ?_, fun i hi => ?_⟩⟩
  · rw [lS_len] at hi
    rw [Lib.bytesWorld_cell w _ s i hi]
    rfl
  · unfold World.cell?
    simp only [Lib.bytesWorld_at_new]
    simp
    rw [hsz]
    exact hi
  · unfold World.frozen?
    simp only [Lib.bytesWorld_at_new]
    simp
    intro h9
    omega
end Go.Proofs.YtalnbddkhojjbaaGreatDoor
namespace Go.Proofs.YtalnbddkhojjbaaGreatDoor
open Go.RowKit

/-! What lex owes; known; LexQuotes -/
def tkEL : EK Tk := { T := 86, S := 78, k := 4, bytes := 40, z := .agg (tkA 0 0 0 ⟨#[]⟩), enc := fun x => (tkR x).toList }
theorem tkEL_ok : tkEL.Ok where
  len x := rfl
  one x v hv := by
    unfold tkEL tkR tkA at hv
    simp only [List.mem_cons, List.not_mem_nil, or_false] at hv
    rcases hv with rfl | rfl | rfl | rfl <;> rfl
  und := Tryz.underlying78
  info := by
    have h : (Tryz.prog.info? 86).map (fun i => (i.zero, i.size, i.bytes)) = some (some (.agg (tkA 0 0 0 ⟨#[]⟩)), 4, 40) := by kernel_rfl
    exact h
  zc := rfl
  kp := by show 0 < 4; omega
  row := ⟨_, Tryz.underlying86, rfl⟩
/-- strconv's two errors lie in their variables. -/
def Vx (w : World) : Prop := (∃ tp p, w.cell? ⟨1, 0, none⟩ = some (.iface tp p)) ∧ ∃ tp p, w.cell? ⟨2, 0, none⟩ = some (.iface tp p)
theorem Vx.below {w W : World} (h : Vx w) (hb : Below w.heap.size w W) : Vx W := by
  obtain ⟨⟨t1, p1, h1⟩, ⟨t2, p2, h2⟩⟩ := h
  have l1 : (⟨1, 0, none⟩ : Addr).block < w.heap.size := Lib.lt_of_cell h1
  have l2 : (⟨2, 0, none⟩ : Addr).block < w.heap.size := Lib.lt_of_cell h2
  exact ⟨⟨t1, p1, (hb.cell l1).trans h1⟩, ⟨t2, p2, (hb.cell l2).trans h2⟩⟩
structure LexOk : Prop where
  all : ∀ (l : List UInt8) (x : Option Addr) (L c : Nat) (w : World), l.length = L → L ≤ c → L ≤ 4611686018427387904 → IsB w (.slice x L c) l → Vx w → Calls Tryz.prog 33 #[.slice x L c] w fun e w' => AllP tkEL l w e w'
  quo : ∀ (s : ByteArray) (w : World), s.size ≤ 17592186044416 → Calls Tryz.prog 86 #[.string s] w fun e w' => QuP (lS s) w e w'
end Go.Proofs.YtalnbddkhojjbaaGreatDoor
namespace Go.Proofs.YtalnbddkhojjbaaGreatDoor
open Go.RowKit

/-! lex.Token as a whole row -/
section
variable (ρ : Operand → Value) (dst : Option Tmp) (ty : TypeId) (pos : String) (after : Array Edge) (guard : Option (Nat × Bool))
@[go_sem ↓] theorem execOp_load_tl (x : Operand) : execOp ρ { dst, op := .load 86 x, type := ty, pos, after, guard } = bigLoad 86 (ρ x) := rfl
@[go_sem ↓] theorem execOp_store_tl (x y : Operand) : execOp ρ { dst, op := .store 86 x y, type := ty, pos, after, guard } = bigStore 86 (ρ x) (ρ y) := rfl
@[go_sem ↓] theorem execOp_alloc_tl : execOp ρ { dst, op := .alloc 86, type := ty, pos, after, guard } = bigAlloc 86 := rfl
@[go_sem ↓] theorem execOp_box_tl (x : Operand) : execOp ρ { dst, op := .box 86 x, type := ty, pos, after, guard } = bigBox 86 (ρ x) := rfl
end
theorem info_tl : (Tryz.prog.info? 86).map (fun i => (i.zero, i.size)) = some (some (.agg (tkA 0 0 0 ⟨#[]⟩)), 4) := by kernel_rfl
theorem sizeT_tl : (Tryz.prog.info? 86).map (·.size) = some 4 := (zero_of_info info_tl).2
@[go_sem] theorem run_load_tl (w : World) (g : Nat) (h : rowL w g = true) (hs : (rowAt w g).size = 4) : (bigLoad 86 (.pointer (some ⟨g, 0, none⟩))).run Tryz.prog w = .ok (.value (.agg (rowAt w g))) w := by
  rw [run_bigLoad 86 _ 4 Tryz.underlying86 rfl sizeT_tl w g 0 h (by omega), Nat.zero_add, Array.extract_eq_self_of_le (by omega)]
@[go_sem] theorem run_store_tl (w : World) (g : Nat) (c : Array Value) (h : rowL w g = true) (hs : (rowAt w g).size = 4) (hc : c.size = 4) (h1 : OneC c = true) : (bigStore 86 (.pointer (some ⟨g, 0, none⟩)) (.agg c)).run Tryz.prog w = .ok .skip (w.setRow g c) := by
  rw [run_bigStore 86 4 sizeT_tl w g 0 c h hc (by omega) h1, layC_all _ _ (by omega)]
@[go_sem] theorem run_alloc_tl (w : World) : (bigAlloc 86).run Tryz.prog w = .ok (.value (.pointer (some ⟨w.heap.size, 0, none⟩))) (w.alloc (.cells (tkA 0 0 0 ⟨#[]⟩) 86)) := by
  simp only [bigAlloc, Instr.alloc, Sem.run_bind, (zero_of_info info_tl).1 w, Result.andThen_ok]
  rfl
@[go_sem] theorem run_box_tl (w : World) (c : Array Value) : (bigBox 86 (.agg c)).run Tryz.prog w = .ok (.value (.pointer (some ⟨w.heap.size, 0, none⟩))) (w.alloc (.cells c 86)) := run_bigBox _ c w
/-- Two results: a token out of its variable, and a second one. -/
theorem tl_bodyPost2 {fn : Func} {R : Ending → World → Prop} {a : Act} {w : World} (p q n : Nat) (c : Array Value) (hres : fn.results = #[.cell p 86, .tmp q]) (hp : a.tmps.getD p undef = .pointer (some ⟨n, 0, none⟩)) (hd : a.defers = [])
    (hok : RowC w n c) (hc : c.size = 4) (h : R (.returned (.tuple #[.agg c, a.tmps.getD q undef])) w) : bodyPost Tryz.prog fn R .ret a w := by
  obtain ⟨t, hg⟩ := row_of_L hok.1
  rw [hok.2] at hg
  have hp' : a.tmps[p]?.getD undef = .pointer (some ⟨n, 0, none⟩) := by simpa using hp
  have hl := run_loadVar_row (P := Tryz.prog) w n t 86 c (0, 0) _ hg Tryz.underlying86 rfl (by rw [sizeT_tl, hc])
  refine bodyPost_ret (v := .tuple #[.agg c, a.tmps.getD q undef]) ?_ hd h
  simp [results, hres, hp', asAddr, hl]
/-- One result: a token out of its variable. -/
theorem tl_bodyPost1 {fn : Func} {R : Ending → World → Prop} {a : Act} {w : World} (p n : Nat) (c : Array Value) (hres : fn.results = #[.cell p 86]) (hp : a.tmps.getD p undef = .pointer (some ⟨n, 0, none⟩)) (hd : a.defers = [])
    (hok : RowC w n c) (hc : c.size = 4) (h : R (.returned (.agg c)) w) : bodyPost Tryz.prog fn R .ret a w := by
  obtain ⟨t, hg⟩ := row_of_L hok.1
  rw [hok.2] at hg
  have hp' : a.tmps[p]?.getD undef = .pointer (some ⟨n, 0, none⟩) := by simpa using hp
  have hl := run_loadVar_row (P := Tryz.prog) w n t 86 c (0, 0) _ hg Tryz.underlying86 rfl (by rw [sizeT_tl, hc])
  refine bodyPost_ret (v := .agg c) ?_ hd h
  simp [results, hres, hp', asAddr, hl]
/-- A token in a list. -/
theorem run_load_tlm (w : World) (g o : Nat) (h : rowL w g = true) (hs : decide (o + 4 ≤ (rowAt w g).size) = true) : (bigLoad 86 (.pointer (some ⟨g, o, none⟩))).run Tryz.prog w = .ok (.value (.agg ((rowAt w g).extract o (o + 4)))) w :=
  run_bigLoad 86 _ 4 Tryz.underlying86 rfl sizeT_tl w g o h (of_decide_eq_true hs)
theorem tk_ext {w : World} {B g n c : Nat} {ms : List Tk} (h : OwnK tkEL w B (.slice (some ⟨g, 0, none⟩) n c) ms) (i : Nat) (d : Tk) (hi : ms[i]? = some d) : rowL w g = true ∧ i * 4 + 4 ≤ (rowAt w g).size ∧ (rowAt w g).extract (i * 4) (i * 4 + 4) = tkR d := by
  obtain ⟨cur, h1, h2, h3, h4, h5, h6, h7⟩ := h.heap
  obtain ⟨hi9, -⟩ := List.getElem?_eq_some_iff.1 hi
  have hk : tkEL.k = 4 := rfl
  rw [hk] at h6
  have e1 : rowL w g = true := by unfold rowL; rw [h3]; rfl
  have e2 : rowAt w g = cur := by unfold rowAt; rw [h3]
  have hsz : i * 4 + 4 ≤ cur.size := by omega
  refine ⟨e1, by rw [e2]; exact hsz, ?_⟩
  rw [e2]
  have hr := h.range tkEL_ok i d hi
  have hc : ∀ j, w.cell? ⟨g, j, none⟩ = cur[j]? := fun j => by rw [cell_rowL e1, e2]
  apply Array.ext
  · rw [Array.size_extract, tkR_size]; omega
  · intro j q1 q2
    rw [tkR_size] at q2
    have h9 := hr j (tkR d)[j] (by show (tkR d).toList[j]? = _; rw [Array.getElem?_toList, Array.getElem?_eq_getElem (by rw [tkR_size]; omega)]; rfl)
    rw [hk, hc] at h9
    rw [Array.getElem_extract]
    rw [Array.getElem?_eq_getElem (by omega)] at h9
    exact Option.some.inj h9
end Go.Proofs.YtalnbddkhojjbaaGreatDoor
namespace Go.Proofs.YtalnbddkhojjbaaGreatDoor
open Go.RowKit

/-! What a range over a text yields, in the words of LexM -/
theorem get_lB (s : ByteArray) (i : Nat) : s.get! i = lB (lS s) i := by
  unfold lB lS
  obtain ⟨a⟩ := s
  show a[i]! = _
  rw [Array.getElem?_toList]
  rw [Array.getElem!_eq_getD, Array.getD_eq_getD_getElem?]
  rfl
def dcN (b0 b1 b2 b3 n : Nat) : Nat × Nat :=
  if b0 < 128 then (b0, 1)
  else if b0 / 32 = 6 ∧ 2 ≤ n ∧ b1 / 64 = 2 then (if 128 ≤ b0 % 32 * 64 + b1 % 64 then (b0 % 32 * 64 + b1 % 64, 2) else (65533, 1))
  else if b0 / 16 = 14 ∧ (2 ≤ n ∧ b1 / 64 = 2) ∧ 3 ≤ n ∧ b2 / 64 = 2 then (if 2048 ≤ b0 % 16 * 4096 + b1 % 64 * 64 + b2 % 64 ∧ Utf8.valid ((b0 % 16 * 4096 + b1 % 64 * 64 + b2 % 64 : Nat) : Int) = true then (b0 % 16 * 4096 + b1 % 64 * 64 + b2 % 64, 3) else (65533, 1))
  else if b0 / 8 = 30 ∧ (2 ≤ n ∧ b1 / 64 = 2) ∧ (3 ≤ n ∧ b2 / 64 = 2) ∧ 4 ≤ n ∧ b3 / 64 = 2 then (if 65536 ≤ b0 % 8 * 262144 + b1 % 64 * 4096 + b2 % 64 * 64 + b3 % 64 ∧ Utf8.valid ((b0 % 8 * 262144 + b1 % 64 * 4096 + b2 % 64 * 64 + b3 % 64 : Nat) : Int) = true then (b0 % 8 * 262144 + b1 % 64 * 4096 + b2 % 64 * 64 + b3 % 64, 4) else (65533, 1))
  else (65533, 1)
theorem dec_dcN (s : ByteArray) (k : Nat) (hk : k < s.size) : Utf8.decode s k = dcN (lB ((lS s).drop k) 0).toNat (lB ((lS s).drop k) 1).toNat (lB ((lS s).drop k) 2).toNat (lB ((lS s).drop k) 3).toNat ((lS s).drop k).length := by
  have hd : ∀ j, lB ((lS s).drop k) j = lB (lS s) (k + j) := fun j => by unfold lB; rw [List.getElem?_drop]
  have hl : ((lS s).drop k).length = s.size - k := by rw [List.length_drop, lS_len]
  unfold Utf8.decode dcN
  simp only [get_lB, hd, hl, Bool.and_eq_true, decide_eq_true_eq, beq_iff_eq, Utf8.runeError, and_assoc]
  have e1 : (k + 1 < s.size) ↔ 2 ≤ s.size - k := by omega
  have e2 : (k + 2 < s.size) ↔ 3 ≤ s.size - k := by omega
  have e3 : (k + 3 < s.size) ↔ 4 ≤ s.size - k := by omega
  simp only [e1, e2, e3, ge_iff_le]
theorem valid_nat (c : Nat) : Utf8.valid (c : Int) = true ↔ c < 55296 ∨ (57344 ≤ c ∧ c ≤ 1114111) := by
  unfold Utf8.valid
  simp only [Bool.or_eq_true, Bool.and_eq_true, decide_eq_true_eq]
  omega
theorem isC_div (b : UInt8) : isC b = true ↔ b.toNat / 64 = 2 := by
  unfold isC
  rw [decide_eq_true_eq]
  omega
theorem cvR_yes (l : List UInt8) (v k u : Nat) (h : cvR l v k = some u) (hc : (lB l (k + 1)).toNat / 64 = 2) : cvR l v (k + 1) = some (64 * u + (lB l (k + 1)).toNat % 64) := by
  rw [cv_step l v k u ((lB l (k + 1)).toNat % 64) h (by omega) (by omega)]
theorem cvR_no (l : List UInt8) (v k : Nat) (hc : ¬ (lB l (k + 1)).toNat / 64 = 2) : cvR l v (k + 1) = none := by
  rw [cvR]
  split
  · rfl
  · rw [if_neg (fun h => hc ((isC_div _).1 h))]
theorem cvR_none (l : List UInt8) (v k : Nat) (h : cvR l v k = none) : cvR l v (k + 1) = none := by rw [cvR, h]
theorem rnN_no (l : List UInt8) (n v : Nat) (h : cvR l v (n - 1) = none) : (rnN l n v).2 = 0 := by
  unfold rnN
  split
  · rfl
  · rw [h]
theorem rnN_ok (l : List UInt8) (n v u : Nat) (_ : 0 < n) (hl : n ≤ l.length) (h : cvR l v (n - 1) = some u) : rnN l n v = if okR n u = true then (u, n) else (0, 0) := by
  unfold rnN
  rw [if_neg (by omega), h]
theorem rnN_short (l : List UInt8) (n v : Nat) (h : l.length < n) : rnN l n v = (0, 0) := by
  unfold rnN
  rw [if_pos h]
def stR (x : Nat × Nat) : Nat × Nat := if x.2 = 0 then (65533, 1) else x
theorem stR0 {x : Nat × Nat} (h : x.2 = 0) : stR x = (65533, 1) := if_pos h
theorem dec_rn (s : ByteArray) (k : Nat) (hk : k < s.size) : Utf8.decode s k = stR (rn ((lS s).drop k)) := by
  rw [dec_dcN s k hk]
  have hl : 0 < ((lS s).drop k).length := by rw [List.length_drop, lS_len]; omega
  generalize (lS s).drop k = x at hl
  obtain ⟨b, hb⟩ : ∃ q, (lB x 0).toNat = q := ⟨_, rfl⟩
  have hb8 : b < 256 := by rw [← hb]; exact (lB x 0).toNat_lt
  rw [rn_b x b (by omega) hb, hb]
  unfold dcN
  by_cases h1 : b < 128
  · rw [if_pos h1, if_pos h1]; rfl
  rw [if_neg h1, if_neg h1]
  by_cases h2 : 192 ≤ b ∧ b < 224
  · rw [if_pos h2]
    by_cases hn : 2 ≤ x.length
    · by_cases hc : (lB x 1).toNat / 64 = 2
      · have e := cvR_yes x (b - 192) 0 _ rfl hc
        rw [rnN_ok x 2 _ _ (by omega) hn e, if_pos ⟨by omega, hn, hc⟩]
        have ev : 64 * (b - 192) + (lB x (0 + 1)).toNat % 64 = b % 32 * 64 + (lB x 1).toNat % 64 := by rw [Nat.zero_add]; omega
        rw [ev]
        generalize hv : b % 32 * 64 + (lB x 1).toNat % 64 = v
        by_cases ho : 128 ≤ v
        · rw [if_pos ho, if_pos ((okR_iff _ _).2 ⟨ho, by omega, by omega⟩)]; rfl
        · rw [if_neg ho, if_neg (fun h => ho ((okR_iff _ _).1 h).1)]; rfl
      · rw [stR0 (rnN_no x 2 _ (cvR_no x _ 0 hc)), if_neg (by omega), if_neg (by omega), if_neg (by omega)]
    · rw [rnN_short x 2 _ (by omega), if_neg (by omega), if_neg (by omega), if_neg (by omega)]; rfl
  rw [if_neg h2, if_neg (by omega : ¬ (b / 32 = 6 ∧ _))]
  by_cases h3 : 224 ≤ b ∧ b < 240
  · rw [if_pos h3]
    by_cases hn : 3 ≤ x.length
    · by_cases hc : (lB x 1).toNat / 64 = 2
      · have e := cvR_yes x (b - 224) 0 _ rfl hc
        by_cases hc2 : (lB x 2).toNat / 64 = 2
        · have e2 := cvR_yes x (b - 224) 1 _ e hc2
          rw [rnN_ok x 3 _ _ (by omega) hn e2, if_pos ⟨by omega, ⟨by omega, hc⟩, hn, hc2⟩]
          have ev : 64 * (64 * (b - 224) + (lB x (0 + 1)).toNat % 64) + (lB x (1 + 1)).toNat % 64 = b % 16 * 4096 + (lB x 1).toNat % 64 * 64 + (lB x 2).toNat % 64 := by simp only [Nat.zero_add, Nat.reduceAdd]; omega
          rw [ev]
          generalize hv : b % 16 * 4096 + (lB x 1).toNat % 64 * 64 + (lB x 2).toNat % 64 = v
          by_cases ho : 2048 ≤ v ∧ Utf8.valid (v : Int) = true
          · have := (valid_nat v).1 ho.2
            rw [if_pos ho, if_pos ((okR_iff _ _).2 ⟨ho.1, by omega, by omega⟩)]; rfl
          · rw [if_neg ho, if_neg (fun h => ho ⟨((okR_iff _ _).1 h).1, (valid_nat v).2 (by have := ((okR_iff _ _).1 h).2; omega)⟩)]; rfl
        · rw [stR0 (rnN_no x 3 _ (cvR_no x _ 1 hc2)), if_neg (by omega), if_neg (by omega)]
      · rw [stR0 (rnN_no x 3 _ (cvR_none x _ 1 (cvR_no x _ 0 hc))), if_neg (by omega), if_neg (by omega)]
    · rw [rnN_short x 3 _ (by omega), if_neg (by omega), if_neg (by omega)]; rfl
  rw [if_neg h3, if_neg (by omega : ¬ (b / 16 = 14 ∧ _))]
  by_cases h4 : 240 ≤ b ∧ b < 248
  · rw [if_pos h4]
    by_cases hn : 4 ≤ x.length
    · by_cases hc : (lB x 1).toNat / 64 = 2
      · have e := cvR_yes x (b - 240) 0 _ rfl hc
        by_cases hc2 : (lB x 2).toNat / 64 = 2
        · have e2 := cvR_yes x (b - 240) 1 _ e hc2
          by_cases hc3 : (lB x 3).toNat / 64 = 2
          · have e3 := cvR_yes x (b - 240) 2 _ e2 hc3
            rw [rnN_ok x 4 _ _ (by omega) hn e3, if_pos ⟨by omega, ⟨by omega, hc⟩, ⟨by omega, hc2⟩, hn, hc3⟩]
            have ev : 64 * (64 * (64 * (b - 240) + (lB x (0 + 1)).toNat % 64) + (lB x (1 + 1)).toNat % 64) + (lB x (2 + 1)).toNat % 64 = b % 8 * 262144 + (lB x 1).toNat % 64 * 4096 + (lB x 2).toNat % 64 * 64 + (lB x 3).toNat % 64 := by simp only [Nat.zero_add, Nat.reduceAdd]; omega
            rw [ev]
            generalize hv : b % 8 * 262144 + (lB x 1).toNat % 64 * 4096 + (lB x 2).toNat % 64 * 64 + (lB x 3).toNat % 64 = v
            by_cases ho : 65536 ≤ v ∧ Utf8.valid (v : Int) = true
            · have := (valid_nat v).1 ho.2
              rw [if_pos ho, if_pos ((okR_iff _ _).2 ⟨ho.1, by omega, by omega⟩)]; rfl
            · rw [if_neg ho, if_neg (fun h => ho ⟨((okR_iff _ _).1 h).1, (valid_nat v).2 (by have := ((okR_iff _ _).1 h).2; omega)⟩)]; rfl
          · rw [stR0 (rnN_no x 4 _ (cvR_no x _ 2 hc3)), if_neg (by omega)]
        · rw [stR0 (rnN_no x 4 _ (cvR_none x _ 2 (cvR_no x _ 1 hc2))), if_neg (by omega)]
      · rw [stR0 (rnN_no x 4 _ (cvR_none x _ 2 (cvR_none x _ 1 (cvR_no x _ 0 hc)))), if_neg (by omega)]
    · rw [rnN_short x 4 _ (by omega), if_neg (by omega)]; rfl
  rw [if_neg h4, if_neg (by omega : ¬ (b / 8 = 30 ∧ _))]
  rfl
/-- Is what a range told as rune v, at the front of l, a byte that belongs to none? -/
def stray (v : Nat) (l : List UInt8) : Bool := decide (v = 65533) && !decide (l.take 3 = [239, 191, 189])
theorem enc_err : enc 65533 = [239, 191, 189] := by decide
theorem stray_rn (x : List UInt8) : stray (stR (rn x)).1 x = decide ((rn x).2 = 0) := by
  unfold stray
  by_cases h0 : (rn x).2 = 0
  · rw [stR0 h0, decide_eq_true h0, decide_eq_true rfl, Bool.true_and]
    rw [decide_eq_false, Bool.not_false]
    intro h
    have e : x = enc 65533 ++ x.drop 3 := by rw [enc_err, ← h, List.take_append_drop]
    rw [e, rn_enc 65533 ⟨by omega, by omega⟩] at h0
    rw [enc_err] at h0
    simp at h0
  · rw [decide_eq_false h0]
    have e1 : stR (rn x) = rn x := if_neg h0
    rw [e1]
    by_cases hv : (rn x).1 = 65533
    · obtain ⟨ht, _, hl⟩ := enc_rn x (rn x).1 (rn x).2 rfl h0
      rw [hv, enc_err] at ht
      have h3 : (rn x).2 = 3 := by
        have := congrArg List.length ht
        rw [List.length_take] at this
        simp at this
        omega
      rw [h3] at ht
      rw [decide_eq_true ht, Bool.not_true, Bool.and_false]
    · rw [decide_eq_false hv, Bool.false_and]
theorem stR_pos (x : Nat × Nat) : 1 ≤ (stR x).2 := by
  unfold stR
  split
  · exact Nat.le_refl _
  · omega
theorem toUInt8_u8 (n : Nat) : n.toUInt8 = u8 n := rfl
theorem enc_Z (v : Nat) (hv : vR v) : Lib.encodeRune (v : Int) = enc v := by
  obtain ⟨h1, h2⟩ := hv
  unfold Lib.encodeRune Lib.encodeRuneZ enc
  by_cases a : v < 128
  · rw [if_pos (by omega), if_pos a]
    simp [toUInt8_u8]
  rw [if_neg (by omega), if_neg a]
  by_cases b : v < 2048
  · rw [if_pos (by omega), if_pos b]
    have e1 : (192 + (v : Int) / 64).toNat = 192 + v / 64 := by omega
    have e2 : (128 + (v : Int) % 64).toNat = 128 + v % 64 := by omega
    simp only [List.map_cons, List.map_nil, e1, e2, toUInt8_u8]
  rw [if_neg (by omega), if_neg b]
  by_cases c : v < 65536
  · rw [if_pos (by omega), if_pos c]
    have e1 : (224 + (v : Int) / 4096).toNat = 224 + v / 4096 := by omega
    have e2 : (128 + (v : Int) / 64 % 64).toNat = 128 + v / 64 % 64 := by omega
    have e3 : (128 + (v : Int) % 64).toNat = 128 + v % 64 := by omega
    simp only [List.map_cons, List.map_nil, e1, e2, e3, toUInt8_u8]
  rw [if_neg (by omega), if_neg c, if_pos (by omega)]
  have e1 : (240 + (v : Int) / 262144).toNat = 240 + v / 262144 := by omega
  have e2 : (128 + (v : Int) / 4096 % 64).toNat = 128 + v / 4096 % 64 := by omega
  have e3 : (128 + (v : Int) / 64 % 64).toNat = 128 + v / 64 % 64 := by omega
  have e4 : (128 + (v : Int) % 64).toNat = 128 + v % 64 := by omega
  simp only [List.map_cons, List.map_nil, e1, e2, e3, e4, toUInt8_u8]
end Go.Proofs.YtalnbddkhojjbaaGreatDoor
