import Derived.Test.YtiokdcffpnjkcaaDoorQLex8
import Derived.Test.YtiokdcffpnjkcaaDoorQKel
import Derived.Test.YtiokdcffpnjkcaaDoorQGenA
namespace Go.Proofs.YtiokdcffpnjkcaaDoor
open Go.RowKit

/-! assayref14.All -/
@[go_sem] theorem tkA_one (k a n : Int) (S : ByteArray) : OneC (tkA k a n S) = true := tk_one k a n S
def tkR (x : Tk) : Array Value := tkA x.kind x.at_ x.n ⟨x.text.toArray⟩
@[go_sem] theorem tkR_size (x : Tk) : (tkR x).size = 4 := rfl
def tkE14 : EK Tk := { T := 61, S := 38, k := 4, bytes := 40, z := .agg (tkA 0 0 0 ⟨#[]⟩), enc := fun x => (tkR x).toList }
theorem tkE14_ok : tkE14.Ok where
  len x := rfl
  one x v hv := by
    unfold tkE14 tkR tkA at hv
    simp only [List.mem_cons, List.not_mem_nil, or_false] at hv
    rcases hv with rfl | rfl | rfl | rfl <;> rfl
  und := Tryd.underlying38
  info := by
    have h : (Tryd.prog.info? 61).map (fun i => (i.zero, i.size, i.bytes)) = some (some (.agg (tkA 0 0 0 ⟨#[]⟩)), 4, 40) := by kernel_rfl
    exact h
  zc := rfl
  kp := by show 0 < 4; omega
  row := ⟨_, Tryd.underlying61, rfl⟩
theorem tkE14_enc (x : Tk) : tkE14.enc x = (tkR x).toList := rfl
def tkBS (x : Value) : Sem Next := do pure (.value (← Instr.buildSlice 38 1 #[(0, x)]))
section
variable (ρ : Operand → Value) (dst : Option Tmp) (ty : TypeId) (pos : String) (after : Array Edge) (guard : Option (Nat × Bool))
@[go_sem ↓] theorem execOp_load_tk (x : Operand) : execOp ρ { dst, op := .load 61 x, type := ty, pos, after, guard } = bigLoad 61 (ρ x) := rfl
@[go_sem ↓] theorem execOp_tkBS (x : Operand) : execOp ρ { dst, op := .buildSlice 38 1 #[(0, x)], type := ty, pos, after, guard } = tkBS (ρ x) := by simp [execOp, tkBS]
end
@[go_sem] theorem run_load_tk (w : World) (g : Nat) (h : rowL w g = true) (hs : (rowAt w g).size = 4) : (bigLoad 61 (.pointer (some ⟨g, 0, none⟩))).run Tryd.prog w = .ok (.value (.agg (rowAt w g))) w := by
  rw [run_bigLoad 61 _ 4 Tryd.underlying61 rfl sizeT_tk w g 0 h (by omega), Nat.zero_add, Array.extract_eq_self_of_le (by omega)]
@[go_sem] theorem run_tkBS (w : World) (x : Tk) : (tkBS (.agg (tkR x))).run Tryd.prog w = .ok (.value (.slice (some ⟨w.heap.size, 0, none⟩) 1 1)) (w.alloc (.cells (tkR x) 61)) := by
  have h := run_litK1 tkE14_ok (by show 4 ≤ 1000; omega) w x
  simp only [tkE14, Array.toArray_toList] at h
  simp only [tkBS, Sem.run_bind, h]
  rfl
theorem OwnK.other14 {α : Type} {E : EK α} {w w' : World} {B : Nat} {v : Value} {ds : List α} (h : OwnK E w B v ds) (hl : ∀ g, v.ownBlock = some g → w'.heap[g]? = w.heap[g]?) : OwnK E w' B v ds := by
  obtain ⟨h1, h2⟩ := h
  refine ⟨h1, ?_⟩
  rcases h2 with hn | ⟨g, cap, cur, hv, hb, hg, r⟩
  · exact .inl hn
  · refine .inr ⟨g, cap, cur, hv, hb, ?_, r⟩
    rw [hl g (by rw [hv]; rfl)]; exact hg
theorem below_grown14 {α : Type} {E : EK α} {w w' : World} {B : Nat} {v : Value} {ds : List α} (h : OwnK E w B v ds) (hg : w.grownBy w' v.ownBlock) (hb : B ≤ w.heap.size) : Below B w w' :=
  ⟨hg.os, hg.tape, hg.output, hg.size, fun k hk => hg.block k (by omega) (fun e => by have := (World.ownsRow.lt h k e.symm).1; omega)⟩
def AllP (E : EK Tk) (l : List UInt8) (w : World) (e : Ending) (w' : World) : Prop := (∃ y n c, e = .returned (.tuple #[.slice y n c, .int .i64 (cutE l), .int .i64 (cutP l)]) ∧ OwnK E w' w.heap.size (.slice y n c) (cutL l)) ∧ Below w.heap.size w w'
theorem txt_le (l : List UInt8) : ∀ f k out, (txt l f k out).2 ≤ l.length
  | 0, _, _ => by simp [txt]
  | f + 1, k, out => by
    rw [txt]
    split
    · split
      · simp only; omega
      · split
        · simp
        · exact txt_le l f _ _
    · simp
theorem one_le (l : List UInt8) (h : 0 < l.length) : (oneTk l).2 ≤ l.length := by
  unfold oneTk
  split
  · simp only; omega
  · split
    · exact txt_le l _ _ _
    · have h9 := wl_le l
      unfold wordTk
      (repeat' split) <;> simp only <;> omega
theorem one_at (l : List UInt8) : (oneTk l).1.at_ = 0 := by
  unfold oneTk
  split
  · rfl
  · split
    · rfl
    · unfold wordTk
      (repeat' split) <;> rfl
theorem cutF_go (l : List UInt8) (f k : Nat) (ts : List Tk) (hk : k < l.length) : cutF l (f + 1) k ts = if blk (lB l k) = true then cutF l f (k + 1) ts else if (oneTk (l.drop k)).2 = 0 then (none, k) else cutF l f (k + (oneTk (l.drop k)).2) (ts ++ [{ (oneTk (l.drop k)).1 with at_ := (k : Int) }]) := by
  rw [cutF, if_pos hk]
set_option linter.unusedSimpArgs false in
set_option maxRecDepth 100000 in
set_option maxHeartbeats 8000000 in
theorem refAll_any (l : List UInt8) (x : Option Addr) (L c : Nat) (w : World) (hL : l.length = L) (hl : IsB w (.slice x L c) l) (hL47 : L ≤ 140737488355328) : Calls Tryd.prog 12 #[.slice x L c] w fun e w' => AllP tkE14 l w e w' := by
  by_cases h4 : 4096 < L
  · have i0 : (4096 : Int) < (L : Int) := by omega
    have HP : Hid (AllP tkE14 l w (.returned (.tuple #[.slice none 0 0, .int .i64 2, .int .i64 0])) w) := ⟨⟨none, 0, 0, by unfold cutE cutP; rw [if_pos (by omega), if_pos (by omega)], by unfold cutL; rw [if_pos (by omega)]; exact OwnK.nil _ _ _⟩, Below.refl _ _⟩
    go_enter Tryd.func12, Tryd.ntmps12
    go_wp2
    go_ret3
    exact HP.out
  have i0 : ¬ (4096 : Int) < (L : Int) := by omega
  have hst := hl.str
  obtain ⟨s, hs⟩ : ∃ q, ByteArray.mk l.toArray = q := ⟨_, rfl⟩
  have hls : lS s = l := by rw [← hs, lS_mk]
  have hsz : s.size = L := by rw [← lS_len, hls, hL]
  rw [hs] at hst
  clear hs hl
  obtain ⟨RC, hRC⟩ : ∃ q, cutA l = q := ⟨_, rfl⟩
  have HE : Hid (cutL l = RC.1.getD [] ∧ cutE l = (if RC.1.isNone then 30 else 0) ∧ cutP l = (RC.2 : Int)) := by
    have h4' : ¬ 4096 < l.length := by omega
    exact ⟨by unfold cutL; rw [if_neg h4', hRC], by unfold cutE; rw [if_neg h4', hRC], by unfold cutP; rw [if_neg h4', hRC]⟩
  have H0 : Hid (∃ f, L + 1 ≤ f + 0 ∧ cutF l f 0 [] = RC) := ⟨L + 1, by omega, by rw [← hRC]; unfold cutA; rw [hL]⟩
  clear hRC
  go_enter Tryd.func12, Tryd.ntmps12
  go_wp2_with fail
  clear hst
  go_loopw [6, 7] (fun lv iv wr => ∃ (k : Nat) (y : Option Addr) (n c : Nat) (ts : List Tk), k ≤ L ∧ lv = .slice y n c ∧ iv = .int .i64 k ∧ ts.length ≤ k ∧ OwnK tkE14 wr w.heap.size (.slice y n c) ts ∧ Hid (∃ f, L + 1 ≤ f + k ∧ cutF l f k ts = RC) ∧ Below w.heap.size w wr) (fun _ iv _ => L - (intOf iv).toNat)
  case atStart => exact ⟨0, none, 0, 0, [], by omega, rfl, rfl, Nat.zero_le _, OwnK.nil _ _ _, H0, Below.refl _ _⟩
  case round =>
    clear H0
    obtain ⟨k, y, n0, c0, ts, hk, rfl, rfl, hts, hO, HI, hB⟩ := hrel
    obtain ⟨f, hf, hF⟩ := HI.out
    clear HI
    by_cases hlt : k < L
    · have q0 : (0 : Int) ≤ (k : Int) := by omega
      have q1 : (k : Int) < (L : Int) := by omega
      obtain ⟨f', rfl⟩ : ∃ f', f = f' + 1 := ⟨f - 1, by omega⟩
      rw [cutF_go l f' k ts (by omega)] at hF
      obtain ⟨b, hb⟩ : ∃ q, lB l k = q := ⟨_, rfl⟩
      have hbk : ∀ W, (sAt (.string s) (.int .i64 (k : Int))).run Tryd.prog W = .ok (.value (.int .u8 (b.toNat : Int))) W := fun W => by
        have := run_sAt W s k (by omega)
        rw [hls, hb] at this; exact this
      rw [hb] at hF
      have HG : Hid _ := hF
      have hone := fun W => refOne_any (s.extract k L) W (by rw [← lS_len, lS_cut, hls, List.length_take, List.length_drop]; omega) (by rw [← lS_len, lS_cut, hls, List.length_take, List.length_drop]; omega)
      simp only [lS_cut, hls] at hone
      clear hF hb
      by_cases he : b = 32
      · have HN : Hid (∃ f, L + 1 ≤ f + (k + 1) ∧ cutF l f (k + 1) ts = RC) := by
          have h9 := HG.out
          rw [show blk b = true by rw [he]; rfl, if_pos rfl] at h9
          exact ⟨f', by omega, h9⟩
        have f0 : ((b.toNat : Int) == 32) = true := by rw [he]; rfl
        have f1 : ((b.toNat : Int) == 9) = false := by rw [he]; rfl
        have f2 : ((b.toNat : Int) == 10) = false := by rw [he]; rfl
        have f3 : ((b.toNat : Int) == 13) = false := by rw [he]; rfl
        clear HG he hone
        go_wp2
        go_roundw
        case rel => first | exact ⟨k + 1, _, _, _, ts, by omega, rfl, by go_num, by omega, hO, HN, hB⟩ | ((repeat apply Exists.intro); refine ⟨⟨k + 1, _, _, _, ts, by omega, rfl, ?_, by omega, hO, HN, hB⟩, rfl⟩; go_num)
        case measure => simp [intOf]; omega
      have n32 : b ≠ 32 := he
      clear he
      by_cases he : b = 9
      · have HN : Hid (∃ f, L + 1 ≤ f + (k + 1) ∧ cutF l f (k + 1) ts = RC) := by
          have h9 := HG.out
          rw [show blk b = true by rw [he]; rfl, if_pos rfl] at h9
          exact ⟨f', by omega, h9⟩
        have f0 : ((b.toNat : Int) == 32) = false := by rw [he]; rfl
        have f1 : ((b.toNat : Int) == 9) = true := by rw [he]; rfl
        have f2 : ((b.toNat : Int) == 10) = false := by rw [he]; rfl
        have f3 : ((b.toNat : Int) == 13) = false := by rw [he]; rfl
        clear HG he hone
        go_wp2
        go_roundw
        case rel => first | exact ⟨k + 1, _, _, _, ts, by omega, rfl, by go_num, by omega, hO, HN, hB⟩ | ((repeat apply Exists.intro); refine ⟨⟨k + 1, _, _, _, ts, by omega, rfl, ?_, by omega, hO, HN, hB⟩, rfl⟩; go_num)
        case measure => simp [intOf]; omega
      have n9 : b ≠ 9 := he
      clear he
      by_cases he : b = 10
      · have HN : Hid (∃ f, L + 1 ≤ f + (k + 1) ∧ cutF l f (k + 1) ts = RC) := by
          have h9 := HG.out
          rw [show blk b = true by rw [he]; rfl, if_pos rfl] at h9
          exact ⟨f', by omega, h9⟩
        have f0 : ((b.toNat : Int) == 32) = false := by rw [he]; rfl
        have f1 : ((b.toNat : Int) == 9) = false := by rw [he]; rfl
        have f2 : ((b.toNat : Int) == 10) = true := by rw [he]; rfl
        have f3 : ((b.toNat : Int) == 13) = false := by rw [he]; rfl
        clear HG he hone
        go_wp2
        go_roundw
        case rel => first | exact ⟨k + 1, _, _, _, ts, by omega, rfl, by go_num, by omega, hO, HN, hB⟩ | ((repeat apply Exists.intro); refine ⟨⟨k + 1, _, _, _, ts, by omega, rfl, ?_, by omega, hO, HN, hB⟩, rfl⟩; go_num)
        case measure => simp [intOf]; omega
      have n10 : b ≠ 10 := he
      clear he
      by_cases he : b = 13
      · have HN : Hid (∃ f, L + 1 ≤ f + (k + 1) ∧ cutF l f (k + 1) ts = RC) := by
          have h9 := HG.out
          rw [show blk b = true by rw [he]; rfl, if_pos rfl] at h9
          exact ⟨f', by omega, h9⟩
        have f0 : ((b.toNat : Int) == 32) = false := by rw [he]; rfl
        have f1 : ((b.toNat : Int) == 9) = false := by rw [he]; rfl
        have f2 : ((b.toNat : Int) == 10) = false := by rw [he]; rfl
        have f3 : ((b.toNat : Int) == 13) = true := by rw [he]; rfl
        clear HG he hone
        go_wp2
        go_roundw
        case rel => first | exact ⟨k + 1, _, _, _, ts, by omega, rfl, by go_num, by omega, hO, HN, hB⟩ | ((repeat apply Exists.intro); refine ⟨⟨k + 1, _, _, _, ts, by omega, rfl, ?_, by omega, hO, HN, hB⟩, rfl⟩; go_num)
        case measure => simp [intOf]; omega
      have n13 : b ≠ 13 := he
      clear he
      have nb : ∀ v : UInt8, b ≠ v → ((b.toNat : Int) == (v.toNat : Int)) = false := fun v h => beq_eq_false_iff_ne.2 (fun e => h (UInt8.toNat_inj.1 (by omega)))
      have f0 : ((b.toNat : Int) == 32) = false := nb 32 n32
      have f1 : ((b.toNat : Int) == 9) = false := nb 9 n9
      have f2 : ((b.toNat : Int) == 10) = false := nb 10 n10
      have f3 : ((b.toNat : Int) == 13) = false := nb 13 n13
      have HG2 : Hid ((if (oneTk (l.drop k)).2 = 0 then (none, k) else cutF l f' (k + (oneTk (l.drop k)).2) (ts ++ [{ (oneTk (l.drop k)).1 with at_ := (k : Int) }])) = RC) := by
        have h9 := HG.out
        have hnb : blk b = false := by unfold blk; simp [n32, n9, n10, n13]
        rw [hnb, if_neg (by simp)] at h9; exact h9
      clear nb n32 n9 n10 n13 HG
      have htk : (l.drop k).take (L - k) = l.drop k := List.take_of_length_le (by rw [List.length_drop]; omega)
      simp only [htk] at hone
      have hle := one_le (l.drop k) (by rw [List.length_drop]; omega)
      rw [List.length_drop, hL] at hle
      have hat := one_at (l.drop k)
      unfold OneP at hone
      obtain ⟨TN, hTN⟩ : ∃ q, oneTk (l.drop k) = q := ⟨_, rfl⟩
      rw [hTN] at HG2 hle hat
      simp only [hTN] at hone
      clear hTN htk
      obtain ⟨⟨tk1, tk2, tk3, tk4⟩, n⟩ := TN
      simp only at HG2 hle hat hone
      subst hat
      have hcut : ∀ W, (sCut1 (.string s) (.int .i64 (k : Int))).run Tryd.prog W = .ok (.value (.string (s.extract k L))) W := fun W => by
        have := run_sCut1 W s k (by omega)
        rw [hsz] at this; exact this
      generalize s.extract k L = SK at hone hcut
      go_wp2_with fail
      refine (hone _).mono ?_
      rintro e w1 ⟨⟨S, rfl, hS⟩, hb9⟩
      obtain rfl : S = ⟨tk4.toArray⟩ := lS_eq hS
      clear hS
      have hO1 := hO.keep hb9
      have hVl : ∀ q, (Value.slice y n0 c0).ownBlock = some q → q < w1.heap.size := fun q hq => (World.ownsRow.lt hO1 q hq).2
      have hB1 := hB.trans (hb9.mono hB.size)
      have bA := below_alloc w1 (.cells (tkA tk1 0 tk3 ⟨tk4.toArray⟩) 61)
      have hO2 := hO1.keep bA
      have hB2 := hB1.trans (bA.mono hB1.size)
      have rA := RowC.new w1 (tkA tk1 0 tk3 ⟨tk4.toArray⟩) 61
      have hsto : (bigStore 61 (.pointer (some ⟨w1.heap.size, 0, none⟩)) (.agg (tkA tk1 0 tk3 ⟨tk4.toArray⟩))).run Tryd.prog (w1.alloc (.cells (tkA 0 0 0 ⟨#[]⟩) 61)) = .ok .skip (w1.alloc (.cells (tkA tk1 0 tk3 ⟨tk4.toArray⟩) 61)) := by
        rw [run_store_tk _ _ _ (rowL_new _ _ _ _ rfl) (by rw [rowAt_new _ _ _ _ rfl]; rfl) rfl (tkA_one _ _ _ _), setRow_new _ _ _ _ _ rfl]
      have hgl : w1.heap.size < (w1.alloc (.cells (tkA tk1 0 tk3 ⟨tk4.toArray⟩) 61)).heap.size := by simp
      clear hone hcut hO hB hb9 hbk hO1 bA f0 f1 f2 f3
      go_upto_region 10 with fail
      obtain ⟨g, hg⟩ : ∃ q, w1.heap.size = q := ⟨_, rfl⟩
      have hgw : w.heap.size ≤ g := by have := hB1.size; omega
      have hgV : (Value.slice y n0 c0).ownBlock ≠ some g := fun e9 => by have := hVl g e9; omega
      rw [hg] at rA hgl
      simp only [hg]
      clear hg hB1 hsto
      generalize w1.alloc (.cells (tkA tk1 0 tk3 ⟨tk4.toArray⟩) 61) = W2 at hO2 hB2 rA hgl ⊢
      by_cases hn0 : n = 0
      · have z0 : ((n : Int) == 0) = true := beq_iff_eq.2 (by omega)
        have HP : Hid (AllP tkE14 l w (.returned (.tuple #[.slice none 0 0, .int .i64 30, .int .i64 (k : Int)])) W2) := by
          have h9 := HG2.out
          rw [if_pos hn0] at h9
          obtain ⟨e1, e2, e3⟩ := HE.out
          refine ⟨⟨none, 0, 0, ?_, ?_⟩, hB2⟩
          · rw [e2, e3, ← h9]; rfl
          · rw [e1, ← h9]; exact OwnK.nil _ _ _
        clear HG2 hn0
        go_wp2
        go_ret3
        exact HP.out
      · have z0 : ((n : Int) == 0) = false := beq_eq_false_iff_ne.2 (by omega)
        have HG3 : Hid (cutF l f' (k + n) (ts ++ [⟨tk1, (k : Int), tk3, tk4⟩]) = RC) := by
          have h9 := HG2.out
          rw [if_neg hn0] at h9; exact h9
        clear HG2
        have c1 : W2.cell? ⟨g, 1, none⟩ = some (.int .i64 0) := by rw [rA.cell 1]; rfl
        have z1 := rA.frozen 1
        have rB : RowC (W2.setCell ⟨g, 1, none⟩ (.int .i64 (k : Int))) g (tkR ⟨tk1, (k : Int), tk3, tk4⟩) := rA.set 1 (.int .i64 (k : Int))
        have hO3 : OwnK tkE14 (W2.setCell ⟨g, 1, none⟩ (.int .i64 (k : Int))) w.heap.size (.slice y n0 c0) ts := hO2.other14 (fun q hq => heap_setCell_ne _ _ _ _ _ (fun e9 => hgV (by rw [hq, e9])))
        have hB3 : Below w.heap.size w (W2.setCell ⟨g, 1, none⟩ (.int .i64 (k : Int))) := hB2.setCell (p := ⟨g, 1, none⟩) hgw _
        obtain ⟨W3, hW3⟩ : ∃ q, W2.setCell ⟨g, 1, none⟩ (.int .i64 (k : Int)) = q := ⟨_, rfl⟩
        rw [hW3] at rB hO3 hB3
        have HW3 : Hid _ := hW3
        obtain ⟨tx, htx⟩ : ∃ q, (⟨tk1, (k : Int), tk3, tk4⟩ : Tk) = q := ⟨_, rfl⟩
        rw [htx] at rB HG3
        have b4 := below_alloc W3 (.cells (tkR tx) 61)
        have hO4 := hO3.keep b4
        have hB4 := hB3.trans (b4.mono hB3.size)
        have hrg : (W3.alloc (.cells (tkR tx) 61)).rangeAt W3.heap.size 0 (tkE14.enc tx) := fun q u hu => by
          rw [Nat.zero_add, cell_of_row _ _ q _ _ _ (heap_alloc_last W3 _)]
          rw [tkE14_enc, Array.getElem?_toList] at hu; exact hu
        obtain ⟨g5, c5, w5, hr, hO5, -, hgr, -⟩ := run_app1K tkE14_ok _ w.heap.size W3.heap.size _ ts tx 38 hO4 hrg (by simp) (by show (ts.length + 1) * 40 ≤ _; omega) (by unfold maxLen; omega) (Nat.le_trans hB3.size b4.size)
        have hB5 := hB4.trans (below_grown14 hO4 hgr (Nat.le_trans hB3.size b4.size))
        have hT9 : tkE14.S = 38 := rfl
        rw [hT9] at hr
        have hkn : IntKind.i64.wrap ((k : Int) + (n : Int)) = (k : Int) + (n : Int) := by rw [IntKind.wrap_i64]; omega
        have HN : Hid (∃ f, L + 1 ≤ f + (k + n) ∧ cutF l f (k + n) (ts ++ [tx]) = RC) := ⟨f', by omega, HG3.out⟩
        obtain ⟨rB1, rB2⟩ := rB
        have rB3 : (rowAt W3 g).size = 4 := by rw [rB2]; rfl
        have HO5 : Hid _ := hO5
        have HL5 : Hid ((ts ++ [tx]).length ≤ k + n) := by show _ ≤ _; rw [List.length_append, List.length_singleton]; omega
        clear hW3 HG3 htx hO2 hO3 hO4 hB2 hB3 hB4 b4 hrg hgr rA hO5 hgV hVl hgl
        go_upto_region 13 with fail
        rw [HW3.out]
        clear HW3 c1 z1
        go_wp2_with (at_builtin; refine wpL_appG 38 rfl _ _ rfl _ w5 (by exact hr) ?_)
        go_roundw
        case rel => first | exact ⟨k + n, _, _, _, ts ++ [tx], by omega, rfl, by go_num, HL5.out, HO5.out, HN, hB5⟩ | ((repeat apply Exists.intro); refine ⟨⟨k + n, _, _, _, ts ++ [tx], by omega, rfl, ?_, HL5.out, HO5.out, HN, hB5⟩, rfl⟩; go_num)
        case measure => simp [intOf]; omega
    · obtain rfl : k = L := by omega
      have hlt' : ¬ (k : Int) < (k : Int) := by omega
      obtain ⟨f', rfl⟩ : ∃ f', f = f' + 1 := ⟨f - 1, by omega⟩
      rw [cutF, if_neg (by omega)] at hF
      have HP : Hid (AllP tkE14 l w (.returned (.tuple #[.slice y n0 c0, .int .i64 0, .int .i64 0])) wr) := by
        obtain ⟨e1, e2, e3⟩ := HE.out
        refine ⟨⟨y, n0, c0, ?_, ?_⟩, hB⟩
        · rw [e2, e3, ← hF]; rfl
        · rw [e1, ← hF]; exact hO
      clear hF
      go_wp2
      go_ret3
      exact HP.out
end Go.Proofs.YtiokdcffpnjkcaaDoor
