import Derived.Test.YtddmmmfpdmejbaaGreatDoorQLex8
import Derived.Test.YtddmmmfpdmejbaaGreatDoorQKel
import Derived.Test.YtddmmmfpdmejbaaGreatDoorQGenA
import Derived.Lib.AtoiErrMem
import Derived.Test.YtddmmmfpdmejbaaGreatDoorQRowg
import Derived.Lib.ConvBytes
import Derived.Laws.AppendOwn
namespace Go.Proofs.YtddmmmfpdmejbaaGreatDoor
open Go.RowKit

/-! assayref14.All -/
@[go_sem] theorem tkA_one (k a n : Int) (S : ByteArray) : OneC (tkA k a n S) = true := tk_one k a n S
def tkR (x : Tk) : Array Value := tkA x.kind x.at_ x.n ⟨x.text.toArray⟩
@[go_sem] theorem tkR_size (x : Tk) : (tkR x).size = 4 := rfl
def tkE14 : EK Tk := { T := 123, S := 92, k := 4, bytes := 40, z := .agg (tkA 0 0 0 ⟨#[]⟩), enc := fun x => (tkR x).toList }
theorem tkE14_ok : tkE14.Ok where
  len x := rfl
  one x v hv := by
    unfold tkE14 tkR tkA at hv
    simp only [List.mem_cons, List.not_mem_nil, or_false] at hv
    rcases hv with rfl | rfl | rfl | rfl <;> rfl
  und := Tryz.underlying92
  info := by
    have h : (Tryz.prog.info? 123).map (fun i => (i.zero, i.size, i.bytes)) = some (some (.agg (tkA 0 0 0 ⟨#[]⟩)), 4, 40) := by kernel_rfl
    exact h
  zc := rfl
  kp := by show 0 < 4; omega
  row := ⟨_, Tryz.underlying123, rfl⟩
theorem tkE14_enc (x : Tk) : tkE14.enc x = (tkR x).toList := rfl
def tkBS (x : Value) : Sem Next := do pure (.value (← Instr.buildSlice 92 1 #[(0, x)]))
section
variable (ρ : Operand → Value) (dst : Option Tmp) (ty : TypeId) (pos : String) (after : Array Edge) (guard : Option (Nat × Bool))
@[go_sem ↓] theorem execOp_load_tk (x : Operand) : execOp ρ { dst, op := .load 123 x, type := ty, pos, after, guard } = bigLoad 123 (ρ x) := rfl
@[go_sem ↓] theorem execOp_tkBS (x : Operand) : execOp ρ { dst, op := .buildSlice 92 1 #[(0, x)], type := ty, pos, after, guard } = tkBS (ρ x) := by simp [execOp, tkBS]
end
@[go_sem] theorem run_load_tk (w : World) (g : Nat) (h : rowL w g = true) (hs : (rowAt w g).size = 4) : (bigLoad 123 (.pointer (some ⟨g, 0, none⟩))).run Tryz.prog w = .ok (.value (.agg (rowAt w g))) w := by
  rw [run_bigLoad 123 _ 4 Tryz.underlying123 rfl sizeT_tk w g 0 h (by omega), Nat.zero_add, Array.extract_eq_self_of_le (by omega)]
@[go_sem] theorem run_tkBS (w : World) (x : Tk) : (tkBS (.agg (tkR x))).run Tryz.prog w = .ok (.value (.slice (some ⟨w.heap.size, 0, none⟩) 1 1)) (w.alloc (.cells (tkR x) 123)) := by
  have h := run_litK1 tkE14_ok (by show 4 ≤ 1000; omega) w x
  simp only [tkE14, Array.toArray_toList] at h
  simp only [tkBS, Sem.run_bind, h]
  rfl
theorem OwnK.other14 {α : Type} {E : EK α} {w w' : World} {B : Nat} {v : Value} {ds : List α} (h : OwnK E w B v ds) (hl : ∀ g, v.ownBlock = some g → w'.heap[g]? = w.heap[g]?) : OwnK E w' B v ds := by
  obtain ⟨h1, h2⟩ := h
  refine ⟨h1, ?_⟩
  rcases h2 with hn | ⟨g, cap, cur, hv, hb, hg, r⟩
  · exact .inl hn
  · refine .inr ⟨g, cap, cur, hv, hb, ?_, r⟩
    rw [hl g (by rw [hv]; rfl)]; exact hg
theorem below_grown14 {α : Type} {E : EK α} {w w' : World} {B : Nat} {v : Value} {ds : List α} (h : OwnK E w B v ds) (hg : w.grownBy w' v.ownBlock) (hb : B ≤ w.heap.size) : Below B w w' :=
  ⟨hg.os, hg.tape, hg.output, hg.size, fun k hk => hg.block k (by omega) (fun e => by have := (World.ownsRow.lt h k e.symm).1; omega)⟩
def AllP (E : EK Tk) (l : List UInt8) (w : World) (e : Ending) (w' : World) : Prop := (∃ y n c, e = .returned (.tuple #[.slice y n c, .int .i64 (cutE l), .int .i64 (cutP l)]) ∧ OwnK E w' w.heap.size (.slice y n c) (cutL l)) ∧ Below w.heap.size w w'
theorem txt_le (l : List UInt8) : ∀ f k out, (txt l f k out).2 ≤ l.length
  | 0, _, _ => by simp [txt]
  | f + 1, k, out => by
    rw [txt]
    split
    · split
      · simp only; omega
      · split
        · simp
        · exact txt_le l f _ _
    · simp
theorem one_le (l : List UInt8) (h : 0 < l.length) : (oneTk l).2 ≤ l.length := by
  unfold oneTk
  split
  · simp only; omega
  · split
    · exact txt_le l _ _ _
    · have h9 := wl_le l
      unfold wordTk
      (repeat' split) <;> simp only <;> omega
theorem one_at (l : List UInt8) : (oneTk l).1.at_ = 0 := by
  unfold oneTk
  split
  · rfl
  · split
    · rfl
    · unfold wordTk
      (repeat' split) <;> rfl
theorem cutF_go (l : List UInt8) (f k : Nat) (ts : List Tk) (hk : k < l.length) : cutF l (f + 1) k ts = if blk (lB l k) = true then cutF l f (k + 1) ts else if (oneTk (l.drop k)).2 = 0 then (none, k) else cutF l f (k + (oneTk (l.drop k)).2) (ts ++ [{ (oneTk (l.drop k)).1 with at_ := (k : Int) }]) := by
  rw [cutF, if_pos hk]
set_option linter.unusedSimpArgs false in
set_option maxRecDepth 100000 in
set_option maxHeartbeats 8000000 in
theorem refAll_any (l : List UInt8) (x : Option Addr) (L c : Nat) (w : World) (hL : l.length = L) (hl : IsB w (.slice x L c) l) (hL47 : L ≤ 140737488355328) : Calls Tryz.prog 41 #[.slice x L c] w fun e w' => AllP tkE14 l w e w' := by
  by_cases h4 : 4096 < L
  · have i0 : (4096 : Int) < (L : Int) := by omega
    have HP : Hid (AllP tkE14 l w (.returned (.tuple #[.slice none 0 0, .int .i64 2, .int .i64 0])) w) := ⟨⟨none, 0, 0, by unfold cutE cutP; rw [if_pos (by omega), if_pos (by omega)], by unfold cutL; rw [if_pos (by omega)]; exact OwnK.nil _ _ _⟩, Below.refl _ _⟩
    go_enter Tryz.func41, Tryz.ntmps41
    go_wp2
    go_ret3
    exact HP.out
  have i0 : ¬ (4096 : Int) < (L : Int) := by omega
  have hst := hl.str
  obtain ⟨s, hs⟩ : ∃ q, ByteArray.mk l.toArray = q := ⟨_, rfl⟩
  have hls : lS s = l := by rw [← hs, lS_mk]
  have hsz : s.size = L := by rw [← lS_len, hls, hL]
  rw [hs] at hst
  clear hs hl
  obtain ⟨RC, hRC⟩ : ∃ q, cutA l = q := ⟨_, rfl⟩
  have HE : Hid (cutL l = RC.1.getD [] ∧ cutE l = (if RC.1.isNone then 30 else 0) ∧ cutP l = (RC.2 : Int)) := by
    have h4' : ¬ 4096 < l.length := by omega
    exact ⟨by unfold cutL; rw [if_neg h4', hRC], by unfold cutE; rw [if_neg h4', hRC], by unfold cutP; rw [if_neg h4', hRC]⟩
  have H0 : Hid (∃ f, L + 1 ≤ f + 0 ∧ cutF l f 0 [] = RC) := ⟨L + 1, by omega, by rw [← hRC]; unfold cutA; rw [hL]⟩
  clear hRC
  go_enter Tryz.func41, Tryz.ntmps41
  go_wp2_with fail
  clear hst
  go_loopw [6, 7] (fun lv iv wr => ∃ (k : Nat) (y : Option Addr) (n c : Nat) (ts : List Tk), k ≤ L ∧ lv = .slice y n c ∧ iv = .int .i64 k ∧ ts.length ≤ k ∧ OwnK tkE14 wr w.heap.size (.slice y n c) ts ∧ Hid (∃ f, L + 1 ≤ f + k ∧ cutF l f k ts = RC) ∧ Below w.heap.size w wr) (fun _ iv _ => L - (intOf iv).toNat)
  case atStart => exact ⟨0, none, 0, 0, [], by omega, rfl, rfl, Nat.zero_le _, OwnK.nil _ _ _, H0, Below.refl _ _⟩
  case round =>
    clear H0
    obtain ⟨k, y, n0, c0, ts, hk, rfl, rfl, hts, hO, HI, hB⟩ := hrel
    obtain ⟨f, hf, hF⟩ := HI.out
    clear HI
    by_cases hlt : k < L
    · have q0 : (0 : Int) ≤ (k : Int) := by omega
      have q1 : (k : Int) < (L : Int) := by omega
      obtain ⟨f', rfl⟩ : ∃ f', f = f' + 1 := ⟨f - 1, by omega⟩
      rw [cutF_go l f' k ts (by omega)] at hF
      obtain ⟨b, hb⟩ : ∃ q, lB l k = q := ⟨_, rfl⟩
      have hbk : ∀ W, (sAt (.string s) (.int .i64 (k : Int))).run Tryz.prog W = .ok (.value (.int .u8 (b.toNat : Int))) W := fun W => by
        have := run_sAt W s k (by omega)
        rw [hls, hb] at this; exact this
      rw [hb] at hF
      have HG : Hid _ := hF
      have hone := fun W => refOne_any (s.extract k L) W (by rw [← lS_len, lS_cut, hls, List.length_take, List.length_drop]; omega) (by rw [← lS_len, lS_cut, hls, List.length_take, List.length_drop]; omega)
      simp only [lS_cut, hls] at hone
      clear hF hb
      by_cases he : b = 32
      · have HN : Hid (∃ f, L + 1 ≤ f + (k + 1) ∧ cutF l f (k + 1) ts = RC) := by
          have h9 := HG.out
          rw [show blk b = true by rw [he]; rfl, if_pos rfl] at h9
          exact ⟨f', by omega, h9⟩
        have f0 : ((b.toNat : Int) == 32) = true := by rw [he]; rfl
        have f1 : ((b.toNat : Int) == 9) = false := by rw [he]; rfl
        have f2 : ((b.toNat : Int) == 10) = false := by rw [he]; rfl
        have f3 : ((b.toNat : Int) == 13) = false := by rw [he]; rfl
        clear HG he hone
        go_wp2
        go_roundw
        case rel => first | exact ⟨k + 1, _, _, _, ts, by omega, rfl, by go_num, by omega, hO, HN, hB⟩ | ((repeat apply Exists.intro); refine ⟨⟨k + 1, _, _, _, ts, by omega, rfl, ?_, by omega, hO, HN, hB⟩, rfl⟩; go_num)
        case measure => simp [intOf]; omega
      have n32 : b ≠ 32 := he
      clear he
      by_cases he : b = 9
      · have HN : Hid (∃ f, L + 1 ≤ f + (k + 1) ∧ cutF l f (k + 1) ts = RC) := by
          have h9 := HG.out
          rw [show blk b = true by rw [he]; rfl, if_pos rfl] at h9
          exact ⟨f', by omega, h9⟩
        have f0 : ((b.toNat : Int) == 32) = false := by rw [he]; rfl
        have f1 : ((b.toNat : Int) == 9) = true := by rw [he]; rfl
        have f2 : ((b.toNat : Int) == 10) = false := by rw [he]; rfl
        have f3 : ((b.toNat : Int) == 13) = false := by rw [he]; rfl
        clear HG he hone
        go_wp2
        go_roundw
        case rel => first | exact ⟨k + 1, _, _, _, ts, by omega, rfl, by go_num, by omega, hO, HN, hB⟩ | ((repeat apply Exists.intro); refine ⟨⟨k + 1, _, _, _, ts, by omega, rfl, ?_, by omega, hO, HN, hB⟩, rfl⟩; go_num)
        case measure => simp [intOf]; omega
      have n9 : b ≠ 9 := he
      clear he
      by_cases he : b = 10
      · have HN : Hid (∃ f, L + 1 ≤ f + (k + 1) ∧ cutF l f (k + 1) ts = RC) := by
          have h9 := HG.out
          rw [show blk b = true by rw [he]; rfl, if_pos rfl] at h9
          exact ⟨f', by omega, h9⟩
        have f0 : ((b.toNat : Int) == 32) = false := by rw [he]; rfl
        have f1 : ((b.toNat : Int) == 9) = false := by rw [he]; rfl
        have f2 : ((b.toNat : Int) == 10) = true := by rw [he]; rfl
        have f3 : ((b.toNat : Int) == 13) = false := by rw [he]; rfl
        clear HG he hone
        go_wp2
        go_roundw
        case rel => first | exact ⟨k + 1, _, _, _, ts, by omega, rfl, by go_num, by omega, hO, HN, hB⟩ | ((repeat apply Exists.intro); refine ⟨⟨k + 1, _, _, _, ts, by omega, rfl, ?_, by omega, hO, HN, hB⟩, rfl⟩; go_num)
        case measure => simp [intOf]; omega
      have n10 : b ≠ 10 := he
      clear he
      by_cases he : b = 13
      · have HN : Hid (∃ f, L + 1 ≤ f + (k + 1) ∧ cutF l f (k + 1) ts = RC) := by
          have h9 := HG.out
          rw [show blk b = true by rw [he]; rfl, if_pos rfl] at h9
          exact ⟨f', by omega, h9⟩
        have f0 : ((b.toNat : Int) == 32) = false := by rw [he]; rfl
        have f1 : ((b.toNat : Int) == 9) = false := by rw [he]; rfl
        have f2 : ((b.toNat : Int) == 10) = false := by rw [he]; rfl
        have f3 : ((b.toNat : Int) == 13) = true := by rw [he]; rfl
        clear HG he hone
        go_wp2
        go_roundw
        case rel => first | exact ⟨k + 1, _, _, _, ts, by omega, rfl, by go_num, by omega, hO, HN, hB⟩ | ((repeat apply Exists.intro); refine ⟨⟨k + 1, _, _, _, ts, by omega, rfl, ?_, by omega, hO, HN, hB⟩, rfl⟩; go_num)
        case measure => simp [intOf]; omega
      have n13 : b ≠ 13 := he
      clear he
      have nb : ∀ v : UInt8, b ≠ v → ((b.toNat : Int) == (v.toNat : Int)) = false := fun v h => beq_eq_false_iff_ne.2 (fun e => h (UInt8.toNat_inj.1 (by omega)))
      have f0 : ((b.toNat : Int) == 32) = false := nb 32 n32
      have f1 : ((b.toNat : Int) == 9) = false := nb 9 n9
      have f2 : ((b.toNat : Int) == 10) = false := nb 10 n10
      have f3 : ((b.toNat : Int) == 13) = false := nb 13 n13
      have HG2 : Hid ((if (oneTk (l.drop k)).2 = 0 then (none, k) else cutF l f' (k + (oneTk (l.drop k)).2) (ts ++ [{ (oneTk (l.drop k)).1 with at_ := (k : Int) }])) = RC) := by
        have h9 := HG.out
        have hnb : blk b = false := by unfold blk; simp [n32, n9, n10, n13]
        rw [hnb, if_neg (by simp)] at h9; exact h9
      clear nb n32 n9 n10 n13 HG
      have htk : (l.drop k).take (L - k) = l.drop k := List.take_of_length_le (by rw [List.length_drop]; omega)
      simp only [htk] at hone
      have hle := one_le (l.drop k) (by rw [List.length_drop]; omega)
      rw [List.length_drop, hL] at hle
      have hat := one_at (l.drop k)
      unfold OneP at hone
      obtain ⟨TN, hTN⟩ : ∃ q, oneTk (l.drop k) = q := ⟨_, rfl⟩
      rw [hTN] at HG2 hle hat
      simp only [hTN] at hone
      clear hTN htk
      obtain ⟨⟨tk1, tk2, tk3, tk4⟩, n⟩ := TN
      simp only at HG2 hle hat hone
      subst hat
      have hcut : ∀ W, (sCut1 (.string s) (.int .i64 (k : Int))).run Tryz.prog W = .ok (.value (.string (s.extract k L))) W := fun W => by
        have := run_sCut1 W s k (by omega)
        rw [hsz] at this; exact this
      generalize s.extract k L = SK at hone hcut
      go_wp2_with fail
      refine (hone _).mono ?_
      rintro e w1 ⟨⟨S, rfl, hS⟩, hb9⟩
      obtain rfl : S = ⟨tk4.toArray⟩ := lS_eq hS
      clear hS
      have hO1 := hO.keep hb9
      have hVl : ∀ q, (Value.slice y n0 c0).ownBlock = some q → q < w1.heap.size := fun q hq => (World.ownsRow.lt hO1 q hq).2
      have hB1 := hB.trans (hb9.mono hB.size)
      have bA := below_alloc w1 (.cells (tkA tk1 0 tk3 ⟨tk4.toArray⟩) 123)
      have hO2 := hO1.keep bA
      have hB2 := hB1.trans (bA.mono hB1.size)
      have rA := RowC.new w1 (tkA tk1 0 tk3 ⟨tk4.toArray⟩) 123
      have hsto : (bigStore 123 (.pointer (some ⟨w1.heap.size, 0, none⟩)) (.agg (tkA tk1 0 tk3 ⟨tk4.toArray⟩))).run Tryz.prog (w1.alloc (.cells (tkA 0 0 0 ⟨#[]⟩) 123)) = .ok .skip (w1.alloc (.cells (tkA tk1 0 tk3 ⟨tk4.toArray⟩) 123)) := by
        rw [run_store_tk _ _ _ (rowL_new _ _ _ _ rfl) (by rw [rowAt_new _ _ _ _ rfl]; rfl) rfl (tkA_one _ _ _ _), setRow_new _ _ _ _ _ rfl]
      have hgl : w1.heap.size < (w1.alloc (.cells (tkA tk1 0 tk3 ⟨tk4.toArray⟩) 123)).heap.size := by simp
      clear hone hcut hO hB hb9 hbk hO1 bA f0 f1 f2 f3
      go_upto_region 10 with fail
      obtain ⟨g, hg⟩ : ∃ q, w1.heap.size = q := ⟨_, rfl⟩
      have hgw : w.heap.size ≤ g := by have := hB1.size; omega
      have hgV : (Value.slice y n0 c0).ownBlock ≠ some g := fun e9 => by have := hVl g e9; omega
      rw [hg] at rA hgl
      simp only [hg]
      clear hg hB1 hsto
      generalize w1.alloc (.cells (tkA tk1 0 tk3 ⟨tk4.toArray⟩) 123) = W2 at hO2 hB2 rA hgl ⊢
      by_cases hn0 : n = 0
      · have z0 : ((n : Int) == 0) = true := beq_iff_eq.2 (by omega)
        have HP : Hid (AllP tkE14 l w (.returned (.tuple #[.slice none 0 0, .int .i64 30, .int .i64 (k : Int)])) W2) := by
          have h9 := HG2.out
          rw [if_pos hn0] at h9
          obtain ⟨e1, e2, e3⟩ := HE.out
          refine ⟨⟨none, 0, 0, ?_, ?_⟩, hB2⟩
          · rw [e2, e3, ← h9]; rfl
          · rw [e1, ← h9]; exact OwnK.nil _ _ _
        clear HG2 hn0
        go_wp2
        go_ret3
        exact HP.out
      · have z0 : ((n : Int) == 0) = false := beq_eq_false_iff_ne.2 (by omega)
        have HG3 : Hid (cutF l f' (k + n) (ts ++ [⟨tk1, (k : Int), tk3, tk4⟩]) = RC) := by
          have h9 := HG2.out
          rw [if_neg hn0] at h9; exact h9
        clear HG2
        have c1 : W2.cell? ⟨g, 1, none⟩ = some (.int .i64 0) := by rw [rA.cell 1]; rfl
        have z1 := rA.frozen 1
        have rB : RowC (W2.setCell ⟨g, 1, none⟩ (.int .i64 (k : Int))) g (tkR ⟨tk1, (k : Int), tk3, tk4⟩) := rA.set 1 (.int .i64 (k : Int))
        have hO3 : OwnK tkE14 (W2.setCell ⟨g, 1, none⟩ (.int .i64 (k : Int))) w.heap.size (.slice y n0 c0) ts := hO2.other14 (fun q hq => heap_setCell_ne _ _ _ _ _ (fun e9 => hgV (by rw [hq, e9])))
        have hB3 : Below w.heap.size w (W2.setCell ⟨g, 1, none⟩ (.int .i64 (k : Int))) := hB2.setCell (p := ⟨g, 1, none⟩) hgw _
        obtain ⟨W3, hW3⟩ : ∃ q, W2.setCell ⟨g, 1, none⟩ (.int .i64 (k : Int)) = q := ⟨_, rfl⟩
        rw [hW3] at rB hO3 hB3
        have HW3 : Hid _ := hW3
        obtain ⟨tx, htx⟩ : ∃ q, (⟨tk1, (k : Int), tk3, tk4⟩ : Tk) = q := ⟨_, rfl⟩
        rw [htx] at rB HG3
        have b4 := below_alloc W3 (.cells (tkR tx) 123)
        have hO4 := hO3.keep b4
        have hB4 := hB3.trans (b4.mono hB3.size)
        have hrg : (W3.alloc (.cells (tkR tx) 123)).rangeAt W3.heap.size 0 (tkE14.enc tx) := fun q u hu => by
          rw [Nat.zero_add, cell_of_row _ _ q _ _ _ (heap_alloc_last W3 _)]
          rw [tkE14_enc, Array.getElem?_toList] at hu; exact hu
        obtain ⟨g5, c5, w5, hr, hO5, -, hgr, -⟩ := run_app1K tkE14_ok _ w.heap.size W3.heap.size _ ts tx 92 hO4 hrg (by simp) (by show (ts.length + 1) * 40 ≤ _; omega) (by unfold maxLen; omega) (Nat.le_trans hB3.size b4.size)
        have hB5 := hB4.trans (below_grown14 hO4 hgr (Nat.le_trans hB3.size b4.size))
        have hT9 : tkE14.S = 92 := rfl
        rw [hT9] at hr
        have hkn : IntKind.i64.wrap ((k : Int) + (n : Int)) = (k : Int) + (n : Int) := by rw [IntKind.wrap_i64]; omega
        have HN : Hid (∃ f, L + 1 ≤ f + (k + n) ∧ cutF l f (k + n) (ts ++ [tx]) = RC) := ⟨f', by omega, HG3.out⟩
        obtain ⟨rB1, rB2⟩ := rB
        have rB3 : (rowAt W3 g).size = 4 := by rw [rB2]; rfl
        have HO5 : Hid _ := hO5
        have HL5 : Hid ((ts ++ [tx]).length ≤ k + n) := by show _ ≤ _; rw [List.length_append, List.length_singleton]; omega
        clear hW3 HG3 htx hO2 hO3 hO4 hB2 hB3 hB4 b4 hrg hgr rA hO5 hgV hVl hgl
        go_upto_region 13 with fail
        rw [HW3.out]
        clear HW3 c1 z1
        go_wp2_with (at_builtin; refine wpL_appG 92 rfl _ _ rfl _ w5 (by exact hr) ?_)
        go_roundw
        case rel => first | exact ⟨k + n, _, _, _, ts ++ [tx], by omega, rfl, by go_num, HL5.out, HO5.out, HN, hB5⟩ | ((repeat apply Exists.intro); refine ⟨⟨k + n, _, _, _, ts ++ [tx], by omega, rfl, ?_, HL5.out, HO5.out, HN, hB5⟩, rfl⟩; go_num)
        case measure => simp [intOf]; omega
    · obtain rfl : k = L := by omega
      have hlt' : ¬ (k : Int) < (k : Int) := by omega
      obtain ⟨f', rfl⟩ : ∃ f', f = f' + 1 := ⟨f - 1, by omega⟩
      rw [cutF, if_neg (by omega)] at hF
      have HP : Hid (AllP tkE14 l w (.returned (.tuple #[.slice y n0 c0, .int .i64 0, .int .i64 0])) wr) := by
        obtain ⟨e1, e2, e3⟩ := HE.out
        refine ⟨⟨y, n0, c0, ?_, ?_⟩, hB⟩
        · rw [e2, e3, ← hF]; rfl
        · rw [e1, ← hF]; exact hO
      clear hF
      go_wp2
      go_ret3
      exact HP.out
end Go.Proofs.YtddmmmfpdmejbaaGreatDoor
namespace Go.Proofs.YtddmmmfpdmejbaaGreatDoor
open Go.RowKit

/-! What lex owes; known; LexQuotes -/
def tkEL : EK Tk := { T := 85, S := 77, k := 4, bytes := 40, z := .agg (tkA 0 0 0 ⟨#[]⟩), enc := fun x => (tkR x).toList }
theorem tkEL_ok : tkEL.Ok where
  len x := rfl
  one x v hv := by
    unfold tkEL tkR tkA at hv
    simp only [List.mem_cons, List.not_mem_nil, or_false] at hv
    rcases hv with rfl | rfl | rfl | rfl <;> rfl
  und := Tryz.underlying77
  info := by
    have h : (Tryz.prog.info? 85).map (fun i => (i.zero, i.size, i.bytes)) = some (some (.agg (tkA 0 0 0 ⟨#[]⟩)), 4, 40) := by kernel_rfl
    exact h
  zc := rfl
  kp := by show 0 < 4; omega
  row := ⟨_, Tryz.underlying85, rfl⟩
/-- strconv's two errors lie in their variables. -/
def Vx (w : World) : Prop := (∃ tp p, w.cell? ⟨1, 0, none⟩ = some (.iface tp p)) ∧ ∃ tp p, w.cell? ⟨2, 0, none⟩ = some (.iface tp p)
theorem Vx.below {w W : World} (h : Vx w) (hb : Below w.heap.size w W) : Vx W := by
  obtain ⟨⟨t1, p1, h1⟩, ⟨t2, p2, h2⟩⟩ := h
  have l1 : (⟨1, 0, none⟩ : Addr).block < w.heap.size := Lib.lt_of_cell h1
  have l2 : (⟨2, 0, none⟩ : Addr).block < w.heap.size := Lib.lt_of_cell h2
  exact ⟨⟨t1, p1, (hb.cell l1).trans h1⟩, ⟨t2, p2, (hb.cell l2).trans h2⟩⟩
structure LexOk : Prop where
  all : ∀ (l : List UInt8) (x : Option Addr) (L c : Nat) (w : World), l.length = L → L ≤ c → L ≤ 4611686018427387904 → IsB w (.slice x L c) l → Vx w → Calls Tryz.prog 29 #[.slice x L c] w fun e w' => AllP tkEL l w e w'
  quo : ∀ (s : ByteArray) (w : World), s.size ≤ 17592186044416 → Calls Tryz.prog 78 #[.string s] w fun e w' => QuP (lS s) w e w'
def kn16 : List UInt8 := [123, 34, 97, 34, 58, 32, 91, 49, 44, 32, 116, 114, 117, 101, 93, 125]
def knTs : List Tk := [⟨1, 0, 0, []⟩, ⟨11, 1, 0, [97]⟩, ⟨5, 4, 0, []⟩, ⟨3, 6, 0, []⟩, ⟨10, 7, 1, []⟩, ⟨6, 8, 0, []⟩, ⟨8, 10, 0, []⟩, ⟨4, 14, 0, []⟩, ⟨2, 15, 0, []⟩]
set_option maxRecDepth 100000 in
theorem kn_L : cutL kn16 = knTs := by kernel_rfl
theorem kn_E : cutE kn16 = 0 := by decide +kernel
theorem kn_P : cutP kn16 = 0 := by decide +kernel
theorem kn2_E : cutE [91, 97] = 30 := by decide +kernel
theorem kn2_P : cutP [91, 97] = 1 := by decide +kernel
theorem kn3_S : quS [1, 10] = [34, 92, 117, 48, 48, 48, 49, 92, 110, 34] := by decide +kernel
theorem kn3_E : quE [1, 10] = 0 := by decide +kernel
theorem isB_new14 (w : World) (l : List UInt8) (n : Nat) (hn : l.length = n) : IsB (w.alloc (.cells (bytesA l) 5)) (.slice (some ⟨w.heap.size, 0, none⟩) n n) l := by
  subst hn
  refine .inr ⟨⟨w.heap.size, 0, none⟩, l.length, rfl, fun i hi => ?_⟩
  rw [addr_add, Nat.zero_add, cell_of_row _ _ _ _ _ _ (heap_alloc_last _ _), bytesA_get l i hi]
theorem tk_cells14 {w : World} {B g n c : Nat} {ms : List Tk} (h : OwnK tkEL w B (.slice (some ⟨g, 0, none⟩) n c) ms) (i : Nat) (d : Tk) (hi : ms[i]? = some d) : w.cell? ⟨g, i * 4, none⟩ = some (.int .i64 d.kind) ∧ w.cell? ⟨g, i * 4 + 1, none⟩ = some (.int .i64 d.at_) ∧ w.cell? ⟨g, i * 4 + 2, none⟩ = some (.int .i64 d.n) ∧ w.cell? ⟨g, i * 4 + 3, none⟩ = some (.string ⟨d.text.toArray⟩) := by
  have hr := h.range tkEL_ok i d hi
  exact ⟨hr 0 _ rfl, hr 1 _ rfl, hr 2 _ rfl, hr 3 _ rfl⟩
end Go.Proofs.YtddmmmfpdmejbaaGreatDoor
namespace Go.Proofs.YtddmmmfpdmejbaaGreatDoor
open Go.RowKit

/-! lex.Token as a whole row -/
section
variable (ρ : Operand → Value) (dst : Option Tmp) (ty : TypeId) (pos : String) (after : Array Edge) (guard : Option (Nat × Bool))
@[go_sem ↓] theorem execOp_load_tl (x : Operand) : execOp ρ { dst, op := .load 85 x, type := ty, pos, after, guard } = bigLoad 85 (ρ x) := rfl
@[go_sem ↓] theorem execOp_store_tl (x y : Operand) : execOp ρ { dst, op := .store 85 x y, type := ty, pos, after, guard } = bigStore 85 (ρ x) (ρ y) := rfl
@[go_sem ↓] theorem execOp_alloc_tl : execOp ρ { dst, op := .alloc 85, type := ty, pos, after, guard } = bigAlloc 85 := rfl
@[go_sem ↓] theorem execOp_box_tl (x : Operand) : execOp ρ { dst, op := .box 85 x, type := ty, pos, after, guard } = bigBox 85 (ρ x) := rfl
end
theorem info_tl : (Tryz.prog.info? 85).map (fun i => (i.zero, i.size)) = some (some (.agg (tkA 0 0 0 ⟨#[]⟩)), 4) := by kernel_rfl
theorem sizeT_tl : (Tryz.prog.info? 85).map (·.size) = some 4 := (zero_of_info info_tl).2
@[go_sem] theorem run_load_tl (w : World) (g : Nat) (h : rowL w g = true) (hs : (rowAt w g).size = 4) : (bigLoad 85 (.pointer (some ⟨g, 0, none⟩))).run Tryz.prog w = .ok (.value (.agg (rowAt w g))) w := by
  rw [run_bigLoad 85 _ 4 Tryz.underlying85 rfl sizeT_tl w g 0 h (by omega), Nat.zero_add, Array.extract_eq_self_of_le (by omega)]
@[go_sem] theorem run_store_tl (w : World) (g : Nat) (c : Array Value) (h : rowL w g = true) (hs : (rowAt w g).size = 4) (hc : c.size = 4) (h1 : OneC c = true) : (bigStore 85 (.pointer (some ⟨g, 0, none⟩)) (.agg c)).run Tryz.prog w = .ok .skip (w.setRow g c) := by
  rw [run_bigStore 85 4 sizeT_tl w g 0 c h hc (by omega) h1, layC_all _ _ (by omega)]
@[go_sem] theorem run_alloc_tl (w : World) : (bigAlloc 85).run Tryz.prog w = .ok (.value (.pointer (some ⟨w.heap.size, 0, none⟩))) (w.alloc (.cells (tkA 0 0 0 ⟨#[]⟩) 85)) := by
  simp only [bigAlloc, Instr.alloc, Sem.run_bind, (zero_of_info info_tl).1 w, Result.andThen_ok]
  rfl
@[go_sem] theorem run_box_tl (w : World) (c : Array Value) : (bigBox 85 (.agg c)).run Tryz.prog w = .ok (.value (.pointer (some ⟨w.heap.size, 0, none⟩))) (w.alloc (.cells c 85)) := run_bigBox _ c w
/-- Two results: a token out of its variable, and a second one. -/
theorem tl_bodyPost2 {fn : Func} {R : Ending → World → Prop} {a : Act} {w : World} (p q n : Nat) (c : Array Value) (hres : fn.results = #[.cell p 85, .tmp q]) (hp : a.tmps.getD p undef = .pointer (some ⟨n, 0, none⟩)) (hd : a.defers = [])
    (hok : RowC w n c) (hc : c.size = 4) (h : R (.returned (.tuple #[.agg c, a.tmps.getD q undef])) w) : bodyPost Tryz.prog fn R .ret a w := by
  obtain ⟨t, hg⟩ := row_of_L hok.1
  rw [hok.2] at hg
  have hp' : a.tmps[p]?.getD undef = .pointer (some ⟨n, 0, none⟩) := by simpa using hp
  have hl := run_loadVar_row (P := Tryz.prog) w n t 85 c (0, 0) _ hg Tryz.underlying85 rfl (by rw [sizeT_tl, hc])
  refine bodyPost_ret (v := .tuple #[.agg c, a.tmps.getD q undef]) ?_ hd h
  simp [results, hres, hp', asAddr, hl]
/-- One result: a token out of its variable. -/
theorem tl_bodyPost1 {fn : Func} {R : Ending → World → Prop} {a : Act} {w : World} (p n : Nat) (c : Array Value) (hres : fn.results = #[.cell p 85]) (hp : a.tmps.getD p undef = .pointer (some ⟨n, 0, none⟩)) (hd : a.defers = [])
    (hok : RowC w n c) (hc : c.size = 4) (h : R (.returned (.agg c)) w) : bodyPost Tryz.prog fn R .ret a w := by
  obtain ⟨t, hg⟩ := row_of_L hok.1
  rw [hok.2] at hg
  have hp' : a.tmps[p]?.getD undef = .pointer (some ⟨n, 0, none⟩) := by simpa using hp
  have hl := run_loadVar_row (P := Tryz.prog) w n t 85 c (0, 0) _ hg Tryz.underlying85 rfl (by rw [sizeT_tl, hc])
  refine bodyPost_ret (v := .agg c) ?_ hd h
  simp [results, hres, hp', asAddr, hl]
/-- A token in a list. -/
theorem run_load_tlm (w : World) (g o : Nat) (h : rowL w g = true) (hs : decide (o + 4 ≤ (rowAt w g).size) = true) : (bigLoad 85 (.pointer (some ⟨g, o, none⟩))).run Tryz.prog w = .ok (.value (.agg ((rowAt w g).extract o (o + 4)))) w :=
  run_bigLoad 85 _ 4 Tryz.underlying85 rfl sizeT_tl w g o h (of_decide_eq_true hs)
theorem tk_ext {w : World} {B g n c : Nat} {ms : List Tk} (h : OwnK tkEL w B (.slice (some ⟨g, 0, none⟩) n c) ms) (i : Nat) (d : Tk) (hi : ms[i]? = some d) : rowL w g = true ∧ i * 4 + 4 ≤ (rowAt w g).size ∧ (rowAt w g).extract (i * 4) (i * 4 + 4) = tkR d := by
  obtain ⟨cur, h1, h2, h3, h4, h5, h6, h7⟩ := h.heap
  obtain ⟨hi9, -⟩ := List.getElem?_eq_some_iff.1 hi
  have hk : tkEL.k = 4 := rfl
  rw [hk] at h6
  have e1 : rowL w g = true := by unfold rowL; rw [h3]; rfl
  have e2 : rowAt w g = cur := by unfold rowAt; rw [h3]
  have hsz : i * 4 + 4 ≤ cur.size := by omega
  refine ⟨e1, by rw [e2]; exact hsz, ?_⟩
  rw [e2]
  have hr := h.range tkEL_ok i d hi
  have hc : ∀ j, w.cell? ⟨g, j, none⟩ = cur[j]? := fun j => by rw [cell_rowL e1, e2]
  apply Array.ext
  · rw [Array.size_extract, tkR_size]; omega
  · intro j q1 q2
    rw [tkR_size] at q2
    have h9 := hr j (tkR d)[j] (by show (tkR d).toList[j]? = _; rw [Array.getElem?_toList, Array.getElem?_eq_getElem (by rw [tkR_size]; omega)]; rfl)
    rw [hk, hc] at h9
    rw [Array.getElem_extract]
    rw [Array.getElem?_eq_getElem (by omega)] at h9
    exact Option.some.inj h9
end Go.Proofs.YtddmmmfpdmejbaaGreatDoor
namespace Go.Proofs.YtddmmmfpdmejbaaGreatDoor
open Go.RowKit

/-! []byte of a string -/
theorem conv14 (w : World) (s : ByteArray) : ∃ C W, (convert 9 26 (.string s)).run Tryz.prog w = .ok (.slice (some ⟨w.heap.size, 0, none⟩) s.size C) W ∧ s.size ≤ C ∧ Below w.heap.size w W ∧ IsB W (.slice (some ⟨w.heap.size, 0, none⟩) s.size C) (lS s) := by
  refine ⟨_, _, Lib.run_convert_string_bytes w 9 26 5 s Tryz.underlying9 Tryz.underlying26 Tryz.underlying5, grownCap_ge _ _ _ _, ⟨rfl, rfl, rfl, ?_, fun k hk => Lib.bytesWorld_at_old w _ s k hk⟩, ?_⟩
  · rw [Lib.bytesWorld_size]; omega
  · refine .inr ⟨⟨w.heap.size, 0, none⟩, _, by rw [lS_len], fun i hi => ?_⟩
    rw [lS_len] at hi
    rw [addr_add, Nat.zero_add, Lib.bytesWorld_cell w _ s i hi]
    have h2 : i < s.data.toList.length := by rw [Array.length_toList]; exact hi
    rw [List.getD_eq_getElem?_getD, List.getElem?_eq_getElem h2]; rfl
end Go.Proofs.YtddmmmfpdmejbaaGreatDoor
