import Derived.Test.YtalnbddkhojjbaaGreatDoorQLex1
import Derived.Test.YtalnbddkhojjbaaGreatDoorQApp
import Derived.Lib.ConvBytes
import Derived.Laws.AppendOwn
import Derived.ArgAppend
import Derived.Lib.AtoiErrMem
import Derived.Test.YtalnbddkhojjbaaGreatDoorQNum
import Derived.Lib.RuneBytes
import Derived.Lib.UnsafeStr
namespace Go.Proofs.YtalnbddkhojjbaaGreatDoor
open Go.RowKit

@[go_sem] theorem tkA_one (k a n : Int) (S : ByteArray) : OneC (tkA k a n S) = true := tk_one k a n S
def tkR (x : Tk) : Array Value := tkA x.kind x.at_ x.n ⟨x.text.toArray⟩
@[go_sem] theorem tkR_size (x : Tk) : (tkR x).size = 4 := rfl
def tkE14 : EK Tk := { T := 140, S := 101, k := 4, bytes := 40, z := .agg (tkA 0 0 0 ⟨#[]⟩), enc := fun x => (tkR x).toList }
theorem tkE14_ok : tkE14.Ok where
  len x := rfl
  one x v hv := by
    unfold tkE14 tkR tkA at hv
    simp only [List.mem_cons, List.not_mem_nil, or_false] at hv
    rcases hv with rfl | rfl | rfl | rfl <;> rfl
  und := Tryz.underlying101
  info := by
    have h : (Tryz.prog.info? 140).map (fun i => (i.zero, i.size, i.bytes)) = some (some (.agg (tkA 0 0 0 ⟨#[]⟩)), 4, 40) := by kernel_rfl
    exact h
  zc := rfl
  kp := by show 0 < 4; omega
  row := ⟨_, Tryz.underlying140, rfl⟩
theorem tkE14_enc (x : Tk) : tkE14.enc x = (tkR x).toList := rfl
def tkBS (x : Value) : Sem Next := do pure (.value (← Instr.buildSlice 101 1 #[(0, x)]))
section
variable (ρ : Operand → Value) (dst : Option Tmp) (ty : TypeId) (pos : String) (after : Array Edge) (guard : Option (Nat × Bool))
@[go_sem ↓] theorem execOp_load_tk (x : Operand) : execOp ρ { dst, op := .load 140 x, type := ty, pos, after, guard } = bigLoad 140 (ρ x) := rfl
@[go_sem ↓] theorem execOp_tkBS (x : Operand) : execOp ρ { dst, op := .buildSlice 101 1 #[(0, x)], type := ty, pos, after, guard } = tkBS (ρ x) := by simp [execOp, tkBS]
end
@[go_sem] theorem run_load_tk (w : World) (g : Nat) (h : rowL w g = true) (hs : (rowAt w g).size = 4) : (bigLoad 140 (.pointer (some ⟨g, 0, none⟩))).run Tryz.prog w = .ok (.value (.agg (rowAt w g))) w := by
  rw [run_bigLoad 140 _ 4 Tryz.underlying140 rfl sizeT_tk w g 0 h (by omega), Nat.zero_add, Array.extract_eq_self_of_le (by omega)]
@[go_sem] theorem run_tkBS (w : World) (x : Tk) : (tkBS (.agg (tkR x))).run Tryz.prog w = .ok (.value (.slice (some ⟨w.heap.size, 0, none⟩) 1 1)) (w.alloc (.cells (tkR x) 140)) := by
  have h := run_litK1 tkE14_ok (by show 4 ≤ 1000; omega) w x
  simp only [tkE14, Array.toArray_toList] at h
  simp only [tkBS, Sem.run_bind, h]
  rfl
theorem OwnK.other14 {α : Type} {E : EK α} {w w' : World} {B : Nat} {v : Value} {ds : List α} (h : OwnK E w B v ds) (hl : ∀ g, v.ownBlock = some g → w'.heap[g]? = w.heap[g]?) : OwnK E w' B v ds := by
  obtain ⟨h1, h2⟩ := h
  refine ⟨h1, ?_⟩
  rcases h2 with hn | ⟨g, cap, cur, hv, hb, hg, r⟩
  · exact .inl hn
  · refine .inr ⟨g, cap, cur, hv, hb, ?_, r⟩
    rw [hl g (by rw [hv]; rfl)]; exact hg
theorem below_grown14 {α : Type} {E : EK α} {w w' : World} {B : Nat} {v : Value} {ds : List α} (h : OwnK E w B v ds) (hg : w.grownBy w' v.ownBlock) (hb : B ≤ w.heap.size) : Below B w w' :=
  ⟨hg.os, hg.tape, hg.output, hg.size, fun k hk => hg.block k (by omega) (fun e => by have := (World.ownsRow.lt h k e.symm).1; omega)⟩
def AllP (E : EK Tk) (l : List UInt8) (w : World) (e : Ending) (w' : World) : Prop := (∃ y n c, e = .returned (.tuple #[.slice y n c, .int .i64 (cutE l), .int .i64 (cutP l)]) ∧ OwnK E w' w.heap.size (.slice y n c) (cutL l)) ∧ Below w.heap.size w w'
theorem txt_le (l : List UInt8) : ∀ f k out, (txt l f k out).2 ≤ l.length
  | 0, _, _ => by simp [txt]
  | f + 1, k, out => by
    rw [txt]
    split
    · split
      · simp only; omega
      · split
        · simp
        · exact txt_le l f _ _
    · simp
theorem one_le (l : List UInt8) (h : 0 < l.length) : (oneTk l).2 ≤ l.length := by
  unfold oneTk
  split
  · simp only; omega
  · split
    · exact txt_le l _ _ _
    · have h9 := wl_le l
      unfold wordTk
      (repeat' split) <;> simp only <;> omega
theorem one_at (l : List UInt8) : (oneTk l).1.at_ = 0 := by
  unfold oneTk
  split
  · rfl
  · split
    · rfl
    · unfold wordTk
      (repeat' split) <;> rfl
theorem cutF_go (l : List UInt8) (f k : Nat) (ts : List Tk) (hk : k < l.length) : cutF l (f + 1) k ts = if blk (lB l k) = true then cutF l f (k + 1) ts else if (oneTk (l.drop k)).2 = 0 then (none, k) else cutF l f (k + (oneTk (l.drop k)).2) (ts ++ [{ (oneTk (l.drop k)).1 with at_ := (k : Int) }]) := by
  rw [cutF, if_pos hk]
set_option linter.unusedSimpArgs false in
set_option maxRecDepth 100000 in
set_option maxHeartbeats 8000000 in
theorem refAll_any (l : List UInt8) (x : Option Addr) (L c : Nat) (w : World) (hL : l.length = L) (hl : IsB w (.slice x L c) l) (hL47 : L ≤ 140737488355328) : Calls Tryz.prog 44 #[.slice x L c] w fun e w' => AllP tkE14 l w e w' := by
  by_cases h4 : 4096 < L
  · have i0 : (4096 : Int) < (L : Int) := by omega
    have HP : Hid (AllP tkE14 l w (.returned (.tuple #[.slice none 0 0, .int .i64 2, .int .i64 0])) w) := ⟨⟨none, 0, 0, by unfold cutE cutP; rw [if_pos (by omega), if_pos (by omega)], by unfold cutL; rw [if_pos (by omega)]; exact OwnK.nil _ _ _⟩, Below.refl _ _⟩
    go_enter Tryz.func44, Tryz.ntmps44
    go_wp2
    go_ret3
    exact HP.out
  have i0 : ¬ (4096 : Int) < (L : Int) := by omega
  have hst := hl.str
  obtain ⟨s, hs⟩ : ∃ q, ByteArray.mk l.toArray = q := ⟨_, rfl⟩
  have hls : lS s = l := by rw [← hs, lS_mk]
  have hsz : s.size = L := by rw [← lS_len, hls, hL]
  rw [hs] at hst
  clear hs hl
  obtain ⟨RC, hRC⟩ : ∃ q, cutA l = q := ⟨_, rfl⟩
  have HE : Hid (cutL l = RC.1.getD [] ∧ cutE l = (if RC.1.isNone then 30 else 0) ∧ cutP l = (RC.2 : Int)) := by
    have h4' : ¬ 4096 < l.length := by omega
    exact ⟨by unfold cutL; rw [if_neg h4', hRC], by unfold cutE; rw [if_neg h4', hRC], by unfold cutP; rw [if_neg h4', hRC]⟩
  have H0 : Hid (∃ f, L + 1 ≤ f + 0 ∧ cutF l f 0 [] = RC) := ⟨L + 1, by omega, by rw [← hRC]; unfold cutA; rw [hL]⟩
  clear hRC
  go_enter Tryz.func44, Tryz.ntmps44
  go_wp2_with fail
  clear hst
  go_loopw [6, 7] (fun lv iv wr => ∃ (k : Nat) (y : Option Addr) (n c : Nat) (ts : List Tk), k ≤ L ∧ lv = .slice y n c ∧ iv = .int .i64 k ∧ ts.length ≤ k ∧ OwnK tkE14 wr w.heap.size (.slice y n c) ts ∧ Hid (∃ f, L + 1 ≤ f + k ∧ cutF l f k ts = RC) ∧ Below w.heap.size w wr) (fun _ iv _ => L - (intOf iv).toNat)
  case atStart => exact ⟨0, none, 0, 0, [], by omega, rfl, rfl, Nat.zero_le _, OwnK.nil _ _ _, H0, Below.refl _ _⟩
  case round =>
    clear H0
    obtain ⟨k, y, n0, c0, ts, hk, rfl, rfl, hts, hO, HI, hB⟩ := hrel
    obtain ⟨f, hf, hF⟩ := HI.out
    clear HI
    by_cases hlt : k < L
    · have q0 : (0 : Int) ≤ (k : Int) := by omega
      have q1 : (k : Int) < (L : Int) := by omega
      obtain ⟨f', rfl⟩ : ∃ f', f = f' + 1 := ⟨f - 1, by omega⟩
      rw [cutF_go l f' k ts (by omega)] at hF
      obtain ⟨b, hb⟩ : ∃ q, lB l k = q := ⟨_, rfl⟩
      have hbk : ∀ W, (sAt (.string s) (.int .i64 (k : Int))).run Tryz.prog W = .ok (.value (.int .u8 (b.toNat : Int))) W := fun W => by
        have := run_sAt W s k (by omega)
        rw [hls, hb] at this; exact this
      rw [hb] at hF
      have HG : Hid _ := hF
      have hone := fun W => refOne_any (s.extract k L) W (by rw [← lS_len, lS_cut, hls, List.length_take, List.length_drop]; omega) (by rw [← lS_len, lS_cut, hls, List.length_take, List.length_drop]; omega)
      simp only [lS_cut, hls] at hone
      clear hF hb
      by_cases he : b = 32
      · have HN : Hid (∃ f, L + 1 ≤ f + (k + 1) ∧ cutF l f (k + 1) ts = RC) := by
          have h9 := HG.out
          rw [show blk b = true by rw [he]; rfl, if_pos rfl] at h9
          exact ⟨f', by omega, h9⟩
        have f0 : ((b.toNat : Int) == 32) = true := by rw [he]; rfl
        have f1 : ((b.toNat : Int) == 9) = false := by rw [he]; rfl
        have f2 : ((b.toNat : Int) == 10) = false := by rw [he]; rfl
        have f3 : ((b.toNat : Int) == 13) = false := by rw [he]; rfl
        clear HG he hone
        go_wp2
        go_roundw
        case rel => first | exact ⟨k + 1, _, _, _, ts, by omega, rfl, by go_num, by omega, hO, HN, hB⟩ | ((repeat apply Exists.intro); refine ⟨⟨k + 1, _, _, _, ts, by omega, rfl, ?_, by omega, hO, HN, hB⟩, rfl⟩; go_num)
        case measure => simp [intOf]; omega
      have n32 : b ≠ 32 := he
      clear he
      by_cases he : b = 9
      · have HN : Hid (∃ f, L + 1 ≤ f + (k + 1) ∧ cutF l f (k + 1) ts = RC) := by
          have h9 := HG.out
          rw [show blk b = true by rw [he]; rfl, if_pos rfl] at h9
          exact ⟨f', by omega, h9⟩
        have f0 : ((b.toNat : Int) == 32) = false := by rw [he]; rfl
        have f1 : ((b.toNat : Int) == 9) = true := by rw [he]; rfl
        have f2 : ((b.toNat : Int) == 10) = false := by rw [he]; rfl
        have f3 : ((b.toNat : Int) == 13) = false := by rw [he]; rfl
        clear HG he hone
        go_wp2
        go_roundw
        case rel => first | exact ⟨k + 1, _, _, _, ts, by omega, rfl, by go_num, by omega, hO, HN, hB⟩ | ((repeat apply Exists.intro); refine ⟨⟨k + 1, _, _, _, ts, by omega, rfl, ?_, by omega, hO, HN, hB⟩, rfl⟩; go_num)
        case measure => simp [intOf]; omega
      have n9 : b ≠ 9 := he
      clear he
      by_cases he : b = 10
      · have HN : Hid (∃ f, L + 1 ≤ f + (k + 1) ∧ cutF l f (k + 1) ts = RC) := by
          have h9 := HG.out
          rw [show blk b = true by rw [he]; rfl, if_pos rfl] at h9
          exact ⟨f', by omega, h9⟩
        have f0 : ((b.toNat : Int) == 32) = false := by rw [he]; rfl
        have f1 : ((b.toNat : Int) == 9) = false := by rw [he]; rfl
        have f2 : ((b.toNat : Int) == 10) = true := by rw [he]; rfl
        have f3 : ((b.toNat : Int) == 13) = false := by rw [he]; rfl
        clear HG he hone
        go_wp2
        go_roundw
        case rel => first | exact ⟨k + 1, _, _, _, ts, by omega, rfl, by go_num, by omega, hO, HN, hB⟩ | ((repeat apply Exists.intro); refine ⟨⟨k + 1, _, _, _, ts, by omega, rfl, ?_, by omega, hO, HN, hB⟩, rfl⟩; go_num)
        case measure => simp [intOf]; omega
      have n10 : b ≠ 10 := he
      clear he
      by_cases he : b = 13
      · have HN : Hid (∃ f, L + 1 ≤ f + (k + 1) ∧ cutF l f (k + 1) ts = RC) := by
          have h9 := HG.out
          rw [show blk b = true by rw [he]; rfl, if_pos rfl] at h9
          exact ⟨f', by omega, h9⟩
        have f0 : ((b.toNat : Int) == 32) = false := by rw [he]; rfl
        have f1 : ((b.toNat : Int) == 9) = false := by rw [he]; rfl
        have f2 : ((b.toNat : Int) == 10) = false := by rw [he]; rfl
        have f3 : ((b.toNat : Int) == 13) = true := by rw [he]; rfl
        clear HG he hone
        go_wp2
        go_roundw
        case rel => first | exact ⟨k + 1, _, _, _, ts, by omega, rfl, by go_num, by omega, hO, HN, hB⟩ | ((repeat apply Exists.intro); refine ⟨⟨k + 1, _, _, _, ts, by omega, rfl, ?_, by omega, hO, HN, hB⟩, rfl⟩; go_num)
        case measure => simp [intOf]; omega
      have n13 : b ≠ 13 := he
      clear he
      have nb : ∀ v : UInt8, b ≠ v → ((b.toNat : Int) == (v.toNat : Int)) = false := fun v h => beq_eq_false_iff_ne.2 (fun e => h (UInt8.toNat_inj.1 (by omega)))
      have f0 : ((b.toNat : Int) == 32) = false := nb 32 n32
      have f1 : ((b.toNat : Int) == 9) = false := nb 9 n9
      have f2 : ((b.toNat : Int) == 10) = false := nb 10 n10
      have f3 : ((b.toNat : Int) == 13) = false := nb 13 n13
      have HG2 : Hid ((if (oneTk (l.drop k)).2 = 0 then (none, k) else cutF l f' (k + (oneTk (l.drop k)).2) (ts ++ [{ (oneTk (l.drop k)).1 with at_ := (k : Int) }])) = RC) := by
        have h9 := HG.out
        have hnb : blk b = false := by unfold blk; simp [n32, n9, n10, n13]
        rw [hnb, if_neg (by simp)] at h9; exact h9
      clear nb n32 n9 n10 n13 HG
      have htk : (l.drop k).take (L - k) = l.drop k := List.take_of_length_le (by rw [List.length_drop]; omega)
      simp only [htk] at hone
      have hle := one_le (l.drop k) (by rw [List.length_drop]; omega)
      rw [List.length_drop, hL] at hle
      have hat := one_at (l.drop k)
      unfold OneP at hone
      obtain ⟨TN, hTN⟩ : ∃ q, oneTk (l.drop k) = q := ⟨_, rfl⟩
      rw [hTN] at HG2 hle hat
      simp only [hTN] at hone
      clear hTN htk
      obtain ⟨⟨tk1, tk2, tk3, tk4⟩, n⟩ := TN
      simp only at HG2 hle hat hone
      subst hat
      have hcut : ∀ W, (sCut1 (.string s) (.int .i64 (k : Int))).run Tryz.prog W = .ok (.value (.string (s.extract k L))) W := fun W => by
        have := run_sCut1 W s k (by omega)
        rw [hsz] at this; exact this
      generalize s.extract k L = SK at hone hcut
      go_wp2_with fail
      refine (hone _).mono ?_
      rintro e w1 ⟨⟨S, rfl, hS⟩, hb9⟩
      obtain rfl : S = ⟨tk4.toArray⟩ := lS_eq hS
      clear hS
      have hO1 := hO.keep hb9
      have hVl : ∀ q, (Value.slice y n0 c0).ownBlock = some q → q < w1.heap.size := fun q hq => (World.ownsRow.lt hO1 q hq).2
      have hB1 := hB.trans (hb9.mono hB.size)
      have bA := below_alloc w1 (.cells (tkA tk1 0 tk3 ⟨tk4.toArray⟩) 140)
      have hO2 := hO1.keep bA
      have hB2 := hB1.trans (bA.mono hB1.size)
      have rA := RowC.new w1 (tkA tk1 0 tk3 ⟨tk4.toArray⟩) 140
      have hsto : (bigStore 140 (.pointer (some ⟨w1.heap.size, 0, none⟩)) (.agg (tkA tk1 0 tk3 ⟨tk4.toArray⟩))).run Tryz.prog (w1.alloc (.cells (tkA 0 0 0 ⟨#[]⟩) 140)) = .ok .skip (w1.alloc (.cells (tkA tk1 0 tk3 ⟨tk4.toArray⟩) 140)) := by
        rw [run_store_tk _ _ _ (rowL_new _ _ _ _ rfl) (by rw [rowAt_new _ _ _ _ rfl]; rfl) rfl (tkA_one _ _ _ _), setRow_new _ _ _ _ _ rfl]
      have hgl : w1.heap.size < (w1.alloc (.cells (tkA tk1 0 tk3 ⟨tk4.toArray⟩) 140)).heap.size := by simp
      clear hone hcut hO hB hb9 hbk hO1 bA f0 f1 f2 f3
      go_upto_region 10 with fail
      obtain ⟨g, hg⟩ : ∃ q, w1.heap.size = q := ⟨_, rfl⟩
      have hgw : w.heap.size ≤ g := by have := hB1.size; omega
      have hgV : (Value.slice y n0 c0).ownBlock ≠ some g := fun e9 => by have := hVl g e9; omega
      rw [hg] at rA hgl
      simp only [hg]
      clear hg hB1 hsto
      generalize w1.alloc (.cells (tkA tk1 0 tk3 ⟨tk4.toArray⟩) 140) = W2 at hO2 hB2 rA hgl ⊢
      by_cases hn0 : n = 0
      · have z0 : ((n : Int) == 0) = true := beq_iff_eq.2 (by omega)
        have HP : Hid (AllP tkE14 l w (.returned (.tuple #[.slice none 0 0, .int .i64 30, .int .i64 (k : Int)])) W2) := by
          have h9 := HG2.out
          rw [if_pos hn0] at h9
          obtain ⟨e1, e2, e3⟩ := HE.out
          refine ⟨⟨none, 0, 0, ?_, ?_⟩, hB2⟩
          · rw [e2, e3, ← h9]; rfl
          · rw [e1, ← h9]; exact OwnK.nil _ _ _
        clear HG2 hn0
        go_wp2
        go_ret3
        exact HP.out
      · have z0 : ((n : Int) == 0) = false := beq_eq_false_iff_ne.2 (by omega)
        have HG3 : Hid (cutF l f' (k + n) (ts ++ [⟨tk1, (k : Int), tk3, tk4⟩]) = RC) := by
          have h9 := HG2.out
          rw [if_neg hn0] at h9; exact h9
        clear HG2
        have c1 : W2.cell? ⟨g, 1, none⟩ = some (.int .i64 0) := by rw [rA.cell 1]; rfl
        have z1 := rA.frozen 1
        have rB : RowC (W2.setCell ⟨g, 1, none⟩ (.int .i64 (k : Int))) g (tkR ⟨tk1, (k : Int), tk3, tk4⟩) := rA.set 1 (.int .i64 (k : Int))
        have hO3 : OwnK tkE14 (W2.setCell ⟨g, 1, none⟩ (.int .i64 (k : Int))) w.heap.size (.slice y n0 c0) ts := hO2.other14 (fun q hq => heap_setCell_ne _ _ _ _ _ (fun e9 => hgV (by rw [hq, e9])))
        have hB3 : Below w.heap.size w (W2.setCell ⟨g, 1, none⟩ (.int .i64 (k : Int))) := hB2.setCell (p := ⟨g, 1, none⟩) hgw _
        obtain ⟨W3, hW3⟩ : ∃ q, W2.setCell ⟨g, 1, none⟩ (.int .i64 (k : Int)) = q := ⟨_, rfl⟩
        rw [hW3] at rB hO3 hB3
        have HW3 : Hid _ := hW3
        obtain ⟨tx, htx⟩ : ∃ q, (⟨tk1, (k : Int), tk3, tk4⟩ : Tk) = q := ⟨_, rfl⟩
        rw [htx] at rB HG3
        have b4 := below_alloc W3 (.cells (tkR tx) 140)
        have hO4 := hO3.keep b4
        have hB4 := hB3.trans (b4.mono hB3.size)
        have hrg : (W3.alloc (.cells (tkR tx) 140)).rangeAt W3.heap.size 0 (tkE14.enc tx) := fun q u hu => by
          rw [Nat.zero_add, cell_of_row _ _ q _ _ _ (heap_alloc_last W3 _)]
          rw [tkE14_enc, Array.getElem?_toList] at hu; exact hu
        obtain ⟨g5, c5, w5, hr, hO5, -, hgr, -⟩ := run_app1K tkE14_ok _ w.heap.size W3.heap.size _ ts tx 101 hO4 hrg (by simp) (by show (ts.length + 1) * 40 ≤ _; omega) (by unfold maxLen; omega) (Nat.le_trans hB3.size b4.size)
        have hB5 := hB4.trans (below_grown14 hO4 hgr (Nat.le_trans hB3.size b4.size))
        have hT9 : tkE14.S = 101 := rfl
        rw [hT9] at hr
        have hkn : IntKind.i64.wrap ((k : Int) + (n : Int)) = (k : Int) + (n : Int) := by rw [IntKind.wrap_i64]; omega
        have HN : Hid (∃ f, L + 1 ≤ f + (k + n) ∧ cutF l f (k + n) (ts ++ [tx]) = RC) := ⟨f', by omega, HG3.out⟩
        obtain ⟨rB1, rB2⟩ := rB
        have rB3 : (rowAt W3 g).size = 4 := by rw [rB2]; rfl
        have HO5 : Hid _ := hO5
        have HL5 : Hid ((ts ++ [tx]).length ≤ k + n) := by show _ ≤ _; rw [List.length_append, List.length_singleton]; omega
        clear hW3 HG3 htx hO2 hO3 hO4 hB2 hB3 hB4 b4 hrg hgr rA hO5 hgV hVl hgl
        go_upto_region 13 with fail
        rw [HW3.out]
        clear HW3 c1 z1
        go_wp2_with (at_builtin; refine wpL_appG 101 rfl _ _ rfl _ w5 (by exact hr) ?_)
        go_roundw
        case rel => first | exact ⟨k + n, _, _, _, ts ++ [tx], by omega, rfl, by go_num, HL5.out, HO5.out, HN, hB5⟩ | ((repeat apply Exists.intro); refine ⟨⟨k + n, _, _, _, ts ++ [tx], by omega, rfl, ?_, HL5.out, HO5.out, HN, hB5⟩, rfl⟩; go_num)
        case measure => simp [intOf]; omega
    · obtain rfl : k = L := by omega
      have hlt' : ¬ (k : Int) < (k : Int) := by omega
      obtain ⟨f', rfl⟩ : ∃ f', f = f' + 1 := ⟨f - 1, by omega⟩
      rw [cutF, if_neg (by omega)] at hF
      have HP : Hid (AllP tkE14 l w (.returned (.tuple #[.slice y n0 c0, .int .i64 0, .int .i64 0])) wr) := by
        obtain ⟨e1, e2, e3⟩ := HE.out
        refine ⟨⟨y, n0, c0, ?_, ?_⟩, hB⟩
        · rw [e2, e3, ← hF]; rfl
        · rw [e1, ← hF]; exact hO
      clear hF
      go_wp2
      go_ret3
      exact HP.out
end Go.Proofs.YtalnbddkhojjbaaGreatDoor
namespace Go.Proofs.YtalnbddkhojjbaaGreatDoor
open Go.RowKit

theorem conv14 (w : World) (s : ByteArray) : ∃ C W, (convert 9 24 (.string s)).run Tryz.prog w = .ok (.slice (some ⟨w.heap.size, 0, none⟩) s.size C) W ∧ s.size ≤ C ∧ Below w.heap.size w W ∧ IsB W (.slice (some ⟨w.heap.size, 0, none⟩) s.size C) (lS s) := by
  refine ⟨_, _, Lib.run_convert_string_bytes w 9 24 5 s Tryz.underlying9 Tryz.underlying24 Tryz.underlying5, grownCap_ge _ _ _ _, ⟨rfl, rfl, rfl, ?_, fun k hk => Lib.bytesWorld_at_old w _ s k hk⟩, ?_⟩
  · rw [Lib.bytesWorld_size]; omega
  · refine .inr ⟨⟨w.heap.size, 0, none⟩, _, by rw [lS_len], fun i hi => ?_⟩
    rw [lS_len] at hi
    rw [addr_add, Nat.zero_add, Lib.bytesWorld_cell w _ s i hi]
    have h2 : i < s.data.toList.length := by rw [Array.length_toList]; exact hi
    rw [List.getD_eq_getElem?_getD, List.getElem?_eq_getElem h2]; rfl
end Go.Proofs.YtalnbddkhojjbaaGreatDoor
namespace Go.Proofs.YtalnbddkhojjbaaGreatDoor
open Go.RowKit

structure RowM (w : World) (g cap : Nat) (l : List UInt8) : Prop where
  le : l.length ≤ cap
  max : cap ≤ maxLen
  cell : ∀ i, i < l.length → w.cell? ⟨g, i, none⟩ = some (.int .u8 ((lB l i).toNat : Int))
  there : ∀ i, i < cap → (w.cell? ⟨g, i, none⟩).isSome = true
  soft : ∀ i, i < cap → w.frozen? ⟨g, i, none⟩ = false
def OwM (w : World) (B : Nat) (v : Value) (l : List UInt8) : Prop := (v = .slice none 0 0 ∧ l = []) ∨ ∃ g cap, v = .slice (some ⟨g, 0, none⟩) l.length cap ∧ B ≤ g ∧ g < w.heap.size ∧ RowM w g cap l
theorem OwM.le {w : World} {B B' : Nat} {v : Value} {l : List UInt8} (h : OwM w B v l) (hB : B' ≤ B) : OwM w B' v l := by
  rcases h with h | ⟨g, cap, rfl, h1, h2, h3⟩
  · exact .inl h
  · exact .inr ⟨g, cap, rfl, by omega, h2, h3⟩
theorem OwM.isB {w : World} {B : Nat} {v : Value} {l : List UInt8} (h : OwM w B v l) : IsB w v l := by
  rcases h with h | ⟨g, cap, rfl, h1, h2, h3⟩
  · exact .inl h
  · refine .inr ⟨⟨g, 0, none⟩, cap, rfl, fun i hi => ?_⟩
    rw [addr_add, Nat.zero_add, h3.cell i hi]
    unfold lB
    rw [List.getElem?_eq_getElem hi]
    rfl
theorem OwM.form {w : World} {B : Nat} {v : Value} {l : List UInt8} (h : OwM w B v l) : ∃ x c, v = .slice x l.length c ∧ l.length ≤ c := by
  rcases h with ⟨rfl, rfl⟩ | ⟨g, cap, rfl, h1, h2, h3⟩
  · exact ⟨none, 0, rfl, Nat.le_refl _⟩
  · exact ⟨_, _, rfl, h3.le⟩
theorem OwM.ofB {w : World} {B : Nat} {v : Value} {l : List UInt8} (h : OwnB w B v l) : OwM w B v l := by
  have h0 := h
  obtain ⟨hl, h9⟩ := h
  rcases h9 with ⟨rfl, hn⟩ | ⟨g, cap, cur, rfl, hg, hh, hc, hm, hs, ht⟩
  · exact .inl ⟨rfl, List.length_eq_zero_iff.1 hn⟩
  · refine .inr ⟨g, cap, rfl, hg, (World.ownsRow.lt h0 g rfl).2, hc, hm, fun i hi => h0.cellB i hi, fun i hi => ?_, fun i hi => ?_⟩
    · unfold World.cell?
      simp only [hh]
      simp
      omega
    · unfold World.frozen?
      simp only [hh]
      simp
theorem OwM.nil (w : World) (B : Nat) : OwM w B (.slice none 0 0) [] := .inl ⟨rfl, rfl⟩
theorem OwM.conv (w : World) (s : ByteArray) (hs : s.size ≤ 140737488355328) : ∃ C W, (convert 9 24 (.string s)).run Tryz.prog w = .ok (.slice (some ⟨w.heap.size, 0, none⟩) s.size C) W ∧ Below w.heap.size w W ∧ OwM W w.heap.size (.slice (some ⟨w.heap.size, 0, none⟩) s.size C) (lS s) := by
  have hge := grownCap_ge w s.size 0 5
  have hcm : grownCap w s.size 0 5 ≤ maxLen := grownCap_le_maxLen w _ _ _ (by unfold maxLen; omega)
  have hsz : (Lib.bytesCells w 5 s).size = grownCap w s.size 0 5 := by
    unfold Lib.bytesCells
    rw [Array.size_append, Array.size_map, Array.size_replicate]
    have : s.data.size = s.size := rfl
    omega
  refine ⟨_, _, Lib.run_convert_string_bytes w 9 24 5 s Tryz.underlying9 Tryz.underlying24 Tryz.underlying5, ⟨rfl, rfl, rfl, by rw [Lib.bytesWorld_size]; omega, fun k hk => Lib.bytesWorld_at_old w _ s k hk⟩, .inr ⟨w.heap.size, _, by rw [lS_len], Nat.le_refl _, by rw [Lib.bytesWorld_size]; omega, by rw [lS_len]; exact hge, hcm, fun i hi => ?_, fun i hi => ?_, fun i hi => ?_⟩⟩
  · rw [lS_len] at hi
    rw [Lib.bytesWorld_cell w _ s i hi]
    rfl
  · unfold World.cell?
    simp only [Lib.bytesWorld_at_new]
    simp
    rw [hsz]
    exact hi
  · unfold World.frozen?
    simp only [Lib.bytesWorld_at_new]
    simp
    intro h9
    omega
end Go.Proofs.YtalnbddkhojjbaaGreatDoor
namespace Go.Proofs.YtalnbddkhojjbaaGreatDoor
open Go.RowKit

def tkEL : EK Tk := { T := 86, S := 78, k := 4, bytes := 40, z := .agg (tkA 0 0 0 ⟨#[]⟩), enc := fun x => (tkR x).toList }
theorem tkEL_ok : tkEL.Ok where
  len x := rfl
  one x v hv := by
    unfold tkEL tkR tkA at hv
    simp only [List.mem_cons, List.not_mem_nil, or_false] at hv
    rcases hv with rfl | rfl | rfl | rfl <;> rfl
  und := Tryz.underlying78
  info := by
    have h : (Tryz.prog.info? 86).map (fun i => (i.zero, i.size, i.bytes)) = some (some (.agg (tkA 0 0 0 ⟨#[]⟩)), 4, 40) := by kernel_rfl
    exact h
  zc := rfl
  kp := by show 0 < 4; omega
  row := ⟨_, Tryz.underlying86, rfl⟩
def Vx (w : World) : Prop := (∃ tp p, w.cell? ⟨1, 0, none⟩ = some (.iface tp p)) ∧ ∃ tp p, w.cell? ⟨2, 0, none⟩ = some (.iface tp p)
theorem Vx.below {w W : World} (h : Vx w) (hb : Below w.heap.size w W) : Vx W := by
  obtain ⟨⟨t1, p1, h1⟩, ⟨t2, p2, h2⟩⟩ := h
  have l1 : (⟨1, 0, none⟩ : Addr).block < w.heap.size := Lib.lt_of_cell h1
  have l2 : (⟨2, 0, none⟩ : Addr).block < w.heap.size := Lib.lt_of_cell h2
  exact ⟨⟨t1, p1, (hb.cell l1).trans h1⟩, ⟨t2, p2, (hb.cell l2).trans h2⟩⟩
structure LexOk : Prop where
  all : ∀ (l : List UInt8) (x : Option Addr) (L c : Nat) (w : World), l.length = L → L ≤ c → L ≤ 4611686018427387904 → IsB w (.slice x L c) l → Vx w → Calls Tryz.prog 33 #[.slice x L c] w fun e w' => AllP tkEL l w e w'
  quo : ∀ (s : ByteArray) (w : World), s.size ≤ 17592186044416 → Calls Tryz.prog 86 #[.string s] w fun e w' => QuP (lS s) w e w'
end Go.Proofs.YtalnbddkhojjbaaGreatDoor
namespace Go.Proofs.YtalnbddkhojjbaaGreatDoor
open Go.RowKit

section
variable (ρ : Operand → Value) (dst : Option Tmp) (ty : TypeId) (pos : String) (after : Array Edge) (guard : Option (Nat × Bool))
@[go_sem ↓] theorem execOp_load_tl (x : Operand) : execOp ρ { dst, op := .load 86 x, type := ty, pos, after, guard } = bigLoad 86 (ρ x) := rfl
@[go_sem ↓] theorem execOp_store_tl (x y : Operand) : execOp ρ { dst, op := .store 86 x y, type := ty, pos, after, guard } = bigStore 86 (ρ x) (ρ y) := rfl
@[go_sem ↓] theorem execOp_alloc_tl : execOp ρ { dst, op := .alloc 86, type := ty, pos, after, guard } = bigAlloc 86 := rfl
@[go_sem ↓] theorem execOp_box_tl (x : Operand) : execOp ρ { dst, op := .box 86 x, type := ty, pos, after, guard } = bigBox 86 (ρ x) := rfl
end
theorem info_tl : (Tryz.prog.info? 86).map (fun i => (i.zero, i.size)) = some (some (.agg (tkA 0 0 0 ⟨#[]⟩)), 4) := by kernel_rfl
theorem sizeT_tl : (Tryz.prog.info? 86).map (·.size) = some 4 := (zero_of_info info_tl).2
@[go_sem] theorem run_load_tl (w : World) (g : Nat) (h : rowL w g = true) (hs : (rowAt w g).size = 4) : (bigLoad 86 (.pointer (some ⟨g, 0, none⟩))).run Tryz.prog w = .ok (.value (.agg (rowAt w g))) w := by
  rw [run_bigLoad 86 _ 4 Tryz.underlying86 rfl sizeT_tl w g 0 h (by omega), Nat.zero_add, Array.extract_eq_self_of_le (by omega)]
@[go_sem] theorem run_store_tl (w : World) (g : Nat) (c : Array Value) (h : rowL w g = true) (hs : (rowAt w g).size = 4) (hc : c.size = 4) (h1 : OneC c = true) : (bigStore 86 (.pointer (some ⟨g, 0, none⟩)) (.agg c)).run Tryz.prog w = .ok .skip (w.setRow g c) := by
  rw [run_bigStore 86 4 sizeT_tl w g 0 c h hc (by omega) h1, layC_all _ _ (by omega)]
@[go_sem] theorem run_alloc_tl (w : World) : (bigAlloc 86).run Tryz.prog w = .ok (.value (.pointer (some ⟨w.heap.size, 0, none⟩))) (w.alloc (.cells (tkA 0 0 0 ⟨#[]⟩) 86)) := by
  simp only [bigAlloc, Instr.alloc, Sem.run_bind, (zero_of_info info_tl).1 w, Result.andThen_ok]
  rfl
@[go_sem] theorem run_box_tl (w : World) (c : Array Value) : (bigBox 86 (.agg c)).run Tryz.prog w = .ok (.value (.pointer (some ⟨w.heap.size, 0, none⟩))) (w.alloc (.cells c 86)) := run_bigBox _ c w
theorem tl_bodyPost2 {fn : Func} {R : Ending → World → Prop} {a : Act} {w : World} (p q n : Nat) (c : Array Value) (hres : fn.results = #[.cell p 86, .tmp q]) (hp : a.tmps.getD p undef = .pointer (some ⟨n, 0, none⟩)) (hd : a.defers = [])
    (hok : RowC w n c) (hc : c.size = 4) (h : R (.returned (.tuple #[.agg c, a.tmps.getD q undef])) w) : bodyPost Tryz.prog fn R .ret a w := by
  obtain ⟨t, hg⟩ := row_of_L hok.1
  rw [hok.2] at hg
  have hp' : a.tmps[p]?.getD undef = .pointer (some ⟨n, 0, none⟩) := by simpa using hp
  have hl := run_loadVar_row (P := Tryz.prog) w n t 86 c (0, 0) _ hg Tryz.underlying86 rfl (by rw [sizeT_tl, hc])
  refine bodyPost_ret (v := .tuple #[.agg c, a.tmps.getD q undef]) ?_ hd h
  simp [results, hres, hp', asAddr, hl]
theorem tl_bodyPost1 {fn : Func} {R : Ending → World → Prop} {a : Act} {w : World} (p n : Nat) (c : Array Value) (hres : fn.results = #[.cell p 86]) (hp : a.tmps.getD p undef = .pointer (some ⟨n, 0, none⟩)) (hd : a.defers = [])
    (hok : RowC w n c) (hc : c.size = 4) (h : R (.returned (.agg c)) w) : bodyPost Tryz.prog fn R .ret a w := by
  obtain ⟨t, hg⟩ := row_of_L hok.1
  rw [hok.2] at hg
  have hp' : a.tmps[p]?.getD undef = .pointer (some ⟨n, 0, none⟩) := by simpa using hp
  have hl := run_loadVar_row (P := Tryz.prog) w n t 86 c (0, 0) _ hg Tryz.underlying86 rfl (by rw [sizeT_tl, hc])
  refine bodyPost_ret (v := .agg c) ?_ hd h
  simp [results, hres, hp', asAddr, hl]
theorem run_load_tlm (w : World) (g o : Nat) (h : rowL w g = true) (hs : decide (o + 4 ≤ (rowAt w g).size) = true) : (bigLoad 86 (.pointer (some ⟨g, o, none⟩))).run Tryz.prog w = .ok (.value (.agg ((rowAt w g).extract o (o + 4)))) w :=
  run_bigLoad 86 _ 4 Tryz.underlying86 rfl sizeT_tl w g o h (of_decide_eq_true hs)
theorem tk_ext {w : World} {B g n c : Nat} {ms : List Tk} (h : OwnK tkEL w B (.slice (some ⟨g, 0, none⟩) n c) ms) (i : Nat) (d : Tk) (hi : ms[i]? = some d) : rowL w g = true ∧ i * 4 + 4 ≤ (rowAt w g).size ∧ (rowAt w g).extract (i * 4) (i * 4 + 4) = tkR d := by
  obtain ⟨cur, h1, h2, h3, h4, h5, h6, h7⟩ := h.heap
  obtain ⟨hi9, -⟩ := List.getElem?_eq_some_iff.1 hi
  have hk : tkEL.k = 4 := rfl
  rw [hk] at h6
  have e1 : rowL w g = true := by unfold rowL; rw [h3]; rfl
  have e2 : rowAt w g = cur := by unfold rowAt; rw [h3]
  have hsz : i * 4 + 4 ≤ cur.size := by omega
  refine ⟨e1, by rw [e2]; exact hsz, ?_⟩
  rw [e2]
  have hr := h.range tkEL_ok i d hi
  have hc : ∀ j, w.cell? ⟨g, j, none⟩ = cur[j]? := fun j => by rw [cell_rowL e1, e2]
  apply Array.ext
  · rw [Array.size_extract, tkR_size]; omega
  · intro j q1 q2
    rw [tkR_size] at q2
    have h9 := hr j (tkR d)[j] (by show (tkR d).toList[j]? = _; rw [Array.getElem?_toList, Array.getElem?_eq_getElem (by rw [tkR_size]; omega)]; rfl)
    rw [hk, hc] at h9
    rw [Array.getElem_extract]
    rw [Array.getElem?_eq_getElem (by omega)] at h9
    exact Option.some.inj h9
end Go.Proofs.YtalnbddkhojjbaaGreatDoor
namespace Go.Proofs.YtalnbddkhojjbaaGreatDoor
open Go.RowKit

theorem get_lB (s : ByteArray) (i : Nat) : s.get! i = lB (lS s) i := by
  unfold lB lS
  obtain ⟨a⟩ := s
  show a[i]! = _
  rw [Array.getElem?_toList]
  rw [Array.getElem!_eq_getD, Array.getD_eq_getD_getElem?]
  rfl
def dcN (b0 b1 b2 b3 n : Nat) : Nat × Nat :=
  if b0 < 128 then (b0, 1)
  else if b0 / 32 = 6 ∧ 2 ≤ n ∧ b1 / 64 = 2 then (if 128 ≤ b0 % 32 * 64 + b1 % 64 then (b0 % 32 * 64 + b1 % 64, 2) else (65533, 1))
  else if b0 / 16 = 14 ∧ (2 ≤ n ∧ b1 / 64 = 2) ∧ 3 ≤ n ∧ b2 / 64 = 2 then (if 2048 ≤ b0 % 16 * 4096 + b1 % 64 * 64 + b2 % 64 ∧ Utf8.valid ((b0 % 16 * 4096 + b1 % 64 * 64 + b2 % 64 : Nat) : Int) = true then (b0 % 16 * 4096 + b1 % 64 * 64 + b2 % 64, 3) else (65533, 1))
  else if b0 / 8 = 30 ∧ (2 ≤ n ∧ b1 / 64 = 2) ∧ (3 ≤ n ∧ b2 / 64 = 2) ∧ 4 ≤ n ∧ b3 / 64 = 2 then (if 65536 ≤ b0 % 8 * 262144 + b1 % 64 * 4096 + b2 % 64 * 64 + b3 % 64 ∧ Utf8.valid ((b0 % 8 * 262144 + b1 % 64 * 4096 + b2 % 64 * 64 + b3 % 64 : Nat) : Int) = true then (b0 % 8 * 262144 + b1 % 64 * 4096 + b2 % 64 * 64 + b3 % 64, 4) else (65533, 1))
  else (65533, 1)
theorem dec_dcN (s : ByteArray) (k : Nat) (hk : k < s.size) : Utf8.decode s k = dcN (lB ((lS s).drop k) 0).toNat (lB ((lS s).drop k) 1).toNat (lB ((lS s).drop k) 2).toNat (lB ((lS s).drop k) 3).toNat ((lS s).drop k).length := by
  have hd : ∀ j, lB ((lS s).drop k) j = lB (lS s) (k + j) := fun j => by unfold lB; rw [List.getElem?_drop]
  have hl : ((lS s).drop k).length = s.size - k := by rw [List.length_drop, lS_len]
  unfold Utf8.decode dcN
  simp only [get_lB, hd, hl, Bool.and_eq_true, decide_eq_true_eq, beq_iff_eq, Utf8.runeError, and_assoc]
  have e1 : (k + 1 < s.size) ↔ 2 ≤ s.size - k := by omega
  have e2 : (k + 2 < s.size) ↔ 3 ≤ s.size - k := by omega
  have e3 : (k + 3 < s.size) ↔ 4 ≤ s.size - k := by omega
  simp only [e1, e2, e3, ge_iff_le]
theorem valid_nat (c : Nat) : Utf8.valid (c : Int) = true ↔ c < 55296 ∨ (57344 ≤ c ∧ c ≤ 1114111) := by
  unfold Utf8.valid
  simp only [Bool.or_eq_true, Bool.and_eq_true, decide_eq_true_eq]
  omega
theorem isC_div (b : UInt8) : isC b = true ↔ b.toNat / 64 = 2 := by
  unfold isC
  rw [decide_eq_true_eq]
  omega
theorem cvR_yes (l : List UInt8) (v k u : Nat) (h : cvR l v k = some u) (hc : (lB l (k + 1)).toNat / 64 = 2) : cvR l v (k + 1) = some (64 * u + (lB l (k + 1)).toNat % 64) := by
  rw [cv_step l v k u ((lB l (k + 1)).toNat % 64) h (by omega) (by omega)]
theorem cvR_no (l : List UInt8) (v k : Nat) (hc : ¬ (lB l (k + 1)).toNat / 64 = 2) : cvR l v (k + 1) = none := by
  rw [cvR]
  split
  · rfl
  · rw [if_neg (fun h => hc ((isC_div _).1 h))]
theorem cvR_none (l : List UInt8) (v k : Nat) (h : cvR l v k = none) : cvR l v (k + 1) = none := by rw [cvR, h]
theorem rnN_no (l : List UInt8) (n v : Nat) (h : cvR l v (n - 1) = none) : (rnN l n v).2 = 0 := by
  unfold rnN
  split
  · rfl
  · rw [h]
theorem rnN_ok (l : List UInt8) (n v u : Nat) (_ : 0 < n) (hl : n ≤ l.length) (h : cvR l v (n - 1) = some u) : rnN l n v = if okR n u = true then (u, n) else (0, 0) := by
  unfold rnN
  rw [if_neg (by omega), h]
theorem rnN_short (l : List UInt8) (n v : Nat) (h : l.length < n) : rnN l n v = (0, 0) := by
  unfold rnN
  rw [if_pos h]
def stR (x : Nat × Nat) : Nat × Nat := if x.2 = 0 then (65533, 1) else x
theorem stR0 {x : Nat × Nat} (h : x.2 = 0) : stR x = (65533, 1) := if_pos h
theorem dec_rn (s : ByteArray) (k : Nat) (hk : k < s.size) : Utf8.decode s k = stR (rn ((lS s).drop k)) := by
  rw [dec_dcN s k hk]
  have hl : 0 < ((lS s).drop k).length := by rw [List.length_drop, lS_len]; omega
  generalize (lS s).drop k = x at hl
  obtain ⟨b, hb⟩ : ∃ q, (lB x 0).toNat = q := ⟨_, rfl⟩
  have hb8 : b < 256 := by rw [← hb]; exact (lB x 0).toNat_lt
  rw [rn_b x b (by omega) hb, hb]
  unfold dcN
  by_cases h1 : b < 128
  · rw [if_pos h1, if_pos h1]; rfl
  rw [if_neg h1, if_neg h1]
  by_cases h2 : 192 ≤ b ∧ b < 224
  · rw [if_pos h2]
    by_cases hn : 2 ≤ x.length
    · by_cases hc : (lB x 1).toNat / 64 = 2
      · have e := cvR_yes x (b - 192) 0 _ rfl hc
        rw [rnN_ok x 2 _ _ (by omega) hn e, if_pos ⟨by omega, hn, hc⟩]
        have ev : 64 * (b - 192) + (lB x (0 + 1)).toNat % 64 = b % 32 * 64 + (lB x 1).toNat % 64 := by rw [Nat.zero_add]; omega
        rw [ev]
        generalize hv : b % 32 * 64 + (lB x 1).toNat % 64 = v
        by_cases ho : 128 ≤ v
        · rw [if_pos ho, if_pos ((okR_iff _ _).2 ⟨ho, by omega, by omega⟩)]; rfl
        · rw [if_neg ho, if_neg (fun h => ho ((okR_iff _ _).1 h).1)]; rfl
      · rw [stR0 (rnN_no x 2 _ (cvR_no x _ 0 hc)), if_neg (by omega), if_neg (by omega), if_neg (by omega)]
    · rw [rnN_short x 2 _ (by omega), if_neg (by omega), if_neg (by omega), if_neg (by omega)]; rfl
  rw [if_neg h2, if_neg (by omega : ¬ (b / 32 = 6 ∧ _))]
  by_cases h3 : 224 ≤ b ∧ b < 240
  · rw [if_pos h3]
    by_cases hn : 3 ≤ x.length
    · by_cases hc : (lB x 1).toNat / 64 = 2
      · have e := cvR_yes x (b - 224) 0 _ rfl hc
        by_cases hc2 : (lB x 2).toNat / 64 = 2
        · have e2 := cvR_yes x (b - 224) 1 _ e hc2
          rw [rnN_ok x 3 _ _ (by omega) hn e2, if_pos ⟨by omega, ⟨by omega, hc⟩, hn, hc2⟩]
          have ev : 64 * (64 * (b - 224) + (lB x (0 + 1)).toNat % 64) + (lB x (1 + 1)).toNat % 64 = b % 16 * 4096 + (lB x 1).toNat % 64 * 64 + (lB x 2).toNat % 64 := by simp only [Nat.zero_add, Nat.reduceAdd]; omega
          rw [ev]
          generalize hv : b % 16 * 4096 + (lB x 1).toNat % 64 * 64 + (lB x 2).toNat % 64 = v
          by_cases ho : 2048 ≤ v ∧ Utf8.valid (v : Int) = true
          · have := (valid_nat v).1 ho.2
            rw [if_pos ho, if_pos ((okR_iff _ _).2 ⟨ho.1, by omega, by omega⟩)]; rfl
          · rw [if_neg ho, if_neg (fun h => ho ⟨((okR_iff _ _).1 h).1, (valid_nat v).2 (by have := ((okR_iff _ _).1 h).2; omega)⟩)]; rfl
        · rw [stR0 (rnN_no x 3 _ (cvR_no x _ 1 hc2)), if_neg (by omega), if_neg (by omega)]
      · rw [stR0 (rnN_no x 3 _ (cvR_none x _ 1 (cvR_no x _ 0 hc))), if_neg (by omega), if_neg (by omega)]
    · rw [rnN_short x 3 _ (by omega), if_neg (by omega), if_neg (by omega)]; rfl
  rw [if_neg h3, if_neg (by omega : ¬ (b / 16 = 14 ∧ _))]
  by_cases h4 : 240 ≤ b ∧ b < 248
  · rw [if_pos h4]
    by_cases hn : 4 ≤ x.length
    · by_cases hc : (lB x 1).toNat / 64 = 2
      · have e := cvR_yes x (b - 240) 0 _ rfl hc
        by_cases hc2 : (lB x 2).toNat / 64 = 2
        · have e2 := cvR_yes x (b - 240) 1 _ e hc2
          by_cases hc3 : (lB x 3).toNat / 64 = 2
          · have e3 := cvR_yes x (b - 240) 2 _ e2 hc3
            rw [rnN_ok x 4 _ _ (by omega) hn e3, if_pos ⟨by omega, ⟨by omega, hc⟩, ⟨by omega, hc2⟩, hn, hc3⟩]
            have ev : 64 * (64 * (64 * (b - 240) + (lB x (0 + 1)).toNat % 64) + (lB x (1 + 1)).toNat % 64) + (lB x (2 + 1)).toNat % 64 = b % 8 * 262144 + (lB x 1).toNat % 64 * 4096 + (lB x 2).toNat % 64 * 64 + (lB x 3).toNat % 64 := by simp only [Nat.zero_add, Nat.reduceAdd]; omega
            rw [ev]
            generalize hv : b % 8 * 262144 + (lB x 1).toNat % 64 * 4096 + (lB x 2).toNat % 64 * 64 + (lB x 3).toNat % 64 = v
            by_cases ho : 65536 ≤ v ∧ Utf8.valid (v : Int) = true
            · have := (valid_nat v).1 ho.2
              rw [if_pos ho, if_pos ((okR_iff _ _).2 ⟨ho.1, by omega, by omega⟩)]; rfl
            · rw [if_neg ho, if_neg (fun h => ho ⟨((okR_iff _ _).1 h).1, (valid_nat v).2 (by have := ((okR_iff _ _).1 h).2; omega)⟩)]; rfl
          · rw [stR0 (rnN_no x 4 _ (cvR_no x _ 2 hc3)), if_neg (by omega)]
        · rw [stR0 (rnN_no x 4 _ (cvR_none x _ 2 (cvR_no x _ 1 hc2))), if_neg (by omega)]
      · rw [stR0 (rnN_no x 4 _ (cvR_none x _ 2 (cvR_none x _ 1 (cvR_no x _ 0 hc)))), if_neg (by omega)]
    · rw [rnN_short x 4 _ (by omega), if_neg (by omega)]; rfl
  rw [if_neg h4, if_neg (by omega : ¬ (b / 8 = 30 ∧ _))]
  rfl
def stray (v : Nat) (l : List UInt8) : Bool := decide (v = 65533) && !decide (l.take 3 = [239, 191, 189])
theorem enc_err : enc 65533 = [239, 191, 189] := by decide
theorem stray_rn (x : List UInt8) : stray (stR (rn x)).1 x = decide ((rn x).2 = 0) := by
  unfold stray
  by_cases h0 : (rn x).2 = 0
  · rw [stR0 h0, decide_eq_true h0, decide_eq_true rfl, Bool.true_and]
    rw [decide_eq_false, Bool.not_false]
    intro h
    have e : x = enc 65533 ++ x.drop 3 := by rw [enc_err, ← h, List.take_append_drop]
    rw [e, rn_enc 65533 ⟨by omega, by omega⟩] at h0
    rw [enc_err] at h0
    simp at h0
  · rw [decide_eq_false h0]
    have e1 : stR (rn x) = rn x := if_neg h0
    rw [e1]
    by_cases hv : (rn x).1 = 65533
    · obtain ⟨ht, _, hl⟩ := enc_rn x (rn x).1 (rn x).2 rfl h0
      rw [hv, enc_err] at ht
      have h3 : (rn x).2 = 3 := by
        have := congrArg List.length ht
        rw [List.length_take] at this
        simp at this
        omega
      rw [h3] at ht
      rw [decide_eq_true ht, Bool.not_true, Bool.and_false]
    · rw [decide_eq_false hv, Bool.false_and]
theorem stR_pos (x : Nat × Nat) : 1 ≤ (stR x).2 := by
  unfold stR
  split
  · exact Nat.le_refl _
  · omega
theorem toUInt8_u8 (n : Nat) : n.toUInt8 = u8 n := rfl
theorem enc_Z (v : Nat) (hv : vR v) : Lib.encodeRune (v : Int) = enc v := by
  obtain ⟨h1, h2⟩ := hv
  unfold Lib.encodeRune Lib.encodeRuneZ enc
  by_cases a : v < 128
  · rw [if_pos (by omega), if_pos a]
    simp [toUInt8_u8]
  rw [if_neg (by omega), if_neg a]
  by_cases b : v < 2048
  · rw [if_pos (by omega), if_pos b]
    have e1 : (192 + (v : Int) / 64).toNat = 192 + v / 64 := by omega
    have e2 : (128 + (v : Int) % 64).toNat = 128 + v % 64 := by omega
    simp only [List.map_cons, List.map_nil, e1, e2, toUInt8_u8]
  rw [if_neg (by omega), if_neg b]
  by_cases c : v < 65536
  · rw [if_pos (by omega), if_pos c]
    have e1 : (224 + (v : Int) / 4096).toNat = 224 + v / 4096 := by omega
    have e2 : (128 + (v : Int) / 64 % 64).toNat = 128 + v / 64 % 64 := by omega
    have e3 : (128 + (v : Int) % 64).toNat = 128 + v % 64 := by omega
    simp only [List.map_cons, List.map_nil, e1, e2, e3, toUInt8_u8]
  rw [if_neg (by omega), if_neg c, if_pos (by omega)]
  have e1 : (240 + (v : Int) / 262144).toNat = 240 + v / 262144 := by omega
  have e2 : (128 + (v : Int) / 4096 % 64).toNat = 128 + v / 4096 % 64 := by omega
  have e3 : (128 + (v : Int) / 64 % 64).toNat = 128 + v / 64 % 64 := by omega
  have e4 : (128 + (v : Int) % 64).toNat = 128 + v % 64 := by omega
  simp only [List.map_cons, List.map_nil, e1, e2, e3, e4, toUInt8_u8]
end Go.Proofs.YtalnbddkhojjbaaGreatDoor
