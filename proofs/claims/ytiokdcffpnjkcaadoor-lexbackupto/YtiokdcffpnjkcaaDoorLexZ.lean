
import Derived.Test.YtiokdcffpnjkcaaDoorLxy
namespace Go.Proofs.YtiokdcffpnjkcaaDoor
open Go.RowKit

/-! lex.isBlank, lex.All: what lex owes -/
set_option linter.unusedSimpArgs false in
set_option maxRecDepth 100000 in
theorem isBlank_any (b : UInt8) (w : World) : Calls Tryd.prog 19 #[.int .u8 (b.toNat : Int)] w fun e w' => e = .returned (.bool (blk b)) ∧ w' = w := by
  have nb : ∀ v : UInt8, b ≠ v → ((b.toNat : Int) == (v.toNat : Int)) = false := fun v h => beq_eq_false_iff_ne.2 (fun e => h (UInt8.toNat_inj.1 (by omega)))
  by_cases h32 : b = 32
  · have f0 : ((b.toNat : Int) == 32) = true := by rw [h32]; rfl
    have f1 : ((b.toNat : Int) == 9) = false := by rw [h32]; rfl
    have f2 : ((b.toNat : Int) == 10) = false := by rw [h32]; rfl
    have f3 : ((b.toNat : Int) == 13) = false := by rw [h32]; rfl
    rw [show blk b = true by rw [h32]; rfl]
    clear h32 nb
    go_enter Tryd.func19, Tryd.ntmps19
    go_wp2
    go_ret
    exact ⟨rfl, rfl⟩
  by_cases h9 : b = 9
  · have f0 : ((b.toNat : Int) == 32) = false := by rw [h9]; rfl
    have f1 : ((b.toNat : Int) == 9) = true := by rw [h9]; rfl
    have f2 : ((b.toNat : Int) == 10) = false := by rw [h9]; rfl
    have f3 : ((b.toNat : Int) == 13) = false := by rw [h9]; rfl
    rw [show blk b = true by rw [h9]; rfl]
    clear h9 nb
    go_enter Tryd.func19, Tryd.ntmps19
    go_wp2
    go_ret
    exact ⟨rfl, rfl⟩
  by_cases h10 : b = 10
  · have f0 : ((b.toNat : Int) == 32) = false := by rw [h10]; rfl
    have f1 : ((b.toNat : Int) == 9) = false := by rw [h10]; rfl
    have f2 : ((b.toNat : Int) == 10) = true := by rw [h10]; rfl
    have f3 : ((b.toNat : Int) == 13) = false := by rw [h10]; rfl
    rw [show blk b = true by rw [h10]; rfl]
    clear h10 nb
    go_enter Tryd.func19, Tryd.ntmps19
    go_wp2
    go_ret
    exact ⟨rfl, rfl⟩
  by_cases h13 : b = 13
  · have f0 : ((b.toNat : Int) == 32) = false := by rw [h13]; rfl
    have f1 : ((b.toNat : Int) == 9) = false := by rw [h13]; rfl
    have f2 : ((b.toNat : Int) == 10) = false := by rw [h13]; rfl
    have f3 : ((b.toNat : Int) == 13) = true := by rw [h13]; rfl
    rw [show blk b = true by rw [h13]; rfl]
    clear h13 nb
    go_enter Tryd.func19, Tryd.ntmps19
    go_wp2
    go_ret
    exact ⟨rfl, rfl⟩
  have f0 : ((b.toNat : Int) == 32) = false := nb 32 h32
  have f1 : ((b.toNat : Int) == 9) = false := nb 9 h9
  have f2 : ((b.toNat : Int) == 10) = false := nb 10 h10
  have f3 : ((b.toNat : Int) == 13) = false := nb 13 h13
  rw [show blk b = false by unfold blk; simp [h32, h9, h10, h13]]
  clear h32 h9 h10 h13 nb
  go_enter Tryd.func19, Tryd.ntmps19
  go_wp2
  go_ret
  exact ⟨rfl, rfl⟩
theorem tkEL_enc (x : Tk) : tkEL.enc x = (tkR x).toList := rfl
def tlBS (x : Value) : Sem Next := do pure (.value (← Instr.buildSlice 26 1 #[(0, x)]))
section
variable (ρ : Operand → Value) (dst : Option Tmp) (ty : TypeId) (pos : String) (after : Array Edge) (guard : Option (Nat × Bool))
@[go_sem ↓] theorem execOp_tlBS (x : Operand) : execOp ρ { dst, op := .buildSlice 26 1 #[(0, x)], type := ty, pos, after, guard } = tlBS (ρ x) := by simp [execOp, tlBS]
end
@[go_sem] theorem run_tlBS (w : World) (x : Tk) : (tlBS (.agg (tkR x))).run Tryd.prog w = .ok (.value (.slice (some ⟨w.heap.size, 0, none⟩) 1 1)) (w.alloc (.cells (tkR x) 31)) := by
  have h := run_litK1 tkEL_ok (by show 4 ≤ 1000; omega) w x
  simp only [tkEL, Array.toArray_toList] at h
  simp only [tlBS, Sem.run_bind, h]
  rfl
set_option linter.unusedSimpArgs false in
set_option maxRecDepth 100000 in
set_option maxHeartbeats 8000000 in
theorem lexAll_any (l : List UInt8) (x : Option Addr) (L c : Nat) (w : World) (hL : l.length = L) (hl : IsB w (.slice x L c) l) (hV : Vx w) : Calls Tryd.prog 9 #[.slice x L c] w fun e w' => AllP tkEL l w e w' := by
  by_cases h4 : 4096 < L
  · have i0 : (4096 : Int) < (L : Int) := by omega
    have HP : Hid (AllP tkEL l w (.returned (.tuple #[.slice none 0 0, .int .i64 2, .int .i64 0])) w) := ⟨⟨none, 0, 0, by unfold cutE cutP; rw [if_pos (by omega), if_pos (by omega)], by unfold cutL; rw [if_pos (by omega)]; exact OwnK.nil _ _ _⟩, Below.refl _ _⟩
    go_enter Tryd.func9, Tryd.ntmps9
    go_wp2
    go_ret3
    exact HP.out
  have i0 : ¬ (4096 : Int) < (L : Int) := by omega
  have hst := hl.str
  obtain ⟨s, hs⟩ : ∃ q, ByteArray.mk l.toArray = q := ⟨_, rfl⟩
  have hls : lS s = l := by rw [← hs, lS_mk]
  have hsz : s.size = L := by rw [← lS_len, hls, hL]
  rw [hs] at hst
  clear hs hl
  obtain ⟨RC, hRC⟩ : ∃ q, cutA l = q := ⟨_, rfl⟩
  have HE : Hid (cutL l = RC.1.getD [] ∧ cutE l = (if RC.1.isNone then 30 else 0) ∧ cutP l = (RC.2 : Int)) := by
    have h4' : ¬ 4096 < l.length := by omega
    exact ⟨by unfold cutL; rw [if_neg h4', hRC], by unfold cutE; rw [if_neg h4', hRC], by unfold cutP; rw [if_neg h4', hRC]⟩
  have H0 : Hid (∃ f, L + 1 ≤ f + 0 ∧ cutF l f 0 [] = RC) := ⟨L + 1, by omega, by rw [← hRC]; unfold cutA; rw [hL]⟩
  clear hRC
  go_enter Tryd.func9, Tryd.ntmps9
  go_wp2_with fail
  clear hst
  go_loopw [6, 7] (fun lv iv wr => ∃ (k : Nat) (y : Option Addr) (n c : Nat) (ts : List Tk), k ≤ L ∧ lv = .slice y n c ∧ iv = .int .i64 k ∧ ts.length ≤ k ∧ OwnK tkEL wr w.heap.size (.slice y n c) ts ∧ Hid (∃ f, L + 1 ≤ f + k ∧ cutF l f k ts = RC) ∧ Below w.heap.size w wr) (fun _ iv _ => L - (intOf iv).toNat)
  case atStart => exact ⟨0, none, 0, 0, [], by omega, rfl, rfl, Nat.zero_le _, OwnK.nil _ _ _, H0, Below.refl _ _⟩
  case round =>
    clear H0
    obtain ⟨k, y, n0, c0, ts, hk, rfl, rfl, hts, hO, HI, hB⟩ := hrel
    obtain ⟨f, hf, hF⟩ := HI.out
    clear HI
    by_cases hlt : k < L
    · have q0 : (0 : Int) ≤ (k : Int) := by omega
      have q1 : (k : Int) < (L : Int) := by omega
      obtain ⟨f', rfl⟩ : ∃ f', f = f' + 1 := ⟨f - 1, by omega⟩
      rw [cutF_go l f' k ts (by omega)] at hF
      obtain ⟨b, hb⟩ : ∃ q, lB l k = q := ⟨_, rfl⟩
      have hbk : ∀ W, (sAt (.string s) (.int .i64 (k : Int))).run Tryd.prog W = .ok (.value (.int .u8 (b.toNat : Int))) W := fun W => by
        have := run_sAt W s k (by omega)
        rw [hls, hb] at this; exact this
      rw [hb] at hF
      have HG : Hid _ := hF
      have hone := fun W hW => first_any (s.extract k L) W hW (by rw [← lS_len, lS_cut, hls, List.length_take, List.length_drop]; omega) (by rw [← lS_len, lS_cut, hls, List.length_take, List.length_drop]; omega)
      simp only [lS_cut, hls] at hone
      clear hF hb
      have hib := fun W => isBlank_any b W
      by_cases he : blk b = true
      · have HN : Hid (∃ f, L + 1 ≤ f + (k + 1) ∧ cutF l f (k + 1) ts = RC) := by
          have h9 := HG.out
          rw [he, if_pos rfl] at h9
          exact ⟨f', by omega, h9⟩
        rw [he] at hib
        clear HG he hone
        go_wp2_with fail
        refine (hib _).mono ?_
        rintro e w' ⟨rfl, rfl⟩
        go_wp2
        go_roundw
        case rel => first | exact ⟨k + 1, _, _, _, ts, by omega, rfl, by go_num, by omega, hO, HN, hB⟩ | ((repeat apply Exists.intro); refine ⟨⟨k + 1, _, _, _, ts, by omega, rfl, ?_, by omega, hO, HN, hB⟩, rfl⟩; go_num)
        case measure => simp [intOf]; omega
      have hnb : blk b = false := by simpa using he
      have HG2 : Hid ((if (oneTk (l.drop k)).2 = 0 then (none, k) else cutF l f' (k + (oneTk (l.drop k)).2) (ts ++ [{ (oneTk (l.drop k)).1 with at_ := (k : Int) }])) = RC) := by
        have h9 := HG.out
        rw [hnb, if_neg (by simp)] at h9; exact h9
      rw [hnb] at hib
      clear he hnb HG
      have htk : (l.drop k).take (L - k) = l.drop k := List.take_of_length_le (by rw [List.length_drop]; omega)
      simp only [htk] at hone
      have hle := one_le (l.drop k) (by rw [List.length_drop]; omega)
      rw [List.length_drop, hL] at hle
      have hat := one_at (l.drop k)
      unfold FsP at hone
      obtain ⟨TN, hTN⟩ : ∃ q, oneTk (l.drop k) = q := ⟨_, rfl⟩
      rw [hTN] at HG2 hle hat
      simp only [hTN] at hone
      clear hTN htk
      obtain ⟨⟨tk1, tk2, tk3, tk4⟩, n⟩ := TN
      simp only at HG2 hle hat hone
      subst hat
      have hcut : ∀ W, (sCut1 (.string s) (.int .i64 (k : Int))).run Tryd.prog W = .ok (.value (.string (s.extract k L))) W := fun W => by
        have := run_sCut1 W s k (by omega)
        rw [hsz] at this; exact this
      generalize s.extract k L = SK at hone hcut
      go_wp2_with fail
      refine (hib _).mono ?_
      rintro e w' ⟨rfl, rfl⟩
      go_wp2_with fail
      refine (hone _ (hV.below hB)).mono ?_
      rintro e w1 ⟨⟨j1, j2, j3, S, rfl, hS⟩, hb9⟩
      have hO1 := hO.keep hb9
      have hVl : ∀ q, (Value.slice y n0 c0).ownBlock = some q → q < w1.heap.size := fun q hq => (World.ownsRow.lt hO1 q hq).2
      have hB1 := hB.trans (hb9.mono hB.size)
      have bA := below_alloc w1 (.cells (tkA j1 j2 j3 S) 31)
      have hO2 := hO1.keep bA
      have hB2 := hB1.trans (bA.mono hB1.size)
      have rA := RowC.new w1 (tkA j1 j2 j3 S) 31
      have hsto : (bigStore 31 (.pointer (some ⟨w1.heap.size, 0, none⟩)) (.agg (tkA j1 j2 j3 S))).run Tryd.prog (w1.alloc (.cells (tkA 0 0 0 ⟨#[]⟩) 31)) = .ok .skip (w1.alloc (.cells (tkA j1 j2 j3 S) 31)) := by
        rw [run_store_tl _ _ _ (rowL_new _ _ _ _ rfl) (by rw [rowAt_new _ _ _ _ rfl]; rfl) rfl (tkA_one _ _ _ _), setRow_new _ _ _ _ _ rfl]
      have hgl : w1.heap.size < (w1.alloc (.cells (tkA j1 j2 j3 S) 31)).heap.size := by simp
      clear hone hcut hO hB hb9 hbk hO1 bA hib
      go_upto_region 10 with fail
      obtain ⟨g, hg⟩ : ∃ q, w1.heap.size = q := ⟨_, rfl⟩
      have hgw : w.heap.size ≤ g := by have := hB1.size; omega
      have hgV : (Value.slice y n0 c0).ownBlock ≠ some g := fun e9 => by have := hVl g e9; omega
      rw [hg] at rA hgl
      simp only [hg]
      clear hg hB1 hsto
      generalize w1.alloc (.cells (tkA j1 j2 j3 S) 31) = W2 at hO2 hB2 rA hgl ⊢
      by_cases hn0 : n = 0
      · have z0 : ((n : Int) == 0) = true := beq_iff_eq.2 (by omega)
        have HP : Hid (AllP tkEL l w (.returned (.tuple #[.slice none 0 0, .int .i64 30, .int .i64 (k : Int)])) W2) := by
          have h9 := HG2.out
          rw [if_pos hn0] at h9
          obtain ⟨e1, e2, e3⟩ := HE.out
          refine ⟨⟨none, 0, 0, ?_, ?_⟩, hB2⟩
          · rw [e2, e3, ← h9]; rfl
          · rw [e1, ← h9]; exact OwnK.nil _ _ _
        clear HG2 hn0 hS
        go_wp2
        go_ret3
        exact HP.out
      · have z0 : ((n : Int) == 0) = false := beq_eq_false_iff_ne.2 (by omega)
        have HG3 : Hid (cutF l f' (k + n) (ts ++ [⟨tk1, (k : Int), tk3, tk4⟩]) = RC) := by
          have h9 := HG2.out
          rw [if_neg hn0] at h9; exact h9
        clear HG2
        obtain ⟨q1, q2, q3, hS4⟩ := hS hn0
        obtain rfl := q1.symm
        obtain rfl := q2.symm
        obtain rfl := q3.symm
        obtain rfl : S = ⟨tk4.toArray⟩ := lS_eq hS4
        clear hS hS4
        have c1 : W2.cell? ⟨g, 1, none⟩ = some (.int .i64 0) := by rw [rA.cell 1]; rfl
        have z1 := rA.frozen 1
        have rB : RowC (W2.setCell ⟨g, 1, none⟩ (.int .i64 (k : Int))) g (tkR ⟨tk1, (k : Int), tk3, tk4⟩) := rA.set 1 (.int .i64 (k : Int))
        have hO3 : OwnK tkEL (W2.setCell ⟨g, 1, none⟩ (.int .i64 (k : Int))) w.heap.size (.slice y n0 c0) ts := hO2.other14 (fun q hq => heap_setCell_ne _ _ _ _ _ (fun e9 => hgV (by rw [hq, e9])))
        have hB3 : Below w.heap.size w (W2.setCell ⟨g, 1, none⟩ (.int .i64 (k : Int))) := hB2.setCell (p := ⟨g, 1, none⟩) hgw _
        obtain ⟨W3, hW3⟩ : ∃ q, W2.setCell ⟨g, 1, none⟩ (.int .i64 (k : Int)) = q := ⟨_, rfl⟩
        rw [hW3] at rB hO3 hB3
        have HW3 : Hid _ := hW3
        obtain ⟨tx, htx⟩ : ∃ q, (⟨tk1, (k : Int), tk3, tk4⟩ : Tk) = q := ⟨_, rfl⟩
        rw [htx] at rB HG3
        have b4 := below_alloc W3 (.cells (tkR tx) 31)
        have hO4 := hO3.keep b4
        have hB4 := hB3.trans (b4.mono hB3.size)
        have hrg : (W3.alloc (.cells (tkR tx) 31)).rangeAt W3.heap.size 0 (tkEL.enc tx) := fun q u hu => by
          rw [Nat.zero_add, cell_of_row _ _ q _ _ _ (heap_alloc_last W3 _)]
          rw [tkEL_enc, Array.getElem?_toList] at hu; exact hu
        obtain ⟨g5, c5, w5, hr, hO5, -, hgr, -⟩ := run_app1K tkEL_ok _ w.heap.size W3.heap.size _ ts tx 26 hO4 hrg (by simp) (by show (ts.length + 1) * 40 ≤ _; omega) (by unfold maxLen; omega) (Nat.le_trans hB3.size b4.size)
        have hB5 := hB4.trans (below_grown14 hO4 hgr (Nat.le_trans hB3.size b4.size))
        have hT9 : tkEL.S = 26 := rfl
        rw [hT9] at hr
        have hkn : IntKind.i64.wrap ((k : Int) + (n : Int)) = (k : Int) + (n : Int) := by rw [IntKind.wrap_i64]; omega
        have HN : Hid (∃ f, L + 1 ≤ f + (k + n) ∧ cutF l f (k + n) (ts ++ [tx]) = RC) := ⟨f', by omega, HG3.out⟩
        obtain ⟨rB1, rB2⟩ := rB
        have rB3 : (rowAt W3 g).size = 4 := by rw [rB2]; rfl
        have HO5 : Hid _ := hO5
        have HL5 : Hid ((ts ++ [tx]).length ≤ k + n) := by show _ ≤ _; rw [List.length_append, List.length_singleton]; omega
        clear hW3 HG3 htx hO2 hO3 hO4 hB2 hB3 hB4 b4 hrg hgr rA hO5 hgV hVl hgl
        go_upto_region 13 with fail
        rw [HW3.out]
        clear HW3 c1 z1
        go_wp2_with (at_builtin; refine wpL_appG 26 rfl _ _ rfl _ w5 (by exact hr) ?_)
        go_roundw
        case rel => first | exact ⟨k + n, _, _, _, ts ++ [tx], by omega, rfl, by go_num, HL5.out, HO5.out, HN, hB5⟩ | ((repeat apply Exists.intro); refine ⟨⟨k + n, _, _, _, ts ++ [tx], by omega, rfl, ?_, HL5.out, HO5.out, HN, hB5⟩, rfl⟩; go_num)
        case measure => simp [intOf]; omega
    · obtain rfl : k = L := by omega
      have hlt' : ¬ (k : Int) < (k : Int) := by omega
      obtain ⟨f', rfl⟩ : ∃ f', f = f' + 1 := ⟨f - 1, by omega⟩
      rw [cutF, if_neg (by omega)] at hF
      have HP : Hid (AllP tkEL l w (.returned (.tuple #[.slice y n0 c0, .int .i64 0, .int .i64 0])) wr) := by
        obtain ⟨e1, e2, e3⟩ := HE.out
        refine ⟨⟨y, n0, c0, ?_, ?_⟩, hB⟩
        · rw [e2, e3, ← hF]; rfl
        · rw [e1, ← hF]; exact hO
      clear hF
      go_wp2
      go_ret3
      exact HP.out
theorem lexOk : LexOk := ⟨fun l x L c w hL _ _ hl hV => lexAll_any l x L c w hL hl hV, fun s w h => quote_any s w h⟩
end Go.Proofs.YtiokdcffpnjkcaaDoor
