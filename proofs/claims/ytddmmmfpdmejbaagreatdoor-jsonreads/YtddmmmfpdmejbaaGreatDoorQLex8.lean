import Derived.Test.YtddmmmfpdmejbaaGreatDoorQLex1
import Derived.Test.YtddmmmfpdmejbaaGreatDoorQRowg
namespace Go.Proofs.YtddmmmfpdmejbaaGreatDoor
open Go.RowKit

/-! assayref14.one -/
def tkA (k a n : Int) (S : ByteArray) : Array Value := #[.int .i64 k, .int .i64 a, .int .i64 n, .string S]
@[go_sem] theorem tkA_size (k a n : Int) (S : ByteArray) : (tkA k a n S).size = 4 := rfl
@[go_sem] theorem tk_one (k a n : Int) (S : ByteArray) : OneC #[.int .i64 k, .int .i64 a, .int .i64 n, .string S] = true := by simp [OneC, Value.oneCell']
section
variable (ρ : Operand → Value) (dst : Option Tmp) (ty : TypeId) (pos : String) (after : Array Edge) (guard : Option (Nat × Bool))
@[go_sem ↓] theorem execOp_store_tk (x y : Operand) : execOp ρ { dst, op := .store 123 x y, type := ty, pos, after, guard } = bigStore 123 (ρ x) (ρ y) := rfl
@[go_sem ↓] theorem execOp_alloc_tk : execOp ρ { dst, op := .alloc 123, type := ty, pos, after, guard } = bigAlloc 123 := rfl
end
theorem info_tk : (Tryz.prog.info? 123).map (fun i => (i.zero, i.size)) = some (some (.agg (tkA 0 0 0 ⟨#[]⟩)), 4) := by kernel_rfl
theorem sizeT_tk : (Tryz.prog.info? 123).map (·.size) = some 4 := (zero_of_info info_tk).2
@[go_sem] theorem run_store_tk (w : World) (g : Nat) (c : Array Value) (h : rowL w g = true) (hs : (rowAt w g).size = 4) (hc : c.size = 4) (h1 : OneC c = true) : (bigStore 123 (.pointer (some ⟨g, 0, none⟩)) (.agg c)).run Tryz.prog w = .ok .skip (w.setRow g c) := by
  rw [run_bigStore 123 4 sizeT_tk w g 0 c h hc (by omega) h1, layC_all _ _ (by omega)]
@[go_sem] theorem run_alloc_tk (w : World) : (bigAlloc 123).run Tryz.prog w = .ok (.value (.pointer (some ⟨w.heap.size, 0, none⟩))) (w.alloc (.cells (tkA 0 0 0 ⟨#[]⟩) 123)) := by
  simp only [bigAlloc, Instr.alloc, Sem.run_bind, (zero_of_info info_tk).1 w, Result.andThen_ok]
  rfl
/-- Two results: a token out of its variable, and a number. -/
theorem tk_bodyPost2 {fn : Func} {R : Ending → World → Prop} {a : Act} {w : World} (p q n : Nat) (c : Array Value) (hres : fn.results = #[.cell p 123, .tmp q]) (hp : a.tmps.getD p undef = .pointer (some ⟨n, 0, none⟩)) (hd : a.defers = [])
    (hok : RowC w n c) (hc : c.size = 4) (h : R (.returned (.tuple #[.agg c, a.tmps.getD q undef])) w) : bodyPost Tryz.prog fn R .ret a w := by
  obtain ⟨t, hg⟩ := row_of_L hok.1
  rw [hok.2] at hg
  have hp' : a.tmps[p]?.getD undef = .pointer (some ⟨n, 0, none⟩) := by simpa using hp
  have hl := run_loadVar_row (P := Tryz.prog) w n t 123 c (0, 0) _ hg Tryz.underlying123 rfl (by rw [sizeT_tk, hc])
  refine bodyPost_ret (v := .tuple #[.agg c, a.tmps.getD q undef]) ?_ hd h
  simp [results, hres, hp', asAddr, hl]
def OneP (r : Tk × Nat) (w : World) (e : Ending) (w' : World) : Prop := (∃ S, e = .returned (.tuple #[.agg (tkA r.1.kind 0 r.1.n S), .int .i64 ((r.2 : Nat) : Int)]) ∧ lS S = r.1.text) ∧ Below w.heap.size w w'
theorem wl_le : ∀ l, wl l ≤ l.length
  | [] => Nat.le_refl _
  | b :: l => by
    rw [wl]
    split
    · have := wl_le l; simp; omega
    · simp
theorem wl_step (l : List UInt8) (k : Nat) (h : k < l.length) : wl (l.drop k) = if inW (lB l k) = true then wl (l.drop (k + 1)) + 1 else 0 := by
  have e1 : l.drop k = lB l k :: l.drop (k + 1) := by
    rw [List.drop_eq_getElem_cons h]; unfold lB; rw [List.getElem?_eq_getElem h]; rfl
  rw [e1, wl]
theorem sgn_R (l : List UInt8) (i : Nat) (h : sgnAt (lB l 0) 6 0 = some i) : oneTk l = (⟨(i : Int) + 1, 0, 0, []⟩, 1) := by unfold oneTk; rw [h]
theorem sgn_no (l : List UInt8) (h : sgnAt (lB l 0) 6 0 = none) : oneTk l = if lB l 0 = 34 then (⟨11, 0, 0, (txt l l.length 1 []).1⟩, (txt l l.length 1 []).2) else wordTk (l.take (wl l)) (wl l) := by unfold oneTk; rw [h]
theorem below_row14 {B n : Nat} {w0 w : World} (hb : Below B w0 w) (h : B ≤ n) (c : Array Value) : Below B w0 (w.setRow n c) :=
  ⟨hb.os, hb.tape, hb.output, by have := hb.size; simp only [World.setRow]; simpa using this, fun k hk => by rw [setRow_other w n k c (by omega)]; exact hb.block k hk⟩
def wdL : Nat → List UInt8
  | 0 => wdNull
  | 1 => wdTrue
  | _ => wdFalse
def wS : Nat → ByteArray
  | 0 => ⟨#[110, 117, 108, 108]⟩
  | 1 => ⟨#[116, 114, 117, 101]⟩
  | _ => ⟨#[102, 97, 108, 115, 101]⟩
theorem lS_wS (i : Nat) : lS (wS i) = wdL i := by
  match i with
  | 0 => rfl
  | 1 => rfl
  | i + 2 => rfl
theorem wd_hit (x : List UInt8) (n i : Nat) (hi : i < 3) (h : x = wdL i) : wordTk x n = (⟨7 + (i : Int), 0, 0, []⟩, n) := by
  subst h
  rcases (by omega : i = 0 ∨ i = 1 ∨ i = 2) with rfl | rfl | rfl
  · rfl
  · unfold wordTk; rw [if_neg (by decide), if_pos (show wdL 1 = wdTrue from rfl)]; rfl
  · unfold wordTk; rw [if_neg (by decide), if_neg (by decide), if_pos (show wdL 2 = wdFalse from rfl)]; rfl
theorem wd_miss (x : List UInt8) (n : Nat) (h : ∀ j, j < 3 → x ≠ wdL j) : wordTk x n = if numW x < 0 then (tkZ, 0) else (⟨10, 0, numW x, []⟩, n) := by
  unfold wordTk
  rw [if_neg (show ¬ x = wdNull from h 0 (by omega)), if_neg (show ¬ x = wdTrue from h 1 (by omega)), if_neg (show ¬ x = wdFalse from h 2 (by omega))]
theorem wS_cells (i : Nat) (hi : i < 3) : (#[Value.string ⟨#[110, 117, 108, 108]⟩, Value.string ⟨#[116, 114, 117, 101]⟩, Value.string ⟨#[102, 97, 108, 115, 101]⟩] : Array Value)[i]? = some (.string (wS i)) := by
  rcases (by omega : i = 0 ∨ i = 1 ∨ i = 2) with rfl | rfl | rfl <;> rfl
theorem sEq14 {s t : ByteArray} (h : lS s = lS t) : (s.toList == t.toList) = true := by rw [lS_inj h]; simp
theorem sNe14 {s t : ByteArray} (h : lS s ≠ lS t) : (s.toList == t.toList) = false := beq_eq_false_iff_ne.2 fun e => h (by unfold lS; rw [← ByteArray.toList_eq, ← ByteArray.toList_eq]; exact e)
set_option linter.unusedSimpArgs false in
set_option maxRecDepth 100000 in
set_option maxHeartbeats 8000000 in
theorem refOne_any (s : ByteArray) (w : World) (h0 : 0 < s.size) (h47 : s.size ≤ 140737488355328) : Calls Tryz.prog 67 #[.string s] w fun e w' => OneP (oneTk (lS s)) w e w' := by
  have hls := lS_len s
  have hT := fun W => refText_any s W h47
  obtain ⟨l, hl⟩ : ∃ q, lS s = q := ⟨_, rfl⟩
  rw [hl] at hls ⊢
  simp only [hl] at hT
  obtain ⟨p, hp⟩ : ∃ q, s.size = q := ⟨_, rfl⟩
  rw [hp] at hls h47 h0
  have z0 : (0 : Int) < (p : Int) := by omega
  obtain ⟨b0, hb0⟩ : ∃ q, lB l 0 = q := ⟨_, rfl⟩
  have hat0 : ∀ W, (sAt (.string s) (.int .i64 0)).run Tryz.prog W = .ok (.value (.int .u8 (b0.toNat : Int))) W := fun W => by
    have := run_sAt W s 0 (by rw [hp]; omega)
    rw [hl, hb0] at this; exact this
  have S1 := sgn_R l
  have S2 := sgn_no l
  rw [hb0] at S1 S2
  obtain ⟨RT, hRT⟩ : ∃ q, oneTk l = q := ⟨_, rfl⟩
  rw [hRT] at S1 S2 ⊢
  clear hRT
  obtain ⟨SG, hSG⟩ : ∃ q, ByteArray.mk #[123, 125, 91, 93, 58, 44] = q := ⟨_, rfl⟩
  have zg : SG.size = 6 := by rw [← hSG]; rfl
  have HLG : Hid (lS SG = sgns) := by show _ = _; rw [← hSG]; rfl
  have HSG : Hid _ := hSG
  clear hSG
  obtain ⟨RQ, hRQ⟩ : ∃ q, sgnAt b0 6 0 = q := ⟨_, rfl⟩
  rw [hRQ] at S1 S2
  have HR0 : Hid (sgnAt b0 (6 - 0) 0 = RQ) := hRQ
  clear hRQ
  have HS1 : Hid _ := S1
  have HS2 : Hid _ := S2
  clear S1 S2
  have rX := RowC.new w (tkA 0 0 0 ⟨#[]⟩) 123
  have bX := below_alloc w (.cells (tkA 0 0 0 ⟨#[]⟩) 123)
  go_enter Tryz.func67, Tryz.ntmps67
  go_upto_region 2 with fail
  rw [HSG.out]
  clear HSG
  obtain ⟨g, hg⟩ : ∃ q, w.heap.size = q := ⟨_, rfl⟩
  rw [hg] at rX
  simp only [hg]
  have hgw : w.heap.size ≤ g := by omega
  have HGW : Hid (w.heap.size = g) := hg
  clear hg
  generalize w.alloc (.cells (tkA 0 0 0 ⟨#[]⟩) 123) = X at rX bX ⊢
  go_wp2_with fail
  go_loopw [5] (fun iv wr => ∃ k : Nat, k ≤ 6 ∧ iv = .int .i64 k ∧ Hid (sgnAt b0 (6 - k) k = RQ) ∧ RowC wr g (tkA 0 0 0 ⟨#[]⟩) ∧ Below w.heap.size w wr) (fun iv _ => 6 - (intOf iv).toNat)
  case atStart => exact ⟨0, by omega, rfl, HR0, rX, bX⟩
  case round =>
    clear HR0 rX bX
    obtain ⟨k, hk, rfl, HR, hC, hB⟩ := hrel
    by_cases hlt : k < 6
    · have i0 : (0 : Int) ≤ (k : Int) := by omega
      have i1 : (k : Int) < 6 := by omega
      obtain ⟨r, hr⟩ : ∃ q, lB sgns k = q := ⟨_, rfl⟩
      have hatk : ∀ W, (sAt (.string SG) (.int .i64 (k : Int))).run Tryz.prog W = .ok (.value (.int .u8 (r.toNat : Int))) W := fun W => by
        have := run_sAt W SG k (by omega)
        rw [HLG.out, hr] at this; exact this
      have HR2 : Hid ((if b0 = r then some k else sgnAt b0 (6 - (k + 1)) (k + 1)) = RQ) := by
        show _ = RQ
        rw [← HR.out, show 6 - k = (6 - (k + 1)) + 1 by omega, ← hr]; rfl
      clear HR hr
      by_cases he : b0 = r
      · have f0 : ((b0.toNat : Int) == (r.toNat : Int)) = true := by rw [he]; simp
        have HE : Hid (RT = (⟨(k : Int) + 1, 0, 0, []⟩, 1)) := by
          have h9 := HR2.out
          rw [if_pos he] at h9
          exact HS1.out k h9.symm
        clear HR2 he hT
        go_upto_region 5 with fail
        refine wp_relies [Fx (.string s), Fx (.int .u8 (b0.toNat : Int)), Fx (.string SG), Fx (.int .i64 (k : Int)), Fx (.int .u8 (r.toNat : Int)), Fx (.bool true)] (by kernel_rfl) (by kernel_rfl) ?_ ?_ ?_
        · repeat' (first | exact all_nil | apply all_cons)
          all_goals intro v y y' hv hb
          all_goals first | exact Fx_mono _ _ _ _ hv hb
        · refine ⟨?_, ?_, ?_, ?_, ?_, ?_, trivial⟩
          all_goals
            intro ρ y9 hp ρc ρg ρf ho hd
            have o0 : ρ (.tmp 0) = .string s := ho 0 rfl
            have o4 : ρ (.tmp 4) = .string SG := ho 4 rfl
            have o5 : ρ (.tmp 5) = .int .i64 (k : Int) := ho 5 rfl
            clear ho
            simp only [depsR, depR, slotR, Fx, List.getElem?_cons_succ, List.getElem?_cons_zero, Region.binds, forall_const] at hd
            simp only [guardR]
            go_split_ands
          · go_simp
          · have hq := hat0 y9
            go_simp
          · go_simp
          · go_simp
          · have hq := hatk y9
            go_simp
          · go_simp
        · intro vs X1 hp9 hw
          simp only [owed, Fx] at hw
          obtain ⟨e0, e1, e2, e3, e4, e5, -⟩ := hw
          simp only [List.length_cons, List.length_nil, List.take_succ_cons, List.take_nil, List.drop_succ_cons, List.drop_nil, asg, List.cons_append, List.nil_append, e0, e1, e2, e3, e4, e5]
          clear e0 e1 e2 e3 e4 e5
          clear hat0 hatk
          have hC1 := hC.kept hp9
          have hB1 := hB.trans (hp9.mono hB.size)
          obtain ⟨c1, c2⟩ := hC1
          have c3 : (rowAt X1 g).size = 4 := by rw [c2]; rfl
          have HC2 : Hid (RowC (X1.setRow g (tkA ((k : Int) + 1) 0 0 ⟨#[]⟩)) g (tkA ((k : Int) + 1) 0 0 ⟨#[]⟩)) := (RowC.setRow (c := tkA 0 0 0 ⟨#[]⟩) ⟨c1, c2⟩ _)
          have HB2 : Hid (Below w.heap.size w (X1.setRow g (tkA ((k : Int) + 1) 0 0 ⟨#[]⟩))) := below_row14 hB1 hgw _
          clear hp9 hC hB
          go_wp2
          exact tk_bodyPost2 2 3 g (tkA ((k : Int) + 1) 0 0 ⟨#[]⟩) rfl rfl rfl HC2.out rfl ⟨⟨⟨#[]⟩, by rw [HE.out]; rfl, by rw [HE.out]; rfl⟩, HB2.out⟩
      · have f0 : ((b0.toNat : Int) == (r.toNat : Int)) = false := beq_eq_false_iff_ne.2 (fun e => he (UInt8.toNat_inj.1 (by omega)))
        have HR3 : Hid (sgnAt b0 (6 - (k + 1)) (k + 1) = RQ) := by
          have h9 := HR2.out
          rw [if_neg he] at h9; exact h9
        clear HR2 he hT
        go_upto_region 5 with fail
        refine wp_relies [Fx (.string s), Fx (.int .u8 (b0.toNat : Int)), Fx (.string SG), Fx (.int .i64 (k : Int)), Fx (.int .u8 (r.toNat : Int)), Fx (.bool false)] (by kernel_rfl) (by kernel_rfl) ?_ ?_ ?_
        · repeat' (first | exact all_nil | apply all_cons)
          all_goals intro v y y' hv hb
          all_goals first | exact Fx_mono _ _ _ _ hv hb
        · refine ⟨?_, ?_, ?_, ?_, ?_, ?_, trivial⟩
          all_goals
            intro ρ y9 hp ρc ρg ρf ho hd
            have o0 : ρ (.tmp 0) = .string s := ho 0 rfl
            have o4 : ρ (.tmp 4) = .string SG := ho 4 rfl
            have o5 : ρ (.tmp 5) = .int .i64 (k : Int) := ho 5 rfl
            clear ho
            simp only [depsR, depR, slotR, Fx, List.getElem?_cons_succ, List.getElem?_cons_zero, Region.binds, forall_const] at hd
            simp only [guardR]
            go_split_ands
          · go_simp
          · have hq := hat0 y9
            go_simp
          · go_simp
          · go_simp
          · have hq := hatk y9
            go_simp
          · go_simp
        · intro vs X1 hp9 hw
          simp only [owed, Fx] at hw
          obtain ⟨e0, e1, e2, e3, e4, e5, -⟩ := hw
          simp only [List.length_cons, List.length_nil, List.take_succ_cons, List.take_nil, List.drop_succ_cons, List.drop_nil, asg, List.cons_append, List.nil_append, e0, e1, e2, e3, e4, e5]
          clear e0 e1 e2 e3 e4 e5
          clear hat0 hatk
          have HC1 : Hid _ := hC.kept hp9
          have HB1 : Hid _ := hB.trans (hp9.mono hB.size)
          clear hp9 hC hB
          go_wp2
          go_roundw
          case rel => first | exact ⟨k + 1, by omega, by go_num, HR3, HC1.out, HB1.out⟩ | ((repeat apply Exists.intro); refine ⟨⟨k + 1, by omega, ?_, HR3, HC1.out, HB1.out⟩, rfl⟩; go_num)
          case measure => simp [intOf]; omega
    · obtain rfl : k = 6 := by omega
      have H2 : Hid (RT = if b0 = 34 then (⟨11, 0, 0, (txt l l.length 1 []).1⟩, (txt l l.length 1 []).2) else wordTk (l.take (wl l)) (wl l)) := HS2.out HR.out.symm
      clear HR HS1 HS2 hlt
      by_cases h34 : b0 = 34
      · have f0 : ((b0.toNat : Int) == 34) = true := by rw [h34]; rfl
        have HE : Hid (RT = (⟨11, 0, 0, (txt l l.length 1 []).1⟩, (txt l l.length 1 []).2)) := by show _ = _; rw [H2.out, if_pos h34]
        clear H2 h34
        unfold TxP at hT
        generalize txt l l.length 1 [] = TX at hT HE
        obtain ⟨tx, n⟩ := TX
        simp only at hT HE
        go_wp2_with fail
        refine (hT _).mono ?_
        rintro e w1 ⟨⟨S, rfl, hS⟩, hb9⟩
        have hC1 := hC.kept hb9
        have hB1 := hB.trans (hb9.mono hB.size)
        obtain ⟨c1, c2⟩ := hC1
        have c3 : (rowAt w1 g).size = 4 := by rw [c2]; rfl
        have HC2 : Hid (RowC (w1.setRow g (tkA 11 0 0 S)) g (tkA 11 0 0 S)) := (RowC.setRow (c := tkA 0 0 0 ⟨#[]⟩) ⟨c1, c2⟩ _)
        have HB2 : Hid (Below w.heap.size w (w1.setRow g (tkA 11 0 0 S))) := below_row14 hB1 hgw _
        clear hT hb9 hC hB hat0
        go_wp2
        exact tk_bodyPost2 2 3 g (tkA 11 0 0 S) rfl rfl rfl HC2.out rfl ⟨⟨S, by rw [HE.out]; rfl, by rw [HE.out]; exact hS⟩, HB2.out⟩
      · have f0 : ((b0.toNat : Int) == 34) = false := beq_eq_false_iff_ne.2 (fun e => h34 (UInt8.toNat_inj.1 (by show b0.toNat = 34; omega)))
        have HE : Hid (RT = wordTk (l.take (wl l)) (wl l)) := by show _ = _; rw [H2.out, if_neg h34]
        clear H2 h34 hT
        go_wp2_with fail
        clear hat0
        go_loopw [8] (fun iv wr => ∃ k : Nat, k ≤ p ∧ iv = .int .i64 k ∧ Hid (wl l = k + wl (l.drop k)) ∧ RowC wr g (tkA 0 0 0 ⟨#[]⟩) ∧ Below w.heap.size w wr) (fun iv _ => p - (intOf iv).toNat)
        case atStart => exact ⟨0, by omega, rfl, by show wl l = 0 + wl (l.drop 0); simp, hC, hB⟩
        case round =>
          clear hC hB
          obtain ⟨k, hk, rfl, HW, hC, hB⟩ := hrel
          by_cases hlt : k < p
          · have i0 : (0 : Int) ≤ (k : Int) := by omega
            have i1 : (k : Int) < (p : Int) := by omega
            obtain ⟨b, hb⟩ : ∃ q, lB l k = q := ⟨_, rfl⟩
            have hbk : ∀ W, (sAt (.string s) (.int .i64 (k : Int))).run Tryz.prog W = .ok (.value (.int .u8 (b.toNat : Int))) W := fun W => by
              have := run_sAt W s k (by rw [hp]; omega)
              rw [hl, hb] at this; exact this
            have hI := refInW_any b
            have hst := wl_step l k (by omega)
            rw [hb] at hst
            obtain ⟨q, hq⟩ : ∃ q, inW b = q := ⟨_, rfl⟩
            rw [hq] at hst
            simp only [hq] at hI
            have HWS : Hid _ := hst
            clear hst hb hq
            go_wp2_with fail
            refine (hI _).mono ?_
            rintro e w1 ⟨rfl, hb9⟩
            have hC1 := hC.kept hb9
            have hB1 := hB.trans (hb9.mono hB.size)
            clear hI hbk hC hB hb9
            cases q
            · have hwl : wl l = k := by rw [HW.out, HWS.out]; rfl
              have hC := hC1
              have hB := hB1
              clear HW HWS hC1 hB1
              obtain ⟨WB, hWB⟩ : ∃ q, s.extract 0 k = q := ⟨_, rfl⟩
              have hlW : lS WB = l.take k := by rw [← hWB, lS_cut, hl, List.drop_zero, Nat.sub_zero]
              have hcW : ∀ W, (sCut0 (.string s) (.int .i64 (k : Int))).run Tryz.prog W = .ok (.value (.string WB)) W := fun W => by
                have := run_sCut0 W s k (by omega)
                rw [hWB] at this; exact this
              have hNum := fun W => refNum_any WB W (by rw [← lS_len, hlW, List.length_take]; omega)
              simp only [hlW] at hNum
              have HWT : Hid (RT = wordTk (l.take k) k) := by show _ = _; rw [HE.out, hwl]
              clear hWB hwl HE
              obtain ⟨x, hx⟩ : ∃ q, l.take k = q := ⟨_, rfl⟩
              rw [hx] at hlW HWT
              simp only [hx] at hNum
              clear hx
              have bY := below_alloc w1 (.cells #[Value.string ⟨#[110, 117, 108, 108]⟩, Value.string ⟨#[116, 114, 117, 101]⟩, Value.string ⟨#[102, 97, 108, 115, 101]⟩] 9)
              have hCY := hC.kept bY
              have hBY := hB.trans (bY.mono hB.size)
              have HCE : Hid (∀ i, i < 3 → (w1.alloc (.cells #[Value.string ⟨#[110, 117, 108, 108]⟩, Value.string ⟨#[116, 114, 117, 101]⟩, Value.string ⟨#[102, 97, 108, 115, 101]⟩] 9)).cell? ⟨w1.heap.size, i, none⟩ = some (.string (wS i))) := fun i hi => by
                rw [cell_of_row _ _ i _ _ _ (heap_alloc_last _ _)]; exact wS_cells i hi
              clear bY hC hB
              go_upto_region 14 with fail
              obtain ⟨gw, hgw9⟩ : ∃ q, w1.heap.size = q := ⟨_, rfl⟩
              rw [hgw9] at HCE
              simp only [hgw9]
              clear hgw9
              generalize w1.alloc (.cells #[Value.string ⟨#[110, 117, 108, 108]⟩, Value.string ⟨#[116, 114, 117, 101]⟩, Value.string ⟨#[102, 97, 108, 115, 101]⟩] 9) = Y at hCY hBY HCE ⊢
              go_wp2_with fail
              go_loopw [10] (fun iv wr => ∃ j : Nat, j ≤ 3 ∧ iv = .int .i64 j ∧ Hid (∀ m, m < j → x ≠ wdL m) ∧ RowC wr g (tkA 0 0 0 ⟨#[]⟩) ∧ Below Y.heap.size Y wr ∧ Below w.heap.size w wr) (fun iv _ => 3 - (intOf iv).toNat)
              case atStart => exact ⟨0, by omega, rfl, (fun m hm => absurd hm (by omega)), hCY, Below.refl _ _, hBY⟩
              case round =>
                clear hCY hBY
                obtain ⟨j, hj, rfl, HJ, hC, hYb, hB⟩ := hrel
                by_cases hjl : j < 3
                · have j0 : (0 : Int) ≤ (j : Int) := by omega
                  have j1 : (j : Int) < 3 := by omega
                  have hce := HCE.out j hjl
                  have hlj := lS_wS j
                  have HWN : Hid (∀ n, x = wdL j → wordTk x n = (⟨7 + (j : Int), 0, 0, []⟩, n)) := fun n h => wd_hit x n j hjl h
                  obtain ⟨WJ, hWJ⟩ : ∃ q, wS j = q := ⟨_, rfl⟩
                  rw [hWJ] at hce hlj
                  clear hWJ
                  by_cases he : x = wdL j
                  · have f9 : (WB.toList == WJ.toList) = true := sEq14 (by rw [hlW, hlj]; exact he)
                    have HR : Hid (RT = (⟨7 + (j : Int), 0, 0, []⟩, k)) := by show _ = _; rw [HWT.out]; exact HWN.out k he
                    clear HWN HJ he hNum hlW hlj
                    go_upto_region 17 with fail
                    refine wp_relies [Fx (.string s), Fx (.int .i64 (k : Int)), Fx (.string WB), Fx (.slice (some ⟨gw, 0, none⟩) 3 3), Fx (.int .i64 (j : Int)), Fx (.pointer (some ⟨gw, j, none⟩)), Fx (.string WJ), Fx (.bool true)] (by kernel_rfl) (by kernel_rfl) ?_ ?_ ?_
                    · repeat' (first | exact all_nil | apply all_cons)
                      all_goals intro v y y' hv hb
                      all_goals first | exact Fx_mono _ _ _ _ hv hb
                    · refine ⟨?_, ?_, ?_, ?_, ?_, ?_, ?_, ?_, trivial⟩
                      all_goals
                        intro ρ y9 hp ρc ρg ρf ho hd
                        have o0 : ρ (.tmp 0) = .string s := ho 0 rfl
                        have o8 : ρ (.tmp 8) = .int .i64 (k : Int) := ho 8 rfl
                        have o9 : ρ (.tmp 9) = .slice (some ⟨gw, 0, none⟩) 3 3 := ho 9 rfl
                        have o10 : ρ (.tmp 10) = .int .i64 (j : Int) := ho 10 rfl
                        clear ho
                        simp only [depsR, depR, slotR, Fx, List.getElem?_cons_succ, List.getElem?_cons_zero, Region.binds, forall_const] at hd
                        simp only [guardR]
                        go_split_ands
                      · go_simp
                      · go_simp
                      · have hq := hcW y9
                        go_simp
                      · go_simp
                      · go_simp
                      · go_simp
                      · have kc := cell_later (hYb.trans (hp.mono hYb.size)) hce
                        go_simp
                      · go_simp
                    · intro vs X1 hp9 hw
                      simp only [owed, Fx] at hw
                      obtain ⟨e0, e1, e2, e3, e4, e5, e6, e7, -⟩ := hw
                      simp only [List.length_cons, List.length_nil, List.take_succ_cons, List.take_nil, List.drop_succ_cons, List.drop_nil, asg, List.cons_append, List.nil_append, e0, e1, e2, e3, e4, e5, e6, e7]
                      clear e0 e1 e2 e3 e4 e5 e6 e7
                      have hC1 := hC.kept hp9
                      have hB1 := hB.trans (hp9.mono hB.size)
                      obtain ⟨c1, c2⟩ := hC1
                      have HC2 : Hid (RowC (X1.setRow g (tkA (7 + (j : Int)) 0 0 ⟨#[]⟩)) g (tkA (7 + (j : Int)) 0 0 ⟨#[]⟩)) := (RowC.setRow (c := tkA 0 0 0 ⟨#[]⟩) ⟨c1, c2⟩ _)
                      have HB2 : Hid (Below w.heap.size w (X1.setRow g (tkA (7 + (j : Int)) 0 0 ⟨#[]⟩))) := below_row14 hB1 hgw _
                      clear hp9 hC hB hYb hcW hce f9
                      go_wp2
                      exact tk_bodyPost2 2 3 g (tkA (7 + (j : Int)) 0 0 ⟨#[]⟩) rfl rfl rfl HC2.out rfl ⟨⟨⟨#[]⟩, by rw [HR.out]; rfl, by rw [HR.out]; rfl⟩, HB2.out⟩
                  · have f9 : (WB.toList == WJ.toList) = false := sNe14 (by rw [hlW, hlj]; exact he)
                    have HJ2 : Hid (∀ m, m < j + 1 → x ≠ wdL m) := fun m hm => by
                      rcases Nat.lt_or_ge m j with h | h
                      · exact HJ.out m h
                      · obtain rfl : m = j := by omega
                        exact he
                    clear HWN HJ he hNum hlW hlj
                    go_upto_region 17 with fail
                    refine wp_relies [Fx (.string s), Fx (.int .i64 (k : Int)), Fx (.string WB), Fx (.slice (some ⟨gw, 0, none⟩) 3 3), Fx (.int .i64 (j : Int)), Fx (.pointer (some ⟨gw, j, none⟩)), Fx (.string WJ), Fx (.bool false)] (by kernel_rfl) (by kernel_rfl) ?_ ?_ ?_
                    · repeat' (first | exact all_nil | apply all_cons)
                      all_goals intro v y y' hv hb
                      all_goals first | exact Fx_mono _ _ _ _ hv hb
                    · refine ⟨?_, ?_, ?_, ?_, ?_, ?_, ?_, ?_, trivial⟩
                      all_goals
                        intro ρ y9 hp ρc ρg ρf ho hd
                        have o0 : ρ (.tmp 0) = .string s := ho 0 rfl
                        have o8 : ρ (.tmp 8) = .int .i64 (k : Int) := ho 8 rfl
                        have o9 : ρ (.tmp 9) = .slice (some ⟨gw, 0, none⟩) 3 3 := ho 9 rfl
                        have o10 : ρ (.tmp 10) = .int .i64 (j : Int) := ho 10 rfl
                        clear ho
                        simp only [depsR, depR, slotR, Fx, List.getElem?_cons_succ, List.getElem?_cons_zero, Region.binds, forall_const] at hd
                        simp only [guardR]
                        go_split_ands
                      · go_simp
                      · go_simp
                      · have hq := hcW y9
                        go_simp
                      · go_simp
                      · go_simp
                      · go_simp
                      · have kc := cell_later (hYb.trans (hp.mono hYb.size)) hce
                        go_simp
                      · go_simp
                    · intro vs X1 hp9 hw
                      simp only [owed, Fx] at hw
                      obtain ⟨e0, e1, e2, e3, e4, e5, e6, e7, -⟩ := hw
                      simp only [List.length_cons, List.length_nil, List.take_succ_cons, List.take_nil, List.drop_succ_cons, List.drop_nil, asg, List.cons_append, List.nil_append, e0, e1, e2, e3, e4, e5, e6, e7]
                      clear e0 e1 e2 e3 e4 e5 e6 e7
                      have HC1 : Hid _ := hC.kept hp9
                      have HY1 : Hid _ := hYb.trans (hp9.mono hYb.size)
                      have HB1 : Hid _ := hB.trans (hp9.mono hB.size)
                      clear hp9 hC hB hYb hcW hce f9
                      go_wp2
                      go_roundw
                      case rel => first | exact ⟨j + 1, by omega, by go_num, HJ2, HC1.out, HY1.out, HB1.out⟩ | ((repeat apply Exists.intro); refine ⟨⟨j + 1, by omega, ?_, HJ2, HC1.out, HY1.out, HB1.out⟩, rfl⟩; go_num)
                      case measure => simp [intOf]; omega
                · obtain rfl : j = 3 := by omega
                  have HR : Hid (RT = if numW x < 0 then (tkZ, 0) else (⟨10, 0, numW x, []⟩, k)) := by show _ = _; rw [HWT.out]; exact wd_miss x k HJ.out
                  obtain ⟨v, hv⟩ : ∃ q, numW x = q := ⟨_, rfl⟩
                  rw [hv] at HR
                  simp only [hv] at hNum
                  clear HJ HCE hv hYb hlW
                  go_wp2_with fail
                  refine (hNum _).mono ?_
                  rintro e w9 ⟨rfl, hb9⟩
                  have hC1 := hC.kept hb9
                  have hB1 := hB.trans (hb9.mono hB.size)
                  obtain ⟨c1, c2⟩ := hC1
                  clear hNum hb9 hC hB hcW
                  by_cases hneg : v < 0
                  · have HR2 : Hid (RT = (tkZ, 0)) := by show _ = _; rw [HR.out, if_pos hneg]
                    have HC2 : Hid (RowC (w9.setRow g (tkA 0 0 0 ⟨#[]⟩)) g (tkA 0 0 0 ⟨#[]⟩)) := (RowC.setRow (c := tkA 0 0 0 ⟨#[]⟩) ⟨c1, c2⟩ _)
                    have HB2 : Hid (Below w.heap.size w (w9.setRow g (tkA 0 0 0 ⟨#[]⟩))) := below_row14 hB1 hgw _
                    clear HR
                    go_wp2
                    exact tk_bodyPost2 2 3 g (tkA 0 0 0 ⟨#[]⟩) rfl rfl rfl HC2.out rfl ⟨⟨⟨#[]⟩, by rw [HR2.out]; rfl, by rw [HR2.out]; rfl⟩, HB2.out⟩
                  · have HR2 : Hid (RT = (⟨10, 0, v, []⟩, k)) := by show _ = _; rw [HR.out, if_neg hneg]
                    have HC2 : Hid (RowC (w9.setRow g (tkA 10 0 v ⟨#[]⟩)) g (tkA 10 0 v ⟨#[]⟩)) := (RowC.setRow (c := tkA 0 0 0 ⟨#[]⟩) ⟨c1, c2⟩ _)
                    have HB2 : Hid (Below w.heap.size w (w9.setRow g (tkA 10 0 v ⟨#[]⟩))) := below_row14 hB1 hgw _
                    clear HR
                    go_wp2
                    exact tk_bodyPost2 2 3 g (tkA 10 0 v ⟨#[]⟩) rfl rfl rfl HC2.out rfl ⟨⟨⟨#[]⟩, by rw [HR2.out]; rfl, by rw [HR2.out]; rfl⟩, HB2.out⟩
            · have HW2 : Hid (wl l = (k + 1) + wl (l.drop (k + 1))) := by
                have h8 := HWS.out
                rw [if_pos rfl] at h8
                show _ = _
                rw [HW.out, h8]; omega
              clear HW HWS
              go_wp2
              go_roundw
              case rel => first | exact ⟨k + 1, by omega, by go_num, HW2, hC1, hB1⟩ | ((repeat apply Exists.intro); refine ⟨⟨k + 1, by omega, ?_, HW2, hC1, hB1⟩, rfl⟩; go_num)
              case measure => simp [intOf]; omega
          · obtain rfl : k = p := by omega
            have hlt' : ¬ (k : Int) < (k : Int) := by omega
            have hwl : wl l = k := by rw [HW.out, List.drop_of_length_le (by omega)]; rfl
            clear HW
            obtain ⟨WB, hWB⟩ : ∃ q, s.extract 0 k = q := ⟨_, rfl⟩
            have hlW : lS WB = l.take k := by rw [← hWB, lS_cut, hl, List.drop_zero, Nat.sub_zero]
            have hcW : ∀ W, (sCut0 (.string s) (.int .i64 (k : Int))).run Tryz.prog W = .ok (.value (.string WB)) W := fun W => by
              have := run_sCut0 W s k (by omega)
              rw [hWB] at this; exact this
            have hNum := fun W => refNum_any WB W (by rw [← lS_len, hlW, List.length_take]; omega)
            simp only [hlW] at hNum
            have HWT : Hid (RT = wordTk (l.take k) k) := by show _ = _; rw [HE.out, hwl]
            clear hWB hwl HE
            obtain ⟨x, hx⟩ : ∃ q, l.take k = q := ⟨_, rfl⟩
            rw [hx] at hlW HWT
            simp only [hx] at hNum
            clear hx
            have bY := below_alloc wr (.cells #[Value.string ⟨#[110, 117, 108, 108]⟩, Value.string ⟨#[116, 114, 117, 101]⟩, Value.string ⟨#[102, 97, 108, 115, 101]⟩] 9)
            have hCY := hC.kept bY
            have hBY := hB.trans (bY.mono hB.size)
            have HCE : Hid (∀ i, i < 3 → (wr.alloc (.cells #[Value.string ⟨#[110, 117, 108, 108]⟩, Value.string ⟨#[116, 114, 117, 101]⟩, Value.string ⟨#[102, 97, 108, 115, 101]⟩] 9)).cell? ⟨wr.heap.size, i, none⟩ = some (.string (wS i))) := fun i hi => by
              rw [cell_of_row _ _ i _ _ _ (heap_alloc_last _ _)]; exact wS_cells i hi
            clear bY hC hB
            go_upto_region 14 with fail
            obtain ⟨gw, hgw9⟩ : ∃ q, wr.heap.size = q := ⟨_, rfl⟩
            rw [hgw9] at HCE
            simp only [hgw9]
            clear hgw9
            generalize wr.alloc (.cells #[Value.string ⟨#[110, 117, 108, 108]⟩, Value.string ⟨#[116, 114, 117, 101]⟩, Value.string ⟨#[102, 97, 108, 115, 101]⟩] 9) = Y at hCY hBY HCE ⊢
            go_wp2_with fail
            go_loopw [10] (fun iv wr => ∃ j : Nat, j ≤ 3 ∧ iv = .int .i64 j ∧ Hid (∀ m, m < j → x ≠ wdL m) ∧ RowC wr g (tkA 0 0 0 ⟨#[]⟩) ∧ Below Y.heap.size Y wr ∧ Below w.heap.size w wr) (fun iv _ => 3 - (intOf iv).toNat)
            case atStart => exact ⟨0, by omega, rfl, (fun m hm => absurd hm (by omega)), hCY, Below.refl _ _, hBY⟩
            case round =>
              clear hCY hBY
              obtain ⟨j, hj, rfl, HJ, hC, hYb, hB⟩ := hrel
              by_cases hjl : j < 3
              · have j0 : (0 : Int) ≤ (j : Int) := by omega
                have j1 : (j : Int) < 3 := by omega
                have hce := HCE.out j hjl
                have hlj := lS_wS j
                have HWN : Hid (∀ n, x = wdL j → wordTk x n = (⟨7 + (j : Int), 0, 0, []⟩, n)) := fun n h => wd_hit x n j hjl h
                obtain ⟨WJ, hWJ⟩ : ∃ q, wS j = q := ⟨_, rfl⟩
                rw [hWJ] at hce hlj
                clear hWJ
                by_cases he : x = wdL j
                · have f9 : (WB.toList == WJ.toList) = true := sEq14 (by rw [hlW, hlj]; exact he)
                  have HR : Hid (RT = (⟨7 + (j : Int), 0, 0, []⟩, k)) := by show _ = _; rw [HWT.out]; exact HWN.out k he
                  clear HWN HJ he hNum hlW hlj
                  go_upto_region 17 with fail
                  refine wp_relies [Fx (.string s), Fx (.int .i64 (k : Int)), Fx (.string WB), Fx (.slice (some ⟨gw, 0, none⟩) 3 3), Fx (.int .i64 (j : Int)), Fx (.pointer (some ⟨gw, j, none⟩)), Fx (.string WJ), Fx (.bool true)] (by kernel_rfl) (by kernel_rfl) ?_ ?_ ?_
                  · repeat' (first | exact all_nil | apply all_cons)
                    all_goals intro v y y' hv hb
                    all_goals first | exact Fx_mono _ _ _ _ hv hb
                  · refine ⟨?_, ?_, ?_, ?_, ?_, ?_, ?_, ?_, trivial⟩
                    all_goals
                      intro ρ y9 hp ρc ρg ρf ho hd
                      have o0 : ρ (.tmp 0) = .string s := ho 0 rfl
                      have o8 : ρ (.tmp 8) = .int .i64 (k : Int) := ho 8 rfl
                      have o9 : ρ (.tmp 9) = .slice (some ⟨gw, 0, none⟩) 3 3 := ho 9 rfl
                      have o10 : ρ (.tmp 10) = .int .i64 (j : Int) := ho 10 rfl
                      clear ho
                      simp only [depsR, depR, slotR, Fx, List.getElem?_cons_succ, List.getElem?_cons_zero, Region.binds, forall_const] at hd
                      simp only [guardR]
                      go_split_ands
                    · go_simp
                    · go_simp
                    · have hq := hcW y9
                      go_simp
                    · go_simp
                    · go_simp
                    · go_simp
                    · have kc := cell_later (hYb.trans (hp.mono hYb.size)) hce
                      go_simp
                    · go_simp
                  · intro vs X1 hp9 hw
                    simp only [owed, Fx] at hw
                    obtain ⟨e0, e1, e2, e3, e4, e5, e6, e7, -⟩ := hw
                    simp only [List.length_cons, List.length_nil, List.take_succ_cons, List.take_nil, List.drop_succ_cons, List.drop_nil, asg, List.cons_append, List.nil_append, e0, e1, e2, e3, e4, e5, e6, e7]
                    clear e0 e1 e2 e3 e4 e5 e6 e7
                    have hC1 := hC.kept hp9
                    have hB1 := hB.trans (hp9.mono hB.size)
                    obtain ⟨c1, c2⟩ := hC1
                    have HC2 : Hid (RowC (X1.setRow g (tkA (7 + (j : Int)) 0 0 ⟨#[]⟩)) g (tkA (7 + (j : Int)) 0 0 ⟨#[]⟩)) := (RowC.setRow (c := tkA 0 0 0 ⟨#[]⟩) ⟨c1, c2⟩ _)
                    have HB2 : Hid (Below w.heap.size w (X1.setRow g (tkA (7 + (j : Int)) 0 0 ⟨#[]⟩))) := below_row14 hB1 hgw _
                    clear hp9 hC hB hYb hcW hce f9
                    go_wp2
                    exact tk_bodyPost2 2 3 g (tkA (7 + (j : Int)) 0 0 ⟨#[]⟩) rfl rfl rfl HC2.out rfl ⟨⟨⟨#[]⟩, by rw [HR.out]; rfl, by rw [HR.out]; rfl⟩, HB2.out⟩
                · have f9 : (WB.toList == WJ.toList) = false := sNe14 (by rw [hlW, hlj]; exact he)
                  have HJ2 : Hid (∀ m, m < j + 1 → x ≠ wdL m) := fun m hm => by
                    rcases Nat.lt_or_ge m j with h | h
                    · exact HJ.out m h
                    · obtain rfl : m = j := by omega
                      exact he
                  clear HWN HJ he hNum hlW hlj
                  go_upto_region 17 with fail
                  refine wp_relies [Fx (.string s), Fx (.int .i64 (k : Int)), Fx (.string WB), Fx (.slice (some ⟨gw, 0, none⟩) 3 3), Fx (.int .i64 (j : Int)), Fx (.pointer (some ⟨gw, j, none⟩)), Fx (.string WJ), Fx (.bool false)] (by kernel_rfl) (by kernel_rfl) ?_ ?_ ?_
                  · repeat' (first | exact all_nil | apply all_cons)
                    all_goals intro v y y' hv hb
                    all_goals first | exact Fx_mono _ _ _ _ hv hb
                  · refine ⟨?_, ?_, ?_, ?_, ?_, ?_, ?_, ?_, trivial⟩
                    all_goals
                      intro ρ y9 hp ρc ρg ρf ho hd
                      have o0 : ρ (.tmp 0) = .string s := ho 0 rfl
                      have o8 : ρ (.tmp 8) = .int .i64 (k : Int) := ho 8 rfl
                      have o9 : ρ (.tmp 9) = .slice (some ⟨gw, 0, none⟩) 3 3 := ho 9 rfl
                      have o10 : ρ (.tmp 10) = .int .i64 (j : Int) := ho 10 rfl
                      clear ho
                      simp only [depsR, depR, slotR, Fx, List.getElem?_cons_succ, List.getElem?_cons_zero, Region.binds, forall_const] at hd
                      simp only [guardR]
                      go_split_ands
                    · go_simp
                    · go_simp
                    · have hq := hcW y9
                      go_simp
                    · go_simp
                    · go_simp
                    · go_simp
                    · have kc := cell_later (hYb.trans (hp.mono hYb.size)) hce
                      go_simp
                    · go_simp
                  · intro vs X1 hp9 hw
                    simp only [owed, Fx] at hw
                    obtain ⟨e0, e1, e2, e3, e4, e5, e6, e7, -⟩ := hw
                    simp only [List.length_cons, List.length_nil, List.take_succ_cons, List.take_nil, List.drop_succ_cons, List.drop_nil, asg, List.cons_append, List.nil_append, e0, e1, e2, e3, e4, e5, e6, e7]
                    clear e0 e1 e2 e3 e4 e5 e6 e7
                    have HC1 : Hid _ := hC.kept hp9
                    have HY1 : Hid _ := hYb.trans (hp9.mono hYb.size)
                    have HB1 : Hid _ := hB.trans (hp9.mono hB.size)
                    clear hp9 hC hB hYb hcW hce f9
                    go_wp2
                    go_roundw
                    case rel => first | exact ⟨j + 1, by omega, by go_num, HJ2, HC1.out, HY1.out, HB1.out⟩ | ((repeat apply Exists.intro); refine ⟨⟨j + 1, by omega, ?_, HJ2, HC1.out, HY1.out, HB1.out⟩, rfl⟩; go_num)
                    case measure => simp [intOf]; omega
              · obtain rfl : j = 3 := by omega
                have HR : Hid (RT = if numW x < 0 then (tkZ, 0) else (⟨10, 0, numW x, []⟩, k)) := by show _ = _; rw [HWT.out]; exact wd_miss x k HJ.out
                obtain ⟨v, hv⟩ : ∃ q, numW x = q := ⟨_, rfl⟩
                rw [hv] at HR
                simp only [hv] at hNum
                clear HJ HCE hv hYb hlW
                go_wp2_with fail
                refine (hNum _).mono ?_
                rintro e w9 ⟨rfl, hb9⟩
                have hC1 := hC.kept hb9
                have hB1 := hB.trans (hb9.mono hB.size)
                obtain ⟨c1, c2⟩ := hC1
                clear hNum hb9 hC hB hcW
                by_cases hneg : v < 0
                · have HR2 : Hid (RT = (tkZ, 0)) := by show _ = _; rw [HR.out, if_pos hneg]
                  have HC2 : Hid (RowC (w9.setRow g (tkA 0 0 0 ⟨#[]⟩)) g (tkA 0 0 0 ⟨#[]⟩)) := (RowC.setRow (c := tkA 0 0 0 ⟨#[]⟩) ⟨c1, c2⟩ _)
                  have HB2 : Hid (Below w.heap.size w (w9.setRow g (tkA 0 0 0 ⟨#[]⟩))) := below_row14 hB1 hgw _
                  clear HR
                  go_wp2
                  exact tk_bodyPost2 2 3 g (tkA 0 0 0 ⟨#[]⟩) rfl rfl rfl HC2.out rfl ⟨⟨⟨#[]⟩, by rw [HR2.out]; rfl, by rw [HR2.out]; rfl⟩, HB2.out⟩
                · have HR2 : Hid (RT = (⟨10, 0, v, []⟩, k)) := by show _ = _; rw [HR.out, if_neg hneg]
                  have HC2 : Hid (RowC (w9.setRow g (tkA 10 0 v ⟨#[]⟩)) g (tkA 10 0 v ⟨#[]⟩)) := (RowC.setRow (c := tkA 0 0 0 ⟨#[]⟩) ⟨c1, c2⟩ _)
                  have HB2 : Hid (Below w.heap.size w (w9.setRow g (tkA 10 0 v ⟨#[]⟩))) := below_row14 hB1 hgw _
                  clear HR
                  go_wp2
                  exact tk_bodyPost2 2 3 g (tkA 10 0 v ⟨#[]⟩) rfl rfl rfl HC2.out rfl ⟨⟨⟨#[]⟩, by rw [HR2.out]; rfl, by rw [HR2.out]; rfl⟩, HB2.out⟩
end Go.Proofs.YtddmmmfpdmejbaaGreatDoor
