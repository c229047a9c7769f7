import Derived.Test.YtpckdkgbeemalaaQJou1
import Derived.Test.YtpckdkgbeemalaaQKbt
import Derived.Test.YtpckdkgbeemalaaQRowg
namespace Go.Proofs.Ytpckdkgbeemalaa
open Go.RowKit

/-! assaylaw10's Disk, and its sectors -/
def dkA (N : Int) (xb : Option Addr) (nb cb : Nat) (M : Int) (xw : Option Addr) (nw cw : Nat) : Array Value := #[.int .i64 N, .slice xb nb cb, .int .i64 M, .slice xw nw cw]
@[go_sem] theorem dkA_size (N : Int) (xb : Option Addr) (nb cb : Nat) (M : Int) (xw : Option Addr) (nw cw : Nat) : (dkA N xb nb cb M xw nw cw).size = 4 := rfl
@[go_sem] theorem dkA_one (N : Int) (xb : Option Addr) (nb cb : Nat) (M : Int) (xw : Option Addr) (nw cw : Nat) : OneC (dkA N xb nb cb M xw nw cw) = true := by simp [OneC, dkA, Value.oneCell']
section
variable (ρ : Operand → Value) (dst : Option Tmp) (ty : TypeId) (pos : String) (after : Array Edge) (guard : Option (Nat × Bool))
@[go_sem ↓] theorem execOp_load_dk (x : Operand) : execOp ρ { dst, op := .load 25 x, type := ty, pos, after, guard } = bigLoad 25 (ρ x) := rfl
@[go_sem ↓] theorem execOp_store_dk (x y : Operand) : execOp ρ { dst, op := .store 25 x y, type := ty, pos, after, guard } = bigStore 25 (ρ x) (ρ y) := rfl
@[go_sem ↓] theorem execOp_alloc_dk : execOp ρ { dst, op := .alloc 25, type := ty, pos, after, guard } = bigAlloc 25 := rfl
@[go_sem ↓] theorem execOp_box_dk (x : Operand) : execOp ρ { dst, op := .box 25 x, type := ty, pos, after, guard } = bigBox 25 (ρ x) := rfl
end
theorem info_dk : (Try.prog.info? 25).map (fun i => (i.zero, i.size)) = some (some (.agg (dkA 0 none 0 0 0 none 0 0)), 4) := by kernel_rfl
theorem sizeT_dk : (Try.prog.info? 25).map (·.size) = some 4 := (zero_of_info info_dk).2
@[go_sem] theorem run_load_dk (w : World) (g : Nat) (h : rowL w g = true) (hs : (rowAt w g).size = 4) : (bigLoad 25 (.pointer (some ⟨g, 0, none⟩))).run Try.prog w = .ok (.value (.agg (rowAt w g))) w := by
  rw [run_bigLoad 25 _ 4 Try.underlying25 rfl sizeT_dk w g 0 h (by omega), Nat.zero_add, Array.extract_eq_self_of_le (by omega)]
@[go_sem] theorem run_store_dk (w : World) (g : Nat) (c : Array Value) (h : rowL w g = true) (hs : (rowAt w g).size = 4) (hc : c.size = 4) (h1 : OneC c = true) : (bigStore 25 (.pointer (some ⟨g, 0, none⟩)) (.agg c)).run Try.prog w = .ok .skip (w.setRow g c) := by
  rw [run_bigStore 25 4 sizeT_dk w g 0 c h hc (by omega) h1, layC_all _ _ (by omega)]
@[go_sem] theorem run_alloc_dk (w : World) : (bigAlloc 25).run Try.prog w = .ok (.value (.pointer (some ⟨w.heap.size, 0, none⟩))) (w.alloc (.cells (dkA 0 none 0 0 0 none 0 0) 25)) := by
  simp only [bigAlloc, Instr.alloc, Sem.run_bind, (zero_of_info info_dk).1 w, Result.andThen_ok]
  rfl
@[go_sem] theorem run_box_dk (w : World) (c : Array Value) : (bigBox 25 (.agg c)).run Try.prog w = .ok (.value (.pointer (some ⟨w.heap.size, 0, none⟩))) (w.alloc (.cells c 25)) := run_bigBox _ c w
theorem secE_set10 (x : Sc) (j : Nat) (b : UInt8) (hj : j < 64) : (secE.enc x).set j (.int .u8 (b.toNat : Int)) = secE.enc (upd x j b) := by
  rw [secE_enc, secE_enc, ← secA_set x j b hj, Array.toList_setIfInBounds]
theorem sec_cell10 {w : World} {b o : Nat} {x : Sc} (h : w.rangeAt b o (secE.enc x)) (j : Nat) (hj : j < 64) : w.cell? ⟨b, o + j, none⟩ = some (.int .u8 ((x j).toNat : Int)) := by
  rw [secE_enc] at h
  exact h j _ (by rw [Array.getElem?_toList]; exact secA_get x j hj)
theorem below_grow10 {g : Nat} {w0 w w' : World} (hb : Below w0.heap.size w0 w) (hg : w.grownBy w' (some g)) (h : w0.heap.size ≤ g) : Below w0.heap.size w0 w' :=
  hb.trans ⟨hg.os, hg.tape, hg.output, hg.size, fun k hk => hg.block k (Nat.lt_of_lt_of_le hk hb.size) (fun e => by cases e; omega)⟩
/-- A slot of the frame, said otherwise. -/
theorem wp_slot10 {c : Code} {Q : Exit → Act → World → Prop} {a : Act} {w : World} (k : Nat) (v : Value) (h : a.tmps[k]? = some v) (hw : c.wp Try.prog Q { tmps := a.tmps.setIfInBounds k v, defers := a.defers } w) : c.wp Try.prog Q a w := by
  have e : a.tmps.setIfInBounds k v = a.tmps := by
    apply Array.ext_getElem?
    intro i
    rw [Array.getElem?_setIfInBounds]
    by_cases hi : k = i
    · subst hi
      rw [if_pos rfl, if_pos (Array.getElem?_eq_some_iff.1 h).1, h]
    · rw [if_neg hi]
  rw [e] at hw
  exact hw
/-- The sectors of a disk. -/
def dskN (N : Int) : Nat := if 64 < N ∧ N < 81 then N.toNat else 64
def layB (lb : List UInt8) (m : Nat) : Nat → List Sc
  | 0 => List.replicate m secZ
  | k + 1 => (layB lb m k).set (k / 64) (upd ((layB lb m k).getD (k / 64) secZ) (k % 64) (lb.getD k 0))
@[simp] theorem layB_len (lb : List UInt8) (m : Nat) : ∀ k, (layB lb m k).length = m
  | 0 => by simp [layB]
  | k + 1 => by rw [layB, List.length_set, layB_len lb m k]
def layW (p : List Sc) (lw : List Wr) : Nat → List Sc
  | 0 => p
  | i + 1 => (layW p lw i).set (3 + i) (dtW lw i)
@[simp] theorem layW_len (p : List Sc) (lw : List Wr) : ∀ k, (layW p lw k).length = p.length
  | 0 => rfl
  | k + 1 => by rw [layW, List.length_set, layW_len p lw k]
def dskP (lb : List UInt8) (m : Nat) (M : Int) : List Sc := if M = 1 then (layB lb m (min lb.length (64 * m))).set 2 secZ else layB lb m (min lb.length (64 * m))
def dskM (lb : List UInt8) (m : Nat) (M : Int) (lw : List Wr) : List Sc := if M = 2 ∧ mPutE lw (m : Int) = 0 then layW ((dskP lb m M).set 2 (mPutS lw (m : Int))) lw lw.length else dskP lb m M
def dskS (N : Int) (lb : List UInt8) (M : Int) (lw : List Wr) : List Sc := dskM lb (dskN N) M lw
theorem dskN_le (N : Int) : 64 ≤ dskN N ∧ dskN N ≤ 80 := by unfold dskN; split <;> omega
theorem dskS_len (N : Int) (lb : List UInt8) (M : Int) (lw : List Wr) : (dskS N lb M lw).length = dskN N := by
  unfold dskS dskM dskP
  split <;> split <;> simp
theorem dskS_two (N : Int) (lb : List UInt8) (lw : List Wr) : (dskS N lb 1 lw)[2]? = some secZ := by
  have := dskN_le N
  unfold dskS dskM dskP
  rw [if_neg (by omega), if_pos rfl, List.getElem?_set_self (by rw [layB_len]; omega)]
def mkS10 (x y : Value) : Sem Next := do pure (.value (← Instr.makeSlice 32 x y))
@[go_sem ↓] theorem execOp_mkS10 (ρ : Operand → Value) (dst : Option Tmp) (ty : TypeId) (pos : String) (after : Array Edge) (guard : Option (Nat × Bool)) (x y : Operand) : execOp ρ { dst, op := .makeSlice 32 x y, type := ty, pos, after, guard } = mkS10 (ρ x) (ρ y) := rfl
theorem info_sec10 : (Try.prog.info? 44).map (fun i => (i.zero, i.size, i.bytes)) = some (some (.agg (secA secZ)), 64, 64) := by kernel_rfl
theorem made_sec10 (n : Nat) : madeCells (secA secZ) (n * 64) = (flK secE (List.replicate n secZ)).toArray := by
  have hl : (flK secE (List.replicate n secZ)).length = n * 64 := by rw [flK_len secE_ok, List.length_replicate, secE_k]
  apply Array.ext_getElem?
  intro t
  by_cases ht : t < n * 64
  · have h1 : t / 64 < n := (Nat.div_lt_iff_lt_mul (by omega)).2 ht
    have e := flK_at secE_ok (List.replicate n secZ) t secZ (by rw [secE_k]; simp [h1])
    rw [secE_k, secE_enc] at e
    rw [show (flK secE (List.replicate n secZ)).toArray[t]? = (flK secE (List.replicate n secZ))[t]? from by simp, e]
    have hm : t % 64 < 64 := Nat.mod_lt _ (by omega)
    unfold madeCells
    rw [Array.getElem?_map, Array.getElem?_range, if_pos ht, Option.map_some, secA_size, Array.getElem?_toList, getElem!_pos (secA secZ) (t % 64) (by rw [secA_size]; exact hm), Array.getElem?_eq_getElem (by rw [secA_size]; exact hm)]
  · rw [Array.getElem?_eq_none (by rw [size_madeCells]; omega), Array.getElem?_eq_none (by rw [List.size_toArray, hl]; omega)]
theorem run_mkS10 (w : World) (n : Nat) (h : n ≤ 2000) : (mkS10 (.int .i64 (n : Int)) (.int .i64 (n : Int))).run Try.prog w =
    .ok (.value (.slice (some ⟨w.heap.size, 0, none⟩) n n)) (w.alloc (.cells (flK secE (List.replicate n secZ)).toArray 44)) := by
  obtain ⟨i, hi, hzz⟩ := Option.map_eq_some_iff.1 info_sec10
  simp only [Prod.mk.injEq] at hzz
  simp only [mkS10, Sem.run_bind]
  rw [run_make (P := Try.prog) w 32 44 i _ Try.underlying32 hi hzz.1 .i64 .i64 n n (by omega) (Int.le_refl _) (by rw [hzz.2.2]; omega) (by omega)]
  rw [hzz.2.1, Int.toNat_natCast, show (Value.agg (secA secZ)).cells = secA secZ from rfl, made_sec10]
  rfl
set_option linter.unusedSimpArgs false in
set_option maxRecDepth 100000 in
set_option maxHeartbeats 4000000 in
theorem sectors10_any (N : Int) (xb : Option Addr) (nb cb : Nat) (M : Int) (xw : Option Addr) (nw cw : Nat) (lb : List UInt8) (lw : List Wr) (w : World) (hlb : lb.length = nb) (hnb : nb ≤ 4611686018427387904) (hb : IsB w (.slice xb nb cb) lb) (hlw : lw.length = nw) (hnw : nw ≤ 2199023255552) (hw9 : IsK wrE w (.slice xw nw cw) lw) (hwB : WrB lw) :
    Calls Try.prog 7 #[.agg (dkA N xb nb cb M xw nw cw)] w fun e w' => ∃ g, e = .returned (.slice (some ⟨g, 0, none⟩) (dskN N) (dskN N)) ∧ OwnK secE w' w.heap.size (.slice (some ⟨g, 0, none⟩) (dskN N) (dskN N)) (dskS N lb M lw) ∧ Below w.heap.size w w' := by
  obtain ⟨LL, hLL⟩ : ∃ L, dskS N lb M lw = L := ⟨_, rfl⟩
  have HLL : Hid (dskM lb (dskN N) M lw = LL) := hLL
  rw [hLL]
  clear hLL
  have hm64 := dskN_le N
  have hmN : dskN N = if 64 < N ∧ N < 81 then N.toNat else 64 := rfl
  obtain ⟨m, hm⟩ : ∃ m, dskN N = m := ⟨_, rfl⟩
  rw [hm] at HLL hm64 hmN ⊢
  clear hm
  go_enter Try.func7, Try.ntmps7
  go_upto_region 1 with fail
  have hB0 : Below w.heap.size w (w.alloc (.cells (dkA N xb nb cb M xw nw cw) 25)) := below_alloc w _
  have hC0 : RowC (w.alloc (.cells (dkA N xb nb cb M xw nw cw) 25)) w.heap.size (dkA N xb nb cb M xw nw cw) := RowC.new w _ _
  obtain ⟨g1, hg1⟩ : ∃ g, w.heap.size = g := ⟨_, rfl⟩
  rw [hg1] at hC0
  simp only [hg1]
  generalize w.alloc (.cells (dkA N xb nb cb M xw nw cw) 25) = X at hB0 hC0 ⊢
  have HG1 : Hid (w.heap.size = g1) := hg1
  clear hg1
  have n0 : X.cell? ⟨g1, 0, none⟩ = some (.int .i64 N) := hC0.cell 0
  obtain ⟨q1, hq1⟩ : ∃ b, decide (64 < N) = b := ⟨_, rfl⟩
  obtain ⟨q2, hq2⟩ : ∃ b, decide (N < 81) = b := ⟨_, rfl⟩
  have HQ1 : Hid (decide (64 < N) = q1) := hq1
  have HQ2 : Hid (decide (N < 81) = q2) := hq2
  clear hq1 hq2
  go_upto_region 2 with fail
  refine wp_plainsT [Fx (.pointer (some ⟨g1, 0, none⟩)), Fx (.int .i64 (N)), Fx (.bool q1), Fx (.bool q1), Fx (bif q1 then .pointer (some ⟨g1, 0, none⟩) else undef), Fx (bif q1 then .int .i64 (N) else undef), Fx (bif q1 then .bool q2 else undef)] (by kernel_rfl) (by kernel_rfl) ?_ ?_ ?_
  · repeat' (first | exact all_nil | apply all_cons)
    all_goals intro v y y' hv hb
    all_goals first | exact Fx_mono _ _ _ _ hv hb
  · refine ⟨?_, ?_, ?_, ?_, ?_, ?_, ?_, trivial⟩
    all_goals
      intro ρ x hp ρc ρg ρf ho hd
      have o1 : ρ (.tmp 1) = .pointer (some ⟨g1, 0, none⟩) := ho 1 rfl
      clear ho
      have kc := cell_later hp n0
      simp only [depsR, depR, slotR, Fx, List.getElem?_cons_succ, List.getElem?_cons_zero, Region.binds, forall_const] at hd
      simp only [guardR]
      go_split_ands
    · go_simp
    · go_simp
    · have hb := HQ1.out
      go_simp
    · go_simp
    · refine ⟨fun hy => ?_, fun hy => ?_⟩
      · obtain rfl : q1 = true := by cases q1 <;> first | rfl | (exfalso; simp [yieldR, slotR, undef, *] at hy)
        go_simp
      · obtain rfl : q1 = false := by cases q1 <;> first | rfl | (exfalso; simp [yieldR, slotR, undef, *] at hy)
        rfl
    · refine ⟨fun hy => ?_, fun hy => ?_⟩
      · obtain rfl : q1 = true := by cases q1 <;> first | rfl | (exfalso; simp [yieldR, slotR, undef, *] at hy)
        go_simp
      · obtain rfl : q1 = false := by cases q1 <;> first | rfl | (exfalso; simp [yieldR, slotR, undef, *] at hy)
        rfl
    · refine ⟨fun hy => ?_, fun hy => ?_⟩
      · obtain rfl : q1 = true := by cases q1 <;> first | rfl | (exfalso; simp [yieldR, slotR, undef, *] at hy)
        have hb := HQ2.out
        go_simp
      · obtain rfl : q1 = false := by cases q1 <;> first | rfl | (exfalso; simp [yieldR, slotR, undef, *] at hy)
        rfl
  · intro vs x1 hp hw
    simp only [owed, Fx] at hw
    obtain ⟨e0, e1, e2, e3, e4, e5, e6, -⟩ := hw
    simp only [List.length_cons, List.length_nil, List.take_succ_cons, List.take_zero, List.drop_succ_cons, List.drop_zero, asg, List.cons_append, List.nil_append, e0, e1, e2, e3, e4, e5, e6]
    clear e0 e1 e2 e3 e4 e5 e6
    have HB : Hid (Below w.heap.size w x1) := hB0.trans (hp.mono hB0.size)
    have HC : Hid (RowC x1 g1 (dkA N xb nb cb M xw nw cw)) := hC0.kept hp
    have n0' := cell_later hp n0
    clear hB0 hC0 hp n0
    have hmi9 : (bif q1 then q2 else false) = true → N = (m : Int) := fun h => by
      cases q1
      · cases h
      · cases q2
        · cases h
        · have h1 := HQ1.out
          have h2 := HQ2.out
          rw [decide_eq_true_eq] at h1 h2
          rw [hmN, if_pos ⟨h1, h2⟩]; omega
    have hmi8 : (bif q1 then q2 else false) = false → (64 : Int) = (m : Int) := fun h => by
      rw [hmN, if_neg]
      · rfl
      · intro h9
        rw [← HQ1.out, ← HQ2.out, decide_eq_true h9.1, decide_eq_true h9.2] at h; cases h
    clear hmN
    cases q1
    · have hmi := hmi8 rfl
      clear hmi8 hmi9
      go_upto_region 4 with fail
      refine wp_slot10 3 (.int .i64 (m : Int)) (by rw [← hmi]; rfl) ?_
      simp only [List.setIfInBounds_toArray, List.set_cons_succ, List.set_cons_zero]
      clear hmi
      have hmk := run_mkS10 x1 m (by omega)
      have hO0 := OwnK.lit secE_ok x1 (List.replicate m secZ) (by rw [List.length_replicate]; unfold maxLen; omega)
      rw [List.length_replicate] at hO0
      have hO1 : OwnK secE (x1.alloc (.cells (flK secE (List.replicate m secZ)).toArray 44)) w.heap.size (.slice (some ⟨x1.heap.size, 0, none⟩) m m) (layB lb m 0) := OwnK.le hO0 HB.out.size
      have hC1 := HC.out.kept (below_alloc x1 (.cells (flK secE (List.replicate m secZ)).toArray 44))
      have hB1 : Below w.heap.size w (x1.alloc (.cells (flK secE (List.replicate m secZ)).toArray 44)) := HB.out.alloc HB.out.size _
      have hne : x1.heap.size ≠ g1 := by have := HC.out.lt; omega
      clear hO0 HB HC n0' HQ1 HQ2
      go_upto_region 5 with fail
      obtain ⟨g, hg⟩ : ∃ g, x1.heap.size = g := ⟨_, rfl⟩
      rw [hg] at hO1 hne
      simp only [hg]
      generalize x1.alloc (.cells (flK secE (List.replicate m secZ)).toArray 44) = Y at hO1 hC1 hB1 ⊢
      clear hmk hg
      have hgw : w.heap.size ≤ g := hO1.ge
      have HM64 : Hid (IntKind.i64.wrap (64 * (m : Int)) = ((64 * m : Nat) : Int)) := by show _ = _; rw [IntKind.wrap_i64]; omega
      go_wp2_with fail
      go_loopw [5] (fun iv wr => ∃ k : Nat, k ≤ min nb (64 * m) ∧ iv = .int .i64 k ∧ OwnK secE wr w.heap.size (.slice (some ⟨g, 0, none⟩) m m) (layB lb m k) ∧ RowC wr g1 (dkA N xb nb cb M xw nw cw) ∧ Below w.heap.size w wr) (fun iv _ => min nb (64 * m) - (intOf iv).toNat)
      case atStart => exact ⟨0, by omega, rfl, hO1, hC1, hB1⟩
      case round =>
        clear hO1 hC1 hB1
        obtain ⟨k, hk, rfl, hO, hC, hB⟩ := hrel
        have n1 : wr.cell? ⟨g1, 1, none⟩ = some (.slice xb nb cb) := hC.cell 1
        obtain ⟨p1, hp1⟩ : ∃ b, decide (k < nb) = b := ⟨_, rfl⟩
        obtain ⟨p2, hp2⟩ : ∃ b, decide ((k : Int) < 64 * (m : Int)) = b := ⟨_, rfl⟩
        have HP1 : Hid (decide (k < nb) = p1) := hp1
        have HP2 : Hid (decide ((k : Int) < 64 * (m : Int)) = p2) := hp2
        clear hp1 hp2
        obtain ⟨t, ht⟩ : ∃ t, (bif p1 then p2 else false) = t := ⟨_, rfl⟩
        have HT : Hid ((bif p1 then p2 else false) = t) := ht
        clear ht
        go_upto_region 6 with fail
        refine wp_plains [Fx (.int .i64 ((k : Int))), Fx (.pointer (some ⟨g1, 1, none⟩)), Fx (.slice xb nb cb), Fx (.int .i64 ((nb : Int))), Fx (.bool p1), Fx (.bool p1), Fx (bif p1 then .int .i64 ((k : Int)) else undef), Fx (bif p1 then .int .i64 ((m : Int)) else undef), Fx (bif p1 then .int .i64 (((64 * m : Nat) : Int)) else undef), Fx (bif p1 then .bool p2 else undef), Fx (.bool t)] (by kernel_rfl) (by kernel_rfl) ?_ ?_ ?_
        · repeat' (first | exact all_nil | apply all_cons)
          all_goals intro v y y' hv hb
          all_goals first | exact Fx_mono _ _ _ _ hv hb
        · refine ⟨?_, ?_, ?_, ?_, ?_, ?_, ?_, ?_, ?_, ?_, ?_, trivial⟩
          all_goals
            intro ρ x hp ρc ρg ρf ho hd
            have o1 : ρ (.tmp 1) = .pointer (some ⟨g1, 0, none⟩) := ho 1 rfl
            have o5 : ρ (.tmp 5) = .int .i64 ((k : Int)) := ho 5 rfl
            have o3 : ρ (.tmp 3) = .int .i64 ((m : Int)) := ho 3 rfl
            clear ho
            have kc := cell_later hp n1
            simp only [depsR, depR, slotR, Fx, List.getElem?_cons_succ, List.getElem?_cons_zero, Region.binds, forall_const] at hd
            simp only [guardR]
            go_split_ands
          · go_simp
          · go_simp
          · go_simp
          · go_simp
          · have hb := HP1.out
            go_simp
          · go_simp
          · refine ⟨fun hy => ?_, fun hy => ?_⟩
            · obtain rfl : p1 = true := by cases p1 <;> first | rfl | (exfalso; simp [yieldR, slotR, undef, *] at hy)
              go_simp
            · obtain rfl : p1 = false := by cases p1 <;> first | rfl | (exfalso; simp [yieldR, slotR, undef, *] at hy)
              rfl
          · refine ⟨fun hy => ?_, fun hy => ?_⟩
            · obtain rfl : p1 = true := by cases p1 <;> first | rfl | (exfalso; simp [yieldR, slotR, undef, *] at hy)
              go_simp
            · obtain rfl : p1 = false := by cases p1 <;> first | rfl | (exfalso; simp [yieldR, slotR, undef, *] at hy)
              rfl
          · refine ⟨fun hy => ?_, fun hy => ?_⟩
            · obtain rfl : p1 = true := by cases p1 <;> first | rfl | (exfalso; simp [yieldR, slotR, undef, *] at hy)
              have hb := HM64.out
              go_simp
            · obtain rfl : p1 = false := by cases p1 <;> first | rfl | (exfalso; simp [yieldR, slotR, undef, *] at hy)
              rfl
          · refine ⟨fun hy => ?_, fun hy => ?_⟩
            · obtain rfl : p1 = true := by cases p1 <;> first | rfl | (exfalso; simp [yieldR, slotR, undef, *] at hy)
              have hb := HP2.out
              go_simp
            · obtain rfl : p1 = false := by cases p1 <;> first | rfl | (exfalso; simp [yieldR, slotR, undef, *] at hy)
              rfl
          · have ht9 := HT.out
            cases p1
            · simp only [cond_false] at *
              subst ht9
              go_simp
            · simp only [cond_true] at *
              go_simp
        · intro vs x1 hp hw
          simp only [owed, Fx] at hw
          obtain ⟨e0, e1, e2, e3, e4, e5, e6, e7, e8, e9, e10, -⟩ := hw
          simp only [List.length_cons, List.length_nil, List.take_succ_cons, List.take_nil, List.drop_succ_cons, List.drop_nil, asg, List.cons_append, List.nil_append, e0, e1, e2, e3, e4, e5, e6, e7, e8, e9, e10]
          clear e0 e1 e2 e3 e4 e5 e6 e7 e8 e9 e10
          have hO2 := hO.keep hp
          have hC2 := hC.kept hp
          have hB2 := hB.trans (hp.mono hB.size)
          clear hO hC hB hp n1
          have ht := HT.out
          cases t
          · have hkend : min nb (64 * m) = k := by
              have hq1 := HP1.out
              have hq2 := HP2.out
              cases p1
              · rw [decide_eq_false_iff_not] at hq1; omega
              · cases p2
                · rw [decide_eq_false_iff_not] at hq2; omega
                · cases ht
            have HKE : Hid (min nb (64 * m) = k) := hkend
            clear hkend
            go_upto_region 9 with fail
            have hPe : layB lb m (min lb.length (64 * m)) = layB lb m k := by rw [hlb, HKE.out]
            obtain ⟨PP, hPP⟩ : ∃ p, layB lb m k = p := ⟨_, rfl⟩
            have hPl : PP.length = m := by rw [← hPP, layB_len]
            rw [hPP] at hPe hO2
            have HPe : Hid (layB lb m (min lb.length (64 * m)) = PP) := hPe
            have n2 : x1.cell? ⟨g1, 2, none⟩ = some (.int .i64 M) := hC2.cell 2
            clear hPe hPP HKE HP1 HP2 HT ht hk
            have hm2 : (2 : Int) < (m : Int) := by omega
            by_cases hM1 : M = 1
            · subst hM1
              have hst : (secStore (.pointer (some ⟨g, 128, none⟩)) (.agg (secA secZ))).run Try.prog x1 = .ok .skip (x1.setCells g 128 (secA secZ).toList) := secStore_mid hO2 2 secZ (by omega)
              have hO3 : OwnK secE (x1.setCells g 128 (secA secZ).toList) w.heap.size (.slice (some ⟨g, 0, none⟩) m m) (PP.set 2 secZ) := secPut hO2 2 secZ (by omega)
              have hC3 : RowC (x1.setCells g 128 (secA secZ).toList) g1 (dkA N xb nb cb 1 xw nw cw) := hC2.block ((setC_frame g (secA secZ).toList 128 x1).2.2.2.2 g1 (fun e => hne e.symm))
              have hB3 : Below w.heap.size w (x1.setCells g 128 (secA secZ).toList) := (below_grow10 hB2 (grown_setC x1 g 128 (secA secZ).toList) hgw)
              clear hO2 hC2 hB2
              go_upto_region 11 with fail
              generalize x1.setCells g 128 (secA secZ).toList = Z at hO3 hC3 hB3 ⊢
              clear hst n2
              have n3 : Z.cell? ⟨g1, 3, none⟩ = some (.slice xw nw cw) := hC3.cell 3
              have hPt := rPut9_any lw xw nw cw (m : Int) Z hlw (by omega) (hw9.kept hB3) hwB (by omega) (by omega)
              go_wp2_with fail
              go_at_call 16
              refine hPt.mono ?_
              rintro e w5 ⟨rfl, hb5⟩
              have hb6 := hb5.trans ((below_alloc w5 (.cells (secA (mPutS lw (m : Int))) 44)).mono hb5.size)
              have HO : Hid (OwnK secE (w5.alloc (.cells (secA (mPutS lw (m : Int))) 44)) w.heap.size (.slice (some ⟨g, 0, none⟩) m m) (PP.set 2 secZ)) := hO3.keep hb6
              have HB : Hid (Below w.heap.size w (w5.alloc (.cells (secA (mPutS lw (m : Int))) 44))) := hB3.trans (hb6.mono hB3.size)
              have HLe : Hid (PP.set 2 secZ = LL) := by
                show _ = _
                rw [← HLL.out]
                unfold dskM dskP
                rw [if_neg (by omega), if_pos rfl, HPe.out]
              have hC4 := hC3.kept hb6
              clear hO3 hC3 hB3 hb5 hb6 n3 hPt
              go_upto_region 12 with fail
              generalize w5.alloc (.cells (secA (mPutS lw (m : Int))) 44) = Z5 at HO HB hC4 ⊢
              have n2 : Z5.cell? ⟨g1, 2, none⟩ = some (.int .i64 1) := hC4.cell 2
              clear hC4
              go_wp2_with fail
              go_ret
              exact ⟨g, rfl, HLe.out ▸ HO.out, HB.out⟩
            · have hM1' : ¬ M = 1 := hM1
              go_upto_region 11 with fail
              have n3 : x1.cell? ⟨g1, 3, none⟩ = some (.slice xw nw cw) := hC2.cell 3
              have hPt := rPut9_any lw xw nw cw (m : Int) x1 hlw (by omega) (hw9.kept hB2) hwB (by omega) (by omega)
              obtain ⟨MS, hMS⟩ : ∃ q, mPutS lw (m : Int) = q := ⟨_, rfl⟩
              obtain ⟨ME, hME⟩ : ∃ q, mPutE lw (m : Int) = q := ⟨_, rfl⟩
              rw [hMS, hME] at hPt
              go_wp2_with fail
              go_at_call 16
              refine hPt.mono ?_
              rintro e w5 ⟨rfl, hb5⟩
              clear n3 hPt n2
              have hb6 := hb5.trans ((below_alloc w5 (.cells (secA MS) 44)).mono hb5.size)
              have h6 : ScR (w5.alloc (.cells (secA MS) 44)) w5.heap.size MS := ScR.new w5 MS 44
              have hO3 := hO2.keep hb6
              have hC3 := hC2.kept hb6
              have hB3 := hB2.trans (hb6.mono hB2.size)
              have hne6 : g ≠ w5.heap.size := by
                have q1 := (World.ownsRow.lt hO2 g rfl).2
                have q2 := hb5.size
                omega
              clear hO2 hC2 hB2 hb5 hb6
              go_upto_region 12 with fail
              obtain ⟨g6, hg6⟩ : ∃ q, w5.heap.size = q := ⟨_, rfl⟩
              rw [hg6] at h6 hne6
              simp only [hg6]
              clear hg6
              generalize w5.alloc (.cells (secA MS) 44) = Z at h6 hO3 hC3 hB3 ⊢
              have n2 : Z.cell? ⟨g1, 2, none⟩ = some (.int .i64 M) := hC3.cell 2
              by_cases hM2 : M = 2
              · subst hM2
                by_cases hE : ME = 0
                · subst hE
                  have hbt : batB (m : Int) lw = true := by
                    rcases mPut_bat (n := m) (by omega) (by omega) lw with ⟨-, -, h⟩ | ⟨h, -⟩
                    · exact h
                    · omega
                  have hw8 := bat_len hbt
                  rw [hlw] at hw8
                  have hst : (secStore (.pointer (some ⟨g, 128, none⟩)) (.agg (secA MS))).run Try.prog Z = .ok .skip (Z.setCells g 128 (secA MS).toList) := secStore_mid hO3 2 MS (by omega)
                  have hO4 : OwnK secE (Z.setCells g 128 (secA MS).toList) w.heap.size (.slice (some ⟨g, 0, none⟩) m m) (PP.set 2 MS) := secPut hO3 2 MS (by omega)
                  have hC4 : RowC (Z.setCells g 128 (secA MS).toList) g1 (dkA N xb nb cb 2 xw nw cw) := hC3.block ((setC_frame g (secA MS).toList 128 Z).2.2.2.2 g1 (fun e => hne e.symm))
                  have hB4 : Below w.heap.size w (Z.setCells g 128 (secA MS).toList) := (below_grow10 hB3 (grown_setC Z g 128 (secA MS).toList) hgw)
                  obtain ⟨r6, q6⟩ := h6
                  clear hO3 hC3 hB3
                  go_upto_region 14 with fail
                  generalize Z.setCells g 128 (secA MS).toList = Z2 at hO4 hC4 hB4 ⊢
                  clear hst n2 r6 q6
                  obtain ⟨P2, hP2⟩ : ∃ p, PP.set 2 MS = p := ⟨_, rfl⟩
                  rw [hP2] at hO4
                  go_wp2_with fail
                  go_loopw [8] (fun iv wr => ∃ i : Nat, i ≤ nw ∧ iv = .int .i64 i ∧ OwnK secE wr w.heap.size (.slice (some ⟨g, 0, none⟩) m m) (layW P2 lw i) ∧ RowC wr g1 (dkA N xb nb cb 2 xw nw cw) ∧ Below w.heap.size w wr) (fun iv _ => nw - (intOf iv).toNat)
                  case atStart => exact ⟨0, by omega, rfl, hO4, hC4, hB4⟩
                  case round =>
                    clear hO4 hC4 hB4
                    obtain ⟨i, hi, rfl, hO5, hC5, hB5⟩ := hrel
                    have n3 : wr.cell? ⟨g1, 3, none⟩ = some (.slice xw nw cw) := hC5.cell 3
                    by_cases hin : i < nw
                    · have hin' : (i : Int) < (nw : Int) := by omega
                      have hg9 : lw[i]? = some (atW lw i, dtW lw i) := by rw [List.getElem?_eq_getElem (by omega), l_eta (by omega)]
                      obtain ⟨bw, ow, rfl, hbw, hrw⟩ := (hw9.kept hB5).at i _ hg9
                      have hdt := rg_of (k := 64) (w := wr) (b := bw) (o := ow + i * 65 + 1) (cs := (secA (dtW lw i)).toList) (fun j u hu => by
                        rw [wrE_k, wrE_enc, wrA_list] at hrw
                        have := hrw (j + 1) u (by rw [List.getElem?_cons_succ]; exact hu)
                        rwa [show ow + i * 65 + (j + 1) = ow + i * 65 + 1 + j by omega] at this) (by simp)
                      obtain ⟨rk, rv⟩ := hdt
                      rw [Array.toArray_toList] at rv
                      have m3 : IntKind.i64.wrap (3 + (i : Int)) = ((3 + i : Nat) : Int) := by rw [IntKind.wrap_i64]; omega
                      obtain ⟨i3, hi3⟩ : ∃ q, 3 + i = q := ⟨_, rfl⟩
                      rw [hi3] at m3
                      have hi3m : (i3 : Int) < (m : Int) := by omega
                      have hst := secStore_mid hO5 i3 (dtW lw i) (by omega)
                      have HO6 : Hid (OwnK secE (wr.setCells g (i3 * 64) (secA (dtW lw i)).toList) w.heap.size (.slice (some ⟨g, 0, none⟩) m m) (layW P2 lw (i + 1))) := by
                        show OwnK _ _ _ _ _
                        rw [layW, hi3]; exact secPut hO5 i3 (dtW lw i) (by omega)
                      have HC6 : Hid (RowC (wr.setCells g (i3 * 64) (secA (dtW lw i)).toList) g1 (dkA N xb nb cb 2 (some ⟨bw, ow, none⟩) nw cw)) := hC5.block ((setC_frame g (secA (dtW lw i)).toList (i3 * 64) wr).2.2.2.2 g1 (fun e => hne e.symm))
                      have HB6 : Hid (Below w.heap.size w (wr.setCells g (i3 * 64) (secA (dtW lw i)).toList)) := (below_grow10 hB5 (grown_setC wr g (i3 * 64) (secA (dtW lw i)).toList) hgw)
                      obtain ⟨dt, hdte⟩ : ∃ q, dtW lw i = q := ⟨_, rfl⟩
                      rw [hdte] at rv hst HO6 HC6 HB6
                      clear hO5 hC5 hB5 hg9 hrw hi3 hdte
                      go_wp2_with fail
                      go_roundw
                      case rel => exact ⟨i + 1, by omega, by go_num, HO6.out, HC6.out, HB6.out⟩
                      case measure => simp [intOf]; omega
                    · obtain rfl : nw = i := by omega
                      have HO6 : Hid (OwnK secE wr w.heap.size (.slice (some ⟨g, 0, none⟩) m m) (layW P2 lw nw)) := hO5
                      have HB6 : Hid (Below w.heap.size w wr) := hB5
                      have HLe : Hid (layW P2 lw nw = LL) := by
                        show _ = _
                        rw [← HLL.out]
                        unfold dskM dskP
                        rw [if_pos ⟨rfl, hME⟩, if_neg (by omega), HPe.out, hMS, hP2, hlw]
                      clear hO5 hC5 hB5
                      go_wp2_with fail
                      go_ret
                      exact ⟨g, rfl, HLe.out ▸ HO6.out, HB6.out⟩
                · have HO : Hid (OwnK secE Z w.heap.size (.slice (some ⟨g, 0, none⟩) m m) PP) := hO3
                  have HB : Hid (Below w.heap.size w Z) := hB3
                  have HLe : Hid (PP = LL) := by
                    show _ = _
                    rw [← HLL.out]
                    unfold dskM dskP
                    rw [if_neg (by intro h; exact hE (hME ▸ h.2)), if_neg (by omega), HPe.out]
                  clear hO3 hC3 hB3 h6
                  go_wp2_with fail
                  go_ret
                  exact ⟨g, rfl, HLe.out ▸ HO.out, HB.out⟩
              · have HO : Hid (OwnK secE Z w.heap.size (.slice (some ⟨g, 0, none⟩) m m) PP) := hO3
                have HB : Hid (Below w.heap.size w Z) := hB3
                have HLe : Hid (PP = LL) := by
                  show _ = _
                  rw [← HLL.out]
                  unfold dskM dskP
                  rw [if_neg (by intro h; exact hM2 h.1), if_neg hM1, HPe.out]
                clear hO3 hC3 hB3 h6
                go_wp2_with fail
                go_ret
                exact ⟨g, rfl, HLe.out ▸ HO.out, HB.out⟩
          · obtain ⟨rfl, rfl⟩ : p1 = true ∧ p2 = true := by cases p1 <;> cases p2 <;> simp at ht ⊢
            have hkn : k < nb := by have := HP1.out; rw [decide_eq_true_eq] at this; omega
            have hkm : k < 64 * m := by have := HP2.out; rw [decide_eq_true_eq] at this; omega
            clear HP1 HP2 HT ht
            obtain ⟨bb, ob, hxb, hbbl, cB⟩ := IsB.spot (w := x1) (x := xb) (c := cb) (l := lb) (by rw [hlb]; exact hb.kept hB2) k (by omega)
            subst hxb
            obtain ⟨by9, hby⟩ : ∃ y, lb[k]?.getD 0 = y := ⟨_, rfl⟩
            rw [hby] at cB
            have n1 : x1.cell? ⟨g1, 1, none⟩ = some (.slice (some ⟨bb, ob, none⟩) nb cb) := hC2.cell 1
            have hd : (layB lb m k)[k / 64]? = some ((layB lb m k).getD (k / 64) secZ) := by
              rw [List.getD_eq_getElem?_getD, List.getElem?_eq_getElem (by rw [layB_len]; omega)]; rfl
            have hI0 : layB lb m (k + 1) = (layB lb m k).set (k / 64) (upd ((layB lb m k).getD (k / 64) secZ) (k % 64) by9) := by rw [layB, List.getD_eq_getElem?_getD (l := lb), hby]
            obtain ⟨dd, hdd⟩ : ∃ d, (layB lb m k).getD (k / 64) secZ = d := ⟨_, rfl⟩
            rw [hdd] at hd hI0
            clear hdd hby
            have cc0 := sec_cell10 (OwnK.range secE_ok hO2 (k / 64) _ hd) (k % 64) (by omega)
            rw [secE_k] at cc0
            obtain ⟨a, ha⟩ : ∃ a, k / 64 = a := ⟨_, rfl⟩
            obtain ⟨b, hb9⟩ : ∃ b, k % 64 = b := ⟨_, rfl⟩
            have F1 : Hid (Int.tdiv (k : Int) 64 = (a : Int) ∧ IntKind.i64.wrap (a : Int) = (a : Int)) := by show _ ∧ _; rw [Int.tdiv_eq_ediv_of_nonneg (by omega), IntKind.wrap_i64]; omega
            have F2 : Hid (Int.tmod (k : Int) 64 = (b : Int)) := by show _ = _; rw [Int.tmod_eq_emod_of_nonneg (by omega)]; omega
            have FK : Hid ((k : Int) < (nb : Int)) := by show _ < _; omega
            have FA : Hid ((0 : Int) ≤ (a : Int) ∧ (a : Int) < (m : Int)) := by show _ ∧ _; omega
            have FB : Hid ((0 : Int) ≤ (b : Int) ∧ (b : Int) < 64) := by show _ ∧ _; omega
            have hb64 : b < 64 := by omega
            rw [ha, hb9] at cc0 hI0
            rw [ha] at hd
            have HD : Hid ((layB lb m k)[a]? = some dd) := hd
            have HI : Hid (layB lb m (k + 1) = (layB lb m k).set a (upd dd b by9)) := hI0
            have HK1 : Hid (k + 1 ≤ min nb (64 * m)) := by show _ ≤ _; omega
            have hk9 : k < 5120 := by omega
            clear ha hb9 hd hI0 hkn hkm hk
            go_upto_region 8 with fail
            obtain ⟨x2, rfl⟩ : ∃ x, x = x1 := ⟨_, rfl⟩
            refine wp_reliesT [Fx (.slice (some ⟨g, 0, none⟩) m m), Fx (.int .i64 ((k : Int))), Fx (.int .i64 ((a : Int))), Fx (.int .i64 ((k : Int))), Fx (.int .i64 ((b : Int))), Fx (.pointer (some ⟨g1, 1, none⟩)), Fx (.slice (some ⟨bb, ob, none⟩) nb cb), Fx (.int .i64 ((k : Int))), Fx (.pointer (some ⟨bb, ob + k, none⟩)), Fx (.int .u8 (by9.toNat : Int)), Fx (.pointer (some ⟨g, a * 64, none⟩)), Fx (.pointer (some ⟨g, a * 64 + b, none⟩))] (by kernel_rfl) (by kernel_rfl) ?_ ?_ ?_
            · repeat' (first | exact all_nil | apply all_cons)
              all_goals intro v y y' hv hb
              all_goals first | exact Fx_mono _ _ _ _ hv hb
            · refine ⟨?_, ?_, ?_, ?_, ?_, ?_, ?_, ?_, ?_, ?_, ?_, ?_, trivial⟩
              all_goals
                intro ρ x hp ρc ρg ρf ho hd
                have o1 : ρ (.tmp 1) = .pointer (some ⟨g1, 0, none⟩) := ho 1 rfl
                have o5 : ρ (.tmp 5) = .int .i64 ((k : Int)) := ho 5 rfl
                have o4 : ρ (.tmp 4) = .slice (some ⟨g, 0, none⟩) m m := ho 4 rfl
                clear ho
                have kc := cell_later hp n1
                have kb := cell_later hp cB
                simp only [depsR, depR, slotR, Fx, List.getElem?_cons_succ, List.getElem?_cons_zero, Region.binds, forall_const] at hd
                simp only [guardR]
                go_split_ands
              · go_simp
              · go_simp
              · obtain ⟨hq, hq2⟩ := F1.out
                go_simp
              · go_simp
              · have hq := F2.out
                go_simp
              · go_simp
              · go_simp
              · go_simp
              · have hq := FK.out
                go_simp
              · go_simp
              · obtain ⟨z1, z2⟩ := FA.out
                go_simp
              · obtain ⟨z1, z2⟩ := FB.out
                go_simp
            · intro vs x1 hp hw
              simp only [owed, Fx] at hw
              obtain ⟨e0, e1, e2, e3, e4, e5, e6, e7, e8, e9, e10, e11, -⟩ := hw
              simp only [List.length_cons, List.length_nil, List.take_succ_cons, List.take_zero, List.drop_succ_cons, List.drop_zero, asg, List.cons_append, List.nil_append, e0, e1, e2, e3, e4, e5, e6, e7, e8, e9, e10, e11]
              clear e0 e1 e2 e3 e4 e5 e6 e7 e8 e9 e10 e11
              have hO3 := OwnK.keep hO2 hp
              have hC3 := hC2.kept hp
              have hB3 := hB2.trans (hp.mono hB2.size)
              have hc3 := cell_later hp cc0
              have hf3 := OwnK.frz hO3 (a * 64 + b)
              have H4 : Hid (OwnK secE (x1.setCell ⟨g, a * 64 + b, none⟩ (.int .u8 (by9.toNat : Int))) w.heap.size (.slice (some ⟨g, 0, none⟩) m m) (layB lb m (k + 1))) := by
                show OwnK _ _ _ _ _
                have := OwnK.cellPut secE_ok hO3 a b _ _ _ HD.out (by show b < 64; omega) (secE_set10 _ b by9 hb64)
                rw [secE_k] at this
                rw [HI.out]
                exact this
              have HC4 : Hid (RowC (x1.setCell ⟨g, a * 64 + b, none⟩ (.int .u8 (by9.toNat : Int))) g1 (dkA N (some ⟨bb, ob, none⟩) nb cb M xw nw cw)) := hC3.set_ne _ _ hne
              have HB4 : Hid (Below w.heap.size w (x1.setCell ⟨g, a * 64 + b, none⟩ (.int .u8 (by9.toNat : Int)))) := hB3.setCell (p := ⟨g, a * 64 + b, none⟩) hgw _
              clear hO2 hC2 hB2 hO3 hC3 hB3 hp cc0 HD HI F1 F2 FK FA FB n1 cB
              go_wp2_with fail
              go_roundw
              case rel => exact ⟨k + 1, HK1.out, by go_num, H4.out, HC4.out, HB4.out⟩
              case measure => have := HK1.out; simp [intOf]; omega
    · cases q2
      · have hmi := hmi8 rfl
        clear hmi8 hmi9
        go_upto_region 4 with fail
        refine wp_slot10 3 (.int .i64 (m : Int)) (by rw [← hmi]; rfl) ?_
        simp only [List.setIfInBounds_toArray, List.set_cons_succ, List.set_cons_zero]
        clear hmi
        have hmk := run_mkS10 x1 m (by omega)
        have hO0 := OwnK.lit secE_ok x1 (List.replicate m secZ) (by rw [List.length_replicate]; unfold maxLen; omega)
        rw [List.length_replicate] at hO0
        have hO1 : OwnK secE (x1.alloc (.cells (flK secE (List.replicate m secZ)).toArray 44)) w.heap.size (.slice (some ⟨x1.heap.size, 0, none⟩) m m) (layB lb m 0) := OwnK.le hO0 HB.out.size
        have hC1 := HC.out.kept (below_alloc x1 (.cells (flK secE (List.replicate m secZ)).toArray 44))
        have hB1 : Below w.heap.size w (x1.alloc (.cells (flK secE (List.replicate m secZ)).toArray 44)) := HB.out.alloc HB.out.size _
        have hne : x1.heap.size ≠ g1 := by have := HC.out.lt; omega
        clear hO0 HB HC n0' HQ1 HQ2
        go_upto_region 5 with fail
        obtain ⟨g, hg⟩ : ∃ g, x1.heap.size = g := ⟨_, rfl⟩
        rw [hg] at hO1 hne
        simp only [hg]
        generalize x1.alloc (.cells (flK secE (List.replicate m secZ)).toArray 44) = Y at hO1 hC1 hB1 ⊢
        clear hmk hg
        have hgw : w.heap.size ≤ g := hO1.ge
        have HM64 : Hid (IntKind.i64.wrap (64 * (m : Int)) = ((64 * m : Nat) : Int)) := by show _ = _; rw [IntKind.wrap_i64]; omega
        go_wp2_with fail
        go_loopw [5] (fun iv wr => ∃ k : Nat, k ≤ min nb (64 * m) ∧ iv = .int .i64 k ∧ OwnK secE wr w.heap.size (.slice (some ⟨g, 0, none⟩) m m) (layB lb m k) ∧ RowC wr g1 (dkA N xb nb cb M xw nw cw) ∧ Below w.heap.size w wr) (fun iv _ => min nb (64 * m) - (intOf iv).toNat)
        case atStart => exact ⟨0, by omega, rfl, hO1, hC1, hB1⟩
        case round =>
          clear hO1 hC1 hB1
          obtain ⟨k, hk, rfl, hO, hC, hB⟩ := hrel
          have n1 : wr.cell? ⟨g1, 1, none⟩ = some (.slice xb nb cb) := hC.cell 1
          obtain ⟨p1, hp1⟩ : ∃ b, decide (k < nb) = b := ⟨_, rfl⟩
          obtain ⟨p2, hp2⟩ : ∃ b, decide ((k : Int) < 64 * (m : Int)) = b := ⟨_, rfl⟩
          have HP1 : Hid (decide (k < nb) = p1) := hp1
          have HP2 : Hid (decide ((k : Int) < 64 * (m : Int)) = p2) := hp2
          clear hp1 hp2
          obtain ⟨t, ht⟩ : ∃ t, (bif p1 then p2 else false) = t := ⟨_, rfl⟩
          have HT : Hid ((bif p1 then p2 else false) = t) := ht
          clear ht
          go_upto_region 6 with fail
          refine wp_plains [Fx (.int .i64 ((k : Int))), Fx (.pointer (some ⟨g1, 1, none⟩)), Fx (.slice xb nb cb), Fx (.int .i64 ((nb : Int))), Fx (.bool p1), Fx (.bool p1), Fx (bif p1 then .int .i64 ((k : Int)) else undef), Fx (bif p1 then .int .i64 ((m : Int)) else undef), Fx (bif p1 then .int .i64 (((64 * m : Nat) : Int)) else undef), Fx (bif p1 then .bool p2 else undef), Fx (.bool t)] (by kernel_rfl) (by kernel_rfl) ?_ ?_ ?_
          · repeat' (first | exact all_nil | apply all_cons)
            all_goals intro v y y' hv hb
            all_goals first | exact Fx_mono _ _ _ _ hv hb
          · refine ⟨?_, ?_, ?_, ?_, ?_, ?_, ?_, ?_, ?_, ?_, ?_, trivial⟩
            all_goals
              intro ρ x hp ρc ρg ρf ho hd
              have o1 : ρ (.tmp 1) = .pointer (some ⟨g1, 0, none⟩) := ho 1 rfl
              have o5 : ρ (.tmp 5) = .int .i64 ((k : Int)) := ho 5 rfl
              have o3 : ρ (.tmp 3) = .int .i64 ((m : Int)) := ho 3 rfl
              clear ho
              have kc := cell_later hp n1
              simp only [depsR, depR, slotR, Fx, List.getElem?_cons_succ, List.getElem?_cons_zero, Region.binds, forall_const] at hd
              simp only [guardR]
              go_split_ands
            · go_simp
            · go_simp
            · go_simp
            · go_simp
            · have hb := HP1.out
              go_simp
            · go_simp
            · refine ⟨fun hy => ?_, fun hy => ?_⟩
              · obtain rfl : p1 = true := by cases p1 <;> first | rfl | (exfalso; simp [yieldR, slotR, undef, *] at hy)
                go_simp
              · obtain rfl : p1 = false := by cases p1 <;> first | rfl | (exfalso; simp [yieldR, slotR, undef, *] at hy)
                rfl
            · refine ⟨fun hy => ?_, fun hy => ?_⟩
              · obtain rfl : p1 = true := by cases p1 <;> first | rfl | (exfalso; simp [yieldR, slotR, undef, *] at hy)
                go_simp
              · obtain rfl : p1 = false := by cases p1 <;> first | rfl | (exfalso; simp [yieldR, slotR, undef, *] at hy)
                rfl
            · refine ⟨fun hy => ?_, fun hy => ?_⟩
              · obtain rfl : p1 = true := by cases p1 <;> first | rfl | (exfalso; simp [yieldR, slotR, undef, *] at hy)
                have hb := HM64.out
                go_simp
              · obtain rfl : p1 = false := by cases p1 <;> first | rfl | (exfalso; simp [yieldR, slotR, undef, *] at hy)
                rfl
            · refine ⟨fun hy => ?_, fun hy => ?_⟩
              · obtain rfl : p1 = true := by cases p1 <;> first | rfl | (exfalso; simp [yieldR, slotR, undef, *] at hy)
                have hb := HP2.out
                go_simp
              · obtain rfl : p1 = false := by cases p1 <;> first | rfl | (exfalso; simp [yieldR, slotR, undef, *] at hy)
                rfl
            · have ht9 := HT.out
              cases p1
              · simp only [cond_false] at *
                subst ht9
                go_simp
              · simp only [cond_true] at *
                go_simp
          · intro vs x1 hp hw
            simp only [owed, Fx] at hw
            obtain ⟨e0, e1, e2, e3, e4, e5, e6, e7, e8, e9, e10, -⟩ := hw
            simp only [List.length_cons, List.length_nil, List.take_succ_cons, List.take_nil, List.drop_succ_cons, List.drop_nil, asg, List.cons_append, List.nil_append, e0, e1, e2, e3, e4, e5, e6, e7, e8, e9, e10]
            clear e0 e1 e2 e3 e4 e5 e6 e7 e8 e9 e10
            have hO2 := hO.keep hp
            have hC2 := hC.kept hp
            have hB2 := hB.trans (hp.mono hB.size)
            clear hO hC hB hp n1
            have ht := HT.out
            cases t
            · have hkend : min nb (64 * m) = k := by
                have hq1 := HP1.out
                have hq2 := HP2.out
                cases p1
                · rw [decide_eq_false_iff_not] at hq1; omega
                · cases p2
                  · rw [decide_eq_false_iff_not] at hq2; omega
                  · cases ht
              have HKE : Hid (min nb (64 * m) = k) := hkend
              clear hkend
              go_upto_region 9 with fail
              have hPe : layB lb m (min lb.length (64 * m)) = layB lb m k := by rw [hlb, HKE.out]
              obtain ⟨PP, hPP⟩ : ∃ p, layB lb m k = p := ⟨_, rfl⟩
              have hPl : PP.length = m := by rw [← hPP, layB_len]
              rw [hPP] at hPe hO2
              have HPe : Hid (layB lb m (min lb.length (64 * m)) = PP) := hPe
              have n2 : x1.cell? ⟨g1, 2, none⟩ = some (.int .i64 M) := hC2.cell 2
              clear hPe hPP HKE HP1 HP2 HT ht hk
              have hm2 : (2 : Int) < (m : Int) := by omega
              by_cases hM1 : M = 1
              · subst hM1
                have hst : (secStore (.pointer (some ⟨g, 128, none⟩)) (.agg (secA secZ))).run Try.prog x1 = .ok .skip (x1.setCells g 128 (secA secZ).toList) := secStore_mid hO2 2 secZ (by omega)
                have hO3 : OwnK secE (x1.setCells g 128 (secA secZ).toList) w.heap.size (.slice (some ⟨g, 0, none⟩) m m) (PP.set 2 secZ) := secPut hO2 2 secZ (by omega)
                have hC3 : RowC (x1.setCells g 128 (secA secZ).toList) g1 (dkA N xb nb cb 1 xw nw cw) := hC2.block ((setC_frame g (secA secZ).toList 128 x1).2.2.2.2 g1 (fun e => hne e.symm))
                have hB3 : Below w.heap.size w (x1.setCells g 128 (secA secZ).toList) := (below_grow10 hB2 (grown_setC x1 g 128 (secA secZ).toList) hgw)
                clear hO2 hC2 hB2
                go_upto_region 11 with fail
                generalize x1.setCells g 128 (secA secZ).toList = Z at hO3 hC3 hB3 ⊢
                clear hst n2
                have n3 : Z.cell? ⟨g1, 3, none⟩ = some (.slice xw nw cw) := hC3.cell 3
                have hPt := rPut9_any lw xw nw cw (m : Int) Z hlw (by omega) (hw9.kept hB3) hwB (by omega) (by omega)
                go_wp2_with fail
                go_at_call 16
                refine hPt.mono ?_
                rintro e w5 ⟨rfl, hb5⟩
                have hb6 := hb5.trans ((below_alloc w5 (.cells (secA (mPutS lw (m : Int))) 44)).mono hb5.size)
                have HO : Hid (OwnK secE (w5.alloc (.cells (secA (mPutS lw (m : Int))) 44)) w.heap.size (.slice (some ⟨g, 0, none⟩) m m) (PP.set 2 secZ)) := hO3.keep hb6
                have HB : Hid (Below w.heap.size w (w5.alloc (.cells (secA (mPutS lw (m : Int))) 44))) := hB3.trans (hb6.mono hB3.size)
                have HLe : Hid (PP.set 2 secZ = LL) := by
                  show _ = _
                  rw [← HLL.out]
                  unfold dskM dskP
                  rw [if_neg (by omega), if_pos rfl, HPe.out]
                have hC4 := hC3.kept hb6
                clear hO3 hC3 hB3 hb5 hb6 n3 hPt
                go_upto_region 12 with fail
                generalize w5.alloc (.cells (secA (mPutS lw (m : Int))) 44) = Z5 at HO HB hC4 ⊢
                have n2 : Z5.cell? ⟨g1, 2, none⟩ = some (.int .i64 1) := hC4.cell 2
                clear hC4
                go_wp2_with fail
                go_ret
                exact ⟨g, rfl, HLe.out ▸ HO.out, HB.out⟩
              · have hM1' : ¬ M = 1 := hM1
                go_upto_region 11 with fail
                have n3 : x1.cell? ⟨g1, 3, none⟩ = some (.slice xw nw cw) := hC2.cell 3
                have hPt := rPut9_any lw xw nw cw (m : Int) x1 hlw (by omega) (hw9.kept hB2) hwB (by omega) (by omega)
                obtain ⟨MS, hMS⟩ : ∃ q, mPutS lw (m : Int) = q := ⟨_, rfl⟩
                obtain ⟨ME, hME⟩ : ∃ q, mPutE lw (m : Int) = q := ⟨_, rfl⟩
                rw [hMS, hME] at hPt
                go_wp2_with fail
                go_at_call 16
                refine hPt.mono ?_
                rintro e w5 ⟨rfl, hb5⟩
                clear n3 hPt n2
                have hb6 := hb5.trans ((below_alloc w5 (.cells (secA MS) 44)).mono hb5.size)
                have h6 : ScR (w5.alloc (.cells (secA MS) 44)) w5.heap.size MS := ScR.new w5 MS 44
                have hO3 := hO2.keep hb6
                have hC3 := hC2.kept hb6
                have hB3 := hB2.trans (hb6.mono hB2.size)
                have hne6 : g ≠ w5.heap.size := by
                  have q1 := (World.ownsRow.lt hO2 g rfl).2
                  have q2 := hb5.size
                  omega
                clear hO2 hC2 hB2 hb5 hb6
                go_upto_region 12 with fail
                obtain ⟨g6, hg6⟩ : ∃ q, w5.heap.size = q := ⟨_, rfl⟩
                rw [hg6] at h6 hne6
                simp only [hg6]
                clear hg6
                generalize w5.alloc (.cells (secA MS) 44) = Z at h6 hO3 hC3 hB3 ⊢
                have n2 : Z.cell? ⟨g1, 2, none⟩ = some (.int .i64 M) := hC3.cell 2
                by_cases hM2 : M = 2
                · subst hM2
                  by_cases hE : ME = 0
                  · subst hE
                    have hbt : batB (m : Int) lw = true := by
                      rcases mPut_bat (n := m) (by omega) (by omega) lw with ⟨-, -, h⟩ | ⟨h, -⟩
                      · exact h
                      · omega
                    have hw8 := bat_len hbt
                    rw [hlw] at hw8
                    have hst : (secStore (.pointer (some ⟨g, 128, none⟩)) (.agg (secA MS))).run Try.prog Z = .ok .skip (Z.setCells g 128 (secA MS).toList) := secStore_mid hO3 2 MS (by omega)
                    have hO4 : OwnK secE (Z.setCells g 128 (secA MS).toList) w.heap.size (.slice (some ⟨g, 0, none⟩) m m) (PP.set 2 MS) := secPut hO3 2 MS (by omega)
                    have hC4 : RowC (Z.setCells g 128 (secA MS).toList) g1 (dkA N xb nb cb 2 xw nw cw) := hC3.block ((setC_frame g (secA MS).toList 128 Z).2.2.2.2 g1 (fun e => hne e.symm))
                    have hB4 : Below w.heap.size w (Z.setCells g 128 (secA MS).toList) := (below_grow10 hB3 (grown_setC Z g 128 (secA MS).toList) hgw)
                    obtain ⟨r6, q6⟩ := h6
                    clear hO3 hC3 hB3
                    go_upto_region 14 with fail
                    generalize Z.setCells g 128 (secA MS).toList = Z2 at hO4 hC4 hB4 ⊢
                    clear hst n2 r6 q6
                    obtain ⟨P2, hP2⟩ : ∃ p, PP.set 2 MS = p := ⟨_, rfl⟩
                    rw [hP2] at hO4
                    go_wp2_with fail
                    go_loopw [8] (fun iv wr => ∃ i : Nat, i ≤ nw ∧ iv = .int .i64 i ∧ OwnK secE wr w.heap.size (.slice (some ⟨g, 0, none⟩) m m) (layW P2 lw i) ∧ RowC wr g1 (dkA N xb nb cb 2 xw nw cw) ∧ Below w.heap.size w wr) (fun iv _ => nw - (intOf iv).toNat)
                    case atStart => exact ⟨0, by omega, rfl, hO4, hC4, hB4⟩
                    case round =>
                      clear hO4 hC4 hB4
                      obtain ⟨i, hi, rfl, hO5, hC5, hB5⟩ := hrel
                      have n3 : wr.cell? ⟨g1, 3, none⟩ = some (.slice xw nw cw) := hC5.cell 3
                      by_cases hin : i < nw
                      · have hin' : (i : Int) < (nw : Int) := by omega
                        have hg9 : lw[i]? = some (atW lw i, dtW lw i) := by rw [List.getElem?_eq_getElem (by omega), l_eta (by omega)]
                        obtain ⟨bw, ow, rfl, hbw, hrw⟩ := (hw9.kept hB5).at i _ hg9
                        have hdt := rg_of (k := 64) (w := wr) (b := bw) (o := ow + i * 65 + 1) (cs := (secA (dtW lw i)).toList) (fun j u hu => by
                          rw [wrE_k, wrE_enc, wrA_list] at hrw
                          have := hrw (j + 1) u (by rw [List.getElem?_cons_succ]; exact hu)
                          rwa [show ow + i * 65 + (j + 1) = ow + i * 65 + 1 + j by omega] at this) (by simp)
                        obtain ⟨rk, rv⟩ := hdt
                        rw [Array.toArray_toList] at rv
                        have m3 : IntKind.i64.wrap (3 + (i : Int)) = ((3 + i : Nat) : Int) := by rw [IntKind.wrap_i64]; omega
                        obtain ⟨i3, hi3⟩ : ∃ q, 3 + i = q := ⟨_, rfl⟩
                        rw [hi3] at m3
                        have hi3m : (i3 : Int) < (m : Int) := by omega
                        have hst := secStore_mid hO5 i3 (dtW lw i) (by omega)
                        have HO6 : Hid (OwnK secE (wr.setCells g (i3 * 64) (secA (dtW lw i)).toList) w.heap.size (.slice (some ⟨g, 0, none⟩) m m) (layW P2 lw (i + 1))) := by
                          show OwnK _ _ _ _ _
                          rw [layW, hi3]; exact secPut hO5 i3 (dtW lw i) (by omega)
                        have HC6 : Hid (RowC (wr.setCells g (i3 * 64) (secA (dtW lw i)).toList) g1 (dkA N xb nb cb 2 (some ⟨bw, ow, none⟩) nw cw)) := hC5.block ((setC_frame g (secA (dtW lw i)).toList (i3 * 64) wr).2.2.2.2 g1 (fun e => hne e.symm))
                        have HB6 : Hid (Below w.heap.size w (wr.setCells g (i3 * 64) (secA (dtW lw i)).toList)) := (below_grow10 hB5 (grown_setC wr g (i3 * 64) (secA (dtW lw i)).toList) hgw)
                        obtain ⟨dt, hdte⟩ : ∃ q, dtW lw i = q := ⟨_, rfl⟩
                        rw [hdte] at rv hst HO6 HC6 HB6
                        clear hO5 hC5 hB5 hg9 hrw hi3 hdte
                        go_wp2_with fail
                        go_roundw
                        case rel => exact ⟨i + 1, by omega, by go_num, HO6.out, HC6.out, HB6.out⟩
                        case measure => simp [intOf]; omega
                      · obtain rfl : nw = i := by omega
                        have HO6 : Hid (OwnK secE wr w.heap.size (.slice (some ⟨g, 0, none⟩) m m) (layW P2 lw nw)) := hO5
                        have HB6 : Hid (Below w.heap.size w wr) := hB5
                        have HLe : Hid (layW P2 lw nw = LL) := by
                          show _ = _
                          rw [← HLL.out]
                          unfold dskM dskP
                          rw [if_pos ⟨rfl, hME⟩, if_neg (by omega), HPe.out, hMS, hP2, hlw]
                        clear hO5 hC5 hB5
                        go_wp2_with fail
                        go_ret
                        exact ⟨g, rfl, HLe.out ▸ HO6.out, HB6.out⟩
                  · have HO : Hid (OwnK secE Z w.heap.size (.slice (some ⟨g, 0, none⟩) m m) PP) := hO3
                    have HB : Hid (Below w.heap.size w Z) := hB3
                    have HLe : Hid (PP = LL) := by
                      show _ = _
                      rw [← HLL.out]
                      unfold dskM dskP
                      rw [if_neg (by intro h; exact hE (hME ▸ h.2)), if_neg (by omega), HPe.out]
                    clear hO3 hC3 hB3 h6
                    go_wp2_with fail
                    go_ret
                    exact ⟨g, rfl, HLe.out ▸ HO.out, HB.out⟩
                · have HO : Hid (OwnK secE Z w.heap.size (.slice (some ⟨g, 0, none⟩) m m) PP) := hO3
                  have HB : Hid (Below w.heap.size w Z) := hB3
                  have HLe : Hid (PP = LL) := by
                    show _ = _
                    rw [← HLL.out]
                    unfold dskM dskP
                    rw [if_neg (by intro h; exact hM2 h.1), if_neg hM1, HPe.out]
                  clear hO3 hC3 hB3 h6
                  go_wp2_with fail
                  go_ret
                  exact ⟨g, rfl, HLe.out ▸ HO.out, HB.out⟩
            · obtain ⟨rfl, rfl⟩ : p1 = true ∧ p2 = true := by cases p1 <;> cases p2 <;> simp at ht ⊢
              have hkn : k < nb := by have := HP1.out; rw [decide_eq_true_eq] at this; omega
              have hkm : k < 64 * m := by have := HP2.out; rw [decide_eq_true_eq] at this; omega
              clear HP1 HP2 HT ht
              obtain ⟨bb, ob, hxb, hbbl, cB⟩ := IsB.spot (w := x1) (x := xb) (c := cb) (l := lb) (by rw [hlb]; exact hb.kept hB2) k (by omega)
              subst hxb
              obtain ⟨by9, hby⟩ : ∃ y, lb[k]?.getD 0 = y := ⟨_, rfl⟩
              rw [hby] at cB
              have n1 : x1.cell? ⟨g1, 1, none⟩ = some (.slice (some ⟨bb, ob, none⟩) nb cb) := hC2.cell 1
              have hd : (layB lb m k)[k / 64]? = some ((layB lb m k).getD (k / 64) secZ) := by
                rw [List.getD_eq_getElem?_getD, List.getElem?_eq_getElem (by rw [layB_len]; omega)]; rfl
              have hI0 : layB lb m (k + 1) = (layB lb m k).set (k / 64) (upd ((layB lb m k).getD (k / 64) secZ) (k % 64) by9) := by rw [layB, List.getD_eq_getElem?_getD (l := lb), hby]
              obtain ⟨dd, hdd⟩ : ∃ d, (layB lb m k).getD (k / 64) secZ = d := ⟨_, rfl⟩
              rw [hdd] at hd hI0
              clear hdd hby
              have cc0 := sec_cell10 (OwnK.range secE_ok hO2 (k / 64) _ hd) (k % 64) (by omega)
              rw [secE_k] at cc0
              obtain ⟨a, ha⟩ : ∃ a, k / 64 = a := ⟨_, rfl⟩
              obtain ⟨b, hb9⟩ : ∃ b, k % 64 = b := ⟨_, rfl⟩
              have F1 : Hid (Int.tdiv (k : Int) 64 = (a : Int) ∧ IntKind.i64.wrap (a : Int) = (a : Int)) := by show _ ∧ _; rw [Int.tdiv_eq_ediv_of_nonneg (by omega), IntKind.wrap_i64]; omega
              have F2 : Hid (Int.tmod (k : Int) 64 = (b : Int)) := by show _ = _; rw [Int.tmod_eq_emod_of_nonneg (by omega)]; omega
              have FK : Hid ((k : Int) < (nb : Int)) := by show _ < _; omega
              have FA : Hid ((0 : Int) ≤ (a : Int) ∧ (a : Int) < (m : Int)) := by show _ ∧ _; omega
              have FB : Hid ((0 : Int) ≤ (b : Int) ∧ (b : Int) < 64) := by show _ ∧ _; omega
              have hb64 : b < 64 := by omega
              rw [ha, hb9] at cc0 hI0
              rw [ha] at hd
              have HD : Hid ((layB lb m k)[a]? = some dd) := hd
              have HI : Hid (layB lb m (k + 1) = (layB lb m k).set a (upd dd b by9)) := hI0
              have HK1 : Hid (k + 1 ≤ min nb (64 * m)) := by show _ ≤ _; omega
              have hk9 : k < 5120 := by omega
              clear ha hb9 hd hI0 hkn hkm hk
              go_upto_region 8 with fail
              obtain ⟨x2, rfl⟩ : ∃ x, x = x1 := ⟨_, rfl⟩
              refine wp_reliesT [Fx (.slice (some ⟨g, 0, none⟩) m m), Fx (.int .i64 ((k : Int))), Fx (.int .i64 ((a : Int))), Fx (.int .i64 ((k : Int))), Fx (.int .i64 ((b : Int))), Fx (.pointer (some ⟨g1, 1, none⟩)), Fx (.slice (some ⟨bb, ob, none⟩) nb cb), Fx (.int .i64 ((k : Int))), Fx (.pointer (some ⟨bb, ob + k, none⟩)), Fx (.int .u8 (by9.toNat : Int)), Fx (.pointer (some ⟨g, a * 64, none⟩)), Fx (.pointer (some ⟨g, a * 64 + b, none⟩))] (by kernel_rfl) (by kernel_rfl) ?_ ?_ ?_
              · repeat' (first | exact all_nil | apply all_cons)
                all_goals intro v y y' hv hb
                all_goals first | exact Fx_mono _ _ _ _ hv hb
              · refine ⟨?_, ?_, ?_, ?_, ?_, ?_, ?_, ?_, ?_, ?_, ?_, ?_, trivial⟩
                all_goals
                  intro ρ x hp ρc ρg ρf ho hd
                  have o1 : ρ (.tmp 1) = .pointer (some ⟨g1, 0, none⟩) := ho 1 rfl
                  have o5 : ρ (.tmp 5) = .int .i64 ((k : Int)) := ho 5 rfl
                  have o4 : ρ (.tmp 4) = .slice (some ⟨g, 0, none⟩) m m := ho 4 rfl
                  clear ho
                  have kc := cell_later hp n1
                  have kb := cell_later hp cB
                  simp only [depsR, depR, slotR, Fx, List.getElem?_cons_succ, List.getElem?_cons_zero, Region.binds, forall_const] at hd
                  simp only [guardR]
                  go_split_ands
                · go_simp
                · go_simp
                · obtain ⟨hq, hq2⟩ := F1.out
                  go_simp
                · go_simp
                · have hq := F2.out
                  go_simp
                · go_simp
                · go_simp
                · go_simp
                · have hq := FK.out
                  go_simp
                · go_simp
                · obtain ⟨z1, z2⟩ := FA.out
                  go_simp
                · obtain ⟨z1, z2⟩ := FB.out
                  go_simp
              · intro vs x1 hp hw
                simp only [owed, Fx] at hw
                obtain ⟨e0, e1, e2, e3, e4, e5, e6, e7, e8, e9, e10, e11, -⟩ := hw
                simp only [List.length_cons, List.length_nil, List.take_succ_cons, List.take_zero, List.drop_succ_cons, List.drop_zero, asg, List.cons_append, List.nil_append, e0, e1, e2, e3, e4, e5, e6, e7, e8, e9, e10, e11]
                clear e0 e1 e2 e3 e4 e5 e6 e7 e8 e9 e10 e11
                have hO3 := OwnK.keep hO2 hp
                have hC3 := hC2.kept hp
                have hB3 := hB2.trans (hp.mono hB2.size)
                have hc3 := cell_later hp cc0
                have hf3 := OwnK.frz hO3 (a * 64 + b)
                have H4 : Hid (OwnK secE (x1.setCell ⟨g, a * 64 + b, none⟩ (.int .u8 (by9.toNat : Int))) w.heap.size (.slice (some ⟨g, 0, none⟩) m m) (layB lb m (k + 1))) := by
                  show OwnK _ _ _ _ _
                  have := OwnK.cellPut secE_ok hO3 a b _ _ _ HD.out (by show b < 64; omega) (secE_set10 _ b by9 hb64)
                  rw [secE_k] at this
                  rw [HI.out]
                  exact this
                have HC4 : Hid (RowC (x1.setCell ⟨g, a * 64 + b, none⟩ (.int .u8 (by9.toNat : Int))) g1 (dkA N (some ⟨bb, ob, none⟩) nb cb M xw nw cw)) := hC3.set_ne _ _ hne
                have HB4 : Hid (Below w.heap.size w (x1.setCell ⟨g, a * 64 + b, none⟩ (.int .u8 (by9.toNat : Int)))) := hB3.setCell (p := ⟨g, a * 64 + b, none⟩) hgw _
                clear hO2 hC2 hB2 hO3 hC3 hB3 hp cc0 HD HI F1 F2 FK FA FB n1 cB
                go_wp2_with fail
                go_roundw
                case rel => exact ⟨k + 1, HK1.out, by go_num, H4.out, HC4.out, HB4.out⟩
                case measure => have := HK1.out; simp [intOf]; omega
      · have hmi := hmi9 rfl
        clear hmi8 hmi9
        go_upto_region 4 with fail
        refine wp_slot10 3 (.int .i64 (m : Int)) (by rw [← hmi]; rfl) ?_
        simp only [List.setIfInBounds_toArray, List.set_cons_succ, List.set_cons_zero]
        clear hmi
        have hmk := run_mkS10 x1 m (by omega)
        have hO0 := OwnK.lit secE_ok x1 (List.replicate m secZ) (by rw [List.length_replicate]; unfold maxLen; omega)
        rw [List.length_replicate] at hO0
        have hO1 : OwnK secE (x1.alloc (.cells (flK secE (List.replicate m secZ)).toArray 44)) w.heap.size (.slice (some ⟨x1.heap.size, 0, none⟩) m m) (layB lb m 0) := OwnK.le hO0 HB.out.size
        have hC1 := HC.out.kept (below_alloc x1 (.cells (flK secE (List.replicate m secZ)).toArray 44))
        have hB1 : Below w.heap.size w (x1.alloc (.cells (flK secE (List.replicate m secZ)).toArray 44)) := HB.out.alloc HB.out.size _
        have hne : x1.heap.size ≠ g1 := by have := HC.out.lt; omega
        clear hO0 HB HC n0' HQ1 HQ2
        go_upto_region 5 with fail
        obtain ⟨g, hg⟩ : ∃ g, x1.heap.size = g := ⟨_, rfl⟩
        rw [hg] at hO1 hne
        simp only [hg]
        generalize x1.alloc (.cells (flK secE (List.replicate m secZ)).toArray 44) = Y at hO1 hC1 hB1 ⊢
        clear hmk hg
        have hgw : w.heap.size ≤ g := hO1.ge
        have HM64 : Hid (IntKind.i64.wrap (64 * (m : Int)) = ((64 * m : Nat) : Int)) := by show _ = _; rw [IntKind.wrap_i64]; omega
        go_wp2_with fail
        go_loopw [5] (fun iv wr => ∃ k : Nat, k ≤ min nb (64 * m) ∧ iv = .int .i64 k ∧ OwnK secE wr w.heap.size (.slice (some ⟨g, 0, none⟩) m m) (layB lb m k) ∧ RowC wr g1 (dkA N xb nb cb M xw nw cw) ∧ Below w.heap.size w wr) (fun iv _ => min nb (64 * m) - (intOf iv).toNat)
        case atStart => exact ⟨0, by omega, rfl, hO1, hC1, hB1⟩
        case round =>
          clear hO1 hC1 hB1
          obtain ⟨k, hk, rfl, hO, hC, hB⟩ := hrel
          have n1 : wr.cell? ⟨g1, 1, none⟩ = some (.slice xb nb cb) := hC.cell 1
          obtain ⟨p1, hp1⟩ : ∃ b, decide (k < nb) = b := ⟨_, rfl⟩
          obtain ⟨p2, hp2⟩ : ∃ b, decide ((k : Int) < 64 * (m : Int)) = b := ⟨_, rfl⟩
          have HP1 : Hid (decide (k < nb) = p1) := hp1
          have HP2 : Hid (decide ((k : Int) < 64 * (m : Int)) = p2) := hp2
          clear hp1 hp2
          obtain ⟨t, ht⟩ : ∃ t, (bif p1 then p2 else false) = t := ⟨_, rfl⟩
          have HT : Hid ((bif p1 then p2 else false) = t) := ht
          clear ht
          go_upto_region 6 with fail
          refine wp_plains [Fx (.int .i64 ((k : Int))), Fx (.pointer (some ⟨g1, 1, none⟩)), Fx (.slice xb nb cb), Fx (.int .i64 ((nb : Int))), Fx (.bool p1), Fx (.bool p1), Fx (bif p1 then .int .i64 ((k : Int)) else undef), Fx (bif p1 then .int .i64 ((m : Int)) else undef), Fx (bif p1 then .int .i64 (((64 * m : Nat) : Int)) else undef), Fx (bif p1 then .bool p2 else undef), Fx (.bool t)] (by kernel_rfl) (by kernel_rfl) ?_ ?_ ?_
          · repeat' (first | exact all_nil | apply all_cons)
            all_goals intro v y y' hv hb
            all_goals first | exact Fx_mono _ _ _ _ hv hb
          · refine ⟨?_, ?_, ?_, ?_, ?_, ?_, ?_, ?_, ?_, ?_, ?_, trivial⟩
            all_goals
              intro ρ x hp ρc ρg ρf ho hd
              have o1 : ρ (.tmp 1) = .pointer (some ⟨g1, 0, none⟩) := ho 1 rfl
              have o5 : ρ (.tmp 5) = .int .i64 ((k : Int)) := ho 5 rfl
              have o3 : ρ (.tmp 3) = .int .i64 ((m : Int)) := ho 3 rfl
              clear ho
              have kc := cell_later hp n1
              simp only [depsR, depR, slotR, Fx, List.getElem?_cons_succ, List.getElem?_cons_zero, Region.binds, forall_const] at hd
              simp only [guardR]
              go_split_ands
            · go_simp
            · go_simp
            · go_simp
            · go_simp
            · have hb := HP1.out
              go_simp
            · go_simp
            · refine ⟨fun hy => ?_, fun hy => ?_⟩
              · obtain rfl : p1 = true := by cases p1 <;> first | rfl | (exfalso; simp [yieldR, slotR, undef, *] at hy)
                go_simp
              · obtain rfl : p1 = false := by cases p1 <;> first | rfl | (exfalso; simp [yieldR, slotR, undef, *] at hy)
                rfl
            · refine ⟨fun hy => ?_, fun hy => ?_⟩
              · obtain rfl : p1 = true := by cases p1 <;> first | rfl | (exfalso; simp [yieldR, slotR, undef, *] at hy)
                go_simp
              · obtain rfl : p1 = false := by cases p1 <;> first | rfl | (exfalso; simp [yieldR, slotR, undef, *] at hy)
                rfl
            · refine ⟨fun hy => ?_, fun hy => ?_⟩
              · obtain rfl : p1 = true := by cases p1 <;> first | rfl | (exfalso; simp [yieldR, slotR, undef, *] at hy)
                have hb := HM64.out
                go_simp
              · obtain rfl : p1 = false := by cases p1 <;> first | rfl | (exfalso; simp [yieldR, slotR, undef, *] at hy)
                rfl
            · refine ⟨fun hy => ?_, fun hy => ?_⟩
              · obtain rfl : p1 = true := by cases p1 <;> first | rfl | (exfalso; simp [yieldR, slotR, undef, *] at hy)
                have hb := HP2.out
                go_simp
              · obtain rfl : p1 = false := by cases p1 <;> first | rfl | (exfalso; simp [yieldR, slotR, undef, *] at hy)
                rfl
            · have ht9 := HT.out
              cases p1
              · simp only [cond_false] at *
                subst ht9
                go_simp
              · simp only [cond_true] at *
                go_simp
          · intro vs x1 hp hw
            simp only [owed, Fx] at hw
            obtain ⟨e0, e1, e2, e3, e4, e5, e6, e7, e8, e9, e10, -⟩ := hw
            simp only [List.length_cons, List.length_nil, List.take_succ_cons, List.take_nil, List.drop_succ_cons, List.drop_nil, asg, List.cons_append, List.nil_append, e0, e1, e2, e3, e4, e5, e6, e7, e8, e9, e10]
            clear e0 e1 e2 e3 e4 e5 e6 e7 e8 e9 e10
            have hO2 := hO.keep hp
            have hC2 := hC.kept hp
            have hB2 := hB.trans (hp.mono hB.size)
            clear hO hC hB hp n1
            have ht := HT.out
            cases t
            · have hkend : min nb (64 * m) = k := by
                have hq1 := HP1.out
                have hq2 := HP2.out
                cases p1
                · rw [decide_eq_false_iff_not] at hq1; omega
                · cases p2
                  · rw [decide_eq_false_iff_not] at hq2; omega
                  · cases ht
              have HKE : Hid (min nb (64 * m) = k) := hkend
              clear hkend
              go_upto_region 9 with fail
              have hPe : layB lb m (min lb.length (64 * m)) = layB lb m k := by rw [hlb, HKE.out]
              obtain ⟨PP, hPP⟩ : ∃ p, layB lb m k = p := ⟨_, rfl⟩
              have hPl : PP.length = m := by rw [← hPP, layB_len]
              rw [hPP] at hPe hO2
              have HPe : Hid (layB lb m (min lb.length (64 * m)) = PP) := hPe
              have n2 : x1.cell? ⟨g1, 2, none⟩ = some (.int .i64 M) := hC2.cell 2
              clear hPe hPP HKE HP1 HP2 HT ht hk
              have hm2 : (2 : Int) < (m : Int) := by omega
              by_cases hM1 : M = 1
              · subst hM1
                have hst : (secStore (.pointer (some ⟨g, 128, none⟩)) (.agg (secA secZ))).run Try.prog x1 = .ok .skip (x1.setCells g 128 (secA secZ).toList) := secStore_mid hO2 2 secZ (by omega)
                have hO3 : OwnK secE (x1.setCells g 128 (secA secZ).toList) w.heap.size (.slice (some ⟨g, 0, none⟩) m m) (PP.set 2 secZ) := secPut hO2 2 secZ (by omega)
                have hC3 : RowC (x1.setCells g 128 (secA secZ).toList) g1 (dkA N xb nb cb 1 xw nw cw) := hC2.block ((setC_frame g (secA secZ).toList 128 x1).2.2.2.2 g1 (fun e => hne e.symm))
                have hB3 : Below w.heap.size w (x1.setCells g 128 (secA secZ).toList) := (below_grow10 hB2 (grown_setC x1 g 128 (secA secZ).toList) hgw)
                clear hO2 hC2 hB2
                go_upto_region 11 with fail
                generalize x1.setCells g 128 (secA secZ).toList = Z at hO3 hC3 hB3 ⊢
                clear hst n2
                have n3 : Z.cell? ⟨g1, 3, none⟩ = some (.slice xw nw cw) := hC3.cell 3
                have hPt := rPut9_any lw xw nw cw (m : Int) Z hlw (by omega) (hw9.kept hB3) hwB (by omega) (by omega)
                go_wp2_with fail
                go_at_call 16
                refine hPt.mono ?_
                rintro e w5 ⟨rfl, hb5⟩
                have hb6 := hb5.trans ((below_alloc w5 (.cells (secA (mPutS lw (m : Int))) 44)).mono hb5.size)
                have HO : Hid (OwnK secE (w5.alloc (.cells (secA (mPutS lw (m : Int))) 44)) w.heap.size (.slice (some ⟨g, 0, none⟩) m m) (PP.set 2 secZ)) := hO3.keep hb6
                have HB : Hid (Below w.heap.size w (w5.alloc (.cells (secA (mPutS lw (m : Int))) 44))) := hB3.trans (hb6.mono hB3.size)
                have HLe : Hid (PP.set 2 secZ = LL) := by
                  show _ = _
                  rw [← HLL.out]
                  unfold dskM dskP
                  rw [if_neg (by omega), if_pos rfl, HPe.out]
                have hC4 := hC3.kept hb6
                clear hO3 hC3 hB3 hb5 hb6 n3 hPt
                go_upto_region 12 with fail
                generalize w5.alloc (.cells (secA (mPutS lw (m : Int))) 44) = Z5 at HO HB hC4 ⊢
                have n2 : Z5.cell? ⟨g1, 2, none⟩ = some (.int .i64 1) := hC4.cell 2
                clear hC4
                go_wp2_with fail
                go_ret
                exact ⟨g, rfl, HLe.out ▸ HO.out, HB.out⟩
              · have hM1' : ¬ M = 1 := hM1
                go_upto_region 11 with fail
                have n3 : x1.cell? ⟨g1, 3, none⟩ = some (.slice xw nw cw) := hC2.cell 3
                have hPt := rPut9_any lw xw nw cw (m : Int) x1 hlw (by omega) (hw9.kept hB2) hwB (by omega) (by omega)
                obtain ⟨MS, hMS⟩ : ∃ q, mPutS lw (m : Int) = q := ⟨_, rfl⟩
                obtain ⟨ME, hME⟩ : ∃ q, mPutE lw (m : Int) = q := ⟨_, rfl⟩
                rw [hMS, hME] at hPt
                go_wp2_with fail
                go_at_call 16
                refine hPt.mono ?_
                rintro e w5 ⟨rfl, hb5⟩
                clear n3 hPt n2
                have hb6 := hb5.trans ((below_alloc w5 (.cells (secA MS) 44)).mono hb5.size)
                have h6 : ScR (w5.alloc (.cells (secA MS) 44)) w5.heap.size MS := ScR.new w5 MS 44
                have hO3 := hO2.keep hb6
                have hC3 := hC2.kept hb6
                have hB3 := hB2.trans (hb6.mono hB2.size)
                have hne6 : g ≠ w5.heap.size := by
                  have q1 := (World.ownsRow.lt hO2 g rfl).2
                  have q2 := hb5.size
                  omega
                clear hO2 hC2 hB2 hb5 hb6
                go_upto_region 12 with fail
                obtain ⟨g6, hg6⟩ : ∃ q, w5.heap.size = q := ⟨_, rfl⟩
                rw [hg6] at h6 hne6
                simp only [hg6]
                clear hg6
                generalize w5.alloc (.cells (secA MS) 44) = Z at h6 hO3 hC3 hB3 ⊢
                have n2 : Z.cell? ⟨g1, 2, none⟩ = some (.int .i64 M) := hC3.cell 2
                by_cases hM2 : M = 2
                · subst hM2
                  by_cases hE : ME = 0
                  · subst hE
                    have hbt : batB (m : Int) lw = true := by
                      rcases mPut_bat (n := m) (by omega) (by omega) lw with ⟨-, -, h⟩ | ⟨h, -⟩
                      · exact h
                      · omega
                    have hw8 := bat_len hbt
                    rw [hlw] at hw8
                    have hst : (secStore (.pointer (some ⟨g, 128, none⟩)) (.agg (secA MS))).run Try.prog Z = .ok .skip (Z.setCells g 128 (secA MS).toList) := secStore_mid hO3 2 MS (by omega)
                    have hO4 : OwnK secE (Z.setCells g 128 (secA MS).toList) w.heap.size (.slice (some ⟨g, 0, none⟩) m m) (PP.set 2 MS) := secPut hO3 2 MS (by omega)
                    have hC4 : RowC (Z.setCells g 128 (secA MS).toList) g1 (dkA N xb nb cb 2 xw nw cw) := hC3.block ((setC_frame g (secA MS).toList 128 Z).2.2.2.2 g1 (fun e => hne e.symm))
                    have hB4 : Below w.heap.size w (Z.setCells g 128 (secA MS).toList) := (below_grow10 hB3 (grown_setC Z g 128 (secA MS).toList) hgw)
                    obtain ⟨r6, q6⟩ := h6
                    clear hO3 hC3 hB3
                    go_upto_region 14 with fail
                    generalize Z.setCells g 128 (secA MS).toList = Z2 at hO4 hC4 hB4 ⊢
                    clear hst n2 r6 q6
                    obtain ⟨P2, hP2⟩ : ∃ p, PP.set 2 MS = p := ⟨_, rfl⟩
                    rw [hP2] at hO4
                    go_wp2_with fail
                    go_loopw [8] (fun iv wr => ∃ i : Nat, i ≤ nw ∧ iv = .int .i64 i ∧ OwnK secE wr w.heap.size (.slice (some ⟨g, 0, none⟩) m m) (layW P2 lw i) ∧ RowC wr g1 (dkA N xb nb cb 2 xw nw cw) ∧ Below w.heap.size w wr) (fun iv _ => nw - (intOf iv).toNat)
                    case atStart => exact ⟨0, by omega, rfl, hO4, hC4, hB4⟩
                    case round =>
                      clear hO4 hC4 hB4
                      obtain ⟨i, hi, rfl, hO5, hC5, hB5⟩ := hrel
                      have n3 : wr.cell? ⟨g1, 3, none⟩ = some (.slice xw nw cw) := hC5.cell 3
                      by_cases hin : i < nw
                      · have hin' : (i : Int) < (nw : Int) := by omega
                        have hg9 : lw[i]? = some (atW lw i, dtW lw i) := by rw [List.getElem?_eq_getElem (by omega), l_eta (by omega)]
                        obtain ⟨bw, ow, rfl, hbw, hrw⟩ := (hw9.kept hB5).at i _ hg9
                        have hdt := rg_of (k := 64) (w := wr) (b := bw) (o := ow + i * 65 + 1) (cs := (secA (dtW lw i)).toList) (fun j u hu => by
                          rw [wrE_k, wrE_enc, wrA_list] at hrw
                          have := hrw (j + 1) u (by rw [List.getElem?_cons_succ]; exact hu)
                          rwa [show ow + i * 65 + (j + 1) = ow + i * 65 + 1 + j by omega] at this) (by simp)
                        obtain ⟨rk, rv⟩ := hdt
                        rw [Array.toArray_toList] at rv
                        have m3 : IntKind.i64.wrap (3 + (i : Int)) = ((3 + i : Nat) : Int) := by rw [IntKind.wrap_i64]; omega
                        obtain ⟨i3, hi3⟩ : ∃ q, 3 + i = q := ⟨_, rfl⟩
                        rw [hi3] at m3
                        have hi3m : (i3 : Int) < (m : Int) := by omega
                        have hst := secStore_mid hO5 i3 (dtW lw i) (by omega)
                        have HO6 : Hid (OwnK secE (wr.setCells g (i3 * 64) (secA (dtW lw i)).toList) w.heap.size (.slice (some ⟨g, 0, none⟩) m m) (layW P2 lw (i + 1))) := by
                          show OwnK _ _ _ _ _
                          rw [layW, hi3]; exact secPut hO5 i3 (dtW lw i) (by omega)
                        have HC6 : Hid (RowC (wr.setCells g (i3 * 64) (secA (dtW lw i)).toList) g1 (dkA N xb nb cb 2 (some ⟨bw, ow, none⟩) nw cw)) := hC5.block ((setC_frame g (secA (dtW lw i)).toList (i3 * 64) wr).2.2.2.2 g1 (fun e => hne e.symm))
                        have HB6 : Hid (Below w.heap.size w (wr.setCells g (i3 * 64) (secA (dtW lw i)).toList)) := (below_grow10 hB5 (grown_setC wr g (i3 * 64) (secA (dtW lw i)).toList) hgw)
                        obtain ⟨dt, hdte⟩ : ∃ q, dtW lw i = q := ⟨_, rfl⟩
                        rw [hdte] at rv hst HO6 HC6 HB6
                        clear hO5 hC5 hB5 hg9 hrw hi3 hdte
                        go_wp2_with fail
                        go_roundw
                        case rel => exact ⟨i + 1, by omega, by go_num, HO6.out, HC6.out, HB6.out⟩
                        case measure => simp [intOf]; omega
                      · obtain rfl : nw = i := by omega
                        have HO6 : Hid (OwnK secE wr w.heap.size (.slice (some ⟨g, 0, none⟩) m m) (layW P2 lw nw)) := hO5
                        have HB6 : Hid (Below w.heap.size w wr) := hB5
                        have HLe : Hid (layW P2 lw nw = LL) := by
                          show _ = _
                          rw [← HLL.out]
                          unfold dskM dskP
                          rw [if_pos ⟨rfl, hME⟩, if_neg (by omega), HPe.out, hMS, hP2, hlw]
                        clear hO5 hC5 hB5
                        go_wp2_with fail
                        go_ret
                        exact ⟨g, rfl, HLe.out ▸ HO6.out, HB6.out⟩
                  · have HO : Hid (OwnK secE Z w.heap.size (.slice (some ⟨g, 0, none⟩) m m) PP) := hO3
                    have HB : Hid (Below w.heap.size w Z) := hB3
                    have HLe : Hid (PP = LL) := by
                      show _ = _
                      rw [← HLL.out]
                      unfold dskM dskP
                      rw [if_neg (by intro h; exact hE (hME ▸ h.2)), if_neg (by omega), HPe.out]
                    clear hO3 hC3 hB3 h6
                    go_wp2_with fail
                    go_ret
                    exact ⟨g, rfl, HLe.out ▸ HO.out, HB.out⟩
                · have HO : Hid (OwnK secE Z w.heap.size (.slice (some ⟨g, 0, none⟩) m m) PP) := hO3
                  have HB : Hid (Below w.heap.size w Z) := hB3
                  have HLe : Hid (PP = LL) := by
                    show _ = _
                    rw [← HLL.out]
                    unfold dskM dskP
                    rw [if_neg (by intro h; exact hM2 h.1), if_neg hM1, HPe.out]
                  clear hO3 hC3 hB3 h6
                  go_wp2_with fail
                  go_ret
                  exact ⟨g, rfl, HLe.out ▸ HO.out, HB.out⟩
            · obtain ⟨rfl, rfl⟩ : p1 = true ∧ p2 = true := by cases p1 <;> cases p2 <;> simp at ht ⊢
              have hkn : k < nb := by have := HP1.out; rw [decide_eq_true_eq] at this; omega
              have hkm : k < 64 * m := by have := HP2.out; rw [decide_eq_true_eq] at this; omega
              clear HP1 HP2 HT ht
              obtain ⟨bb, ob, hxb, hbbl, cB⟩ := IsB.spot (w := x1) (x := xb) (c := cb) (l := lb) (by rw [hlb]; exact hb.kept hB2) k (by omega)
              subst hxb
              obtain ⟨by9, hby⟩ : ∃ y, lb[k]?.getD 0 = y := ⟨_, rfl⟩
              rw [hby] at cB
              have n1 : x1.cell? ⟨g1, 1, none⟩ = some (.slice (some ⟨bb, ob, none⟩) nb cb) := hC2.cell 1
              have hd : (layB lb m k)[k / 64]? = some ((layB lb m k).getD (k / 64) secZ) := by
                rw [List.getD_eq_getElem?_getD, List.getElem?_eq_getElem (by rw [layB_len]; omega)]; rfl
              have hI0 : layB lb m (k + 1) = (layB lb m k).set (k / 64) (upd ((layB lb m k).getD (k / 64) secZ) (k % 64) by9) := by rw [layB, List.getD_eq_getElem?_getD (l := lb), hby]
              obtain ⟨dd, hdd⟩ : ∃ d, (layB lb m k).getD (k / 64) secZ = d := ⟨_, rfl⟩
              rw [hdd] at hd hI0
              clear hdd hby
              have cc0 := sec_cell10 (OwnK.range secE_ok hO2 (k / 64) _ hd) (k % 64) (by omega)
              rw [secE_k] at cc0
              obtain ⟨a, ha⟩ : ∃ a, k / 64 = a := ⟨_, rfl⟩
              obtain ⟨b, hb9⟩ : ∃ b, k % 64 = b := ⟨_, rfl⟩
              have F1 : Hid (Int.tdiv (k : Int) 64 = (a : Int) ∧ IntKind.i64.wrap (a : Int) = (a : Int)) := by show _ ∧ _; rw [Int.tdiv_eq_ediv_of_nonneg (by omega), IntKind.wrap_i64]; omega
              have F2 : Hid (Int.tmod (k : Int) 64 = (b : Int)) := by show _ = _; rw [Int.tmod_eq_emod_of_nonneg (by omega)]; omega
              have FK : Hid ((k : Int) < (nb : Int)) := by show _ < _; omega
              have FA : Hid ((0 : Int) ≤ (a : Int) ∧ (a : Int) < (m : Int)) := by show _ ∧ _; omega
              have FB : Hid ((0 : Int) ≤ (b : Int) ∧ (b : Int) < 64) := by show _ ∧ _; omega
              have hb64 : b < 64 := by omega
              rw [ha, hb9] at cc0 hI0
              rw [ha] at hd
              have HD : Hid ((layB lb m k)[a]? = some dd) := hd
              have HI : Hid (layB lb m (k + 1) = (layB lb m k).set a (upd dd b by9)) := hI0
              have HK1 : Hid (k + 1 ≤ min nb (64 * m)) := by show _ ≤ _; omega
              have hk9 : k < 5120 := by omega
              clear ha hb9 hd hI0 hkn hkm hk
              go_upto_region 8 with fail
              obtain ⟨x2, rfl⟩ : ∃ x, x = x1 := ⟨_, rfl⟩
              refine wp_reliesT [Fx (.slice (some ⟨g, 0, none⟩) m m), Fx (.int .i64 ((k : Int))), Fx (.int .i64 ((a : Int))), Fx (.int .i64 ((k : Int))), Fx (.int .i64 ((b : Int))), Fx (.pointer (some ⟨g1, 1, none⟩)), Fx (.slice (some ⟨bb, ob, none⟩) nb cb), Fx (.int .i64 ((k : Int))), Fx (.pointer (some ⟨bb, ob + k, none⟩)), Fx (.int .u8 (by9.toNat : Int)), Fx (.pointer (some ⟨g, a * 64, none⟩)), Fx (.pointer (some ⟨g, a * 64 + b, none⟩))] (by kernel_rfl) (by kernel_rfl) ?_ ?_ ?_
              · repeat' (first | exact all_nil | apply all_cons)
                all_goals intro v y y' hv hb
                all_goals first | exact Fx_mono _ _ _ _ hv hb
              · refine ⟨?_, ?_, ?_, ?_, ?_, ?_, ?_, ?_, ?_, ?_, ?_, ?_, trivial⟩
                all_goals
                  intro ρ x hp ρc ρg ρf ho hd
                  have o1 : ρ (.tmp 1) = .pointer (some ⟨g1, 0, none⟩) := ho 1 rfl
                  have o5 : ρ (.tmp 5) = .int .i64 ((k : Int)) := ho 5 rfl
                  have o4 : ρ (.tmp 4) = .slice (some ⟨g, 0, none⟩) m m := ho 4 rfl
                  clear ho
                  have kc := cell_later hp n1
                  have kb := cell_later hp cB
                  simp only [depsR, depR, slotR, Fx, List.getElem?_cons_succ, List.getElem?_cons_zero, Region.binds, forall_const] at hd
                  simp only [guardR]
                  go_split_ands
                · go_simp
                · go_simp
                · obtain ⟨hq, hq2⟩ := F1.out
                  go_simp
                · go_simp
                · have hq := F2.out
                  go_simp
                · go_simp
                · go_simp
                · go_simp
                · have hq := FK.out
                  go_simp
                · go_simp
                · obtain ⟨z1, z2⟩ := FA.out
                  go_simp
                · obtain ⟨z1, z2⟩ := FB.out
                  go_simp
              · intro vs x1 hp hw
                simp only [owed, Fx] at hw
                obtain ⟨e0, e1, e2, e3, e4, e5, e6, e7, e8, e9, e10, e11, -⟩ := hw
                simp only [List.length_cons, List.length_nil, List.take_succ_cons, List.take_zero, List.drop_succ_cons, List.drop_zero, asg, List.cons_append, List.nil_append, e0, e1, e2, e3, e4, e5, e6, e7, e8, e9, e10, e11]
                clear e0 e1 e2 e3 e4 e5 e6 e7 e8 e9 e10 e11
                have hO3 := OwnK.keep hO2 hp
                have hC3 := hC2.kept hp
                have hB3 := hB2.trans (hp.mono hB2.size)
                have hc3 := cell_later hp cc0
                have hf3 := OwnK.frz hO3 (a * 64 + b)
                have H4 : Hid (OwnK secE (x1.setCell ⟨g, a * 64 + b, none⟩ (.int .u8 (by9.toNat : Int))) w.heap.size (.slice (some ⟨g, 0, none⟩) m m) (layB lb m (k + 1))) := by
                  show OwnK _ _ _ _ _
                  have := OwnK.cellPut secE_ok hO3 a b _ _ _ HD.out (by show b < 64; omega) (secE_set10 _ b by9 hb64)
                  rw [secE_k] at this
                  rw [HI.out]
                  exact this
                have HC4 : Hid (RowC (x1.setCell ⟨g, a * 64 + b, none⟩ (.int .u8 (by9.toNat : Int))) g1 (dkA N (some ⟨bb, ob, none⟩) nb cb M xw nw cw)) := hC3.set_ne _ _ hne
                have HB4 : Hid (Below w.heap.size w (x1.setCell ⟨g, a * 64 + b, none⟩ (.int .u8 (by9.toNat : Int)))) := hB3.setCell (p := ⟨g, a * 64 + b, none⟩) hgw _
                clear hO2 hC2 hB2 hO3 hC3 hB3 hp cc0 HD HI F1 F2 FK FA FB n1 cB
                go_wp2_with fail
                go_roundw
                case rel => exact ⟨k + 1, HK1.out, by go_num, H4.out, HC4.out, HB4.out⟩
                case measure => have := HK1.out; simp [intOf]; omega
end Go.Proofs.Ytpckdkgbeemalaa
