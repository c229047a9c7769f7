import Derived.Test.YtafbkdpheneceaaQHea4
namespace Go.Proofs.Ytafbkdpheneceaa
open Go.RowKit

/-! A heap's copy; the first one that is so; a part of the sectors; what is given -/
def spLit0 : Sem Next := do pure (.value (← Instr.buildSlice 57 0 #[]))
@[go_sem ↓] theorem execOp_spLit0 (ρ : Operand → Value) (dst : Option Tmp) (ty : TypeId) (pos : String) (after : Array Edge) (guard : Option (Nat × Bool)) : execOp ρ { dst, op := .buildSlice 57 0 #[], type := ty, pos, after, guard } = spLit0 := by simp [execOp, spLit0]
@[go_sem] theorem run_spLit0 (w : World) : spLit0.run Try.prog w = .ok (.value (.slice (some ⟨w.heap.size, 0, none⟩) 0 0)) (w.alloc (.cells #[] 56)) := by
  have h := run_litK0 spE_ok w
  simp only [spE] at h
  simp only [spLit0, Sem.run_bind, h]
  rfl
@[go_sem] theorem eqNil_sp (w : World) (a : Option Addr) (n c : Nat) : (binOp .eql 57 (.slice a n c) (.slice none 0 0)).run Try.prog w = .ok (.bool a.isNone) w := Lib.run_eql_slice_nil w _ _ a n c 0 0 Try.underlying57
set_option linter.unusedSimpArgs false in
theorem cloneSp (w : World) (x : Option Addr) (n c : Nat) (ds : List Pr) (hn : ds.length = n) (h : IsK spE w (.slice x n c) ds) (hl : n ≤ 1099511627776) :
    Calls Try.prog 42 #[.slice x n c] w fun e w' => ∃ y c', e = .returned (.slice y n c') ∧ OwnK spE w' w.heap.size (.slice y n c') ds ∧ Below w.heap.size w w' := by
  cases x with
  | none =>
    obtain rfl : ds = [] := by
      cases ds with
      | nil => rfl
      | cons d r => obtain ⟨b, o, hx, -⟩ := h.at 0 d rfl; cases hx
    obtain rfl : n = 0 := by simpa using hn.symm
    have HO : Hid _ := OwnK.nil spE w w.heap.size
    clear h
    go_enter Try.func42, Try.ntmps42
    go_wp2
    go_ret
    exact ⟨none, 0, rfl, HO.out, Below.refl _ _⟩
  | some x =>
    have hb := below_alloc w (.cells #[] 56)
    have hO := OwnK.lit0 spE w
    have hI := h.kept hb
    rw [← hn] at hI
    obtain ⟨y, c', w1, hr, hO1, hB1⟩ := run_copyK spE_ok (w.alloc (.cells #[] 56)) _ (some x) c ds w.heap.size 57 hO (by simp) hI (by show ds.length * 16 ≤ _; omega) (by unfold maxLen; omega)
    have hS : spE.S = 57 := rfl
    rw [hS, hn] at hr
    rw [hn] at hO1
    have HO : Hid _ := hO1
    have HB : Hid (Below w.heap.size w w1) := hb.trans hB1
    clear hO hI hO1 hB1 hb h
    go_enter Try.func42, Try.ntmps42
    go_wp2_with (at_builtin; refine wpL_appG 57 rfl _ _ rfl _ w1 (by exact hr) ?_)
    go_ret
    exact ⟨y, c', rfl, HO.out, HB.out⟩
theorem he_bodyPost {fn : Func} {R : Ending → World → Prop} {a : Act} {w : World} (p n : Nat) (v : Value) (hres : fn.results = #[.cell p 59]) (hp : a.tmps.getD p undef = .pointer (some ⟨n, 0, none⟩)) (hd : a.defers = [])
    (hg : RowC w n (heA v)) (h : R (.returned (.agg (heA v))) w) : bodyPost Try.prog fn R .ret a w := by
  obtain ⟨t, ht⟩ := row_of_L hg.1
  rw [hg.2] at ht
  exact bodyPost_ret (results_cell_row hres a.tmps w n t (heA v) (0, 0) _ hp ht Try.underlying59 rfl (by rw [sizeT_he]; rfl)) hd h
theorem keep_setRow (w : World) (g : Nat) (c : Array Value) : Keep [g] w (w.setRow g c) := ⟨rfl, rfl, rfl, by unfold World.setRow; simp, fun k _ hk => setRow_other w g k _ (by simpa using hk)⟩
theorem below_setRow {B : Nat} {w0 w : World} (h : Below B w0 w) (g : Nat) (c : Array Value) (hg : B ≤ g) (hB : B ≤ w0.heap.size) : Below B w0 (w.setRow g c) := by
  have hk := keep_setRow w g c
  exact ⟨hk.os.trans h.os, hk.tape.trans h.tape, hk.output.trans h.output, Nat.le_trans h.size hk.size, fun k hb => (hk.block k (by have := h.size; omega) (by simp; omega)).trans (h.block k hb)⟩
set_option linter.unusedSimpArgs false in
theorem hcopy_any (w : World) (b o : Nat) (cur : Array Value) (T : TypeId) (v : Value) (l : List Pr) (h : HpAt w b o cur T v l) (hn : l.length ≤ 1048576) :
    Calls Try.prog 36 #[.pointer (some ⟨b, o, none⟩)] w fun e w' => ∃ y c', e = .returned (.agg (heA (.slice y l.length c'))) ∧ OwnK spE w' w.heap.size (.slice y l.length c') l ∧ Below w.heap.size w w' := by
  obtain ⟨xp, cp, rfl⟩ := (h.own.isK spE_ok).len
  have b0 := below_alloc w (.cells (heA (.slice none 0 0)) 59)
  have hH := h.later b0
  have kb := RowC.newB w (heA (.slice none 0 0)) 59
  obtain ⟨n, hnl⟩ : ∃ n, l.length = n := ⟨_, rfl⟩
  rw [hnl] at hH hn ⊢
  have hcl := cloneSp (w.alloc (.cells (heA (.slice none 0 0)) 59)) xp n cp l hnl (hH.own.isK spE_ok) (by omega)
  have kc := hH.cell
  have hsX : (w.alloc (.cells (heA (.slice none 0 0)) 59)).heap.size = w.heap.size + 1 := by simp
  go_enter Try.func36, Try.ntmps36
  go_upto_region 1 with fail
  generalize w.alloc (.cells (heA (.slice none 0 0)) 59) = X at hH kb b0 hcl kc hsX ⊢
  go_wp2_with fail
  go_at_call 42
  refine hcl.mono ?_
  rintro e w1 ⟨y, c', rfl, hO, hB⟩
  have kb1 := kb.kept hB
  have q1 := kb1.1
  have q2 := kb1.2
  have q3 : (rowAt w1 w.heap.size).size = 1 := by rw [q2]; rfl
  have hrow : RowC (w1.setRow w.heap.size (heA (.slice y n c'))) w.heap.size (heA (.slice y n c')) := ⟨rowL_setRow_same _ _ _ q1, rowAt_setRow_L _ _ _ q1⟩
  have hO2 := hO.keeps (keep_setRow w1 w.heap.size (heA (.slice y n c'))) (fun q hq => by have := World.ownsRow.lt hO q hq; simp; omega)
  have hB2 := below_setRow (b0.trans (hB.mono b0.size)) w.heap.size (heA (.slice y n c')) (Nat.le_refl _) (Nat.le_refl _)
  have hst := run_store_he w1 w.heap.size (heA (.slice y n c')) q1 q3 rfl (heA_one y n c')
  go_wp2
  refine he_bodyPost 2 w.heap.size _ rfl rfl rfl hrow ?_
  exact ⟨y, c', rfl, hO2.le (by omega), hB2⟩
set_option linter.unusedSimpArgs false in
set_option maxHeartbeats 1000000 in
theorem index_cap (w : World) (x : Option Addr) (n c : Nat) (l : List Pr) (hn : l.length = n) (h : IsK spE w (.slice x n c) l) (hl : n ≤ 1048576) (d : Pr → Bool) (F : FuncId) (pv : Value) (hF : ∀ args w, (callFunc F args).run Try.prog w = .ok (.enter F args) w) (hC : ∀ W, Below w.heap.size w W → ∀ p, Calls Try.prog F #[.agg (prA p), pv] W fun e w' => e = .returned (.bool (d p)) ∧ Below W.heap.size W w') :
    Calls Try.prog 24 #[.slice x n c, .func (.func F) #[] #[pv]] w fun e w' => (∃ r : Int, e = .returned (.int .i64 r) ∧ ((r = -1 ∧ ∀ p ∈ l, d p = false) ∨ ∃ j : Nat, r = (j : Int) ∧ j < n ∧ d (gp l j) = true)) ∧ Below w.heap.size w w' := by
  go_enter Try.func24, Try.ntmps24
  go_wp2_with fail
  go_loopw [8] (fun iv wr => ∃ k : Nat, k ≤ n ∧ iv = .int .i64 k ∧ (∀ j, j < k → d (gp l j) = false) ∧ Below w.heap.size w wr) (fun iv _ => n - (intOf iv).toNat)
  case atStart => exact ⟨0, by omega, rfl, fun j hj => by omega, Below.refl _ _⟩
  case round =>
    obtain ⟨k, hk, rfl, hno, hB⟩ := hrel
    by_cases hlt : k < n
    · obtain ⟨b1, o1, rfl, hb1, hr1⟩ := (h.kept hB).at k (gp l k) (gp_get l k (by omega))
      obtain ⟨ok1, rg1⟩ := rg_of hr1 (spE_ok.len _)
      rw [spE_arr] at rg1
      rw [spE_k] at ok1 rg1
      have hk0 : (0 : Int) ≤ (k : Int) := by omega
      have hk1 : (k : Int) < (n : Int) := by omega
      have hcall := hC wr hB (gp l k)
      clear hr1
      go_wp2_with fail
      refine hcall.mono ?_
      rintro e w2 ⟨rfl, hB2⟩
      have hB3 : Below w.heap.size w w2 := hB.trans (hB2.mono hB.size)
      cases hd : d (gp l k)
      · have hw1 : IntKind.i64.wrap ((k : Int) + 1) = ((k + 1 : Nat) : Int) := by rw [IntKind.wrap_i64]; omega
        have HN : Hid (∀ j, j < k + 1 → d (gp l j) = false) := fun j hj => by
          rcases Nat.lt_or_ge j k with h1 | h1
          · exact hno j h1
          · obtain rfl : j = k := by omega
            exact hd
        clear hcall hno hd
        go_wp2_with fail
        go_roundw
        case rel => exact ⟨k + 1, by omega, by go_num, HN.out, hB3⟩
        case measure => simp [intOf]; omega
      · clear hcall hno
        go_wp2_with fail
        go_ret
        exact ⟨⟨_, rfl, .inr ⟨k, rfl, hlt, hd⟩⟩, hB3⟩
    · obtain rfl : k = n := by omega
      have HA : Hid (∀ p ∈ l, d p = false) := fun p hp => by
        obtain ⟨j, hj, rfl⟩ := List.getElem_of_mem hp
        have := hno j (by omega)
        rwa [getD_at _ _ hj] at this
      clear hno
      go_wp2_with fail
      go_ret
      exact ⟨⟨-1, rfl, .inl ⟨rfl, HA.out⟩⟩, hB⟩
set_option linter.unusedSimpArgs false in
set_option maxHeartbeats 1000000 in
theorem index_pre (w : World) (x : Option Addr) (n c : Nat) (l : List Pr) (hn : l.length = n) (h : IsK spE w (.slice x n c) l) (hl : n ≤ 1048576) (d : Pr → Bool) (F : FuncId) (pv : Value) (hF : ∀ args w, (callFunc F args).run Try.prog w = .ok (.enter F args) w) (hC : ∀ W, Below w.heap.size w W → ∀ p, Calls Try.prog F #[pv, .agg (prA p)] W fun e w' => e = .returned (.bool (d p)) ∧ Below W.heap.size W w') :
    Calls Try.prog 24 #[.slice x n c, .func (.func F) #[pv] #[]] w fun e w' => (∃ r : Int, e = .returned (.int .i64 r) ∧ ((r = -1 ∧ ∀ p ∈ l, d p = false) ∨ ∃ j : Nat, r = (j : Int) ∧ j < n ∧ d (gp l j) = true)) ∧ Below w.heap.size w w' := by
  go_enter Try.func24, Try.ntmps24
  go_wp2_with fail
  go_loopw [8] (fun iv wr => ∃ k : Nat, k ≤ n ∧ iv = .int .i64 k ∧ (∀ j, j < k → d (gp l j) = false) ∧ Below w.heap.size w wr) (fun iv _ => n - (intOf iv).toNat)
  case atStart => exact ⟨0, by omega, rfl, fun j hj => by omega, Below.refl _ _⟩
  case round =>
    obtain ⟨k, hk, rfl, hno, hB⟩ := hrel
    by_cases hlt : k < n
    · obtain ⟨b1, o1, rfl, hb1, hr1⟩ := (h.kept hB).at k (gp l k) (gp_get l k (by omega))
      obtain ⟨ok1, rg1⟩ := rg_of hr1 (spE_ok.len _)
      rw [spE_arr] at rg1
      rw [spE_k] at ok1 rg1
      have hk0 : (0 : Int) ≤ (k : Int) := by omega
      have hk1 : (k : Int) < (n : Int) := by omega
      have hcall := hC wr hB (gp l k)
      clear hr1
      go_wp2_with fail
      refine hcall.mono ?_
      rintro e w2 ⟨rfl, hB2⟩
      have hB3 : Below w.heap.size w w2 := hB.trans (hB2.mono hB.size)
      cases hd : d (gp l k)
      · have hw1 : IntKind.i64.wrap ((k : Int) + 1) = ((k + 1 : Nat) : Int) := by rw [IntKind.wrap_i64]; omega
        have HN : Hid (∀ j, j < k + 1 → d (gp l j) = false) := fun j hj => by
          rcases Nat.lt_or_ge j k with h1 | h1
          · exact hno j h1
          · obtain rfl : j = k := by omega
            exact hd
        clear hcall hno hd
        go_wp2_with fail
        go_roundw
        case rel => exact ⟨k + 1, by omega, by go_num, HN.out, hB3⟩
        case measure => simp [intOf]; omega
      · clear hcall hno
        go_wp2_with fail
        go_ret
        exact ⟨⟨_, rfl, .inr ⟨k, rfl, hlt, hd⟩⟩, hB3⟩
    · obtain rfl : k = n := by omega
      have HA : Hid (∀ p ∈ l, d p = false) := fun p hp => by
        obtain ⟨j, hj, rfl⟩ := List.getElem_of_mem hp
        have := hno j (by omega)
        rwa [getD_at _ _ hj] at this
      clear hno
      go_wp2_with fail
      go_ret
      exact ⟨⟨-1, rfl, .inl ⟨rfl, HA.out⟩⟩, hB⟩
theorem sp_bodyPost2 {fn : Func} {R : Ending → World → Prop} {a : Act} {w : World} (p q n : Nat) (x : Pr) (hres : fn.results = #[.cell p 56, .tmp q]) (hp : a.tmps.getD p undef = .pointer (some ⟨n, 0, none⟩)) (hd : a.defers = [])
    (hg : RowC w n (prA x)) (h : R (.returned (.tuple #[.agg (prA x), a.tmps.getD q undef])) w) : bodyPost Try.prog fn R .ret a w := by
  obtain ⟨t, ht⟩ := row_of_L hg.1
  rw [hg.2] at ht
  have hp' : a.tmps[p]?.getD undef = .pointer (some ⟨n, 0, none⟩) := by simpa using hp
  have hl := run_loadVar_row (P := Try.prog) w n t 56 (prA x) (0, 0) _ ht Try.underlying56 rfl (by rw [sizeT_sp]; rfl)
  refine bodyPost_ret (v := .tuple #[.agg (prA x), a.tmps.getD q undef]) ?_ hd h
  simp [results, hres, hp', asAddr, hl]
def partB (fr hi : Nat) (s n : Int) : Bool := decide (1 ≤ n ∧ (fr : Int) ≤ s ∧ s + n ≤ (hi : Int))
set_option linter.unusedSimpArgs false in
set_option maxHeartbeats 1000000 in
theorem part_any (w : World) (b fr hi : Nat) (s n : Int) (h0 : w.cell? ⟨b, 0, none⟩ = some (.int .i64 (fr : Int))) (h1 : w.cell? ⟨b, 1, none⟩ = some (.int .i64 (hi : Int))) (hh : hi ≤ 1024) (hs : i64 s) (hn : i64 n) :
    Calls Try.prog 23 #[.pointer (some ⟨b, 0, none⟩), .int .i64 s, .int .i64 n] w fun e w' => e = .returned (.tuple #[.agg (prA (if partB fr hi s n then (s, s + n) else prZ)), .bool (partB fr hi s n)]) ∧ Below w.heap.size w w' := by
  have b0 := below_alloc w (.cells (prA prZ) 56)
  have kb := RowC.newB w (prA prZ) 56
  have q1 := kb.1
  have q2 := kb.2
  have q3 : (rowAt (w.alloc (.cells (prA prZ) 56)) w.heap.size).size = 2 := by rw [q2]; exact prA_size _
  have k0 := cell_later b0 h0
  have k1 := cell_later b0 h1
  unfold i64 at hs hn
  by_cases c1 : n < 1
  · have hp : partB fr hi s n = false := by unfold partB; simp only [decide_eq_false_iff_not]; omega
    rw [hp]
    have hrow : RowC ((w.alloc (.cells (prA prZ) 56)).setRow w.heap.size (prA prZ)) w.heap.size (prA prZ) := ⟨rowL_setRow_same _ _ _ q1, rowAt_setRow_L _ _ _ q1⟩
    have hB := below_setRow b0 w.heap.size (prA prZ) (Nat.le_refl _) (Nat.le_refl _)
    go_enter Try.func23, Try.ntmps23
    go_upto_region 1 with fail
    generalize w.alloc (.cells (prA prZ) 56) = X at q1 q2 q3 k0 k1 hrow hB ⊢
    go_wp2
    refine sp_bodyPost2 6 7 w.heap.size _ rfl rfl rfl hrow ?_
    exact ⟨rfl, hB⟩
  · by_cases c2 : s < (fr : Int)
    · have hp : partB fr hi s n = false := by unfold partB; simp only [decide_eq_false_iff_not]; omega
      rw [hp]
      have hrow : RowC ((w.alloc (.cells (prA prZ) 56)).setRow w.heap.size (prA prZ)) w.heap.size (prA prZ) := ⟨rowL_setRow_same _ _ _ q1, rowAt_setRow_L _ _ _ q1⟩
      have hB := below_setRow b0 w.heap.size (prA prZ) (Nat.le_refl _) (Nat.le_refl _)
      go_enter Try.func23, Try.ntmps23
      go_upto_region 1 with fail
      generalize w.alloc (.cells (prA prZ) 56) = X at q1 q2 q3 k0 k1 hrow hB ⊢
      go_wp2
      refine sp_bodyPost2 6 7 w.heap.size _ rfl rfl rfl hrow ?_
      exact ⟨rfl, hB⟩
    · have hw : IntKind.i64.wrap ((hi : Int) - s) = (hi : Int) - s := by rw [IntKind.wrap_i64]; omega
      by_cases c3 : (hi : Int) - s < n
      · have hp : partB fr hi s n = false := by unfold partB; simp only [decide_eq_false_iff_not]; omega
        rw [hp]
        have hrow : RowC ((w.alloc (.cells (prA prZ) 56)).setRow w.heap.size (prA prZ)) w.heap.size (prA prZ) := ⟨rowL_setRow_same _ _ _ q1, rowAt_setRow_L _ _ _ q1⟩
        have hB := below_setRow b0 w.heap.size (prA prZ) (Nat.le_refl _) (Nat.le_refl _)
        go_enter Try.func23, Try.ntmps23
        go_upto_region 1 with fail
        generalize w.alloc (.cells (prA prZ) 56) = X at q1 q2 q3 k0 k1 hrow hB ⊢
        go_wp2
        refine sp_bodyPost2 6 7 w.heap.size _ rfl rfl rfl hrow ?_
        exact ⟨rfl, hB⟩
      · have hp : partB fr hi s n = true := by unfold partB; simp only [decide_eq_true_eq]; omega
        rw [hp]
        have hw2 : IntKind.i64.wrap (s + n) = s + n := by rw [IntKind.wrap_i64]; omega
        have hrow : RowC ((w.alloc (.cells (prA prZ) 56)).setRow w.heap.size (prA (s, s + n))) w.heap.size (prA (s, s + n)) := ⟨rowL_setRow_same _ _ _ q1, rowAt_setRow_L _ _ _ q1⟩
        have hB := below_setRow b0 w.heap.size (prA (s, s + n)) (Nat.le_refl _) (Nat.le_refl _)
        go_enter Try.func23, Try.ntmps23
        go_upto_region 1 with fail
        generalize w.alloc (.cells (prA prZ) 56) = X at q1 q2 q3 k0 k1 hrow hB ⊢
        go_wp2
        refine sp_bodyPost2 6 7 w.heap.size _ rfl rfl rfl hrow ?_
        exact ⟨rfl, hB⟩
set_option linter.unusedSimpArgs false in
set_option maxHeartbeats 1000000 in
theorem give_any (w : World) (b : Nat) (cur : Array Value) (T : TypeId) (v : Value) (l : List Pr) (p : Pr) (h : HpAt w b 2 cur T v l) (hn : l.length ≤ 1048000) (hU : Hp l) (h1 : -4611686018427387904 ≤ p.1) (h2 : p.1 ≤ 4611686018427387903) (h3 : -4611686018427387904 ≤ p.2) (h4 : p.2 ≤ 4611686018427387903) :
    Calls Try.prog 22 #[.pointer (some ⟨b, 0, none⟩), .agg (prA p)] w fun e w' => (∃ u, e = .returned u) ∧ (∃ v' l', HpAt w' b 2 cur T v' l' ∧ l'.Perm (gv p ++ l) ∧ Hp l' ∧ ∀ q, v'.ownBlock = some q → v.ownBlock = some q ∨ w.heap.size ≤ q) ∧ Keep (b :: v.ownBlock.toList) w w' := by
  have b0 := below_alloc w (.cells (prA p) 56)
  have hH := h.later b0
  have kb := RowC.newB w (prA p) 56
  have q1 := kb.1
  have q2 := kb.2
  have q3 : (rowAt (w.alloc (.cells (prA p) 56)) w.heap.size).size = 2 := by rw [q2]; exact prA_size _
  have hsz := size_any (w.alloc (.cells (prA p) 56)) p h1 h2 h3 h4
  obtain ⟨gb, hgb⟩ : ∃ q, w.heap.size = q := ⟨_, rfl⟩
  rw [hgb] at kb q1 q2 q3
  have hsX : (w.alloc (.cells (prA p) 56)).heap.size = w.heap.size + 1 := by simp
  obtain ⟨z, hz⟩ : ∃ z, p.2 - p.1 = z := ⟨_, rfl⟩
  rw [hz] at hsz
  obtain ⟨G, hG⟩ : ∃ G, gv p = G := ⟨_, rfl⟩
  rw [hG]
  go_enter Try.func22, Try.ntmps22
  go_upto_region 1 with fail
  try simp only [hgb]
  generalize w.alloc (.cells (prA p) 56) = X at hH kb b0 q1 q2 q3 hsz hsX ⊢
  go_wp2_with fail
  go_at_call 32
  refine hsz.mono ?_
  rintro e w2 ⟨rfl, hB2⟩
  have hH2 := hH.later hB2
  have kb2 := kb.kept hB2
  have hB3 : Below w.heap.size w w2 := b0.trans (hB2.mono b0.size)
  clear q1 q2 q3 hsz hH kb
  by_cases hpos : 0 < z
  · obtain rfl : G = [p] := by rw [← hG]; unfold gv; rw [if_pos (by omega)]
    go_upto_region 2 with fail
    refine wp_reliesT [Fx (.pointer (some ⟨b, 0, none⟩)), Fx (.pointer (some ⟨b, 0, none⟩)), Fx (.pointer (some ⟨b, 2, none⟩)), Fx (.agg (prA p))] (by kernel_rfl) (by kernel_rfl) ?_ ?_ ?_
    · repeat' (first | exact all_nil | apply all_cons)
      all_goals intro v y y' hv hb
      all_goals first | exact Fx_mono _ _ _ _ hv hb
    · refine ⟨?_, ?_, ?_, ?_, trivial⟩
      all_goals
        intro ρ x hp ρc ρg ρf ho hd
        have o0 : ρ (.tmp 0) = .pointer (some ⟨b, 0, none⟩) := ho 0 rfl
        have o3 : ρ (.tmp 3) = .pointer (some ⟨gb, 0, none⟩) := ho 3 rfl
        clear ho
        have qs := kb2.kept hp
        have rok := qs.1
        have rat := qs.2
        have rsz : (rowAt x gb).size = 2 := by rw [rat]; exact prA_size _
        simp only [depsR, depR, slotR, Fx, List.getElem?_cons_succ, List.getElem?_cons_zero, Region.binds, forall_const] at hd
        simp only [guardR]
        go_split_ands
      · go_simp
      · go_simp
      · go_simp
      · go_simp
    · intro vs x2 hp hw
      simp only [owed, Fx] at hw
      obtain ⟨e0, e1, e2, e3, -⟩ := hw
      simp only [List.length_cons, List.length_nil, List.take_succ_cons, List.take_zero, List.drop_succ_cons, List.drop_zero, asg, List.cons_append, List.nil_append, e0, e1, e2, e3]
      clear e0 e1 e2 e3
      have hH3 := hH2.later hp
      have hpu := push_any x2 b 2 cur T v l p hH3 hn hU
      have hsz2 := hB3.size
      have hsz3 := hp.size
      have hB4 : Below w.heap.size w x2 := hB3.trans (hp.mono hB3.size)
      clear hH2 hp
      go_wp2_with fail
      go_at_call 37
      refine hpu.mono ?_
      rintro e w4 ⟨⟨u, rfl⟩, ⟨v', l', hH4, hP4, hU4, hv4⟩, hK4⟩
      go_wp2
      go_end0
      exact ⟨⟨_, rfl⟩, ⟨v', l', hH4, hP4, hU4, fun q hq => (hv4 q hq).imp id (fun h9 => by omega)⟩, (Keep.of_below hB4).trans hK4⟩
  · obtain rfl : G = [] := by rw [← hG]; unfold gv; rw [if_neg (by omega)]
    go_wp2_with fail
    go_end0
    exact ⟨⟨_, rfl⟩, ⟨v, l, hH2, List.Perm.refl _, hU, fun q hq => .inl hq⟩, Keep.of_below hB3⟩
end Go.Proofs.Ytafbkdpheneceaa
