import Derived.Test.YtadnfiikfhdphaaQGdj
namespace Go.Proofs.Ytadnfiikfhdphaa
open Go.RowKit

/-! assaylaw05's answered, Kind 1 2 3 9 -/
set_option linter.unusedSimpArgs false in
set_option linter.unusedVariables false in
set_option maxRecDepth 100000 in
set_option maxHeartbeats 8000000 in
theorem answered_1 {W : World} {B : Nat} {T : Nat → Option Th} {ps : List Pr5} {b : Bk} {k n : Nat} {da : Addr} {r : Nat} {st : DSt} (on a : Int) (v : UInt8) (y : Option Addr) (nb c : Nat) (bs : List Bool) (h : G5 W B T ps b (bkA b)) (hp : ps[k]? = some ⟨.pointer (some da), r, st, st⟩) (hL : Lim n st) (hn : n ≤ 4194304) (hb : BkOk n b) (ha0 : -9223372036854775808 ≤ a) (ha1 : a ≤ 9223372036854775807)
    (hbl : bs.length = nb) (hbn : nb ≤ 4194304) (hbc : nb ≤ c) (hbs : IsG W (.slice y nb c) (bs.map Value.bool)) (hby : bs ≠ [] → ∀ x, y = some x → x.block < B) :
    Calls Try.prog 9 #[.pointer (some da), .pointer (some ⟨r, 0, none⟩), .agg #[.int .i64 1, .int .i64 on, .int .i64 a, .int .u8 (v.toNat : Int), .slice y nb c], .pointer (some ⟨b.g, 0, none⟩)] W fun e w' => AnsPost W B T ps b k ⟨.pointer (some da), r, st, st⟩ n e w' := by
  have hA := h.box #[.int .i64 1, .int .i64 on, .int .i64 a, .int .u8 (v.toNat : Int), .slice y nb c] 46
  have hR := RowC.new W #[.int .i64 1, .int .i64 on, .int .i64 a, .int .u8 (v.toNat : Int), .slice y nb c] 46
  have hB0 := below_alloc W (.cells #[.int .i64 1, .int .i64 on, .int .i64 a, .int .u8 (v.toNat : Int), .slice y nb c] 46)
  have c0 : (W.alloc (.cells #[.int .i64 1, .int .i64 on, .int .i64 a, .int .u8 (v.toNat : Int), .slice y nb c] 46)).cell? ⟨W.heap.size, 0, none⟩ = some (.int .i64 1) := by rw [hR.cell 0]; rfl
  have c2 : (W.alloc (.cells #[.int .i64 1, .int .i64 on, .int .i64 a, .int .u8 (v.toNat : Int), .slice y nb c] 46)).cell? ⟨W.heap.size, 2, none⟩ = some (.int .i64 a) := by rw [hR.cell 2]; rfl
  have c3 : (W.alloc (.cells #[.int .i64 1, .int .i64 on, .int .i64 a, .int .u8 (v.toNat : Int), .slice y nb c] 46)).cell? ⟨W.heap.size, 3, none⟩ = some (.int .u8 (v.toNat : Int)) := by rw [hR.cell 3]; rfl
  have c4 : (W.alloc (.cells #[.int .i64 1, .int .i64 on, .int .i64 a, .int .u8 (v.toNat : Int), .slice y nb c] 46)).cell? ⟨W.heap.size, 4, none⟩ = some (.slice y nb c) := by rw [hR.cell 4]; rfl
  have hszB : B ≤ W.heap.size := h.ga.size
  have hLm : Lim 1099511627776 st := hL.le (by omega)
  have HB0 : Hid (Below B W (W.alloc (.cells #[.int .i64 1, .int .i64 on, .int .i64 a, .int .u8 (v.toNat : Int), .slice y nb c] 46))) := hB0.mono hszB
  clear hR
  go_enter Try.func9, Try.ntmps9
  go_upto_region 5 with fail
  obtain ⟨gk, hgk⟩ : ∃ g, b.g = g := ⟨_, rfl⟩
  rw [hgk] at hA
  simp only [hgk]
  obtain ⟨gb, hgb⟩ : ∃ g, W.heap.size = g := ⟨_, rfl⟩
  rw [hgb] at c0 c2 c3 c4 hA
  simp only [hgb]
  obtain ⟨Tb, hTb⟩ : ∃ t, updT T 64 (thRow gb #[.int .i64 1, .int .i64 on, .int .i64 a, .int .u8 (v.toNat : Int), .slice y nb c]) = t := ⟨_, rfl⟩
  rw [hTb] at hA
  generalize W.alloc (.cells #[.int .i64 1, .int .i64 on, .int .i64 a, .int .u8 (v.toNat : Int), .slice y nb c] 46) = X at hA hB0 HB0 c0 c2 c3 c4 ⊢
  have Hb : Hid _ := hb
  clear h hb hbs hB0
  go_wp2_with fail
  go_at_call 20
  refine (hA.flushD hp hLm).mono ?_
  rintro e w1 ⟨rfl, h1, k1⟩
  have d2 := k1.cell c2 (by simp)
  clear c0 c2 c3 c4
  go_wp2_with fail
  go_at_call 28
  refine (h1.flushR (set_getk hp) hLm).mono ?_
  rintro e w2 ⟨rfl, h2, k2⟩
  rw [set_set] at h2
  have HBB : Hid (Below B W w2) := HB0.out.trans ((k1.below hA.size).trans (k2.below h1.size))
  have HF : Hid (AnsPost W B T ps b k ⟨.pointer (some da), r, st, st⟩ n (.returned (.bool true)) w2) := by
    subst hTb
    exact h2.fin rfl rfl hL.flush Hb.out.up HBB.out
  clear h1 h2 k1 k2 hA d2
  go_wp2
  go_ret
  exact HF.out
set_option linter.unusedSimpArgs false in
set_option linter.unusedVariables false in
set_option maxRecDepth 100000 in
set_option maxHeartbeats 8000000 in
theorem answered_2 {W : World} {B : Nat} {T : Nat → Option Th} {ps : List Pr5} {b : Bk} {k n : Nat} {da : Addr} {r : Nat} {st : DSt} (on a : Int) (v : UInt8) (y : Option Addr) (nb c : Nat) (bs : List Bool) (h : G5 W B T ps b (bkA b)) (hp : ps[k]? = some ⟨.pointer (some da), r, st, st⟩) (hL : Lim n st) (hn : n ≤ 4194304) (hb : BkOk n b) (ha0 : -9223372036854775808 ≤ a) (ha1 : a ≤ 9223372036854775807)
    (hbl : bs.length = nb) (hbn : nb ≤ 4194304) (hbc : nb ≤ c) (hbs : IsG W (.slice y nb c) (bs.map Value.bool)) (hby : bs ≠ [] → ∀ x, y = some x → x.block < B) :
    Calls Try.prog 9 #[.pointer (some da), .pointer (some ⟨r, 0, none⟩), .agg #[.int .i64 2, .int .i64 on, .int .i64 a, .int .u8 (v.toNat : Int), .slice y nb c], .pointer (some ⟨b.g, 0, none⟩)] W fun e w' => AnsPost W B T ps b k ⟨.pointer (some da), r, st, st⟩ n e w' := by
  have hA := h.box #[.int .i64 2, .int .i64 on, .int .i64 a, .int .u8 (v.toNat : Int), .slice y nb c] 46
  have hR := RowC.new W #[.int .i64 2, .int .i64 on, .int .i64 a, .int .u8 (v.toNat : Int), .slice y nb c] 46
  have hB0 := below_alloc W (.cells #[.int .i64 2, .int .i64 on, .int .i64 a, .int .u8 (v.toNat : Int), .slice y nb c] 46)
  have c0 : (W.alloc (.cells #[.int .i64 2, .int .i64 on, .int .i64 a, .int .u8 (v.toNat : Int), .slice y nb c] 46)).cell? ⟨W.heap.size, 0, none⟩ = some (.int .i64 2) := by rw [hR.cell 0]; rfl
  have c2 : (W.alloc (.cells #[.int .i64 2, .int .i64 on, .int .i64 a, .int .u8 (v.toNat : Int), .slice y nb c] 46)).cell? ⟨W.heap.size, 2, none⟩ = some (.int .i64 a) := by rw [hR.cell 2]; rfl
  have c3 : (W.alloc (.cells #[.int .i64 2, .int .i64 on, .int .i64 a, .int .u8 (v.toNat : Int), .slice y nb c] 46)).cell? ⟨W.heap.size, 3, none⟩ = some (.int .u8 (v.toNat : Int)) := by rw [hR.cell 3]; rfl
  have c4 : (W.alloc (.cells #[.int .i64 2, .int .i64 on, .int .i64 a, .int .u8 (v.toNat : Int), .slice y nb c] 46)).cell? ⟨W.heap.size, 4, none⟩ = some (.slice y nb c) := by rw [hR.cell 4]; rfl
  have hszB : B ≤ W.heap.size := h.ga.size
  have hLm : Lim 1099511627776 st := hL.le (by omega)
  have HB0 : Hid (Below B W (W.alloc (.cells #[.int .i64 2, .int .i64 on, .int .i64 a, .int .u8 (v.toNat : Int), .slice y nb c] 46))) := hB0.mono hszB
  clear hR
  go_enter Try.func9, Try.ntmps9
  go_upto_region 7 with fail
  obtain ⟨gk, hgk⟩ : ∃ g, b.g = g := ⟨_, rfl⟩
  rw [hgk] at hA
  simp only [hgk]
  obtain ⟨gb, hgb⟩ : ∃ g, W.heap.size = g := ⟨_, rfl⟩
  rw [hgb] at c0 c2 c3 c4 hA
  simp only [hgb]
  obtain ⟨Tb, hTb⟩ : ∃ t, updT T 64 (thRow gb #[.int .i64 2, .int .i64 on, .int .i64 a, .int .u8 (v.toNat : Int), .slice y nb c]) = t := ⟨_, rfl⟩
  rw [hTb] at hA
  generalize W.alloc (.cells #[.int .i64 2, .int .i64 on, .int .i64 a, .int .u8 (v.toNat : Int), .slice y nb c] 46) = X at hA hB0 HB0 c0 c2 c3 c4 ⊢
  have Hb : Hid _ := hb
  clear h hb hbs hB0
  go_wp2_with fail
  go_at_call 19
  refine (hA.readD hp a hLm ha0 ha1).mono ?_
  rintro e w1 ⟨rfl, h1, k1⟩
  have d2 := k1.cell c2 (by simp)
  have hS0 : ScR (w1.alloc (.cells (secA (rdSec st a)) 27)) w1.heap.size (rdSec st a) := ScR.new _ _ _
  have hS1 := h1.side (thSc w1.heap.size (rdSec st a)) (below_alloc w1 (.cells (secA (rdSec st a)) 27)) ⟨_, _, ⟨hS0, rfl, rfl⟩, fun q hq => by rw [List.mem_singleton] at hq; omega, fun q hq => by rw [List.mem_singleton] at hq; omega⟩
  have d2' := cell_later (below_alloc w1 (.cells (secA (rdSec st a)) 27)) d2
  have HB1 : Hid (Below B W (w1.alloc (.cells (secA (rdSec st a)) 27))) := HB0.out.trans ((k1.below hA.size).trans ((below_alloc w1 _).mono h1.size))
  clear c0 c2 c3 c4
  go_upto_region 8 with fail
  clear d2 hS0
  generalize w1.alloc (.cells (secA (rdSec st a)) 27) = Y at hS1 d2' HB1 ⊢
  generalize w1.heap.size = gs at hS1 ⊢
  go_wp2_with fail
  go_at_call 29
  refine (hS1.readR (set_getk hp) a hLm ha0 ha1).mono ?_
  rintro e w2 ⟨rfl, h2, k2⟩
  rw [set_set] at h2
  obtain ⟨F9, R9, hS2, -⟩ := h2.get72
  have hl := hS2.lt
  have HBB : Hid (Below B W (w2.alloc (.cells (secA (rdSec st a)) 27))) := (HB1.out.trans (k2.below hS1.size)).alloc (by have := (HB1.out.trans (k2.below hS1.size)).size; have := h2.size; omega) _
  have h3 := h2.later (below_alloc w2 (.cells (secA (rdSec st a)) 27))
  have HF : Hid (AnsPost W B T ps b k ⟨.pointer (some da), r, st, st⟩ n (.returned (.bool true)) (w2.alloc (.cells (secA (rdSec st a)) 27))) := by
    subst hTb
    exact h3.finS rfl rfl (hL.read a) Hb.out.up HBB.out
  have hEq : secEq (rdSec st a) (rdSec st a) = true := by rw [secEq_dec]; simp
  obtain ⟨r1, r2⟩ := hS2
  clear h1 h2 h3 k1 k2 hA d2' hS1
  go_wp2
  go_ret
  exact HF.out
set_option linter.unusedSimpArgs false in
set_option linter.unusedVariables false in
set_option maxRecDepth 100000 in
set_option maxHeartbeats 8000000 in
theorem answered_3 {W : World} {B : Nat} {T : Nat → Option Th} {ps : List Pr5} {b : Bk} {k n : Nat} {da : Addr} {r : Nat} {st : DSt} (on a : Int) (v : UInt8) (y : Option Addr) (nb c : Nat) (bs : List Bool) (h : G5 W B T ps b (bkA b)) (hp : ps[k]? = some ⟨.pointer (some da), r, st, st⟩) (hL : Lim n st) (hn : n ≤ 4194304) (hb : BkOk n b) (ha0 : -9223372036854775808 ≤ a) (ha1 : a ≤ 9223372036854775807)
    (hbl : bs.length = nb) (hbn : nb ≤ 4194304) (hbc : nb ≤ c) (hbs : IsG W (.slice y nb c) (bs.map Value.bool)) (hby : bs ≠ [] → ∀ x, y = some x → x.block < B) :
    Calls Try.prog 9 #[.pointer (some da), .pointer (some ⟨r, 0, none⟩), .agg #[.int .i64 3, .int .i64 on, .int .i64 a, .int .u8 (v.toNat : Int), .slice y nb c], .pointer (some ⟨b.g, 0, none⟩)] W fun e w' => AnsPost W B T ps b k ⟨.pointer (some da), r, st, st⟩ n e w' := by
  have hA := h.box #[.int .i64 3, .int .i64 on, .int .i64 a, .int .u8 (v.toNat : Int), .slice y nb c] 46
  have hR := RowC.new W #[.int .i64 3, .int .i64 on, .int .i64 a, .int .u8 (v.toNat : Int), .slice y nb c] 46
  have hB0 := below_alloc W (.cells #[.int .i64 3, .int .i64 on, .int .i64 a, .int .u8 (v.toNat : Int), .slice y nb c] 46)
  have c0 : (W.alloc (.cells #[.int .i64 3, .int .i64 on, .int .i64 a, .int .u8 (v.toNat : Int), .slice y nb c] 46)).cell? ⟨W.heap.size, 0, none⟩ = some (.int .i64 3) := by rw [hR.cell 0]; rfl
  have c2 : (W.alloc (.cells #[.int .i64 3, .int .i64 on, .int .i64 a, .int .u8 (v.toNat : Int), .slice y nb c] 46)).cell? ⟨W.heap.size, 2, none⟩ = some (.int .i64 a) := by rw [hR.cell 2]; rfl
  have c3 : (W.alloc (.cells #[.int .i64 3, .int .i64 on, .int .i64 a, .int .u8 (v.toNat : Int), .slice y nb c] 46)).cell? ⟨W.heap.size, 3, none⟩ = some (.int .u8 (v.toNat : Int)) := by rw [hR.cell 3]; rfl
  have c4 : (W.alloc (.cells #[.int .i64 3, .int .i64 on, .int .i64 a, .int .u8 (v.toNat : Int), .slice y nb c] 46)).cell? ⟨W.heap.size, 4, none⟩ = some (.slice y nb c) := by rw [hR.cell 4]; rfl
  have hszB : B ≤ W.heap.size := h.ga.size
  have hLm : Lim 1099511627776 st := hL.le (by omega)
  have HB0 : Hid (Below B W (W.alloc (.cells #[.int .i64 3, .int .i64 on, .int .i64 a, .int .u8 (v.toNat : Int), .slice y nb c] 46))) := hB0.mono hszB
  clear hR
  go_enter Try.func9, Try.ntmps9
  go_upto_region 11 with fail
  obtain ⟨gk, hgk⟩ : ∃ g, b.g = g := ⟨_, rfl⟩
  rw [hgk] at hA
  simp only [hgk]
  obtain ⟨gb, hgb⟩ : ∃ g, W.heap.size = g := ⟨_, rfl⟩
  rw [hgb] at c0 c2 c3 c4 hA
  simp only [hgb]
  obtain ⟨Tb, hTb⟩ : ∃ t, updT T 64 (thRow gb #[.int .i64 3, .int .i64 on, .int .i64 a, .int .u8 (v.toNat : Int), .slice y nb c]) = t := ⟨_, rfl⟩
  rw [hTb] at hA
  generalize W.alloc (.cells #[.int .i64 3, .int .i64 on, .int .i64 a, .int .u8 (v.toNat : Int), .slice y nb c] 46) = X at hA hB0 HB0 c0 c2 c3 c4 ⊢
  have Hb : Hid _ := hb
  clear h hb hbs hB0
  go_wp2_with fail
  go_at_call 21
  refine (hA.stopD hp a ha0 ha1).mono ?_
  rintro e w1 ⟨rfl, h1, k1⟩
  have d2 := k1.cell c2 (by simp)
  clear c0 c2 c3 c4
  go_wp2_with fail
  go_at_call 30
  refine (h1.stopR (set_getk hp) a ha0 ha1).mono ?_
  rintro e w2 ⟨rfl, h2, k2⟩
  rw [set_set] at h2
  have HBB : Hid (Below B W w2) := HB0.out.trans ((k1.below hA.size).trans (k2.below h1.size))
  have HF : Hid (AnsPost W B T ps b k ⟨.pointer (some da), r, st, st⟩ n (.returned (.bool true)) w2) := by
    subst hTb
    exact h2.fin rfl rfl (hL.stop a) Hb.out.up HBB.out
  clear h1 h2 k1 k2 hA d2
  go_wp2
  go_ret
  exact HF.out
set_option linter.unusedSimpArgs false in
set_option linter.unusedVariables false in
set_option maxRecDepth 100000 in
set_option maxHeartbeats 8000000 in
theorem answered_9 {W : World} {B : Nat} {T : Nat → Option Th} {ps : List Pr5} {b : Bk} {k n : Nat} {da : Addr} {r : Nat} {st : DSt} (kd on a : Int) (v : UInt8) (y : Option Addr) (nb c : Nat) (bs : List Bool) (hk : kd ≠ 0 ∧ kd ≠ 1 ∧ kd ≠ 2 ∧ kd ≠ 3 ∧ kd ≠ 4 ∧ kd ≠ 5 ∧ kd ≠ 6 ∧ kd ≠ 7 ∧ kd ≠ 8) (h : G5 W B T ps b (bkA b)) (hp : ps[k]? = some ⟨.pointer (some da), r, st, st⟩) (hL : Lim n st) (hn : n ≤ 4194304) (hb : BkOk n b) (ha0 : -9223372036854775808 ≤ a) (ha1 : a ≤ 9223372036854775807)
    (hbl : bs.length = nb) (hbn : nb ≤ 4194304) (hbc : nb ≤ c) (hbs : IsG W (.slice y nb c) (bs.map Value.bool)) (hby : bs ≠ [] → ∀ x, y = some x → x.block < B) :
    Calls Try.prog 9 #[.pointer (some da), .pointer (some ⟨r, 0, none⟩), .agg #[.int .i64 kd, .int .i64 on, .int .i64 a, .int .u8 (v.toNat : Int), .slice y nb c], .pointer (some ⟨b.g, 0, none⟩)] W fun e w' => AnsPost W B T ps b k ⟨.pointer (some da), r, st, st⟩ n e w' := by
  have hA := h.box #[.int .i64 kd, .int .i64 on, .int .i64 a, .int .u8 (v.toNat : Int), .slice y nb c] 46
  have hR := RowC.new W #[.int .i64 kd, .int .i64 on, .int .i64 a, .int .u8 (v.toNat : Int), .slice y nb c] 46
  have hB0 := below_alloc W (.cells #[.int .i64 kd, .int .i64 on, .int .i64 a, .int .u8 (v.toNat : Int), .slice y nb c] 46)
  have c0 : (W.alloc (.cells #[.int .i64 kd, .int .i64 on, .int .i64 a, .int .u8 (v.toNat : Int), .slice y nb c] 46)).cell? ⟨W.heap.size, 0, none⟩ = some (.int .i64 kd) := by rw [hR.cell 0]; rfl
  have c2 : (W.alloc (.cells #[.int .i64 kd, .int .i64 on, .int .i64 a, .int .u8 (v.toNat : Int), .slice y nb c] 46)).cell? ⟨W.heap.size, 2, none⟩ = some (.int .i64 a) := by rw [hR.cell 2]; rfl
  have c3 : (W.alloc (.cells #[.int .i64 kd, .int .i64 on, .int .i64 a, .int .u8 (v.toNat : Int), .slice y nb c] 46)).cell? ⟨W.heap.size, 3, none⟩ = some (.int .u8 (v.toNat : Int)) := by rw [hR.cell 3]; rfl
  have c4 : (W.alloc (.cells #[.int .i64 kd, .int .i64 on, .int .i64 a, .int .u8 (v.toNat : Int), .slice y nb c] 46)).cell? ⟨W.heap.size, 4, none⟩ = some (.slice y nb c) := by rw [hR.cell 4]; rfl
  have hszB : B ≤ W.heap.size := h.ga.size
  have hLm : Lim 1099511627776 st := hL.le (by omega)
  have HB0 : Hid (Below B W (W.alloc (.cells #[.int .i64 kd, .int .i64 on, .int .i64 a, .int .u8 (v.toNat : Int), .slice y nb c] 46))) := hB0.mono hszB
  clear hR
  go_enter Try.func9, Try.ntmps9
  have Hb : Hid _ := hb
  have HF : Hid (AnsPost W B T ps b k ⟨.pointer (some da), r, st, st⟩ n (.returned (.bool true)) (W.alloc (.cells #[.int .i64 kd, .int .i64 on, .int .i64 a, .int .u8 (v.toNat : Int), .slice y nb c] 46))) := by
    have e : ps.set k ⟨.pointer (some da), r, st, st⟩ = ps := by
      apply List.ext_getElem?
      intro i
      rw [List.getElem?_set]
      split
      · rename_i hj; subst hj
        split
        · exact hp.symm
        · rename_i hj; rw [List.getElem?_eq_none (by omega)]
      · rfl
    exact At5.fin (p' := ⟨.pointer (some da), r, st, st⟩) (by rw [e]; exact hA) rfl rfl hL.up Hb.out.up HB0.out
  obtain ⟨n0, n1, n2, n3, n4, n5, n6, n7, n8⟩ := hk
  clear h hb hbs hB0 hA
  go_wp2
  go_ret
  exact HF.out
end Go.Proofs.Ytadnfiikfhdphaa
