import Derived.Test.YtalnbddkhojjbaaGreatDoorQLex9
import Derived.Test.YtalnbddkhojjbaaGreatDoorQJza
namespace Go.Proofs.YtalnbddkhojjbaaGreatDoor
set_option linter.unusedSimpArgs false
open Go.RowKit

structure RdL (w : World) (g : Nat) (ts : List Tk) (en : Int) (i op : Nat) : Prop where
  ex : ∃ (b c : Nat) (x y : Option Addr), RowC w g #[.slice x (ts.length - i) (c - i), .int .i64 en, .int .i64 (op : Int)] ∧ OwnK tkEL w 0 (.slice y ts.length c) ts ∧ (i < ts.length → y = some ⟨b, 0, none⟩ ∧ x = some ⟨b, i * 4, none⟩) ∧ ∀ q, (Value.slice y ts.length c).ownBlock = some q → q < g
  hi : i ≤ ts.length
theorem RdL.grown {w w1 : World} {g : Nat} {ts : List Tk} {en : Int} {i op : Nat} (h : RdL w g ts en i op) (hb : Below w.heap.size w w1) : RdL w1 g ts en i op := by
  obtain ⟨⟨b, c, x, y, hr, hO, hx, hne⟩, hi⟩ := h
  exact ⟨⟨b, c, x, y, hr.kept hb, hO.other14 (fun q hq => hb.block q (World.ownsRow.lt hO q hq).2), hx, hne⟩, hi⟩
theorem RdL.keep {w w1 : World} {g : Nat} {ts : List Tk} {en : Int} {i op : Nat} {r : Option Nat} (h : RdL w g ts en i op) (hb : w.grownBy w1 r) (hr9 : ∀ q, r = some q → g < q) : RdL w1 g ts en i op := by
  obtain ⟨⟨b, c, x, y, hr, hO, hx, hne⟩, hi⟩ := h
  refine ⟨⟨b, c, x, y, hr.block (hb.block g hr.lt (fun e => ?_)), hO.other14 (fun q hq => hb.block q (World.ownsRow.lt hO q hq).2 (fun e => ?_)), hx, hne⟩, hi⟩
  · have := hr9 g e.symm; omega
  · have := hr9 q e.symm; have := hne q hq; omega
theorem RdL.lt {w : World} {g : Nat} {ts : List Tk} {en : Int} {i op : Nat} (h : RdL w g ts en i op) : g < w.heap.size := by
  obtain ⟨⟨b, c, x, y, hr, hO, hx, hne⟩, hi⟩ := h
  exact hr.lt
set_option maxRecDepth 100000 in
set_option maxHeartbeats 4000000 in
theorem next15_any (w : World) (g : Nat) (ts : List Tk) (en : Int) (i op : Nat) (h : RdL w g ts en i op) :
    Calls Tryz.prog 35 #[.pointer (some ⟨g, 0, none⟩)] w fun e w' => e = .returned (.agg (tkR (nxP ts en i))) ∧ Below w.heap.size w w' := by
  have h0 := h
  obtain ⟨⟨b, c, x, y, hr, hO, hx, hne⟩, hi⟩ := h
  have bA := below_alloc w (.cells (tkA 0 0 0 ⟨#[]⟩) 86)
  have rA := RowC.new w (tkA 0 0 0 ⟨#[]⟩) 86
  have rG := hr.kept bA
  have hOA := hO.other14 (w' := w.alloc (.cells (tkA 0 0 0 ⟨#[]⟩) 86)) (fun q hq => bA.block q (World.ownsRow.lt hO q hq).2)
  obtain ⟨n0, hn0⟩ : ∃ q, w.heap.size = q := ⟨_, rfl⟩
  rw [hn0] at rA
  have HN : Hid (w.heap.size = n0) := hn0
  have hg : g ≠ n0 := by have := hr.lt; omega
  obtain ⟨q1, q2⟩ := id rA
  have q3 : (rowAt (w.alloc (.cells (tkA 0 0 0 ⟨#[]⟩) 86)) n0).size = 4 := by rw [q2]; rfl
  clear q2
  have c0 : (w.alloc (.cells (tkA 0 0 0 ⟨#[]⟩) 86)).cell? ⟨g, 0, none⟩ = some (.slice x (ts.length - i) (c - i)) := rG.cell 0
  have c1 : (w.alloc (.cells (tkA 0 0 0 ⟨#[]⟩) 86)).cell? ⟨g, 1, none⟩ = some (.int .i64 en) := rG.cell 1
  by_cases hl : i < ts.length
  · obtain ⟨rfl, rfl⟩ := hx hl
    obtain ⟨d, hd⟩ : ∃ d, ts[i]? = some d := ⟨_, List.getElem?_eq_getElem hl⟩
    obtain ⟨t1, t2, t3⟩ := tk_ext hOA i d hd
    have hld := run_load_tlm _ b (i * 4) t1 (decide_eq_true t2)
    rw [t3] at hld
    clear t1 t3
    have hn : nxP ts en i = d := by unfold nxP; rw [hd]; rfl
    rw [hn]
    obtain ⟨m, hm⟩ : ∃ q, ts.length - i = q + 1 := ⟨ts.length - i - 1, by omega⟩
    have hm0 : (((m + 1 : Nat) : Int) == 0) = false := beq_eq_false_iff_ne.2 (by omega)
    rw [hm] at c0
    obtain ⟨C, hC⟩ : ∃ q, c - i = q + 1 := ⟨c - i - 1, by
      obtain ⟨cur, -, -, -, h4, -⟩ := hO.heap; omega⟩
    rw [hC] at c0
    have rS := rA.setRow (tkR d)
    have hbe : Below w.heap.size w ((w.alloc (.cells (tkA 0 0 0 ⟨#[]⟩) 86)).setRow n0 (tkR d)) := by
      refine bA.trans ⟨rfl, rfl, rfl, by simp [World.setRow], fun k hk => setRow_other _ n0 k _ (by omega)⟩
    have HR : Hid (RowC ((w.alloc (.cells (tkA 0 0 0 ⟨#[]⟩) 86)).setRow n0 (tkR d)) n0 (tkR d)) := rS
    have HB : Hid (Below w.heap.size w ((w.alloc (.cells (tkA 0 0 0 ⟨#[]⟩) 86)).setRow n0 (tkR d))) := hbe
    have ho1 : OneC (tkR d) = true := tkA_one _ _ _ _
    have ho2 : (tkR d).size = 4 := by unfold tkR tkA; simp
    generalize tkR d = R at *
    clear hm hC rS hbe hn h0 hO hOA t2 rA hi hl hx hne hd
    go_enter Tryz.func35, Tryz.ntmps35
    go_upto_region 1 with fail
    clear hn0
    generalize w.alloc (.cells (tkA 0 0 0 ⟨#[]⟩) 86) = Y at *
    go_wp2
    exact tl_bodyPost1 2 n0 R rfl rfl rfl HR.out ho2 ⟨rfl, HB.out⟩
  · have hn : nxP ts en i = ⟨0, en, 0, []⟩ := by unfold nxP; rw [List.getElem?_eq_none (by omega)]; rfl
    rw [hn]
    have hm : ts.length - i = 0 := by omega
    rw [hm] at c0
    have rS := rA.setRow (tkR ⟨0, en, 0, []⟩)
    have hbe : Below w.heap.size w ((w.alloc (.cells (tkA 0 0 0 ⟨#[]⟩) 86)).setRow n0 (tkR ⟨0, en, 0, []⟩)) := by
      refine bA.trans ⟨rfl, rfl, rfl, by simp [World.setRow], fun k hk => setRow_other _ n0 k _ (by omega)⟩
    have HR : Hid (RowC ((w.alloc (.cells (tkA 0 0 0 ⟨#[]⟩) 86)).setRow n0 (tkR ⟨0, en, 0, []⟩)) n0 (tkR ⟨0, en, 0, []⟩)) := rS
    have HB : Hid (Below w.heap.size w ((w.alloc (.cells (tkA 0 0 0 ⟨#[]⟩) 86)).setRow n0 (tkR ⟨0, en, 0, []⟩))) := hbe
    clear hm rS hbe hn h0 hO hOA rA hi hl hx hne
    go_enter Tryz.func35, Tryz.ntmps35
    go_upto_region 1 with fail
    clear hn0
    generalize w.alloc (.cells (tkA 0 0 0 ⟨#[]⟩) 86) = Y at *
    go_wp2
    exact tl_bodyPost1 2 n0 (tkR ⟨0, en, 0, []⟩) rfl rfl rfl HR.out rfl ⟨rfl, HB.out⟩
theorem grL_set (w : World) (g i : Nat) (v : Value) : w.grownBy (w.setCell ⟨g, i, none⟩ v) (some g) :=
  ⟨rfl, rfl, rfl, by simp [World.setCell], fun k _ hne => heap_setCell_ne w g k i v (fun e => hne (by rw [e]))⟩
theorem grL_below {w w1 w2 : World} {g : Nat} (hb : Below w.heap.size w w1) (hg : w1.grownBy w2 (some g)) : w.grownBy w2 (some g) :=
  ⟨hg.os.trans hb.os, hg.tape.trans hb.tape, hg.output.trans hb.output, Nat.le_trans hb.size hg.size, fun k hk hne => (hg.block k (Nat.lt_of_lt_of_le hk hb.size) hne).trans (hb.block k hk)⟩
theorem grL_trans {w w1 w2 : World} {r : Option Nat} (hb : w.grownBy w1 r) (hg : w1.grownBy w2 r) : w.grownBy w2 r :=
  ⟨hg.os.trans hb.os, hg.tape.trans hb.tape, hg.output.trans hb.output, Nat.le_trans hb.size hg.size, fun k hk hne => (hg.block k (Nat.lt_of_lt_of_le hk hb.size) hne).trans (hb.block k hk hne)⟩
theorem grL_of {w w1 : World} {r : Option Nat} (hb : Below w.heap.size w w1) : w.grownBy w1 r := ⟨hb.os, hb.tape, hb.output, hb.size, fun k hk _ => hb.block k hk⟩
@[go_sem] theorem run_field_tk0 (w : World) (k a n : Int) (S : ByteArray) : (Instr.field 86 (.agg #[.int .i64 k, .int .i64 a, .int .i64 n, .string S]) 0).run Tryz.prog w = .ok (.int .i64 k) w := by kernel_rfl
@[go_sem] theorem run_field_tk1 (w : World) (k a n : Int) (S : ByteArray) : (Instr.field 86 (.agg #[.int .i64 k, .int .i64 a, .int .i64 n, .string S]) 1).run Tryz.prog w = .ok (.int .i64 a) w := by kernel_rfl
def tkI (ts : List Tk) (en k : Int) (i : Nat) : Nat := if (nxP ts en i).kind = k then i + 1 else i
set_option maxRecDepth 100000 in
set_option maxHeartbeats 4000000 in
theorem take15_any (w : World) (g : Nat) (ts : List Tk) (en k : Int) (i op : Nat) (h : RdL w g ts en i op) (hk : k ≠ 0) :
    Calls Tryz.prog 67 #[.pointer (some ⟨g, 0, none⟩), .int .i64 k] w fun e w' => e = .returned (.bool (decide ((nxP ts en i).kind = k))) ∧ RdL w' g ts en (tkI ts en k i) op ∧ w.grownBy w' (some g) := by
  have hN := next15_any w g ts en i op h
  obtain ⟨t, ht⟩ : ∃ q, nxP ts en i = q := ⟨_, rfl⟩
  have hlt : t.kind = k → i < ts.length := fun e => nx_lt (en := en) (by rw [ht, e]; exact hk)
  have HT : Hid (nxP ts en i = t) := ht
  rw [ht] at hN ⊢
  have HI : Hid (tkI ts en k i = if t.kind = k then i + 1 else i) := by show _ = _; unfold tkI; rw [ht]
  unfold tkR tkA at hN
  obtain ⟨K, A, M, S⟩ := t
  simp only at hN hlt HI ⊢
  clear ht
  obtain ⟨rb, hrb⟩ : ∃ q, decide (K = k) = q := ⟨_, rfl⟩
  have HRB : Hid (decide (K = k) = rb) := hrb
  rw [hrb]
  clear hrb
  go_enter Tryz.func67, Tryz.ntmps67
  go_wp2_with fail
  refine hN.mono ?_
  rintro e w1 ⟨rfl, hb⟩
  have h1 := h.grown hb
  clear hN
  by_cases he : K = k
  · have hi := hlt he
    have f1 : (K == k) = true := beq_iff_eq.2 he
    have hrt : rb = true := by rw [← HRB.out]; exact decide_eq_true he
    subst hrt
    have HI2 : Hid (tkI ts en k i = i + 1) := by show _ = _; rw [HI.out, if_pos he]
    clear HI he HRB
    obtain ⟨⟨b, c, x, y, hr, hO, hx, hne⟩, -⟩ := h1
    obtain ⟨rfl, rfl⟩ := hx hi
    have c0 : w1.cell? ⟨g, 0, none⟩ = some (.slice (some ⟨b, i * 4, none⟩) (ts.length - i) (c - i)) := hr.cell 0
    have z0 : w1.frozen? ⟨g, 0, none⟩ = false := hr.frozen 0
    obtain ⟨m, hm⟩ : ∃ q, ts.length - i = q + 1 := ⟨ts.length - i - 1, by omega⟩
    obtain ⟨cur, -, -, -, h4, h5, -⟩ := hO.heap
    obtain ⟨C, hC⟩ : ∃ q, c - i = q + 1 := ⟨c - i - 1, by omega⟩
    have hmC : m ≤ C := by omega
    have hm63 : C + 1 ≤ 9223372036854775807 := by unfold maxLen at h5; omega
    rw [hm, hC] at c0
    clear h5 h4 hlt
    have HS : Hid (∀ x', (0 < C → x' = some ⟨b, i * 4 + 4, none⟩) → RdL (w1.setCell ⟨g, 0, none⟩ (.slice x' m C)) g ts en (i + 1) op) := fun x' hx' => by
      refine ⟨⟨b, c, x', _, ?_, hO.other14 (fun q hq => heap_setCell_ne _ _ _ _ _ (fun e => by have := hne q hq; omega)), fun h9 => ⟨rfl, by rw [hx' (by omega), Nat.add_mul, Nat.one_mul]⟩, hne⟩, hi⟩
      have h9 := hr.set 0 (.slice x' m C)
      rw [show ts.length - (i + 1) = m by omega, show c - (i + 1) = C by omega]
      exact h9
    clear hm hC hr hO hne
    go_wp2
    all_goals first
      | (go_ret; refine ⟨rfl, ?_, grL_below hb (grL_set _ _ _ _)⟩; rw [HI2.out]; exact HS.out _ (fun _ => rfl))
      | (obtain rfl : C = 0 := by first | assumption | omega
         go_ret; refine ⟨rfl, ?_, grL_below hb (grL_set _ _ _ _)⟩; rw [HI2.out]; exact HS.out _ (fun h9 => absurd h9 (Nat.lt_irrefl 0)))
  · have f1 : (K == k) = false := beq_eq_false_iff_ne.2 he
    have hrt : rb = false := by rw [← HRB.out]; exact decide_eq_false he
    subst hrt
    have HI2 : Hid (tkI ts en k i = i) := by show _ = _; rw [HI.out, if_neg he]
    clear HI he hlt HRB
    go_wp2
    go_ret
    exact ⟨rfl, by rw [HI2.out]; exact h1, grL_of hb⟩
end Go.Proofs.YtalnbddkhojjbaaGreatDoor
