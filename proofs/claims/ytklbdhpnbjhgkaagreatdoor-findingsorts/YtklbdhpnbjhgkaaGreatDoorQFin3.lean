import Derived.Test.YtklbdhpnbjhgkaaGreatDoorQFin2
import Derived.Test.YtklbdhpnbjhgkaaGreatDoorQRelc
import Derived.BigQuiet
import Derived.Deep.QuietTactic
namespace Go.Proofs.YtklbdhpnbjhgkaaGreatDoor
open Go.RowKit Go.Sort

/-! The reader: the next bytes, the next number -/
theorem IsB.keepF {F : List Nat} {w w' : World} {x : Option Addr} {n c : Nat} {l : List UInt8} (h : IsB w (.slice x n c) l) (hK : Keep F w w') (hx : ∀ a, x = some a → a.block ∉ F) : IsB w' (.slice x n c) l := by
  rcases h with ⟨h1, h2⟩ | ⟨y, d, he, hc⟩
  · exact .inl ⟨h1, h2⟩
  · simp only [Value.slice.injEq] at he
    obtain ⟨rfl, rfl, rfl⟩ := he
    refine .inr ⟨y, _, rfl, fun i hi => ?_⟩
    have h1 := hc i hi
    have hl := World.block_lt_of_cell? w _ h1
    have hb : (y.add i).block = y.block := by unfold Addr.add; split <;> rfl
    rw [hb] at hl
    have e := hK.block y.block hl (hx y rfl)
    unfold World.cell? at h1 ⊢
    rw [hb] at h1 ⊢
    rw [e]
    exact h1
set_option maxRecDepth 100000 in
/-- b[f:f+n], and where it lies -/
theorem bCut_at9 {w : World} {x : Option Addr} {L c : Nat} {l : List UInt8} (h : IsB w (.slice x L c) l) (hL : l.length = L) (hc : L ≤ c) (f n : Nat) (hn : f + n ≤ L) : ∃ y d, n ≤ d ∧ IsB w (.slice y n d) ((l.drop f).take n) ∧ (∀ a, y = some a → ∃ a0, x = some a0 ∧ a.block = a0.block) ∧ ∀ (W : World) (a e : Int), a = (f : Int) → e = ((f + n : Nat) : Int) → (bCut (.slice x L c) (.int .i64 a) (.int .i64 e)).run Tryz.prog W = .ok (.value (.slice y n d)) W := by
  subst hL
  obtain ⟨y, d, e1, e2, -, e4⟩ := h.part f n hn hc
  refine ⟨y, d, e2, e4, fun a ha => ?_, fun W a e ha he => ?_⟩
  · have e9 := e1
    unfold sliced at e9
    simp only [Value.slice.injEq] at e9
    rw [← e9.1] at ha
    split at ha
    · exact ⟨a, ha, rfl⟩
    · obtain ⟨a0, h1, h2⟩ := Option.map_eq_some_iff.1 ha
      exact ⟨a0, h1, by rw [← h2]; unfold Addr.add; split <;> rfl⟩
  subst ha he
  have h9 := run_slice_lh (P := Tryz.prog) W 33 x l.length c (by rw [Tryz.underlying33]; rfl) .i64 .i64 (f : Int) ((f + n : Nat) : Int) (by omega) (by omega) (by omega)
  have hs : (sizeOf (Tryz.prog.elem 33)).run Tryz.prog W = .ok 1 W := by
    rw [show Tryz.prog.elem 33 = 5 from by kernel_rfl]; exact Tryz.sizeOf5 W
  rw [hs] at h9
  simp only [Result.andThen_ok, Int.toNat_natCast] at h9
  simp only [bCut, Sem.run_bind, run_sliceAt_slice W 33 _ _ _ _ (show Tryz.prog.underlying 33 = some (.slice (Tryz.prog.elem 33)) from by rw [Tryz.underlying33]; rfl), h9, e1]
  rfl
structure RdI (w : World) (g : Nat) (x : Option Addr) (n c : Nat) (b : List UInt8) (i : Nat) : Prop where
  row : RowC w g (rdA (.slice x n c) (i : Int))
  isb : IsB w (.slice x n c) b
  len : b.length = n
  cap : n ≤ c
  far : ∀ a, x = some a → a.block ≠ g
  small : n ≤ 140737488355328
  le : i ≤ n
theorem RdI.later {w w' : World} {g : Nat} {x : Option Addr} {n c : Nat} {b : List UInt8} {i : Nat} (h : RdI w g x n c b i) (hb : Below w.heap.size w w') : RdI w' g x n c b i :=
  ⟨h.row.kept hb, h.isb.kept hb, h.len, h.cap, h.far, h.small, h.le⟩
theorem RdI.move {w w' : World} {g : Nat} {x : Option Addr} {n c : Nat} {b : List UInt8} {i j : Nat} (h : RdI w g x n c b i) (hK : Keep [g] w w') (hr : RowC w' g (rdA (.slice x n c) (j : Int))) (hj : j ≤ n) : RdI w' g x n c b j :=
  ⟨hr, h.isb.keepF hK (fun a ha => by simpa using h.far a ha), h.len, h.cap, h.far, h.small, hj⟩
/-- A fault that was made behind B. -/
def FtP (B : Nat) (at' e : Int) (v : Value) (w : World) : Prop := ∃ q, v = .pointer (some ⟨q, 0, none⟩) ∧ B ≤ q ∧ RowC w q (ftA at' e)
theorem FtP.mono {B : Nat} {a e : Int} {v : Value} {w w' : World} (h : FtP B a e v w) (hb : Below w.heap.size w w') : FtP B a e v w' := by
  obtain ⟨q, h1, h2, h3⟩ := h
  exact ⟨q, h1, h2, h3.kept hb⟩
theorem FtP.le {B B' : Nat} {a e : Int} {v : Value} {w : World} (h : FtP B a e v w) (hb : B' ≤ B) : FtP B' a e v w := by
  obtain ⟨q, h1, h2, h3⟩ := h
  exact ⟨q, h1, Nat.le_trans hb h2, h3⟩
theorem ftP_new {B : Nat} {w : World} (h : B ≤ w.heap.size) (a e : Int) : FtP B a e (.pointer (some ⟨w.heap.size, 0, none⟩)) (w.alloc (.cells (ftA a e) 72)) := ⟨_, rfl, h, RowC.new w _ _⟩
theorem below_dN (w : World) (n : Nat) : Below w.heap.size w (w.drewN n) := ⟨rfl, rfl, rfl, Nat.le_refl _, fun _ _ => rfl⟩
theorem le9 {W x : World} (h : Below W.heap.size W x) : W.heap.size ≤ x.heap.size := h.size
def TkP (w : World) (g : Nat) (x : Option Addr) (n c : Nat) (b : List UInt8) (i k : Nat) (e : Ending) (w' : World) : Prop :=
  (i + k ≤ n → ∃ y d, k ≤ d ∧ e = .returned (.tuple #[.slice y k d, .pointer none]) ∧ IsB w' (.slice y k d) ((b.drop i).take k) ∧ RdI w' g x n c b (i + k) ∧ Keep [g] w w') ∧
  (n < i + k → ∃ q, e = .returned (.tuple #[.slice none 0 0, .pointer (some ⟨q, 0, none⟩)]) ∧ w.heap.size ≤ q ∧ RowC w' q (ftA i 10) ∧ Keep [g] w w')
set_option linter.unusedSimpArgs false in
set_option maxHeartbeats 1600000 in
set_option maxRecDepth 100000 in
theorem take22 (w : World) (g : Nat) (x : Option Addr) (n c : Nat) (b : List UInt8) (i k : Nat) (hk : k ≤ 64) (h : RdI w g x n c b i) : Calls Tryz.prog 82 #[.pointer (some ⟨g, 0, none⟩), .int .i64 (k : Int)] w fun e w' => TkP w g x n c b i k e w' := by
  have hL := h.len
  have hN := h.small
  have hI := h.le
  have c0 : w.cell? ⟨g, 0, none⟩ = some (.slice x n c) := by rw [h.row.cell]; rfl
  have c1 : w.cell? ⟨g, 1, none⟩ = some (.int .i64 (i : Int)) := by rw [h.row.cell]; rfl
  have wni : IntKind.i64.wrap ((n : Int) - (i : Int)) = (n : Int) - i := by rw [IntKind.wrap_i64]; omega
  by_cases hlt : n < i + k
  · have hgt : (n : Int) - (i : Int) < (k : Int) := by omega
    have HN : Hid (n < i + k) := hlt
    clear hL hN hI h hlt
    go_enter Tryz.func82, Tryz.ntmps82
    go_upto_region 1 with fail
    go_quiet (fail)
    go_upto_region 2 with fail
    have b0 := below_dN w nq
    generalize w.drewN nq = W at b0 ⊢
    replace c0 := cell_later b0 c0
    replace c1 := cell_later b0 c1
    refine wp_reliesC [Fx (.pointer (some ⟨g, 0, none⟩)), Fx (.pointer (some ⟨g, 0, none⟩)), Fx (.pointer (some ⟨g, 1, none⟩)), Fx (.int .i64 (i : Int)), Fx (.agg (ftA (i : Int) 10)), FtP W.heap.size (i) 10, Fx (.slice none 0 0)] (by kernel_rfl) (by kernel_rfl) ?_ ?_ ?_
    · repeat' (first | exact all_nil | apply all_cons)
      all_goals intro v y y' hv hb
      all_goals first | exact Fx_mono _ _ _ _ hv hb | exact FtP.mono hv hb
    · refine ⟨?_, ?_, ?_, ?_, ?_, ?_, ?_, trivial⟩
      all_goals
        intro ρ y9 hp ρc ρg ρf ho hd
        have o0 : ρ (.tmp 0) = .pointer (some ⟨g, 0, none⟩) := ho 0 rfl
        clear ho
        replace c0 := cell_later hp c0
        replace c1 := cell_later hp c1
        simp only [depsR, depR, slotR, Fx, List.getElem?_cons_succ, List.getElem?_cons_zero, Region.binds, forall_const] at hd
        simp only [guardR]
        go_split_ands
      · go_simp
      · go_simp
      · go_simp
      · go_simp
      · go_simp
      · go_simp
        exact ⟨ftP_new (le9 hp) _ _, below_alloc _ _⟩
      · go_simp
    · intro us x1 hp1 hw
      simp only [owed, Fx] at hw
      obtain ⟨e0, e1, e2, e3, e4, ⟨q, e5, eq2, eq3⟩, e6, -⟩ := hw
      simp only [List.length_cons, List.length_nil, List.take_succ_cons, List.take_zero, List.drop_succ_cons, List.drop_zero, asg, List.cons_append, List.nil_append, e0, e1, e2, e3, e4, e5, e6]
      clear e0 e1 e2 e3 e4 e5 e6
      have HB : Hid (Keep [g] w x1) := Keep.of_below (b0.trans (hp1.mono b0.size))
      have HQ : Hid (w.heap.size ≤ q) := Nat.le_trans b0.size eq2
      clear b0 c0 c1
      go_wp2
      go_ret2
      exact ⟨fun h => absurd HN.out (by omega), fun _ => ⟨q, rfl, HQ.out, eq3, HB.out⟩⟩
  · have hgt : ¬ (n : Int) - (i : Int) < (k : Int) := by omega
    obtain ⟨y, d, hd, hyb, hyx, hcut⟩ := bCut_at9 h.isb hL h.cap i k (by omega)
    have hyf : ∀ a, y = some a → a.block ≠ g := fun a ha => by
      obtain ⟨a0, h1, h2⟩ := hyx a ha
      rw [h2]; exact h.far a0 h1
    clear hyx
    have wik : IntKind.i64.wrap ((i : Int) + (k : Int)) = ((i + k : Nat) : Int) := by rw [IntKind.wrap_i64]; omega
    go_enter Tryz.func82, Tryz.ntmps82
    go_upto_region 1 with fail
    go_quiet (fail)
    go_upto_region 3 with fail
    have b0 := below_dN w nq
    generalize w.drewN nq = W at b0 ⊢
    replace c0 := cell_later b0 c0
    replace c1 := cell_later b0 c1
    have h1 := h.later b0
    have hyb1 := hyb.kept b0
    have HN : Hid (i + k ≤ n) := by show _ ≤ _; omega
    have KB : Hid (Keep [g] w W) := Keep.of_below b0
    have HD : Hid (k ≤ d) := hd
    clear b0 hyb h hL hN hI hlt hd
    refine wp_reliesT [Fx (.pointer (some ⟨g, 0, none⟩)), Fx (.pointer (some ⟨g, 0, none⟩)), Fx (.pointer (some ⟨g, 0, none⟩)), Fx (.slice x n c), Fx (.pointer (some ⟨g, 0, none⟩)), Fx (.pointer (some ⟨g, 0, none⟩)), Fx (.pointer (some ⟨g, 1, none⟩)), Fx (.int .i64 (i : Int)), Fx (.pointer (some ⟨g, 0, none⟩)), Fx (.pointer (some ⟨g, 0, none⟩)), Fx (.pointer (some ⟨g, 1, none⟩)), Fx (.int .i64 (i : Int)), Fx (.int .i64 (k : Int)), Fx (.int .i64 (((i + k : Nat)) : Int)), Fx (.slice y k d)] (by kernel_rfl) (by kernel_rfl) ?_ ?_ ?_
    · repeat' (first | exact all_nil | apply all_cons)
      all_goals intro v y y' hv hb
      all_goals first | exact Fx_mono _ _ _ _ hv hb
    · refine ⟨?_, ?_, ?_, ?_, ?_, ?_, ?_, ?_, ?_, ?_, ?_, ?_, ?_, ?_, ?_, trivial⟩
      all_goals
        intro ρ y9 hp ρc ρg ρf ho hd
        have o0 : ρ (.tmp 0) = .pointer (some ⟨g, 0, none⟩) := ho 0 rfl
        have o1 : ρ (.tmp 1) = .int .i64 (k : Int) := ho 1 rfl
        clear ho
        replace c0 := cell_later hp c0
        replace c1 := cell_later hp c1
        simp only [depsR, depR, slotR, Fx, List.getElem?_cons_succ, List.getElem?_cons_zero, Region.binds, forall_const] at hd
        simp only [guardR]
        go_split_ands
      · go_simp
      · go_simp
      · go_simp
      · go_simp
      · go_simp
      · go_simp
      · go_simp
      · go_simp
      · go_simp
      · go_simp
      · go_simp
      · go_simp
      · go_simp
      · go_simp
        try exact wik
      · have h9 := hcut y9 (i : Int) ((i + k : Nat) : Int) rfl rfl
        go_simp
    · intro us x1 hp1 hw
      simp only [owed, Fx] at hw
      obtain ⟨e0, e1, e2, e3, e4, e5, e6, e7, e8, e9, e10, e11, e12, e13, e14, -⟩ := hw
      simp only [List.length_cons, List.length_nil, List.take_succ_cons, List.take_zero, List.drop_succ_cons, List.drop_zero, asg, List.cons_append, List.nil_append, e0, e1, e2, e3, e4, e5, e6, e7, e8, e9, e10, e11, e12, e13, e14]
      clear e0 e1 e2 e3 e4 e5 e6 e7 e8 e9 e10 e11 e12 e13 e14
      replace c0 := cell_later hp1 c0
      replace c1 := cell_later hp1 c1
      have h2 := h1.later hp1
      have hyb2 := hyb1.kept hp1
      have KB2 : Hid (Keep [g] w x1) := KB.out.trans (Keep.of_below hp1)
      have fz := h2.row.frozen 1
      have hgl := h2.row.lt
      have K3 : Hid (Keep [g] x1 (x1.setCell ⟨g, 1, none⟩ (.int .i64 ((i + k : Nat) : Int)))) := Keep.of_grown (grown_setC x1 g 1 [_]) (fun q hq => by cases hq; simp)
      have hR : Hid (RowC (x1.setCell ⟨g, 1, none⟩ (.int .i64 ((i + k : Nat) : Int))) g (rdA (.slice x n c) ((i + k : Nat) : Int))) := h2.row.set 1 _
      have HF : Hid (RdI x1 g x n c b i) := h2
      have HY : Hid (IsB x1 (.slice y k d) ((b.drop i).take k)) := hyb2
      have HYF : Hid (∀ a, y = some a → a.block ≠ g) := hyf
      clear h1 h2 hyb1 hyb2 hcut hp1 hyf
      go_wp2
      go_ret2
      refine ⟨fun _ => ⟨y, d, HD.out, rfl, HY.out.keepF K3.out (fun a ha => by simpa using HYF.out a ha), HF.out.move K3.out hR.out HN.out, KB2.out.trans K3.out⟩, fun h => absurd HN.out (by omega)⟩
end Go.Proofs.YtklbdhpnbjhgkaaGreatDoor
