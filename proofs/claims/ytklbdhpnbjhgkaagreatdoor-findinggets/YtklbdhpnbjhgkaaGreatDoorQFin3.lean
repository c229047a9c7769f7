import Derived.Test.YtklbdhpnbjhgkaaGreatDoorQFin2
import Derived.Test.YtklbdhpnbjhgkaaGreatDoorQRelk
import Derived.BigQuiet
import Derived.Deep.QuietTactic
import Derived.Shelf.Abstract
import Derived.Lib.BytesEntry
import Derived.LaidEql
import Derived.Stop.Asserts
import Derived.RowKitTokens
namespace Go.Proofs.YtklbdhpnbjhgkaaGreatDoor
open Go.RowKit Go.Sort

/-! The reader: the next bytes, the next number -/
theorem IsB.keepF {F : List Nat} {w w' : World} {x : Option Addr} {n c : Nat} {l : List UInt8} (h : IsB w (.slice x n c) l) (hK : Keep F w w') (hx : ∀ a, x = some a → a.block ∉ F) : IsB w' (.slice x n c) l := by
  rcases h with ⟨h1, h2⟩ | ⟨y, d, he, hc⟩
  · exact .inl ⟨h1, h2⟩
  · simp only [Value.slice.injEq] at he
    obtain ⟨rfl, rfl, rfl⟩ := he
    refine .inr ⟨y, _, rfl, fun i hi => ?_⟩
    have h1 := hc i hi
    have hl := World.block_lt_of_cell? w _ h1
    have hb : (y.add i).block = y.block := by unfold Addr.add; split <;> rfl
    rw [hb] at hl
    have e := hK.block y.block hl (hx y rfl)
    unfold World.cell? at h1 ⊢
    rw [hb] at h1 ⊢
    rw [e]
    exact h1
set_option maxRecDepth 100000 in
/-- b[f:f+n], and where it lies -/
theorem bCut_at9 {w : World} {x : Option Addr} {L c : Nat} {l : List UInt8} (h : IsB w (.slice x L c) l) (hL : l.length = L) (hc : L ≤ c) (f n : Nat) (hn : f + n ≤ L) : ∃ y d, n ≤ d ∧ IsB w (.slice y n d) ((l.drop f).take n) ∧ (∀ a, y = some a → ∃ a0, x = some a0 ∧ a.block = a0.block) ∧ ∀ (W : World) (a e : Int), a = (f : Int) → e = ((f + n : Nat) : Int) → (bCut (.slice x L c) (.int .i64 a) (.int .i64 e)).run Tryz.prog W = .ok (.value (.slice y n d)) W := by
  subst hL
  obtain ⟨y, d, e1, e2, -, e4⟩ := h.part f n hn hc
  refine ⟨y, d, e2, e4, fun a ha => ?_, fun W a e ha he => ?_⟩
  · have e9 := e1
    unfold sliced at e9
    simp only [Value.slice.injEq] at e9
    rw [← e9.1] at ha
    split at ha
    · exact ⟨a, ha, rfl⟩
    · obtain ⟨a0, h1, h2⟩ := Option.map_eq_some_iff.1 ha
      exact ⟨a0, h1, by rw [← h2]; unfold Addr.add; split <;> rfl⟩
  subst ha he
  have h9 := run_slice_lh (P := Tryz.prog) W 33 x l.length c (by rw [Tryz.underlying33]; rfl) .i64 .i64 (f : Int) ((f + n : Nat) : Int) (by omega) (by omega) (by omega)
  have hs : (sizeOf (Tryz.prog.elem 33)).run Tryz.prog W = .ok 1 W := by
    rw [show Tryz.prog.elem 33 = 5 from by kernel_rfl]; exact Tryz.sizeOf5 W
  rw [hs] at h9
  simp only [Result.andThen_ok, Int.toNat_natCast] at h9
  simp only [bCut, Sem.run_bind, run_sliceAt_slice W 33 _ _ _ _ (show Tryz.prog.underlying 33 = some (.slice (Tryz.prog.elem 33)) from by rw [Tryz.underlying33]; rfl), h9, e1]
  rfl
structure RdI (w : World) (g : Nat) (x : Option Addr) (n c : Nat) (b : List UInt8) (i : Nat) : Prop where
  row : RowC w g (rdA (.slice x n c) (i : Int))
  isb : IsB w (.slice x n c) b
  len : b.length = n
  cap : n ≤ c
  far : ∀ a, x = some a → a.block ≠ g
  small : n ≤ 140737488355328
  le : i ≤ n
theorem RdI.later {w w' : World} {g : Nat} {x : Option Addr} {n c : Nat} {b : List UInt8} {i : Nat} (h : RdI w g x n c b i) (hb : Below w.heap.size w w') : RdI w' g x n c b i :=
  ⟨h.row.kept hb, h.isb.kept hb, h.len, h.cap, h.far, h.small, h.le⟩
theorem RdI.move {w w' : World} {g : Nat} {x : Option Addr} {n c : Nat} {b : List UInt8} {i j : Nat} (h : RdI w g x n c b i) (hK : Keep [g] w w') (hr : RowC w' g (rdA (.slice x n c) (j : Int))) (hj : j ≤ n) : RdI w' g x n c b j :=
  ⟨hr, h.isb.keepF hK (fun a ha => by simpa using h.far a ha), h.len, h.cap, h.far, h.small, hj⟩
/-- A fault that was made behind B. -/
def FtP (B : Nat) (at' e : Int) (v : Value) (w : World) : Prop := ∃ q, v = .pointer (some ⟨q, 0, none⟩) ∧ B ≤ q ∧ RowC w q (ftA at' e)
theorem FtP.mono {B : Nat} {a e : Int} {v : Value} {w w' : World} (h : FtP B a e v w) (hb : Below w.heap.size w w') : FtP B a e v w' := by
  obtain ⟨q, h1, h2, h3⟩ := h
  exact ⟨q, h1, h2, h3.kept hb⟩
theorem FtP.le {B B' : Nat} {a e : Int} {v : Value} {w : World} (h : FtP B a e v w) (hb : B' ≤ B) : FtP B' a e v w := by
  obtain ⟨q, h1, h2, h3⟩ := h
  exact ⟨q, h1, Nat.le_trans hb h2, h3⟩
theorem ftP_new {B : Nat} {w : World} (h : B ≤ w.heap.size) (a e : Int) : FtP B a e (.pointer (some ⟨w.heap.size, 0, none⟩)) (w.alloc (.cells (ftA a e) 72)) := ⟨_, rfl, h, RowC.new w _ _⟩
theorem below_dN (w : World) (n : Nat) : Below w.heap.size w (w.drewN n) := ⟨rfl, rfl, rfl, Nat.le_refl _, fun _ _ => rfl⟩
theorem le9 {W x : World} (h : Below W.heap.size W x) : W.heap.size ≤ x.heap.size := h.size
def TkP (w : World) (g : Nat) (x : Option Addr) (n c : Nat) (b : List UInt8) (i k : Nat) (e : Ending) (w' : World) : Prop :=
  (i + k ≤ n → ∃ y d, k ≤ d ∧ e = .returned (.tuple #[.slice y k d, .pointer none]) ∧ IsB w' (.slice y k d) ((b.drop i).take k) ∧ RdI w' g x n c b (i + k) ∧ Keep [g] w w') ∧
  (n < i + k → ∃ q, e = .returned (.tuple #[.slice none 0 0, .pointer (some ⟨q, 0, none⟩)]) ∧ w.heap.size ≤ q ∧ RowC w' q (ftA i 10) ∧ Keep [g] w w')
set_option linter.unusedSimpArgs false in
set_option maxHeartbeats 1600000 in
set_option maxRecDepth 100000 in
theorem take22 (w : World) (g : Nat) (x : Option Addr) (n c : Nat) (b : List UInt8) (i k : Nat) (hk : k ≤ 64) (h : RdI w g x n c b i) : Calls Tryz.prog 82 #[.pointer (some ⟨g, 0, none⟩), .int .i64 (k : Int)] w fun e w' => TkP w g x n c b i k e w' := by
  have hL := h.len
  have hN := h.small
  have hI := h.le
  have c0 : w.cell? ⟨g, 0, none⟩ = some (.slice x n c) := by rw [h.row.cell]; rfl
  have c1 : w.cell? ⟨g, 1, none⟩ = some (.int .i64 (i : Int)) := by rw [h.row.cell]; rfl
  have wni : IntKind.i64.wrap ((n : Int) - (i : Int)) = (n : Int) - i := by rw [IntKind.wrap_i64]; omega
  by_cases hlt : n < i + k
  · have hgt : (n : Int) - (i : Int) < (k : Int) := by omega
    have HN : Hid (n < i + k) := hlt
    clear hL hN hI h hlt
    go_enter Tryz.func82, Tryz.ntmps82
    go_upto_region 1 with fail
    go_quiet (fail)
    go_upto_region 2 with fail
    have b0 := below_dN w nq
    generalize w.drewN nq = W at b0 ⊢
    replace c0 := cell_later b0 c0
    replace c1 := cell_later b0 c1
    refine wp_reliesC [Fx (.pointer (some ⟨g, 0, none⟩)), Fx (.pointer (some ⟨g, 0, none⟩)), Fx (.pointer (some ⟨g, 1, none⟩)), Fx (.int .i64 (i : Int)), Fx (.agg (ftA (i : Int) 10)), FtP W.heap.size (i) 10, Fx (.slice none 0 0)] (by kernel_rfl) (by kernel_rfl) ?_ ?_ ?_
    · repeat' (first | exact all_nil | apply all_cons)
      all_goals intro v y y' hv hb
      all_goals first | exact Fx_mono _ _ _ _ hv hb | exact FtP.mono hv hb
    · refine ⟨?_, ?_, ?_, ?_, ?_, ?_, ?_, trivial⟩
      all_goals
        intro ρ y9 hp ρc ρg ρf ho hd
        have o0 : ρ (.tmp 0) = .pointer (some ⟨g, 0, none⟩) := ho 0 rfl
        clear ho
        replace c0 := cell_later hp c0
        replace c1 := cell_later hp c1
        simp only [depsR, depR, slotR, Fx, List.getElem?_cons_succ, List.getElem?_cons_zero, Region.binds, forall_const] at hd
        simp only [guardR]
        go_split_ands
      · go_simp
      · go_simp
      · go_simp
      · go_simp
      · go_simp
      · go_simp
        exact ⟨ftP_new (le9 hp) _ _, below_alloc _ _⟩
      · go_simp
    · intro us x1 hp1 hw
      simp only [owed, Fx] at hw
      obtain ⟨e0, e1, e2, e3, e4, ⟨q, e5, eq2, eq3⟩, e6, -⟩ := hw
      simp only [List.length_cons, List.length_nil, List.take_succ_cons, List.take_zero, List.drop_succ_cons, List.drop_zero, asg, List.cons_append, List.nil_append, e0, e1, e2, e3, e4, e5, e6]
      clear e0 e1 e2 e3 e4 e5 e6
      have HB : Hid (Keep [g] w x1) := Keep.of_below (b0.trans (hp1.mono b0.size))
      have HQ : Hid (w.heap.size ≤ q) := Nat.le_trans b0.size eq2
      clear b0 c0 c1
      go_wp2
      go_ret2
      exact ⟨fun h => absurd HN.out (by omega), fun _ => ⟨q, rfl, HQ.out, eq3, HB.out⟩⟩
  · have hgt : ¬ (n : Int) - (i : Int) < (k : Int) := by omega
    obtain ⟨y, d, hd, hyb, hyx, hcut⟩ := bCut_at9 h.isb hL h.cap i k (by omega)
    have hyf : ∀ a, y = some a → a.block ≠ g := fun a ha => by
      obtain ⟨a0, h1, h2⟩ := hyx a ha
      rw [h2]; exact h.far a0 h1
    clear hyx
    have wik : IntKind.i64.wrap ((i : Int) + (k : Int)) = ((i + k : Nat) : Int) := by rw [IntKind.wrap_i64]; omega
    go_enter Tryz.func82, Tryz.ntmps82
    go_upto_region 1 with fail
    go_quiet (fail)
    go_upto_region 3 with fail
    have b0 := below_dN w nq
    generalize w.drewN nq = W at b0 ⊢
    replace c0 := cell_later b0 c0
    replace c1 := cell_later b0 c1
    have h1 := h.later b0
    have hyb1 := hyb.kept b0
    have HN : Hid (i + k ≤ n) := by show _ ≤ _; omega
    have KB : Hid (Keep [g] w W) := Keep.of_below b0
    have HD : Hid (k ≤ d) := hd
    clear b0 hyb h hL hN hI hlt hd
    refine wp_reliesT [Fx (.pointer (some ⟨g, 0, none⟩)), Fx (.pointer (some ⟨g, 0, none⟩)), Fx (.pointer (some ⟨g, 0, none⟩)), Fx (.slice x n c), Fx (.pointer (some ⟨g, 0, none⟩)), Fx (.pointer (some ⟨g, 0, none⟩)), Fx (.pointer (some ⟨g, 1, none⟩)), Fx (.int .i64 (i : Int)), Fx (.pointer (some ⟨g, 0, none⟩)), Fx (.pointer (some ⟨g, 0, none⟩)), Fx (.pointer (some ⟨g, 1, none⟩)), Fx (.int .i64 (i : Int)), Fx (.int .i64 (k : Int)), Fx (.int .i64 (((i + k : Nat)) : Int)), Fx (.slice y k d)] (by kernel_rfl) (by kernel_rfl) ?_ ?_ ?_
    · repeat' (first | exact all_nil | apply all_cons)
      all_goals intro v y y' hv hb
      all_goals first | exact Fx_mono _ _ _ _ hv hb
    · refine ⟨?_, ?_, ?_, ?_, ?_, ?_, ?_, ?_, ?_, ?_, ?_, ?_, ?_, ?_, ?_, trivial⟩
      all_goals
        intro ρ y9 hp ρc ρg ρf ho hd
        have o0 : ρ (.tmp 0) = .pointer (some ⟨g, 0, none⟩) := ho 0 rfl
        have o1 : ρ (.tmp 1) = .int .i64 (k : Int) := ho 1 rfl
        clear ho
        replace c0 := cell_later hp c0
        replace c1 := cell_later hp c1
        simp only [depsR, depR, slotR, Fx, List.getElem?_cons_succ, List.getElem?_cons_zero, Region.binds, forall_const] at hd
        simp only [guardR]
        go_split_ands
      · go_simp
      · go_simp
      · go_simp
      · go_simp
      · go_simp
      · go_simp
      · go_simp
      · go_simp
      · go_simp
      · go_simp
      · go_simp
      · go_simp
      · go_simp
      · go_simp
        try exact wik
      · have h9 := hcut y9 (i : Int) ((i + k : Nat) : Int) rfl rfl
        go_simp
    · intro us x1 hp1 hw
      simp only [owed, Fx] at hw
      obtain ⟨e0, e1, e2, e3, e4, e5, e6, e7, e8, e9, e10, e11, e12, e13, e14, -⟩ := hw
      simp only [List.length_cons, List.length_nil, List.take_succ_cons, List.take_zero, List.drop_succ_cons, List.drop_zero, asg, List.cons_append, List.nil_append, e0, e1, e2, e3, e4, e5, e6, e7, e8, e9, e10, e11, e12, e13, e14]
      clear e0 e1 e2 e3 e4 e5 e6 e7 e8 e9 e10 e11 e12 e13 e14
      replace c0 := cell_later hp1 c0
      replace c1 := cell_later hp1 c1
      have h2 := h1.later hp1
      have hyb2 := hyb1.kept hp1
      have KB2 : Hid (Keep [g] w x1) := KB.out.trans (Keep.of_below hp1)
      have fz := h2.row.frozen 1
      have hgl := h2.row.lt
      have K3 : Hid (Keep [g] x1 (x1.setCell ⟨g, 1, none⟩ (.int .i64 ((i + k : Nat) : Int)))) := Keep.of_grown (grown_setC x1 g 1 [_]) (fun q hq => by cases hq; simp)
      have hR : Hid (RowC (x1.setCell ⟨g, 1, none⟩ (.int .i64 ((i + k : Nat) : Int))) g (rdA (.slice x n c) ((i + k : Nat) : Int))) := h2.row.set 1 _
      have HF : Hid (RdI x1 g x n c b i) := h2
      have HY : Hid (IsB x1 (.slice y k d) ((b.drop i).take k)) := hyb2
      have HYF : Hid (∀ a, y = some a → a.block ≠ g) := hyf
      clear h1 h2 hyb1 hyb2 hcut hp1 hyf
      go_wp2
      go_ret2
      refine ⟨fun _ => ⟨y, d, HD.out, rfl, HY.out.keepF K3.out (fun a ha => by simpa using HYF.out a ha), HF.out.move K3.out hR.out HN.out, KB2.out.trans K3.out⟩, fun h => absurd HN.out (by omega)⟩
end Go.Proofs.YtklbdhpnbjhgkaaGreatDoor
namespace Go.Proofs.YtklbdhpnbjhgkaaGreatDoor
open Go.RowKit Go.Sort

/-! The reader: a number, a finding, a digest, a slot -/
/-- Two results, the first a row in its variable. -/
theorem row_bodyPost2 {fn : Func} {R : Ending → World → Prop} {a : Act} {w : World} (T : TypeId) (p q n : Nat) (c : Array Value) (hl : ∀ t, w.heap[n]? = some (.cells c t (0, 0)) → (loadVar T ⟨n, 0, none⟩).run Tryz.prog w = .ok (.agg c) w) (hres : fn.results = #[.cell p T, .tmp q]) (hp : a.tmps.getD p undef = .pointer (some ⟨n, 0, none⟩)) (hd : a.defers = [])
    (hok : RowC w n c) (h : R (.returned (.tuple #[.agg c, a.tmps.getD q undef])) w) : bodyPost Tryz.prog fn R .ret a w := by
  obtain ⟨t, hg⟩ := row_of_L hok.1
  rw [hok.2] at hg
  have hp' : a.tmps[p]?.getD undef = .pointer (some ⟨n, 0, none⟩) := by simpa using hp
  refine bodyPost_ret (v := .tuple #[.agg c, a.tmps.getD q undef]) ?_ hd h
  simp [results, hres, hp', asAddr, hl t hg]
theorem fd_ret2 {fn : Func} {R : Ending → World → Prop} {a : Act} {w : World} (p q n : Nat) (c : Array Value) (hres : fn.results = #[.cell p 25, .tmp q]) (hp : a.tmps.getD p undef = .pointer (some ⟨n, 0, none⟩)) (hd : a.defers = [])
    (hok : RowC w n c) (hc : c.size = 2) (h : R (.returned (.tuple #[.agg c, a.tmps.getD q undef])) w) : bodyPost Tryz.prog fn R .ret a w :=
  row_bodyPost2 25 p q n c (fun t hg => run_loadVar_row (P := Tryz.prog) w n t 25 c (0, 0) _ hg Tryz.underlying25 rfl (by rw [sizeT_fd, hc])) hres hp hd hok h
theorem dg_ret2 {fn : Func} {R : Ending → World → Prop} {a : Act} {w : World} (p q n : Nat) (c : Array Value) (hres : fn.results = #[.cell p 50, .tmp q]) (hp : a.tmps.getD p undef = .pointer (some ⟨n, 0, none⟩)) (hd : a.defers = [])
    (hok : RowC w n c) (hc : c.size = 32) (h : R (.returned (.tuple #[.agg c, a.tmps.getD q undef])) w) : bodyPost Tryz.prog fn R .ret a w :=
  row_bodyPost2 50 p q n c (fun t hg => run_loadVar_row (P := Tryz.prog) w n t 50 c (0, 0) _ hg Tryz.underlying50 rfl (by rw [size50, hc])) hres hp hd hok h
theorem rp_ret2 {fn : Func} {R : Ending → World → Prop} {a : Act} {w : World} (p q n : Nat) (c : Array Value) (hres : fn.results = #[.cell p 32, .tmp q]) (hp : a.tmps.getD p undef = .pointer (some ⟨n, 0, none⟩)) (hd : a.defers = [])
    (hok : RowC w n c) (hc : c.size = 4) (h : R (.returned (.tuple #[.agg c, a.tmps.getD q undef])) w) : bodyPost Tryz.prog fn R .ret a w :=
  row_bodyPost2 32 p q n c (fun t hg => run_loadVar_row (P := Tryz.prog) w n t 32 c (0, 0) _ hg Tryz.underlying32 rfl (by rw [sizeT_rp, hc])) hres hp hd hok h
/-- What one step of the reader leaves. -/
def RdQ {α : Type} (val : α → Value) (zero : Value) (w : World) (g : Nat) (x : Option Addr) (n c : Nat) (b : List UInt8) (r : Except (Nat × Nat) (α × Nat)) (e : Ending) (w' : World) : Prop := Keep [g] w w' ∧ match r with
  | .ok (v, j) => e = .returned (.tuple #[val v, .pointer none]) ∧ RdI w' g x n c b j
  | .error (a, cd) => ∃ q, e = .returned (.tuple #[zero, .pointer (some ⟨q, 0, none⟩)]) ∧ w.heap.size ≤ q ∧ RowC w' q (ftA a cd)
theorem num_lay (b : List UInt8) (i k : Nat) (hk : k = 1 ∨ k = 2) (hi : i + k ≤ b.length) : numI (layI secZ 0 ((b.drop i).take k)) 0 2 = numN (lB b) i k := by
  have hl : ((b.drop i).take k).length = k := by simp; omega
  have hg : ∀ j, j < k → ((b.drop i).take k)[j]? = b[i + j]? := fun j hj => by rw [List.getElem?_take_of_lt hj, List.getElem?_drop]
  have e1 : layI secZ 0 ((b.drop i).take k) = layL secZ 0 ((b.drop i).take k) := by
    unfold layI
    rw [if_pos (by rw [hl, inB_iff]; omega)]; rfl
  have e2 : ∀ s, numI s 0 2 = numN s 0 2 := fun s => rfl
  have e3 : ∀ j, j < k → layL secZ 0 ((b.drop i).take k) j = lB b (i + j) := fun j hj => by
    unfold layL lB
    rw [dif_pos (by omega), ← hg j hj, List.getElem?_eq_getElem (by omega)]
    rfl
  have e4 : ∀ j, k ≤ j → layL secZ 0 ((b.drop i).take k) j = 0 := fun j hj => by
    unfold layL
    rw [dif_neg (by omega)]; rfl
  rw [e1, e2, num2]
  rcases hk with rfl | rfl
  · rw [e3 0 (by omega), e4 1 (by omega), num1]; simp
  · rw [e3 0 (by omega), e3 1 (by omega), num2]; rfl
theorem numN_small (s : Nat → UInt8) (i k : Nat) (hk : k = 1 ∨ k = 2) : numN s i k < 65536 := by
  have := numN_lt s i k
  rcases hk with rfl | rfl <;> omega
set_option linter.unusedSimpArgs false in
set_option maxHeartbeats 1600000 in
theorem number22 (w : World) (g : Nat) (x : Option Addr) (n c : Nat) (b : List UInt8) (i k : Nat) (hk : k = 1 ∨ k = 2) (fn : FuncId) (okI' : Int → Bool) (ok : Nat → Bool) (hw : WOk fn okI') (he : ∀ v : Nat, okI' v = ok v) (hen : ∀ args w, (callFunc fn args).run Tryz.prog w = .ok (.enter fn args) w) (h : RdI w g x n c b i) :
    Calls Tryz.prog 83 #[.pointer (some ⟨g, 0, none⟩), .int .i64 (k : Int), .func (.func fn) #[] #[]] w fun e w' => RdQ (fun v : Nat => .int .i64 (v : Int)) (.int .i64 0) w g x n c b (rdN k ok b i) e w' := by
  have c1 : w.cell? ⟨g, 1, none⟩ = some (.int .i64 (i : Int)) := by rw [h.row.cell]; rfl
  have ht := take22 w g x n c b i k (by omega) h
  have hL := h.len
  by_cases hlt : n < i + k
  · have hr : rdN k ok b i = .error (i, 10) := by unfold rdN; rw [if_pos (by omega)]
    rw [hr]
    clear hr h
    go_enter Tryz.func83, Tryz.ntmps83
    go_wp2_with fail
    refine ht.mono ?_
    rintro e w1 ⟨-, h2⟩
    obtain ⟨q, rfl, hq, hR, hK⟩ := h2 hlt
    clear hlt ht c1 hL
    go_wp2
    go_ret2
    exact ⟨hK, q, rfl, hq, hR⟩
  · have hle : i + k ≤ b.length := by omega
    have hr : rdN k ok b i = bif ok (numN (lB b) i k) then .ok (numN (lB b) i k, i + k) else .error (i, 13) := by unfold rdN; rw [if_neg (by omega)]
    have hnl := num_lay b i k hk hle
    have hns := numN_small (lB b) i k hk
    rw [hr]
    obtain ⟨z, hz⟩ : ∃ z, numN (lB b) i k = z := ⟨_, rfl⟩
    rw [hz] at hnl hns ⊢
    have hwz := hw (z : Int)
    rw [he z] at hwz
    have HL : Hid (((b.drop i).take k).length ≤ maxLen) := by show _ ≤ _; unfold maxLen; simp; omega
    clear hr hz h
    go_enter Tryz.func83, Tryz.ntmps83
    go_wp2_with fail
    refine ht.mono ?_
    rintro e w1 ⟨h2, -⟩
    obtain ⟨y, d, hd, rfl, hyb, hR, hK⟩ := h2 (by omega)
    have hp := putBytes_any secZ 0 (.slice y k d) ((b.drop i).take k) w1 (by omega) (by omega) HL.out hyb
    clear hlt ht c1 hL h2 hle hyb
    go_wp2_with fail
    refine hp.mono ?_
    rintro e w2 ⟨rfl, b2⟩
    have hu := u16_any (layI secZ 0 ((b.drop i).take k)) 0 w2 (by omega) (by omega)
    rw [hnl] at hu
    clear hp
    go_wp2_with fail
    refine hu.mono ?_
    rintro e w3 ⟨rfl, b3⟩
    have hz9 : ((z : Nat) : Int) % 65536 = z := by omega
    have b13 : Below w1.heap.size w1 w3 := b2.trans (b3.mono b2.size)
    have hW3 := hwz w3
    clear hu b2 b3 hnl
    cases hok : ok z
    · rw [hok] at hW3
      go_wp2_with fail
      refine hW3.mono ?_
      rintro e w4 ⟨rfl, rfl⟩
      have K3 : Hid (Keep [g] w w4) := hK.trans (Keep.of_below b13)
      have bb := below_alloc w4 (.cells (ftA (i : Int) 13) 72)
      have K4 : Hid (Keep [g] w (w4.alloc (.cells (ftA (i : Int) 13) 72))) := K3.out.trans (Keep.of_below bb)
      have hq : Hid (w.heap.size ≤ w4.heap.size) := K3.out.size
      have hN : Hid (RowC (w4.alloc (.cells (ftA (i : Int) 13) 72)) w4.heap.size (ftA (i : Int) 13)) := RowC.new _ _ _
      clear bb hW3 hwz hK b13 hR
      go_wp2
      go_ret2
      refine ⟨K4.out, ?_⟩
      rw [hok]
      exact ⟨_, rfl, hq.out, hN.out⟩
    · rw [hok] at hW3
      go_wp2_with fail
      refine hW3.mono ?_
      rintro e w4 ⟨rfl, rfl⟩
      have K3 : Hid (Keep [g] w w4) := hK.trans (Keep.of_below b13)
      have hR4 : Hid (RdI w4 g x n c b (i + k)) := hR.later b13
      clear hW3 hwz hK b13 hR
      go_wp2
      go_ret2
      refine ⟨K3.out, ?_⟩
      rw [hok]
      exact ⟨rfl, hR4.out⟩
theorem enK22 : ∀ args w, (callFunc 85 args).run Tryz.prog w = .ok (.enter 85 args) w := enters_of Tryz.func85 (by kernel_rfl) rfl
theorem enA22 : ∀ args w, (callFunc 86 args).run Tryz.prog w = .ok (.enter 86 args) w := enters_of Tryz.func86 (by kernel_rfl) rfl
theorem enS22 : ∀ args w, (callFunc 58 args).run Tryz.prog w = .ok (.enter 58 args) w := enters_of Tryz.func58 (by kernel_rfl) rfl
theorem enN22 : ∀ args w, (callFunc 84 args).run Tryz.prog w = .ok (.enter 84 args) w := enters_of Tryz.func84 (by kernel_rfl) rfl
theorem okK_of (v : Nat) : okR 1 19 (v : Int) = okK v := by unfold okR okK; congr 1; simp; omega
theorem okA_of (v : Nat) : okR 0 1023 (v : Int) = okA v := by unfold okR okA; congr 1; simp; omega
theorem okS_of (v : Nat) : okR 0 127 (v : Int) = okS v := by unfold okR okS; congr 1; simp; omega
set_option linter.unusedSimpArgs false in
theorem slot22 (w : World) (g : Nat) (x : Option Addr) (n c : Nat) (b : List UInt8) (i : Nat) (h : RdI w g x n c b i) :
    Calls Tryz.prog 49 #[.pointer (some ⟨g, 0, none⟩)] w fun e w' => RdQ (fun v : Int => .int .i64 v) (.int .i64 0) w g x n c b (rdS b i) e w' := by
  have hn := number22 w g x n c b i 2 (.inr rfl) _ _ _ isSlot22 okS_of enS22 h
  clear h
  cases hr : rdN 2 okS b i with
  | error p =>
    have hs : rdS b i = .error p := by unfold rdS; rw [hr]
    rw [hs]
    rw [hr] at hn
    clear hr hs
    go_enter Tryz.func49, Tryz.ntmps49
    go_wp2_with fail
    refine hn.mono ?_
    rintro e w1 ⟨hK, q, rfl, hq, hR⟩
    clear hn
    go_wp2
    go_ret2
    exact ⟨hK, q, rfl, hq, hR⟩
  | ok p =>
    obtain ⟨v, j⟩ := p
    have hs : rdS b i = .ok ((v : Int), j) := by unfold rdS; rw [hr]
    rw [hs]
    rw [hr] at hn
    clear hr hs
    go_enter Tryz.func49, Tryz.ntmps49
    go_wp2_with fail
    refine hn.mono ?_
    rintro e w1 ⟨hK, rfl, hR⟩
    clear hn
    go_wp2
    go_ret2
    exact ⟨hK, rfl, hR⟩
theorem Keep.mine1 (w : World) (z : Nat) (c : Array Value) : Keep [z] w (w.setRow z c) := ⟨rfl, rfl, rfl, by simp [World.setRow], fun k _ hk => setRow_other w z k c (by simpa using hk)⟩
theorem Keep.mine {F : List Nat} {w w1 : World} (h : Keep F w w1) {z : Nat} (hz : w.heap.size ≤ z) (c : Array Value) : Keep F w (w1.setRow z c) :=
  ⟨h.os, h.tape, h.output, Nat.le_trans h.size (by simp [World.setRow]), fun k hk hn => by rw [setRow_other w1 z k c (by omega)]; exact h.block k hk hn⟩
theorem RdI.apart {w w' : World} {g : Nat} {x : Option Addr} {n c : Nat} {b : List UInt8} {i : Nat} {F : List Nat} (h : RdI w g x n c b i) (hK : Keep F w w') (hg : g ∉ F) (hx : ∀ a, x = some a → a.block ∉ F) : RdI w' g x n c b i :=
  ⟨h.row.keepsF hK hg, h.isb.keepF hK hx, h.len, h.cap, h.far, h.small, h.le⟩
theorem RdI.old {w : World} {g : Nat} {x : Option Addr} {n c : Nat} {b : List UInt8} {i : Nat} (h : RdI w g x n c b i) (hn : 0 < n) : ∀ a, x = some a → a.block < w.heap.size := fun a ha => by
  subst ha
  exact h.isb.lt (by intro e; have := h.len; rw [e] at this; simp at this; omega)
set_option linter.unusedSimpArgs false in
set_option maxRecDepth 100000 in
set_option maxHeartbeats 800000 in
theorem finding22 (w : World) (g : Nat) (x : Option Addr) (n c : Nat) (b : List UInt8) (i : Nat) (h : RdI w g x n c b i) :
    Calls Tryz.prog 44 #[.pointer (some ⟨g, 0, none⟩)] w fun e w' => RdQ (fun f : Fd => .agg (fdA f)) (.agg (fdA fdZ)) w g x n c b (rdF b i) e w' := by
  have b0 := below_alloc w (.cells (fdA fdZ) 25)
  have hn := number22 _ g x n c b i 1 (.inl rfl) _ _ _ isKind22 okK_of enK22 (h.later b0)
  have hZ := RowC.new w (fdA fdZ) 25
  have hg := h.row.lt
  obtain ⟨z, hz⟩ : ∃ z, w.heap.size = z := ⟨_, rfl⟩
  have hgz : z ≠ g := by omega
  have HZ : Hid (w.heap.size = z) := hz
  have HF : Hid (0 < n → ∀ a, x = some a → a.block ∉ [z]) := fun h0 a ha => by
    have := h.old h0 a ha
    simp only [List.mem_singleton]; omega
  have hL := h.len
  cases hr : rdN 1 okK b i with
  | error p =>
    have hs : rdF b i = .error p := by unfold rdF; rw [hr]
    rw [hs]
    rw [hr] at hn
    go_enter Tryz.func44, Tryz.ntmps44
    go_upto_region 1 with fail
    rw [hz] at hZ hg
    generalize w.alloc (.cells (fdA fdZ) 25) = W at b0 hn hZ ⊢
    clear hz h hs hr
    go_wp2_with fail
    refine hn.mono ?_
    rintro e w1 ⟨hK, q, rfl, hq, hR⟩
    have hZ1 := hZ.keepsF hK (by simpa using hgz)
    have K1 : Hid (Keep [g] w w1) := (Keep.of_below b0).trans hK
    have HQ : Hid (w.heap.size ≤ q) := Nat.le_trans b0.size hq
    have hzq : z ≠ q := by have := HZ.out; have := b0.size; have := hZ.lt; omega
    have K9 : Hid (Keep [g] w (w1.setRow z (fdA fdZ))) := K1.out.mine (by rw [HZ.out]; exact Nat.le_refl _) _
    have hR9 : Hid (RowC (w1.setRow z (fdA fdZ)) q (ftA p.1 p.2)) := hR.setRow_ne _ hzq.symm
    have hZ9 : Hid (RowC (w1.setRow z (fdA fdZ)) z (fdA fdZ)) := hZ1.setRow _
    have st := run_store_fd w1 z (fdA fdZ) hZ1.1 (by rw [hZ1.2]; rfl) rfl (fdA_one _)
    clear hn b0 hZ hK hR hq hZ1
    go_wp2
    (try simp only [Exit.inBlock, Exit.then])
    exact fd_ret2 2 3 z _ rfl rfl rfl hZ9.out (fdA_size _) ⟨K9.out, q, rfl, HQ.out, hR9.out⟩
  | ok p =>
    obtain ⟨v, j⟩ := p
    have HP : Hid (0 < n) := by have := (rdN_ok hr).1; show _ < _; omega
    clear hL
    rw [hr] at hn
    go_enter Tryz.func44, Tryz.ntmps44
    go_upto_region 1 with fail
    rw [hz] at hZ hg
    generalize w.alloc (.cells (fdA fdZ) 25) = W at b0 hn hZ ⊢
    clear hz h
    go_wp2_with fail
    refine hn.mono ?_
    rintro e w1 ⟨hK, rfl, hR⟩
    have hZ1 := hZ.keepsF hK (by simpa using hgz)
    have K1 : Hid (Keep [g] w w1) := (Keep.of_below b0).trans hK
    have hm := number22 w1 g x n c b j 2 (.inr rfl) _ _ _ isAt22 okA_of enA22 hR
    have hlW := hZ.lt
    have hW1 := hK.size
    clear hn b0 hZ hK hR
    cases hr2 : rdN 2 okA b j with
    | error p =>
      have hs : rdF b i = .error p := by unfold rdF; rw [hr]; dsimp only; rw [hr2]
      rw [hr2] at hm
      have HS : Hid _ := hs
      clear hr hr2 hs
      go_wp2_with fail
      refine hm.mono ?_
      rintro e w2 ⟨hK2, q, rfl, hq, hR⟩
      have hZ2 := hZ1.keepsF hK2 (by simpa using hgz)
      have K2 := K1.out.trans hK2
      have hzq : z ≠ q := by omega
      have HQ : Hid (w.heap.size ≤ q) := Nat.le_trans K1.out.size hq
      have K9 : Hid (Keep [g] w (w2.setRow z (fdA fdZ))) := K2.mine (by rw [HZ.out]; exact Nat.le_refl _) _
      have hR9 : Hid (RowC (w2.setRow z (fdA fdZ)) q (ftA p.1 p.2)) := hR.setRow_ne _ hzq.symm
      have hZ9 : Hid (RowC (w2.setRow z (fdA fdZ)) z (fdA fdZ)) := hZ2.setRow _
      have st := run_store_fd w2 z (fdA fdZ) hZ2.1 (by rw [hZ2.2]; rfl) rfl (fdA_one _)
      clear hm hZ1 hK2 hR hq K2 hZ2
      go_wp2
      (try simp only [Exit.inBlock, Exit.then])
      refine fd_ret2 2 3 z _ rfl rfl rfl hZ9.out (fdA_size _) ?_
      rw [HS.out]
      exact ⟨K9.out, q, rfl, HQ.out, hR9.out⟩
    | ok p =>
      obtain ⟨v2, j2⟩ := p
      have hs : rdF b i = .ok (((v : Int), (v2 : Int)), j2) := by unfold rdF; rw [hr]; dsimp only; rw [hr2]
      rw [hr2] at hm
      have HS : Hid _ := hs
      clear hr hr2 hs
      go_wp2_with fail
      refine hm.mono ?_
      rintro e w2 ⟨hK2, rfl, hR⟩
      have hZ2 := hZ1.keepsF hK2 (by simpa using hgz)
      have K2 := K1.out.trans hK2
      have K9 : Hid (Keep [g] w (w2.setRow z (fdA ((v : Int), (v2 : Int))))) := K2.mine (by rw [HZ.out]; exact Nat.le_refl _) _
      have hX9 : Hid (Keep [z] w2 (w2.setRow z (fdA ((v : Int), (v2 : Int))))) := Keep.mine1 _ _ _
      have hR9 : Hid (RdI (w2.setRow z (fdA ((v : Int), (v2 : Int)))) g x n c b j2) := hR.apart hX9.out (by simp only [List.mem_singleton]; exact fun e => hgz e.symm) (HF.out HP.out)
      have hZ9 : Hid (RowC (w2.setRow z (fdA ((v : Int), (v2 : Int)))) z (fdA ((v : Int), (v2 : Int)))) := hZ2.setRow _
      have st := run_store_fd w2 z (fdA ((v : Int), (v2 : Int))) hZ2.1 (by rw [hZ2.2]; rfl) rfl (fdA_one _)
      clear hm hZ1 hK2 hR K2 hZ2
      go_wp2
      (try simp only [Exit.inBlock, Exit.then])
      refine fd_ret2 2 3 z _ rfl rfl rfl hZ9.out (fdA_size _) ?_
      rw [HS.out]
      exact ⟨K9.out, rfl, hR9.out⟩
end Go.Proofs.YtklbdhpnbjhgkaaGreatDoor
namespace Go.Proofs.YtklbdhpnbjhgkaaGreatDoor
open Go.RowKit Go.Sort

/-! The reader: a digest -/
theorem RowC.dg {w : World} {g : Nat} {s : Dg} (h : RowC w g (dg_secA s)) : dg_rowOk w g = true ∧ dg_rowAt w g = dg_secA s := by
  obtain ⟨t, hg⟩ := row_of_L h.1
  rw [h.2] at hg
  constructor
  · unfold dg_rowOk; rw [hg]; simp
  · unfold dg_rowAt; rw [hg]
theorem run_copy_dg9 (w : World) (g : Nat) (y : Option Addr) (d : Nat) (ty : TypeId) (s0 : Dg) (l : List UInt8) (hg : RowC w g (dg_secA s0)) (hl : l.length = 32) (hb : IsB w (.slice y 32 d) l) :
    (Builtin.copy_ #[33, 33] ty #[.slice (some ⟨g, 0, none⟩) 32 32, .slice y 32 d]).run Tryz.prog w = .ok (goInt 32) (w.setRow g (dg_secA (fun k => if k < 32 then lB l k else 0))) := by
  obtain ⟨tg, hg'⟩ := row_of_L hg.1
  rw [hg.2] at hg'
  obtain ⟨D, hD⟩ : ∃ q, dg_secA s0 = q := ⟨_, rfl⟩
  have hDs : D.size = 32 := by rw [← hD, dg_secA_size]
  rw [hD] at hg'
  rcases hb with ⟨h1, -⟩ | ⟨a, c9, he, hc⟩
  · simp at h1
  · simp only [Value.slice.injEq] at he
    obtain ⟨rfl, -, rfl⟩ := he
    have hlb : (bytesA l).toList.length = 32 := by simp [hl]
    have := run_copy_row (P := Tryz.prog) w 33 33 ty 5 g 0 32 32 a 32 d D tg (bytesA l).toList Tryz.underlying33 (by kernel_rfl) hg' (by rw [hlb]; exact (Nat.min_self 32).symm)
      (fun j v hv => by
        have hj : j < l.length := by have := (List.getElem?_eq_some_iff.1 hv).1; simpa using this
        rw [Array.getElem?_toList, bytesA_get l j hj] at hv
        rw [hc j hj]; exact hv) (by rw [hlb, hDs]; omega) (fun v hv => by
        simp only [bytesA, List.mem_map] at hv
        obtain ⟨b, _, rfl⟩ := hv
        rfl)
    have e9 : (D.toList.take 0 ++ (bytesA l).toList ++ D.toList.drop (0 + 32)).toArray = dg_secA (fun k => if k < 32 then lB l k else 0) := by
      rw [List.take_zero, List.nil_append, List.drop_of_length_le (by simp [hDs]), List.append_nil]
      apply Array.ext_getElem?
      intro i
      by_cases hi : i < 32
      · rw [dg_secA_get _ i hi, List.getElem?_toArray, Array.getElem?_toList, bytesA_get l i (by omega), if_pos hi]
        unfold lB
        rw [List.getElem?_eq_getElem (by omega)]
        rfl
      · rw [Array.getElem?_eq_none (by simp [hl]; omega), Array.getElem?_eq_none (by simp; omega)]
    rw [hlb, e9] at this
    exact this
theorem run_copy_no9 (w : World) (y : Option Addr) (n m : Nat) (ty : TypeId) :
    (Builtin.copy_ #[33, 33] ty #[.slice y n m, .slice none 0 0]).run Tryz.prog w = .ok (goInt 0) w :=
  run_copy_none _ _ _ ty 5 _ _ _ _ _ _ Tryz.underlying33 (by kernel_rfl) (by simp)
theorem dgAt_cut (b : List UInt8) (i : Nat) : (fun k => if k < 32 then lB ((b.drop i).take 32) k else 0) = dgAt b i := by
  funext k
  unfold dgAt
  by_cases hk : k < 32
  · rw [if_pos hk, if_pos hk]
    unfold lB
    rw [List.getElem?_take_of_lt hk, List.getElem?_drop]
  · rw [if_neg hk, if_neg hk]
set_option linter.unusedSimpArgs false in
set_option maxRecDepth 100000 in
set_option maxHeartbeats 1600000 in
theorem digest22 (w : World) (g : Nat) (x : Option Addr) (n c : Nat) (b : List UInt8) (i : Nat) (h : RdI w g x n c b i) :
    Calls Tryz.prog 46 #[.pointer (some ⟨g, 0, none⟩)] w fun e w' => RdQ (fun d : Dg => .agg (dg_secA d)) (.agg (dg_secA dg_secZ)) w g x n c b (rdD b i) e w' := by
  have b0 := below_al2 w (.cells (dg_secA dg_secZ) 50) (.cells (dg_secA dg_secZ) 50)
  have hn := take22 _ g x n c b i 32 (by omega) (h.later b0)
  have hZ : RowC ((w.alloc (.cells (dg_secA dg_secZ) 50)).alloc (.cells (dg_secA dg_secZ) 50)) w.heap.size (dg_secA dg_secZ) := (RowC.new w (dg_secA dg_secZ) 50).kept (below_alloc _ _)
  have hY : RowC ((w.alloc (.cells (dg_secA dg_secZ) 50)).alloc (.cells (dg_secA dg_secZ) 50)) (w.heap.size + 1) (dg_secA dg_secZ) := by
    have := RowC.new (w.alloc (.cells (dg_secA dg_secZ) 50)) (dg_secA dg_secZ) 50
    rwa [World.size_alloc] at this
  have hg := h.row.lt
  obtain ⟨z, hz⟩ : ∃ z, w.heap.size = z := ⟨_, rfl⟩
  obtain ⟨y, hy⟩ : ∃ y, w.heap.size + 1 = y := ⟨_, rfl⟩
  have hgz : z ≠ g := by omega
  have hgy : y ≠ g := by omega
  have hyz : y ≠ z := by omega
  have HZ : Hid (w.heap.size = z) := hz
  have HY : Hid (w.heap.size + 1 = y) := hy
  have HF : Hid (0 < n → ∀ a, x = some a → a.block ≠ z ∧ a.block ≠ y) := fun h0 a ha => by
    have := h.old h0 a ha
    omega
  have hL := h.len
  have hsl := fun W => dg_run_sliceAt_lo W y 0 (by omega)
  rw [hy] at hY
  rw [hz] at hZ
  clear hsl
  have hy2 : z + 1 = y := by omega
  clear hy
  by_cases hlt : n < i + 32
  · have hs : rdD b i = .error (i, 10) := by unfold rdD; rw [if_pos (by omega)]
    rw [hs]
    clear hs
    go_enter Tryz.func46, Tryz.ntmps46
    go_upto_region 2 with fail
    generalize (w.alloc (.cells (dg_secA dg_secZ) 50)).alloc (.cells (dg_secA dg_secZ) 50) = W at b0 hn hZ hY ⊢
    clear hz hy2 h
    go_wp2_with fail
    refine hn.mono ?_
    rintro e w1 ⟨-, h2⟩
    obtain ⟨q, rfl, hq, hR, hK⟩ := h2 hlt
    have hcp := fun ty => run_copy_no9 w1 (some ⟨y, 0, none⟩) 32 32 ty
    have hZ1 := hZ.keepsF hK (by simpa using hgz)
    have hY1 := hY.keepsF hK (by simpa using hgy)
    have K1 := (Keep.of_below b0).trans hK
    have hzq : z ≠ q := by have := hZ.lt; omega
    have HQ : Hid (w.heap.size ≤ q) := Nat.le_trans b0.size hq
    have K9 : Hid (Keep [g] w (w1.setRow z (dg_secA dg_secZ))) := K1.mine (by rw [HZ.out]; exact Nat.le_refl _) _
    have hR9 : Hid (RowC (w1.setRow z (dg_secA dg_secZ)) q (ftA i 10)) := hR.setRow_ne _ hzq.symm
    have hZ9 : Hid (RowC (w1.setRow z (dg_secA dg_secZ)) z (dg_secA dg_secZ)) := hZ1.setRow _
    obtain ⟨k1, -⟩ := hZ1.dg
    obtain ⟨k3, k4⟩ := hY1.dg
    have st := dg_run_secStore w1 z dg_secZ k1
    have ld := dg_run_secLoad w1 y k3
    rw [k4] at ld
    clear hn b0 hZ hK hR hq hZ1 hY1 hY K1 k1 k3 k4 h2 hL hlt hyz
    go_wp2
    (try simp only [Exit.inBlock, Exit.then])
    exact dg_ret2 2 3 z _ rfl rfl rfl hZ9.out (dg_secA_size _) ⟨K9.out, q, rfl, HQ.out, hR9.out⟩
  · have hs : rdD b i = .ok (dgAt b i, i + 32) := by unfold rdD; rw [if_neg (by omega)]
    rw [hs]
    clear hs
    obtain ⟨D, hD⟩ : ∃ D, dgAt b i = D := ⟨_, rfl⟩
    rw [hD]
    have HP : Hid (0 < n) := by show _ < _; omega
    have hl32 : ((b.drop i).take 32).length = 32 := by simp; omega
    go_enter Tryz.func46, Tryz.ntmps46
    go_upto_region 2 with fail
    generalize (w.alloc (.cells (dg_secA dg_secZ) 50)).alloc (.cells (dg_secA dg_secZ) 50) = W at b0 hn hZ hY ⊢
    clear hz hy2 h
    go_wp2_with fail
    refine hn.mono ?_
    rintro e w1 ⟨h2, -⟩
    obtain ⟨y9, d, hd, rfl, hyb, hR, hK⟩ := h2 (by omega)
    have hZ1 := hZ.keepsF hK (by simpa using hgz)
    have hY1 := hY.keepsF hK (by simpa using hgy)
    have hcp := fun ty => run_copy_dg9 w1 y y9 d ty dg_secZ _ hY1 hl32 hyb
    rw [dgAt_cut b i, hD] at hcp
    have K1 := (Keep.of_below b0).trans hK
    have K2 : Keep [g] w (w1.setRow y (dg_secA D)) := K1.mine (by have := HY.out; omega) _
    have K9 : Hid (Keep [g] w ((w1.setRow y (dg_secA D)).setRow z (dg_secA D))) := K2.mine (by rw [HZ.out]; exact Nat.le_refl _) _
    have hR2 := hR.apart (Keep.mine1 w1 y (dg_secA D)) (by simp only [List.mem_singleton]; exact fun e => hgy e.symm) (fun a ha => by simpa using (HF.out HP.out a ha).2)
    have hR9 : Hid (RdI ((w1.setRow y (dg_secA D)).setRow z (dg_secA D)) g x n c b (i + 32)) := hR2.apart (Keep.mine1 _ z (dg_secA D)) (by simp only [List.mem_singleton]; exact fun e => hgz e.symm) (fun a ha => by simpa using (HF.out HP.out a ha).1)
    have hZ2 : RowC (w1.setRow y (dg_secA D)) z (dg_secA dg_secZ) := hZ1.setRow_ne _ hyz.symm
    have hY2 : RowC (w1.setRow y (dg_secA D)) y (dg_secA D) := hY1.setRow _
    have hZ9 : Hid (RowC ((w1.setRow y (dg_secA D)).setRow z (dg_secA D)) z (dg_secA D)) := hZ2.setRow _
    obtain ⟨k1, -⟩ := hZ2.dg
    obtain ⟨k3, k4⟩ := hY2.dg
    have st := dg_run_secStore (w1.setRow y (dg_secA D)) z D k1
    have ld := dg_run_secLoad (w1.setRow y (dg_secA D)) y k3
    rw [k4] at ld
    clear hn b0 hZ hK hR hZ1 hY1 hY K1 k1 k3 k4 h2 hL hlt hyz K2 hR2 hZ2 hY2 hD hyb hd hl32
    go_wp2
    (try simp only [Exit.inBlock, Exit.then])
    exact dg_ret2 2 3 z _ rfl rfl rfl hZ9.out (dg_secA_size _) ⟨K9.out, rfl, hR9.out⟩
end Go.Proofs.YtklbdhpnbjhgkaaGreatDoor
namespace Go.Proofs.YtklbdhpnbjhgkaaGreatDoor
open Go.RowKit Go.Sort

/-! The orders of digests and of slots; bytes.Equal -/
theorem ba_empty (L : List UInt8) : (⟨ByteArray.empty.data ++ L.toArray⟩ : ByteArray) = ⟨L.toArray⟩ := by
  apply ByteArray.ext
  show (#[] : Array UInt8) ++ L.toArray = L.toArray
  simp
theorem loadB22 (w : World) (g c : Nat) (d : Dg) (h : RowC w g (dg_secA d)) : (Extern.Bytes.bytesOf (.slice (some ⟨g, 0, none⟩) 32 c)).run Tryz.prog w = .ok ⟨(dB d).toArray⟩ w := by
  have hl := Lib.run_loadBytesX (P := Tryz.prog) w ((dB d).map fun b => (b.toNat : Int)) ⟨g, 0, none⟩ .empty (fun j x hj => by
    rw [List.getElem?_map] at hj
    obtain ⟨y, hy, rfl⟩ := Option.map_eq_some_iff.1 hj
    have hj32 : j < 32 := by have := (List.getElem?_eq_some_iff.1 hy).1; rwa [dB_len] at this
    have hyd : y = d j := by
      have := dB_lB d j hj32
      unfold lB at this
      rw [hy] at this
      exact this
    rw [addr_add, Nat.zero_add, h.cell, dg_secA_get d j hj32, hyd])
  have e1 : ((dB d).map fun b => (b.toNat : Int)).length = 32 := by rw [List.length_map, dB_len]
  have e2 : Lib.bytesOf ((dB d).map fun b => (b.toNat : Int)) = dB d := by
    unfold Lib.bytesOf
    rw [List.map_map]
    conv => rhs; rw [← List.map_id (dB d)]
    apply List.map_congr_left
    intro b _
    simp
  rw [e1, e2] at hl
  simp only [Extern.Bytes.bytesOf]
  rw [hl, ba_empty]
theorem cmp22 (a b : Dg) : Extern.BytealgCompare.cmp ⟨(dB a).toArray⟩ ⟨(dB b).toArray⟩ = dcmp a b := by
  rw [Lib.cmp_eq, ← Lib.cmpL_eq]
  unfold Lib.cmpL
  simp only [dB_len, Nat.min_self, Nat.lt_irrefl, if_false]
  have hg : ∀ (d : Dg) i, i < 32 → (dB d).getD i 0 = d i := fun d i hi => by
    have := dB_lB d i hi
    unfold lB at this
    rw [List.getD_eq_getElem?_getD]; exact this
  cases hf : (List.range 32).find? fun i => (dB a).getD i 0 != (dB b).getD i 0 with
  | none =>
    have h := List.find?_eq_none.1 hf
    refine (dcmp_eq fun j hj => ?_).symm
    have := h j (by simpa using hj)
    rw [hg a j hj, hg b j hj] at this
    simpa using this
  | some i =>
    obtain ⟨hp, hi, hbef⟩ := List.find?_range_eq_some.1 hf
    have hi32 : i < 32 := by simpa using hi
    rw [hg a i hi32, hg b i hi32] at hp
    have hne : a i ≠ b i := by simpa using hp
    have hall : ∀ j, j < i → a j = b j := fun j hj => by
      have := hbef j hj
      rw [hg a j (by omega), hg b j (by omega)] at this
      simpa using this
    show (if (dB a).getD i 0 < (dB b).getD i 0 then (-1 : Int) else 1) = _
    rw [hg a i hi32, hg b i hi32]
    by_cases hl : a i < b i
    · rw [if_pos hl, dcmp_lt hall (UInt8.lt_iff_toNat_lt.1 hl) hi32]
    · rw [if_neg hl]
      have : (b i).toNat < (a i).toNat := by
        have h1 : ¬ (a i).toNat < (b i).toNat := fun h => hl (UInt8.lt_iff_toNat_lt.2 h)
        have h2 : (a i).toNat ≠ (b i).toNat := fun h => hne (UInt8.toNat_inj.1 h)
        omega
      rw [dcmp_gt hall this hi32]
theorem run_cmp22 (w : World) (ga gb : Nat) (a b : Dg) (hA : RowC w ga (dg_secA a)) (hB : RowC w gb (dg_secA b)) :
    (callFunc 107 #[.slice (some ⟨ga, 0, none⟩) 32 32, .slice (some ⟨gb, 0, none⟩) 32 32]).run Tryz.prog w = .ok (.value (.int .i64 (dcmp a b))) w := by
  rw [run_callFunc_extern Tryz.func107 (by kernel_rfl) (by kernel_rfl) (by kernel_rfl) (e := Extern.BytealgCompare.compare) (by kernel_rfl)]
  have : (Extern.BytealgCompare.compare #[.slice (some ⟨ga, 0, none⟩) 32 32, .slice (some ⟨gb, 0, none⟩) 32 32]).run Tryz.prog w = .ok (goInt (Extern.BytealgCompare.cmp ⟨(dB a).toArray⟩ ⟨(dB b).toArray⟩)) w := by
    change Sem.run Tryz.prog (do pure (goInt (Extern.BytealgCompare.cmp (← Extern.Bytes.bytesOf (.slice (some ⟨ga, 0, none⟩) 32 32)) (← Extern.Bytes.bytesOf (.slice (some ⟨gb, 0, none⟩) 32 32))))) w = _
    simp only [Sem.run_bind, loadB22 w ga 32 a hA, loadB22 w gb 32 b hB, Result.andThen_ok, Sem.run_pure]
  rw [this, cmp22]
  generalize dcmp a b = r
  rfl
theorem bytesCompare22 (w : World) (ga gb : Nat) (a b : Dg) (hA : RowC w ga (dg_secA a)) (hB : RowC w gb (dg_secA b)) :
    Calls Tryz.prog 87 #[.slice (some ⟨ga, 0, none⟩) 32 32, .slice (some ⟨gb, 0, none⟩) 32 32] w fun e w' => e = .returned (.int .i64 (dcmp a b)) ∧ w' = w := by
  have h := run_cmp22 w ga gb a b hA hB
  generalize dcmp a b = r at h ⊢
  clear hA hB
  go_enter Tryz.func87, Tryz.ntmps87
  go_wp2
  go_ret
  exact ⟨rfl, rfl⟩
set_option linter.unusedSimpArgs false in
set_option maxRecDepth 100000 in
theorem byBytes22 (a b : Dg) (w : World) : Calls Tryz.prog 47 #[.agg (dg_secA a), .agg (dg_secA b)] w fun e w' => e = .returned (.int .i64 (dcmp a b)) ∧ Below w.heap.size w w' := by
  have b0 := below_al2 w (.cells (dg_secA a) 50) (.cells (dg_secA b) 50)
  have hA : RowC ((w.alloc (.cells (dg_secA a) 50)).alloc (.cells (dg_secA b) 50)) w.heap.size (dg_secA a) := (RowC.new w (dg_secA a) 50).kept (below_alloc _ _)
  have hB : RowC ((w.alloc (.cells (dg_secA a) 50)).alloc (.cells (dg_secA b) 50)) (w.heap.size + 1) (dg_secA b) := by
    have := RowC.new (w.alloc (.cells (dg_secA a) 50)) (dg_secA b) 50
    rwa [World.size_alloc] at this
  go_enter Tryz.func47, Tryz.ntmps47
  go_upto_region 1 with fail
  obtain ⟨gb, hgb⟩ : ∃ z, w.heap.size + 1 = z := ⟨_, rfl⟩
  obtain ⟨ga, hga⟩ : ∃ z, w.heap.size = z := ⟨_, rfl⟩
  simp only [hgb]
  simp only [hga]
  rw [hgb] at hB
  rw [hga] at hA
  clear hga hgb
  generalize (w.alloc (.cells (dg_secA a) 50)).alloc (.cells (dg_secA b) 50) = X at hA hB b0 ⊢
  refine wp_relies [Fx (.slice (some ⟨ga, 0, none⟩) 32 32), Fx (.slice (some ⟨gb, 0, none⟩) 32 32), Fx (.int .i64 (dcmp a b))] (by kernel_rfl) (by kernel_rfl) ?_ ?_ ?_
  · repeat' (first | exact all_nil | apply all_cons)
    all_goals intro v y y' hv hb
    all_goals first | exact Fx_mono _ _ _ _ hv hb
  · refine ⟨?_, ?_, ?_, trivial⟩
    all_goals
      intro ρ y9 hp ρc ρg ρf ho hd
      have o2 : ρ (.tmp 2) = .pointer (some ⟨ga, 0, none⟩) := ho 2 rfl
      have o3 : ρ (.tmp 3) = .pointer (some ⟨gb, 0, none⟩) := ho 3 rfl
      clear ho
      simp only [depsR, depR, slotR, Fx, List.getElem?_cons_succ, List.getElem?_cons_zero, Region.binds, forall_const] at hd
      simp only [guardR]
      go_split_ands
    · go_simp
    · go_simp
    · have h1 := hA.kept hp
      have h2 := hB.kept hp
      go_simp
      exact (bytesCompare22 _ _ _ _ _ h1 h2).mono fun e w' ⟨q1, q2⟩ => by subst q2; exact ⟨_, q1, rfl, Below.refl _ _⟩
  · intro us x1 hp1 hw
    simp only [owed, Fx] at hw
    obtain ⟨e0, e1, e2, -⟩ := hw
    simp only [List.length_cons, List.length_nil, List.take_succ_cons, List.take_zero, List.drop_succ_cons, List.drop_zero, asg, List.cons_append, List.nil_append, e0, e1, e2]
    clear e0 e1 e2
    have HX : Hid (Below w.heap.size w x1) := b0.trans (hp1.mono b0.size)
    clear hA hB b0 hp1
    go_wp2
    go_ret
    exact ⟨rfl, HX.out⟩
theorem bySlot22 (a b : Int) (w : World) : Calls Tryz.prog 50 #[.int .i64 a, .int .i64 b] w fun e w' => e = .returned (.int .i64 (cmpI a b)) ∧ Below w.heap.size w w' := by
  have h := cmpc22 a b w
  go_enter Tryz.func50, Tryz.ntmps50
  go_wp2_with fail
  refine h.mono ?_
  rintro e w' ⟨rfl, rfl⟩
  go_wp2
  go_ret
  exact ⟨rfl, Below.refl _ _⟩
theorem bytesEqual22 (v u : Value) (l m : List UInt8) (w : World) (hl : IsB w v l) (hm : IsB w u m) : Calls Tryz.prog 88 #[v, u] w fun e w' => e = .returned (.bool (decide (l = m))) ∧ w' = w := by
  have h1 := hl.str
  have h2 := hm.str
  clear hl hm
  go_enter Tryz.func88, Tryz.ntmps88
  go_wp2
  go_ret
  refine ⟨?_, rfl⟩
  exact ret_bool (by rw [Bool.eq_iff_iff]; simp)
end Go.Proofs.YtklbdhpnbjhgkaaGreatDoor
namespace Go.Proofs.YtklbdhpnbjhgkaaGreatDoor
open Go.RowKit Go.Sort

/-! The reader: lists -/
theorem intsElt : Elt 30 3 8 := ⟨Tryz.underlying30, by
  have h : (Tryz.prog.info? 3).map (fun i => (i.zero, i.size, i.bytes)) = some (some (.int .i64 0), 1, 8) := by kernel_rfl
  obtain ⟨i, hi, hz⟩ := Option.map_eq_some_iff.1 h
  simp only [Prod.mk.injEq] at hz
  exact ⟨i, _, hi, hz.1, hz.2.1, hz.2.2, rfl⟩⟩
def inV (l : List Int) : List Value := l.map fun i => Value.int .i64 i
theorem inV_len (l : List Int) : (inV l).length = l.length := by simp [inV]
theorem inV_app (l m : List Int) : inV (l ++ m) = inV l ++ inV m := by simp [inV]
theorem inV_get (l : List Int) (i : Nat) (k : Int) (h : l[i]? = some k) : (inV l)[i]? = some (.int .i64 k) := by simp [inV, h]
/-- A list of numbers of one's own. -/
def OwnI (w : World) (B : Nat) (v : Value) (l : List Int) : Prop := OwnG 3 w B v (inV l)
/-- What a list of the reader's leaves. -/
def LsQ {α : Type} (Own : World → Nat → Value → List α → Prop) (w : World) (g : Nat) (x : Option Addr) (n c : Nat) (b : List UInt8) (r : Except (Nat × Nat) (List α × Nat)) (e : Ending) (w' : World) : Prop := Keep [g] w w' ∧ match r with
  | .ok (l, j) => ∃ v, e = .returned (.tuple #[v, .pointer none]) ∧ Own w' w.heap.size v l ∧ RdI w' g x n c b j
  | .error (a, cd) => ∃ q, e = .returned (.tuple #[.slice none 0 0, .pointer (some ⟨q, 0, none⟩)]) ∧ w.heap.size ≤ q ∧ RowC w' q (ftA a cd)
theorem rdL_err {α : Type} {one : RdT α} {lt : α → α → Bool} {n : Nat} {l : List α} {b : List UInt8} {j : Nat} {p : Nat × Nat} (hn : 0 < n) (h : one b j = .error p) : rdL one lt n l b j = .error p := by
  obtain ⟨m, rfl⟩ : ∃ m, n = m + 1 := ⟨n - 1, by omega⟩
  unfold rdL; rw [h]
theorem rdL_bad {α : Type} {one : RdT α} {lt : α → α → Bool} {n : Nat} {l : List α} {b : List UInt8} {j : Nat} {v : α} {j' : Nat} (hn : 0 < n) (h : one b j = .ok (v, j')) (hb : behO lt l.getLast? v = false) : rdL one lt n l b j = .error (j, 11) := by
  obtain ⟨m, rfl⟩ : ∃ m, n = m + 1 := ⟨n - 1, by omega⟩
  unfold rdL; rw [h]; dsimp only; rw [hb]; rfl
theorem rdL_step {α : Type} {one : RdT α} {lt : α → α → Bool} {n : Nat} {l : List α} {b : List UInt8} {j : Nat} {v : α} {j' : Nat} (hn : 0 < n) (h : one b j = .ok (v, j')) (hb : behO lt l.getLast? v = true) : rdL one lt n l b j = rdL one lt (n - 1) (l ++ [v]) b j' := by
  obtain ⟨m, rfl⟩ : ∃ m, n = m + 1 := ⟨n - 1, by omega⟩
  rw [rdL, h]; dsimp only; rw [hb]; rfl
theorem okAny_of (v : Nat) : (fun _ : Int => true) (v : Int) = okAny v := rfl
theorem cmpF_le (u v : Fd) : decide (0 ≤ cmpF u v) = !ltF u v := by
  have := cmpF_lt u v
  cases h : ltF u v
  · rw [h] at this; simp; simp at this; omega
  · rw [h] at this; simp; simp at this; omega
theorem dcmp_le (u v : Dg) : decide (0 ≤ dcmp u v) = !ltD u v := by
  unfold dcmp ltD
  by_cases h : dnum u 32 < dnum v 32
  · simp [h]
  · simp only [h, if_false, decide_false, Bool.not_false]
    split <;> simp
theorem cmpI_le (u v : Int) : decide (0 ≤ cmpI u v) = !ltI u v := by
  have := cmpI_lt u v
  unfold ltI
  by_cases h : u < v
  · simp only [h, iff_true] at this; simp [h]; omega
  · simp only [h, iff_false] at this; simp [h]; omega
theorem last_get {α : Type} (l : List α) (k : Nat) (hk : l.length = k) (h0 : 0 < k) : ∃ u, l[k - 1]? = some u ∧ l.getLast? = some u := by
  rw [List.getLast?_eq_getElem?, hk]
  obtain ⟨u, hu⟩ : ∃ u, l[k - 1]? = some u := ⟨_, List.getElem?_eq_getElem (by omega)⟩
  exact ⟨u, hu, hu⟩
theorem grownB_below {w w' : World} {B : Nat} {row : Option Nat} (hg : w.grownBy w' row) (hb : B ≤ w.heap.size) (hr : ∀ k, row = some k → B ≤ k) : Below B w w' := (Below.refl B w).grown hg hb hr
theorem row_range {w : World} {g : Nat} {c : Array Value} (h : RowC w g c) : w.rangeAt g 0 c.toList := fun j u hu => by rw [Nat.zero_add, h.cell]; rw [Array.getElem?_toList] at hu; exact hu
theorem below_of_grow {w w' : World} (h : ∃ q os, w' = grow (w.drewN q) os) : Below w.heap.size w w' := by
  obtain ⟨q, os, rfl⟩ := h
  exact (BelD.of_grow w q os).1
theorem OwnI.keep {w w' : World} {B : Nat} {v : Value} {l : List Int} (h : OwnI w B v l) (hb : Below w.heap.size w w') : OwnI w' B v l := OwnG.keep h hb
theorem Keep.appB {F : List Nat} {w w1 w2 : World} (h : Keep F w w1) (hb : Below w.heap.size w1 w2) : Keep F w w2 :=
  ⟨hb.os.trans h.os, hb.tape.trans h.tape, hb.output.trans h.output, Nat.le_trans h.size hb.size, fun k hk hn => (hb.block k hk).trans (h.block k hk hn)⟩
theorem RdI.belowB {w w' : World} {B g : Nat} {x : Option Addr} {n c : Nat} {b : List UInt8} {i : Nat} (h : RdI w g x n c b i) (hb : Below B w w') (hg : g < B) (hx : 0 < n → ∀ a, x = some a → a.block < B) (h0 : 0 < n) : RdI w' g x n c b i :=
  ⟨h.row.block (hb.block g hg), h.isb.below hb (fun y _ _ he _ => by cases he; exact hx h0 y rfl), h.len, h.cap, h.far, h.small, h.le⟩
set_option linter.unusedSimpArgs false in
set_option maxRecDepth 100000 in
set_option maxHeartbeats 4000000 in
theorem list_fd22 (w : World) (g : Nat) (x : Option Addr) (n c : Nat) (b : List UInt8) (i : Nat) (h : RdI w g x n c b i) :
    Calls Tryz.prog 43 #[.pointer (some ⟨g, 0, none⟩), .func (.func 44) #[.pointer (some ⟨g, 0, none⟩)] #[], .func (.func 23) #[] #[]] w fun e w' => LsQ (OwnK fdE) w g x n c b (rdC rdF ltF b i) e w' := by
  have hn := number22 w g x n c b i 2 (.inr rfl) _ _ _ anyNum22 okAny_of enN22 h
  have en1 : ∀ args w, (callFunc 44 args).run Tryz.prog w = .ok (.enter 44 args) w := enters_of Tryz.func44 (by kernel_rfl) rfl
  have en2 : ∀ args w, (callFunc 23 args).run Tryz.prog w = .ok (.enter 23 args) w := enters_of Tryz.func23 (by kernel_rfl) rfl
  have hgl := h.row.lt
  have hxl := h.old
  cases hr : rdN 2 okAny b i with
  | error p =>
    have hs : rdC rdF ltF b i = .error p := by unfold rdC; rw [hr]
    rw [hs]
    rw [hr] at hn
    clear hr hs h hxl
    go_enter Tryz.func43, Tryz.ntmps43
    go_wp2_with fail
    refine hn.mono ?_
    rintro e w1 ⟨hK, q, rfl, hq, hR⟩
    clear hn
    go_wp2
    go_ret2
    exact ⟨hK, q, rfl, hq, hR⟩
  | ok p =>
    obtain ⟨m, j0⟩ := p
    have hs : rdC rdF ltF b i = rdL rdF ltF m [] b j0 := by unfold rdC; rw [hr]
    have hm : m < 65536 := by
      obtain ⟨-, p2, -, -⟩ := rdN_ok hr
      rw [← p2]; exact numN_lt _ _ 2
    have h0 : 0 < n := by have := (rdN_ok hr).1; have := h.len; omega
    rw [hs]
    rw [hr] at hn
    obtain ⟨RES, hres⟩ : ∃ r, rdL rdF ltF m [] b j0 = r := ⟨_, rfl⟩
    rw [hres]
    have HRES : Hid (rdL rdF ltF m [] b j0 = RES) := hres
    have HG : Hid (g < w.heap.size) := hgl
    have HX : Hid (0 < n → ∀ a, x = some a → a.block < w.heap.size) := hxl
    have H0 : Hid (0 < n) := h0
    have HM : Hid (m < 65536) := hm
    clear hr hs h hxl hres hgl h0 hm
    go_enter Tryz.func43, Tryz.ntmps43
    go_wp2_with fail
    refine hn.mono ?_
    rintro e w1 ⟨hK, rfl, hR⟩
    clear hn
    go_wp2_with fail
    go_loopw [10, 24] (fun lv kv wr => ∃ (lv0 : Value) (k : Nat) (l : List Fd) (j : Nat), lv0 = lv ∧ k ≤ m ∧ kv = .int .i64 k ∧ OwnK fdE wr w.heap.size lv l ∧ l.length = k ∧ RdI wr g x n c b j ∧ Keep [g] w wr ∧ rdL rdF ltF m [] b j0 = rdL rdF ltF (m - k) l b j) (fun _ kv _ => m - (intOf kv).toNat)
    case atStart => exact ⟨_, 0, [], j0, rfl, by omega, rfl, OwnK.nil _ _ _, rfl, hR, hK, rfl⟩
    case round =>
      clear hR hK
      obtain ⟨lv, k, l, j, rfl, hk, rfl, hO, hlk, hR, hK, hE⟩ := hrel
      by_cases hlt : k < m
      · have i0 : (k : Int) < (m : Int) := by omega
        have wk2 : IntKind.i64.wrap ((k : Int) + 1) = (k : Int) + 1 := by rw [IntKind.wrap_i64]; have := HM.out; omega
        have c1 : wr.cell? ⟨g, 1, none⟩ = some (.int .i64 (j : Int)) := by rw [hR.row.cell]; rfl
        have h1 := finding22 wr g x n c b j hR
        cases hr1 : rdF b j with
        | error p =>
          rw [hr1] at h1
          have HE : Hid (RES = .error p) := by show _ = _; rw [← HRES.out, hE]; exact rdL_err (by omega) hr1
          have HK : Hid (Keep [g] w wr) := hK
          clear hr1 hE hR hO hK hlk
          go_wp2_with fail
          refine h1.mono ?_
          rintro e w2 ⟨hK2, q, rfl, hq, hRq⟩
          clear h1
          have HQ : Hid (w.heap.size ≤ q) := Nat.le_trans HK.out.size hq
          have HK2 : Hid (Keep [g] w w2) := HK.out.trans hK2
          have hzq : q < w2.heap.size := hRq.lt
          have hRq3 : Hid (RowC (w2.alloc (.cells (fdA fdZ) 25)) q (ftA p.1 p.2)) := hRq.kept (below_alloc _ _)
          have HK3 : Hid (Keep [g] w (w2.alloc (.cells (fdA fdZ) 25))) := HK2.out.trans (Keep.of_below (below_alloc _ _))
          have st := run_store_fd (w2.alloc (.cells (fdA fdZ) 25)) w2.heap.size (fdA fdZ) (by rw [(RowC.new w2 _ _).1]) (by rw [(RowC.new w2 _ _).2]; rfl) rfl (fdA_one _)
          clear hK2 hq hRq hzq
          go_wp2
          go_ret2
          rw [HE.out]
          exact ⟨HK3.out, q, rfl, HQ.out, hRq3.out⟩
        | ok p =>
          obtain ⟨v, j'⟩ := p
          rw [hr1] at h1
          have HR1 : Hid (rdF b j = .ok (v, j')) := hr1
          have HE : Hid _ := hE
          have HL : Hid (l.length = k) := hlk
          have HK : Hid (Keep [g] w wr) := hK
          have HO : Hid (OwnK fdE wr w.heap.size lv l) := hO
          clear hr1 hE hR hK hlk hO
          go_wp2_with fail
          refine h1.mono ?_
          rintro e w2 ⟨hK2, rfl, hR2⟩
          clear h1
          have HK2 : Hid (Keep [g] w w2) := HK.out.trans hK2
          have HO2 : Hid (OwnK fdE w2 w.heap.size lv l) := OwnK.keeps HO.out hK2 (fun q hq => by have := (World.ownsRow.lt HO.out q hq).1; have := HG.out; simp; omega)
          clear HO HK hK2
          have st := run_store_fd (w2.alloc (.cells (fdA fdZ) 25)) w2.heap.size (fdA v) (by rw [(RowC.new w2 _ _).1]) (by rw [(RowC.new w2 _ _).2]; rfl) rfl (fdA_one _)
          have bS := below_alloc w2 (.cells (fdA v) 25)
          have hV := RowC.new w2 (fdA v) 25
          go_upto_region 12 with fail
          obtain ⟨zv, hzv⟩ : ∃ z, w2.heap.size = z := ⟨_, rfl⟩
          try simp only [hzv]
          rw [hzv] at bS hV
          clear st
          generalize w2.alloc (.cells (fdA v) 25) = W at bS hV ⊢
          have HV : Hid (RowC W zv (fdA v)) := hV
          have HZ : Hid (w2.heap.size = zv) := hzv
          clear hzv
          have bS9 : Below w2.heap.size w2 W := by rw [HZ.out]; exact bS
          have HK3 : Hid (Keep [g] w W) := HK2.out.trans (Keep.of_below bS9)
          have HR3 : Hid (RdI W g x n c b j') := hR2.later bS9
          have HO3 : Hid (OwnK fdE W w.heap.size lv l) := HO2.out.keep bS9
          have CV : Hid (∀ y, Below W.heap.size W y → (bigLoad 25 (.pointer (some ⟨zv, 0, none⟩))).run Tryz.prog y = .ok (.value (.agg (fdA v))) y) := fun y hy => by
            have h9 := run_load_fd y zv (hV.kept hy).1 (by rw [(hV.kept hy).2]; rfl)
            rw [(hV.kept hy).2] at h9
            exact h9
          clear hV bS bS9 HV
          clear hR2 HK2 HO2 HZ c1
          by_cases hk0 : k = 0
          · subst hk0
            have HB9 : Hid (false = !behO ltF l.getLast? v) := by
              show _ = _
              have : l = [] := List.length_eq_zero_iff.1 HL.out
              rw [this]; rfl
            refine wp_reliesT [Fx (.int .i64 (0 : Int)), Fx (.bool false), Fx (.bool false), Fx (undef), Fx (undef), Fx (undef), Fx (undef), Fx (undef), Fx (undef), Fx (undef), Fx (undef), Fx (undef)] (by kernel_rfl) (by kernel_rfl) ?_ ?_ ?_
            · repeat' (first | exact all_nil | apply all_cons)
              all_goals intro v y y' hv hb
              all_goals first | exact Fx_mono _ _ _ _ hv hb
            · refine ⟨?_, ?_, ?_, ?_, ?_, ?_, ?_, ?_, ?_, ?_, ?_, ?_, trivial⟩
              all_goals
                intro ρ y9 hp ρc ρg ρf ho hd
                have o11 : ρ (.tmp 11) = .int .i64 (0 : Int) := ho 11 rfl
                clear ho
                simp only [depsR, depR, slotR, Fx, List.getElem?_cons_succ, List.getElem?_cons_zero, Region.binds, forall_const] at hd
                simp only [guardR]
                go_split_ands
              · go_simp
              · go_simp
              · go_simp
              · refine ⟨fun hy => ?_, fun _ => rfl⟩
                exfalso; simp [yieldR, slotR, undef, *] at hy
              · refine ⟨fun hy => ?_, fun _ => rfl⟩
                exfalso; simp [yieldR, slotR, undef, *] at hy
              · refine ⟨fun hy => ?_, fun _ => rfl⟩
                exfalso; simp [yieldR, slotR, undef, *] at hy
              · refine ⟨fun hy => ?_, fun _ => rfl⟩
                exfalso; simp [yieldR, slotR, undef, *] at hy
              · refine ⟨fun hy => ?_, fun _ => rfl⟩
                exfalso; simp [yieldR, slotR, undef, *] at hy
              · refine ⟨fun hy => ?_, fun _ => rfl⟩
                exfalso; simp [yieldR, slotR, undef, *] at hy
              · refine ⟨fun hy => ?_, fun _ => rfl⟩
                exfalso; simp [yieldR, slotR, undef, *] at hy
              · refine ⟨fun hy => ?_, fun _ => rfl⟩
                exfalso; simp [yieldR, slotR, undef, *] at hy
              · refine ⟨fun hy => ?_, fun _ => rfl⟩
                exfalso; simp [yieldR, slotR, undef, *] at hy
            · intro us x1 hp1 hw
              simp only [owed, Fx] at hw
              obtain ⟨e0, e1, e2, e3, e4, e5, e6, e7, e8, e9, e10, e11, -⟩ := hw
              simp only [List.length_cons, List.length_nil, List.take_succ_cons, List.take_zero, List.drop_succ_cons, List.drop_zero, asg, List.cons_append, List.nil_append, e0, e1, e2, e3, e4, e5, e6, e7, e8, e9, e10, e11]
              clear e0 e1 e2 e3 e4 e5 e6 e7 e8 e9 e10 e11
              have LV : Hid True := trivial
              cases hb : behO ltF l.getLast? v
              · have h9 := HB9.out
                rw [hb] at h9
                cases h9
              · have HEr : Hid (rdL rdF ltF m [] b j0 = rdL rdF ltF (m - (0 + 1)) (l ++ [v]) b j') := by
                  show _ = _; rw [HE.out, rdL_step (by omega) HR1.out hb, Nat.sub_sub]
                have bA := below_alloc x1 (.cells (fdA v) 25)
                have bW : Below W.heap.size W (x1.alloc (.cells (fdA v) 25)) := hp1.trans (bA.mono hp1.size)
                have HK4 : Hid (Keep [g] w (x1.alloc (.cells (fdA v) 25))) := HK3.out.appB (bW.mono HK3.out.size)
                have HR4 : Hid (RdI (x1.alloc (.cells (fdA v) 25)) g x n c b j') := HR3.out.later bW
                have HO4 : OwnK fdE (x1.alloc (.cells (fdA v) 25)) w.heap.size lv l := HO3.out.keep bW
                obtain ⟨g9, c9, w9, hra, hO9, -, hg9, -⟩ := run_app1K fdE_ok (x1.alloc (.cells (fdA v) 25)) w.heap.size x1.heap.size lv l v 22 HO4 (by rw [fdE_enc]; exact row_range (RowC.new x1 _ _)) (by simp) (by show (l.length + 1) * 16 ≤ 140737488355328; have := HL.out; have := HM.out; omega) (by unfold maxLen; have := HL.out; have := HM.out; omega) HK4.out.size
                obtain ⟨v9, hv9⟩ : ∃ z, Value.slice (some ⟨g9, 0, none⟩) (l.length + 1) c9 = z := ⟨_, rfl⟩
                rw [hv9] at hra hO9
                clear hv9
                have b9 : Below w.heap.size (x1.alloc (.cells (fdA v) 25)) w9 := grownB_below hg9 HK4.out.size (fun q hq => (World.ownsRow.lt HO4 q hq).1)
                have HK9 : Hid (Keep [g] w w9) := HK4.out.appB b9
                have HR9 : Hid (RdI w9 g x n c b j') := HR4.out.belowB b9 HG.out HX.out H0.out
                have HO9 : Hid (OwnK fdE w9 w.heap.size v9 (l ++ [v])) := hO9
                have ld := CV.out x1 hp1
                have HLT : Hid (0 < m) := hlt
                clear hO9 hg9 b9 HO4 bW bA hp1 hb
                go_wp2_with (first | (at_builtin; refine wpL_appG 22 rfl _ _ rfl _ w9 (by exact hra) ?_))
                clear ld
                go_roundw
                case rel => first | exact ⟨_, 0 + 1, l ++ [v], j', rfl, by have := HLT.out; omega, by go_num, HO9.out, by simp [HL.out], HR9.out, HK9.out, HEr.out⟩ | ((repeat apply Exists.intro); refine ⟨⟨_, 0 + 1, l ++ [v], j', rfl, by have := HLT.out; omega, ?_, HO9.out, by simp [HL.out], HR9.out, HK9.out, HEr.out⟩, rfl⟩; go_num)
                case measure => have := HLT.out; simp [intOf]; omega
          · obtain ⟨u, hu, hla⟩ := last_get l k HL.out (by omega)
            obtain ⟨x9, cl, hlv⟩ := (OwnK.isK fdE_ok HO3.out).len
            obtain ⟨gl, rfl, hgl⟩ := OwnK.form (hlv ▸ HO3.out) (by have := HL.out; omega)
            rw [HL.out] at hlv
            subst hlv
            have CL : Hid (∀ y, Below W.heap.size W y → (bigLoad 25 (.pointer (some ⟨gl, (k - 1) * 2, none⟩))).run Tryz.prog y = .ok (.value (.agg (fdA u))) y) := fun y hy => by
              obtain ⟨b', o', he, -, -, -, k1, k2⟩ := fd_at ((OwnK.isK fdE_ok HO3.out).kept hy) (k - 1) u hu
              cases he
              rw [Nat.zero_add] at k1 k2
              have h9 := run_fd_mid y gl ((k - 1) * 2) k1
              rw [k2] at h9
              exact h9
            have HB9 : Hid ((!ltF u v) = !behO ltF l.getLast? v) := by show _ = _; rw [hla]; rfl
            have leB := cmpF_le u v
            have wk1 : IntKind.i64.wrap ((k : Int) - 1) = ((k - 1 : Nat) : Int) := by rw [IntKind.wrap_i64]; have := HM.out; omega
            have q0 : (0 : Int) < (k : Int) := by omega
            have q1 : ((k - 1 : Nat) : Int) < (k : Int) := by omega
            have q2 : (0 : Int) ≤ ((k - 1 : Nat) : Int) := by omega
            clear hu hla hgl
            refine wp_reliesT [Fx (.int .i64 (k : Int)), Fx (.bool true), Fx (.bool true), Fx (.func (.func 23) #[] #[]), Fx (.slice (some ⟨gl, 0, none⟩) k cl), Fx (.int .i64 (k : Int)), Fx (.int .i64 (((k - 1 : Nat)) : Int)), Fx (.pointer (some ⟨gl, (k - 1) * 2, none⟩)), Fx (.agg (fdA u)), Fx (.agg (fdA v)), Fx (.int .i64 (cmpF u v)), Fx (.bool (!ltF u v))] (by kernel_rfl) (by kernel_rfl) ?_ ?_ ?_
            · repeat' (first | exact all_nil | apply all_cons)
              all_goals intro v y y' hv hb
              all_goals first | exact Fx_mono _ _ _ _ hv hb
            · refine ⟨?_, ?_, ?_, ?_, ?_, ?_, ?_, ?_, ?_, ?_, ?_, ?_, trivial⟩
              all_goals
                intro ρ y9 hp ρc ρg ρf ho hd
                have o2 : ρ (.tmp 2) = .func (.func 23) #[] #[] := ho 2 rfl
                have o10 : ρ (.tmp 10) = .slice (some ⟨gl, 0, none⟩) k cl := ho 10 rfl
                have o11 : ρ (.tmp 11) = .int .i64 (k : Int) := ho 11 rfl
                have o13 : ρ (.tmp 13) = .pointer (some ⟨zv, 0, none⟩) := ho 13 rfl
                clear ho
                have z9 := CV.out y9 hp
                simp only [depsR, depR, slotR, Fx, List.getElem?_cons_succ, List.getElem?_cons_zero, Region.binds, forall_const] at hd
                simp only [guardR]
                go_split_ands
              · go_simp
              · go_simp
                try (unfold Fx; simp; omega)
              · go_simp
              · refine ⟨fun _ => ?_, fun hy => absurd (by simp [yieldR, slotR, *]) hy⟩
                go_simp
              · refine ⟨fun _ => ?_, fun hy => absurd (by simp [yieldR, slotR, *]) hy⟩
                go_simp
              · refine ⟨fun _ => ?_, fun hy => absurd (by simp [yieldR, slotR, *]) hy⟩
                go_simp
              · refine ⟨fun _ => ?_, fun hy => absurd (by simp [yieldR, slotR, *]) hy⟩
                go_simp
                try exact wk1
              · refine ⟨fun _ => ?_, fun hy => absurd (by simp [yieldR, slotR, *]) hy⟩
                go_simp
              · refine ⟨fun _ => ?_, fun hy => absurd (by simp [yieldR, slotR, *]) hy⟩
                have z1 := CL.out y9 hp
                go_simp
              · refine ⟨fun _ => ?_, fun hy => absurd (by simp [yieldR, slotR, *]) hy⟩
                go_simp
              · refine ⟨fun _ => ?_, fun hy => absurd (by simp [yieldR, slotR, *]) hy⟩
                go_simp
                exact (byKind22 _ _ _).mono fun e w' ⟨q1, q2⟩ => ⟨_, q1, rfl, below_of_grow q2⟩
              · refine ⟨fun _ => ?_, fun hy => absurd (by simp [yieldR, slotR, *]) hy⟩
                go_simp
                try exact leB
            · intro us x1 hp1 hw
              simp only [owed, Fx] at hw
              obtain ⟨e0, e1, e2, e3, e4, e5, e6, e7, e8, e9, e10, e11, -⟩ := hw
              simp only [List.length_cons, List.length_nil, List.take_succ_cons, List.take_zero, List.drop_succ_cons, List.drop_zero, asg, List.cons_append, List.nil_append, e0, e1, e2, e3, e4, e5, e6, e7, e8, e9, e10, e11]
              clear e0 e1 e2 e3 e4 e5 e6 e7 e8 e9 e10 e11
              cases hb : behO ltF l.getLast? v
              · have HEr : Hid (RES = .error (j, 11)) := by show _ = _; rw [← HRES.out, HE.out]; exact rdL_bad (by omega) HR1.out hb
                rw [HB9.out, hb]
                have HK9 : Hid (Keep [g] w (x1.alloc (.cells (ftA (j : Int) 11) 72))) := (HK3.out.appB (hp1.mono HK3.out.size)).appB ((below_alloc _ _).mono (Nat.le_trans HK3.out.size hp1.size))
                have HQ : Hid (w.heap.size ≤ x1.heap.size) := Nat.le_trans HK3.out.size hp1.size
                have HN : Hid (RowC (x1.alloc (.cells (ftA (j : Int) 11) 72)) x1.heap.size (ftA (j : Int) 11)) := RowC.new _ _ _
                clear hp1 hb
                go_wp2
                go_ret2
                rw [HEr.out]
                exact ⟨HK9.out, _, rfl, HQ.out, HN.out⟩
              · have HEr : Hid (rdL rdF ltF m [] b j0 = rdL rdF ltF (m - (k + 1)) (l ++ [v]) b j') := by
                  show _ = _; rw [HE.out, rdL_step (by omega) HR1.out hb, Nat.sub_sub]
                rw [HB9.out, hb]
                have bA := below_alloc x1 (.cells (fdA v) 25)
                have bW : Below W.heap.size W (x1.alloc (.cells (fdA v) 25)) := hp1.trans (bA.mono hp1.size)
                have HK4 : Hid (Keep [g] w (x1.alloc (.cells (fdA v) 25))) := HK3.out.appB (bW.mono HK3.out.size)
                have HR4 : Hid (RdI (x1.alloc (.cells (fdA v) 25)) g x n c b j') := HR3.out.later bW
                have HO4 : OwnK fdE (x1.alloc (.cells (fdA v) 25)) w.heap.size (.slice (some ⟨gl, 0, none⟩) k cl) l := HO3.out.keep bW
                obtain ⟨g9, c9, w9, hra, hO9, -, hg9, -⟩ := run_app1K fdE_ok (x1.alloc (.cells (fdA v) 25)) w.heap.size x1.heap.size (.slice (some ⟨gl, 0, none⟩) k cl) l v 22 HO4 (by rw [fdE_enc]; exact row_range (RowC.new x1 _ _)) (by simp) (by show (l.length + 1) * 16 ≤ 140737488355328; have := HL.out; have := HM.out; omega) (by unfold maxLen; have := HL.out; have := HM.out; omega) HK4.out.size
                obtain ⟨v9, hv9⟩ : ∃ z, Value.slice (some ⟨g9, 0, none⟩) (l.length + 1) c9 = z := ⟨_, rfl⟩
                rw [hv9] at hra hO9
                clear hv9
                have b9 : Below w.heap.size (x1.alloc (.cells (fdA v) 25)) w9 := grownB_below hg9 HK4.out.size (fun q hq => (World.ownsRow.lt HO4 q hq).1)
                have HK9 : Hid (Keep [g] w w9) := HK4.out.appB b9
                have HR9 : Hid (RdI w9 g x n c b j') := HR4.out.belowB b9 HG.out HX.out H0.out
                have HO9 : Hid (OwnK fdE w9 w.heap.size v9 (l ++ [v])) := hO9
                have ld := CV.out x1 hp1
                have HLT : Hid (k < m) := hlt
                clear hO9 hg9 b9 HO4 bW bA hp1 hb
                go_wp2_with (first | (at_builtin; refine wpL_appG 22 rfl _ _ rfl _ w9 (by exact hra) ?_))
                clear ld
                go_roundw
                case rel => first | exact ⟨_, k + 1, l ++ [v], j', rfl, by have := HLT.out; omega, by go_num, HO9.out, by simp [HL.out], HR9.out, HK9.out, HEr.out⟩ | ((repeat apply Exists.intro); refine ⟨⟨_, k + 1, l ++ [v], j', rfl, by have := HLT.out; omega, ?_, HO9.out, by simp [HL.out], HR9.out, HK9.out, HEr.out⟩, rfl⟩; go_num)
                case measure => have := HLT.out; simp [intOf]; omega
      · obtain rfl : k = m := by omega
        have HEr : Hid (RES = .ok (l, j)) := by show _ = _; rw [← HRES.out, hE, Nat.sub_self]; rfl
        have i0 : ¬ (k : Int) < (k : Int) := by omega
        clear hE hlk
        go_wp2
        go_ret2
        rw [HEr.out]
        exact ⟨hK, _, rfl, hO, hR⟩
set_option linter.unusedSimpArgs false in
set_option maxRecDepth 100000 in
set_option maxHeartbeats 4000000 in
theorem list_dg22 (w : World) (g : Nat) (x : Option Addr) (n c : Nat) (b : List UInt8) (i : Nat) (h : RdI w g x n c b i) :
    Calls Tryz.prog 45 #[.pointer (some ⟨g, 0, none⟩), .func (.func 46) #[.pointer (some ⟨g, 0, none⟩)] #[], .func (.func 47) #[] #[]] w fun e w' => LsQ (OwnK dgE) w g x n c b (rdC rdD ltD b i) e w' := by
  have hn := number22 w g x n c b i 2 (.inr rfl) _ _ _ anyNum22 okAny_of enN22 h
  have en1 : ∀ args w, (callFunc 46 args).run Tryz.prog w = .ok (.enter 46 args) w := enters_of Tryz.func46 (by kernel_rfl) rfl
  have en2 : ∀ args w, (callFunc 47 args).run Tryz.prog w = .ok (.enter 47 args) w := enters_of Tryz.func47 (by kernel_rfl) rfl
  have hgl := h.row.lt
  have hxl := h.old
  cases hr : rdN 2 okAny b i with
  | error p =>
    have hs : rdC rdD ltD b i = .error p := by unfold rdC; rw [hr]
    rw [hs]
    rw [hr] at hn
    clear hr hs h hxl
    go_enter Tryz.func45, Tryz.ntmps45
    go_wp2_with fail
    refine hn.mono ?_
    rintro e w1 ⟨hK, q, rfl, hq, hR⟩
    clear hn
    go_wp2
    go_ret2
    exact ⟨hK, q, rfl, hq, hR⟩
  | ok p =>
    obtain ⟨m, j0⟩ := p
    have hs : rdC rdD ltD b i = rdL rdD ltD m [] b j0 := by unfold rdC; rw [hr]
    have hm : m < 65536 := by
      obtain ⟨-, p2, -, -⟩ := rdN_ok hr
      rw [← p2]; exact numN_lt _ _ 2
    have h0 : 0 < n := by have := (rdN_ok hr).1; have := h.len; omega
    rw [hs]
    rw [hr] at hn
    obtain ⟨RES, hres⟩ : ∃ r, rdL rdD ltD m [] b j0 = r := ⟨_, rfl⟩
    rw [hres]
    have HRES : Hid (rdL rdD ltD m [] b j0 = RES) := hres
    have HG : Hid (g < w.heap.size) := hgl
    have HX : Hid (0 < n → ∀ a, x = some a → a.block < w.heap.size) := hxl
    have H0 : Hid (0 < n) := h0
    have HM : Hid (m < 65536) := hm
    clear hr hs h hxl hres hgl h0 hm
    go_enter Tryz.func45, Tryz.ntmps45
    go_wp2_with fail
    refine hn.mono ?_
    rintro e w1 ⟨hK, rfl, hR⟩
    clear hn
    go_wp2_with fail
    go_loopw [10, 24] (fun lv kv wr => ∃ (lv0 : Value) (k : Nat) (l : List Dg) (j : Nat), lv0 = lv ∧ k ≤ m ∧ kv = .int .i64 k ∧ OwnK dgE wr w.heap.size lv l ∧ l.length = k ∧ RdI wr g x n c b j ∧ Keep [g] w wr ∧ rdL rdD ltD m [] b j0 = rdL rdD ltD (m - k) l b j) (fun _ kv _ => m - (intOf kv).toNat)
    case atStart => exact ⟨_, 0, [], j0, rfl, by omega, rfl, OwnK.nil _ _ _, rfl, hR, hK, rfl⟩
    case round =>
      clear hR hK
      obtain ⟨lv, k, l, j, rfl, hk, rfl, hO, hlk, hR, hK, hE⟩ := hrel
      by_cases hlt : k < m
      · have i0 : (k : Int) < (m : Int) := by omega
        have wk2 : IntKind.i64.wrap ((k : Int) + 1) = (k : Int) + 1 := by rw [IntKind.wrap_i64]; have := HM.out; omega
        have c1 : wr.cell? ⟨g, 1, none⟩ = some (.int .i64 (j : Int)) := by rw [hR.row.cell]; rfl
        have h1 := digest22 wr g x n c b j hR
        cases hr1 : rdD b j with
        | error p =>
          rw [hr1] at h1
          have HE : Hid (RES = .error p) := by show _ = _; rw [← HRES.out, hE]; exact rdL_err (by omega) hr1
          have HK : Hid (Keep [g] w wr) := hK
          clear hr1 hE hR hO hK hlk
          go_wp2_with fail
          refine h1.mono ?_
          rintro e w2 ⟨hK2, q, rfl, hq, hRq⟩
          clear h1
          have HQ : Hid (w.heap.size ≤ q) := Nat.le_trans HK.out.size hq
          have HK2 : Hid (Keep [g] w w2) := HK.out.trans hK2
          have hzq : q < w2.heap.size := hRq.lt
          have hRq3 : Hid (RowC (w2.alloc (.cells (dg_secA dg_secZ) 50)) q (ftA p.1 p.2)) := hRq.kept (below_alloc _ _)
          have HK3 : Hid (Keep [g] w (w2.alloc (.cells (dg_secA dg_secZ) 50))) := HK2.out.trans (Keep.of_below (below_alloc _ _))
          have st := dg_run_secStore (w2.alloc (.cells (dg_secA dg_secZ) 50)) w2.heap.size (dg_secZ) (RowC.new w2 _ _).dg.1
          clear hK2 hq hRq hzq
          go_wp2
          go_ret2
          rw [HE.out]
          exact ⟨HK3.out, q, rfl, HQ.out, hRq3.out⟩
        | ok p =>
          obtain ⟨v, j'⟩ := p
          rw [hr1] at h1
          have HR1 : Hid (rdD b j = .ok (v, j')) := hr1
          have HE : Hid _ := hE
          have HL : Hid (l.length = k) := hlk
          have HK : Hid (Keep [g] w wr) := hK
          have HO : Hid (OwnK dgE wr w.heap.size lv l) := hO
          clear hr1 hE hR hK hlk hO
          go_wp2_with fail
          refine h1.mono ?_
          rintro e w2 ⟨hK2, rfl, hR2⟩
          clear h1
          have HK2 : Hid (Keep [g] w w2) := HK.out.trans hK2
          have HO2 : Hid (OwnK dgE w2 w.heap.size lv l) := OwnK.keeps HO.out hK2 (fun q hq => by have := (World.ownsRow.lt HO.out q hq).1; have := HG.out; simp; omega)
          clear HO HK hK2
          have st := dg_run_secStore (w2.alloc (.cells (dg_secA dg_secZ) 50)) w2.heap.size (v) (RowC.new w2 _ _).dg.1
          have bS := below_alloc w2 (.cells (dg_secA v) 50)
          have hV := RowC.new w2 (dg_secA v) 50
          go_upto_region 12 with fail
          obtain ⟨zv, hzv⟩ : ∃ z, w2.heap.size = z := ⟨_, rfl⟩
          try simp only [hzv]
          rw [hzv] at bS hV
          clear st
          generalize w2.alloc (.cells (dg_secA v) 50) = W at bS hV ⊢
          have HV : Hid (RowC W zv (dg_secA v)) := hV
          have HZ : Hid (w2.heap.size = zv) := hzv
          clear hzv
          have bS9 : Below w2.heap.size w2 W := by rw [HZ.out]; exact bS
          have HK3 : Hid (Keep [g] w W) := HK2.out.trans (Keep.of_below bS9)
          have HR3 : Hid (RdI W g x n c b j') := hR2.later bS9
          have HO3 : Hid (OwnK dgE W w.heap.size lv l) := HO2.out.keep bS9
          have CV : Hid (∀ y, Below W.heap.size W y → (dg_secLoad (.pointer (some ⟨zv, 0, none⟩))).run Tryz.prog y = .ok (.value (.agg (dg_secA v))) y) := fun y hy => by
            have h9 := dg_run_secLoad y zv (hV.kept hy).dg.1
            rw [(hV.kept hy).dg.2] at h9
            exact h9
          clear hV bS bS9 HV
          clear hR2 HK2 HO2 HZ c1
          by_cases hk0 : k = 0
          · subst hk0
            have HB9 : Hid (false = !behO ltD l.getLast? v) := by
              show _ = _
              have : l = [] := List.length_eq_zero_iff.1 HL.out
              rw [this]; rfl
            refine wp_reliesT [Fx (.int .i64 (0 : Int)), Fx (.bool false), Fx (.bool false), Fx (undef), Fx (undef), Fx (undef), Fx (undef), Fx (undef), Fx (undef), Fx (undef), Fx (undef), Fx (undef)] (by kernel_rfl) (by kernel_rfl) ?_ ?_ ?_
            · repeat' (first | exact all_nil | apply all_cons)
              all_goals intro v y y' hv hb
              all_goals first | exact Fx_mono _ _ _ _ hv hb
            · refine ⟨?_, ?_, ?_, ?_, ?_, ?_, ?_, ?_, ?_, ?_, ?_, ?_, trivial⟩
              all_goals
                intro ρ y9 hp ρc ρg ρf ho hd
                have o11 : ρ (.tmp 11) = .int .i64 (0 : Int) := ho 11 rfl
                clear ho
                simp only [depsR, depR, slotR, Fx, List.getElem?_cons_succ, List.getElem?_cons_zero, Region.binds, forall_const] at hd
                simp only [guardR]
                go_split_ands
              · go_simp
              · go_simp
              · go_simp
              · refine ⟨fun hy => ?_, fun _ => rfl⟩
                exfalso; simp [yieldR, slotR, undef, *] at hy
              · refine ⟨fun hy => ?_, fun _ => rfl⟩
                exfalso; simp [yieldR, slotR, undef, *] at hy
              · refine ⟨fun hy => ?_, fun _ => rfl⟩
                exfalso; simp [yieldR, slotR, undef, *] at hy
              · refine ⟨fun hy => ?_, fun _ => rfl⟩
                exfalso; simp [yieldR, slotR, undef, *] at hy
              · refine ⟨fun hy => ?_, fun _ => rfl⟩
                exfalso; simp [yieldR, slotR, undef, *] at hy
              · refine ⟨fun hy => ?_, fun _ => rfl⟩
                exfalso; simp [yieldR, slotR, undef, *] at hy
              · refine ⟨fun hy => ?_, fun _ => rfl⟩
                exfalso; simp [yieldR, slotR, undef, *] at hy
              · refine ⟨fun hy => ?_, fun _ => rfl⟩
                exfalso; simp [yieldR, slotR, undef, *] at hy
              · refine ⟨fun hy => ?_, fun _ => rfl⟩
                exfalso; simp [yieldR, slotR, undef, *] at hy
            · intro us x1 hp1 hw
              simp only [owed, Fx] at hw
              obtain ⟨e0, e1, e2, e3, e4, e5, e6, e7, e8, e9, e10, e11, -⟩ := hw
              simp only [List.length_cons, List.length_nil, List.take_succ_cons, List.take_zero, List.drop_succ_cons, List.drop_zero, asg, List.cons_append, List.nil_append, e0, e1, e2, e3, e4, e5, e6, e7, e8, e9, e10, e11]
              clear e0 e1 e2 e3 e4 e5 e6 e7 e8 e9 e10 e11
              have LV : Hid True := trivial
              cases hb : behO ltD l.getLast? v
              · have h9 := HB9.out
                rw [hb] at h9
                cases h9
              · have HEr : Hid (rdL rdD ltD m [] b j0 = rdL rdD ltD (m - (0 + 1)) (l ++ [v]) b j') := by
                  show _ = _; rw [HE.out, rdL_step (by omega) HR1.out hb, Nat.sub_sub]
                have bA := below_alloc x1 (.cells (dg_secA v) 50)
                have bW : Below W.heap.size W (x1.alloc (.cells (dg_secA v) 50)) := hp1.trans (bA.mono hp1.size)
                have HK4 : Hid (Keep [g] w (x1.alloc (.cells (dg_secA v) 50))) := HK3.out.appB (bW.mono HK3.out.size)
                have HR4 : Hid (RdI (x1.alloc (.cells (dg_secA v) 50)) g x n c b j') := HR3.out.later bW
                have HO4 : OwnK dgE (x1.alloc (.cells (dg_secA v) 50)) w.heap.size lv l := HO3.out.keep bW
                obtain ⟨g9, c9, w9, hra, hO9, -, hg9, -⟩ := run_app1K dgE_ok (x1.alloc (.cells (dg_secA v) 50)) w.heap.size x1.heap.size lv l v 29 HO4 (by rw [dgE_enc]; exact row_range (RowC.new x1 _ _)) (by simp) (by show (l.length + 1) * 32 ≤ 140737488355328; have := HL.out; have := HM.out; omega) (by unfold maxLen; have := HL.out; have := HM.out; omega) HK4.out.size
                obtain ⟨v9, hv9⟩ : ∃ z, Value.slice (some ⟨g9, 0, none⟩) (l.length + 1) c9 = z := ⟨_, rfl⟩
                rw [hv9] at hra hO9
                clear hv9
                have b9 : Below w.heap.size (x1.alloc (.cells (dg_secA v) 50)) w9 := grownB_below hg9 HK4.out.size (fun q hq => (World.ownsRow.lt HO4 q hq).1)
                have HK9 : Hid (Keep [g] w w9) := HK4.out.appB b9
                have HR9 : Hid (RdI w9 g x n c b j') := HR4.out.belowB b9 HG.out HX.out H0.out
                have HO9 : Hid (OwnK dgE w9 w.heap.size v9 (l ++ [v])) := hO9
                have ld := CV.out x1 hp1
                have HLT : Hid (0 < m) := hlt
                clear hO9 hg9 b9 HO4 bW bA hp1 hb
                go_wp2_with (first | (at_builtin; refine wpL_appG 29 rfl _ _ rfl _ w9 (by exact hra) ?_))
                clear ld
                go_roundw
                case rel => first | exact ⟨_, 0 + 1, l ++ [v], j', rfl, by have := HLT.out; omega, by go_num, HO9.out, by simp [HL.out], HR9.out, HK9.out, HEr.out⟩ | ((repeat apply Exists.intro); refine ⟨⟨_, 0 + 1, l ++ [v], j', rfl, by have := HLT.out; omega, ?_, HO9.out, by simp [HL.out], HR9.out, HK9.out, HEr.out⟩, rfl⟩; go_num)
                case measure => have := HLT.out; simp [intOf]; omega
          · obtain ⟨u, hu, hla⟩ := last_get l k HL.out (by omega)
            obtain ⟨x9, cl, hlv⟩ := (OwnK.isK dgE_ok HO3.out).len
            obtain ⟨gl, rfl, hgl⟩ := OwnK.form (hlv ▸ HO3.out) (by have := HL.out; omega)
            rw [HL.out] at hlv
            subst hlv
            have CL : Hid (∀ y, Below W.heap.size W y → (dg_secLoad (.pointer (some ⟨gl, (k - 1) * 32, none⟩))).run Tryz.prog y = .ok (.value (.agg (dg_secA u))) y) := fun y hy => by
              obtain ⟨b', o', he, -, k1, k2⟩ := dg_at ((OwnK.isK dgE_ok HO3.out).kept hy) (k - 1) u hu
              cases he
              rw [Nat.zero_add] at k1 k2
              have h9 := run_dg_mid y gl ((k - 1) * 32) k1
              rw [k2] at h9
              exact h9
            have HB9 : Hid ((!ltD u v) = !behO ltD l.getLast? v) := by show _ = _; rw [hla]; rfl
            have leB := dcmp_le u v
            have wk1 : IntKind.i64.wrap ((k : Int) - 1) = ((k - 1 : Nat) : Int) := by rw [IntKind.wrap_i64]; have := HM.out; omega
            have q0 : (0 : Int) < (k : Int) := by omega
            have q1 : ((k - 1 : Nat) : Int) < (k : Int) := by omega
            have q2 : (0 : Int) ≤ ((k - 1 : Nat) : Int) := by omega
            clear hu hla hgl
            refine wp_reliesT [Fx (.int .i64 (k : Int)), Fx (.bool true), Fx (.bool true), Fx (.func (.func 47) #[] #[]), Fx (.slice (some ⟨gl, 0, none⟩) k cl), Fx (.int .i64 (k : Int)), Fx (.int .i64 (((k - 1 : Nat)) : Int)), Fx (.pointer (some ⟨gl, (k - 1) * 32, none⟩)), Fx (.agg (dg_secA u)), Fx (.agg (dg_secA v)), Fx (.int .i64 (dcmp u v)), Fx (.bool (!ltD u v))] (by kernel_rfl) (by kernel_rfl) ?_ ?_ ?_
            · repeat' (first | exact all_nil | apply all_cons)
              all_goals intro v y y' hv hb
              all_goals first | exact Fx_mono _ _ _ _ hv hb
            · refine ⟨?_, ?_, ?_, ?_, ?_, ?_, ?_, ?_, ?_, ?_, ?_, ?_, trivial⟩
              all_goals
                intro ρ y9 hp ρc ρg ρf ho hd
                have o2 : ρ (.tmp 2) = .func (.func 47) #[] #[] := ho 2 rfl
                have o10 : ρ (.tmp 10) = .slice (some ⟨gl, 0, none⟩) k cl := ho 10 rfl
                have o11 : ρ (.tmp 11) = .int .i64 (k : Int) := ho 11 rfl
                have o13 : ρ (.tmp 13) = .pointer (some ⟨zv, 0, none⟩) := ho 13 rfl
                clear ho
                have z9 := CV.out y9 hp
                simp only [depsR, depR, slotR, Fx, List.getElem?_cons_succ, List.getElem?_cons_zero, Region.binds, forall_const] at hd
                simp only [guardR]
                go_split_ands
              · go_simp
              · go_simp
                try (unfold Fx; simp; omega)
              · go_simp
              · refine ⟨fun _ => ?_, fun hy => absurd (by simp [yieldR, slotR, *]) hy⟩
                go_simp
              · refine ⟨fun _ => ?_, fun hy => absurd (by simp [yieldR, slotR, *]) hy⟩
                go_simp
              · refine ⟨fun _ => ?_, fun hy => absurd (by simp [yieldR, slotR, *]) hy⟩
                go_simp
              · refine ⟨fun _ => ?_, fun hy => absurd (by simp [yieldR, slotR, *]) hy⟩
                go_simp
                try exact wk1
              · refine ⟨fun _ => ?_, fun hy => absurd (by simp [yieldR, slotR, *]) hy⟩
                go_simp
              · refine ⟨fun _ => ?_, fun hy => absurd (by simp [yieldR, slotR, *]) hy⟩
                have z1 := CL.out y9 hp
                go_simp
              · refine ⟨fun _ => ?_, fun hy => absurd (by simp [yieldR, slotR, *]) hy⟩
                go_simp
              · refine ⟨fun _ => ?_, fun hy => absurd (by simp [yieldR, slotR, *]) hy⟩
                go_simp
                exact (byBytes22 _ _ _).mono fun e w' ⟨q1, q2⟩ => ⟨_, q1, rfl, q2⟩
              · refine ⟨fun _ => ?_, fun hy => absurd (by simp [yieldR, slotR, *]) hy⟩
                go_simp
                try exact leB
            · intro us x1 hp1 hw
              simp only [owed, Fx] at hw
              obtain ⟨e0, e1, e2, e3, e4, e5, e6, e7, e8, e9, e10, e11, -⟩ := hw
              simp only [List.length_cons, List.length_nil, List.take_succ_cons, List.take_zero, List.drop_succ_cons, List.drop_zero, asg, List.cons_append, List.nil_append, e0, e1, e2, e3, e4, e5, e6, e7, e8, e9, e10, e11]
              clear e0 e1 e2 e3 e4 e5 e6 e7 e8 e9 e10 e11
              cases hb : behO ltD l.getLast? v
              · have HEr : Hid (RES = .error (j, 11)) := by show _ = _; rw [← HRES.out, HE.out]; exact rdL_bad (by omega) HR1.out hb
                rw [HB9.out, hb]
                have HK9 : Hid (Keep [g] w (x1.alloc (.cells (ftA (j : Int) 11) 72))) := (HK3.out.appB (hp1.mono HK3.out.size)).appB ((below_alloc _ _).mono (Nat.le_trans HK3.out.size hp1.size))
                have HQ : Hid (w.heap.size ≤ x1.heap.size) := Nat.le_trans HK3.out.size hp1.size
                have HN : Hid (RowC (x1.alloc (.cells (ftA (j : Int) 11) 72)) x1.heap.size (ftA (j : Int) 11)) := RowC.new _ _ _
                clear hp1 hb
                go_wp2
                go_ret2
                rw [HEr.out]
                exact ⟨HK9.out, _, rfl, HQ.out, HN.out⟩
              · have HEr : Hid (rdL rdD ltD m [] b j0 = rdL rdD ltD (m - (k + 1)) (l ++ [v]) b j') := by
                  show _ = _; rw [HE.out, rdL_step (by omega) HR1.out hb, Nat.sub_sub]
                rw [HB9.out, hb]
                have bA := below_alloc x1 (.cells (dg_secA v) 50)
                have bW : Below W.heap.size W (x1.alloc (.cells (dg_secA v) 50)) := hp1.trans (bA.mono hp1.size)
                have HK4 : Hid (Keep [g] w (x1.alloc (.cells (dg_secA v) 50))) := HK3.out.appB (bW.mono HK3.out.size)
                have HR4 : Hid (RdI (x1.alloc (.cells (dg_secA v) 50)) g x n c b j') := HR3.out.later bW
                have HO4 : OwnK dgE (x1.alloc (.cells (dg_secA v) 50)) w.heap.size (.slice (some ⟨gl, 0, none⟩) k cl) l := HO3.out.keep bW
                obtain ⟨g9, c9, w9, hra, hO9, -, hg9, -⟩ := run_app1K dgE_ok (x1.alloc (.cells (dg_secA v) 50)) w.heap.size x1.heap.size (.slice (some ⟨gl, 0, none⟩) k cl) l v 29 HO4 (by rw [dgE_enc]; exact row_range (RowC.new x1 _ _)) (by simp) (by show (l.length + 1) * 32 ≤ 140737488355328; have := HL.out; have := HM.out; omega) (by unfold maxLen; have := HL.out; have := HM.out; omega) HK4.out.size
                obtain ⟨v9, hv9⟩ : ∃ z, Value.slice (some ⟨g9, 0, none⟩) (l.length + 1) c9 = z := ⟨_, rfl⟩
                rw [hv9] at hra hO9
                clear hv9
                have b9 : Below w.heap.size (x1.alloc (.cells (dg_secA v) 50)) w9 := grownB_below hg9 HK4.out.size (fun q hq => (World.ownsRow.lt HO4 q hq).1)
                have HK9 : Hid (Keep [g] w w9) := HK4.out.appB b9
                have HR9 : Hid (RdI w9 g x n c b j') := HR4.out.belowB b9 HG.out HX.out H0.out
                have HO9 : Hid (OwnK dgE w9 w.heap.size v9 (l ++ [v])) := hO9
                have ld := CV.out x1 hp1
                have HLT : Hid (k < m) := hlt
                clear hO9 hg9 b9 HO4 bW bA hp1 hb
                go_wp2_with (first | (at_builtin; refine wpL_appG 29 rfl _ _ rfl _ w9 (by exact hra) ?_))
                clear ld
                go_roundw
                case rel => first | exact ⟨_, k + 1, l ++ [v], j', rfl, by have := HLT.out; omega, by go_num, HO9.out, by simp [HL.out], HR9.out, HK9.out, HEr.out⟩ | ((repeat apply Exists.intro); refine ⟨⟨_, k + 1, l ++ [v], j', rfl, by have := HLT.out; omega, ?_, HO9.out, by simp [HL.out], HR9.out, HK9.out, HEr.out⟩, rfl⟩; go_num)
                case measure => have := HLT.out; simp [intOf]; omega
      · obtain rfl : k = m := by omega
        have HEr : Hid (RES = .ok (l, j)) := by show _ = _; rw [← HRES.out, hE, Nat.sub_self]; rfl
        have i0 : ¬ (k : Int) < (k : Int) := by omega
        clear hE hlk
        go_wp2
        go_ret2
        rw [HEr.out]
        exact ⟨hK, _, rfl, hO, hR⟩
set_option linter.unusedSimpArgs false in
set_option maxRecDepth 100000 in
set_option maxHeartbeats 4000000 in
theorem list_in22 (w : World) (g : Nat) (x : Option Addr) (n c : Nat) (b : List UInt8) (i : Nat) (h : RdI w g x n c b i) :
    Calls Tryz.prog 48 #[.pointer (some ⟨g, 0, none⟩), .func (.func 49) #[.pointer (some ⟨g, 0, none⟩)] #[], .func (.func 50) #[] #[]] w fun e w' => LsQ (OwnI) w g x n c b (rdC rdS ltI b i) e w' := by
  have hn := number22 w g x n c b i 2 (.inr rfl) _ _ _ anyNum22 okAny_of enN22 h
  have en1 : ∀ args w, (callFunc 49 args).run Tryz.prog w = .ok (.enter 49 args) w := enters_of Tryz.func49 (by kernel_rfl) rfl
  have en2 : ∀ args w, (callFunc 50 args).run Tryz.prog w = .ok (.enter 50 args) w := enters_of Tryz.func50 (by kernel_rfl) rfl
  have hgl := h.row.lt
  have hxl := h.old
  cases hr : rdN 2 okAny b i with
  | error p =>
    have hs : rdC rdS ltI b i = .error p := by unfold rdC; rw [hr]
    rw [hs]
    rw [hr] at hn
    clear hr hs h hxl
    go_enter Tryz.func48, Tryz.ntmps48
    go_wp2_with fail
    refine hn.mono ?_
    rintro e w1 ⟨hK, q, rfl, hq, hR⟩
    clear hn
    go_wp2
    go_ret2
    exact ⟨hK, q, rfl, hq, hR⟩
  | ok p =>
    obtain ⟨m, j0⟩ := p
    have hs : rdC rdS ltI b i = rdL rdS ltI m [] b j0 := by unfold rdC; rw [hr]
    have hm : m < 65536 := by
      obtain ⟨-, p2, -, -⟩ := rdN_ok hr
      rw [← p2]; exact numN_lt _ _ 2
    have h0 : 0 < n := by have := (rdN_ok hr).1; have := h.len; omega
    rw [hs]
    rw [hr] at hn
    obtain ⟨RES, hres⟩ : ∃ r, rdL rdS ltI m [] b j0 = r := ⟨_, rfl⟩
    rw [hres]
    have HRES : Hid (rdL rdS ltI m [] b j0 = RES) := hres
    have HG : Hid (g < w.heap.size) := hgl
    have HX : Hid (0 < n → ∀ a, x = some a → a.block < w.heap.size) := hxl
    have H0 : Hid (0 < n) := h0
    have HM : Hid (m < 65536) := hm
    clear hr hs h hxl hres hgl h0 hm
    go_enter Tryz.func48, Tryz.ntmps48
    go_wp2_with fail
    refine hn.mono ?_
    rintro e w1 ⟨hK, rfl, hR⟩
    clear hn
    go_wp2_with fail
    go_loopw [10, 24] (fun lv kv wr => ∃ (lv0 : Value) (k : Nat) (l : List Int) (j : Nat), lv0 = lv ∧ k ≤ m ∧ kv = .int .i64 k ∧ OwnI wr w.heap.size lv l ∧ l.length = k ∧ RdI wr g x n c b j ∧ Keep [g] w wr ∧ rdL rdS ltI m [] b j0 = rdL rdS ltI (m - k) l b j) (fun _ kv _ => m - (intOf kv).toNat)
    case atStart => exact ⟨_, 0, [], j0, rfl, by omega, rfl, OwnG.nil _ _ _, rfl, hR, hK, rfl⟩
    case round =>
      clear hR hK
      obtain ⟨lv, k, l, j, rfl, hk, rfl, hO, hlk, hR, hK, hE⟩ := hrel
      by_cases hlt : k < m
      · have i0 : (k : Int) < (m : Int) := by omega
        have wk2 : IntKind.i64.wrap ((k : Int) + 1) = (k : Int) + 1 := by rw [IntKind.wrap_i64]; have := HM.out; omega
        have c1 : wr.cell? ⟨g, 1, none⟩ = some (.int .i64 (j : Int)) := by rw [hR.row.cell]; rfl
        have h1 := slot22 wr g x n c b j hR
        cases hr1 : rdS b j with
        | error p =>
          rw [hr1] at h1
          have HE : Hid (RES = .error p) := by show _ = _; rw [← HRES.out, hE]; exact rdL_err (by omega) hr1
          have HK : Hid (Keep [g] w wr) := hK
          clear hr1 hE hR hO hK hlk
          go_wp2_with fail
          refine h1.mono ?_
          rintro e w2 ⟨hK2, q, rfl, hq, hRq⟩
          clear h1
          have HQ : Hid (w.heap.size ≤ q) := Nat.le_trans HK.out.size hq
          have HK2 : Hid (Keep [g] w w2) := HK.out.trans hK2
          go_wp2
          go_ret2
          rw [HE.out]
          exact ⟨HK2.out, q, rfl, HQ.out, hRq⟩
        | ok p =>
          obtain ⟨v, j'⟩ := p
          rw [hr1] at h1
          have HR1 : Hid (rdS b j = .ok (v, j')) := hr1
          have HE : Hid _ := hE
          have HL : Hid (l.length = k) := hlk
          have HK : Hid (Keep [g] w wr) := hK
          have HO : Hid (OwnI wr w.heap.size lv l) := hO
          clear hr1 hE hR hK hlk hO
          go_wp2_with fail
          refine h1.mono ?_
          rintro e w2 ⟨hK2, rfl, hR2⟩
          clear h1
          have HK2 : Hid (Keep [g] w w2) := HK.out.trans hK2
          have HO2 : Hid (OwnI w2 w.heap.size lv l) := OwnG.keepsF HO.out hK2 (fun q hq => by have := (OwnG.lt HO.out q hq).1; have := HG.out; simp; omega)
          clear HO HK hK2
          have bS := Below.refl w2.heap.size w2
          go_upto_region 12 with fail
          generalize w2 = W at bS HK2 HO2 hR2 ⊢
          have HZ : Hid (w2.heap.size = w2.heap.size) := rfl
          have HK3 : Hid (Keep [g] w W) := HK2
          have HR3 : Hid (RdI W g x n c b j') := hR2
          have HO3 : Hid (OwnI W w.heap.size lv l) := HO2
          clear bS
          clear hR2 HK2 HO2 HZ c1
          by_cases hk0 : k = 0
          · subst hk0
            have HB9 : Hid (false = !behO ltI l.getLast? v) := by
              show _ = _
              have : l = [] := List.length_eq_zero_iff.1 HL.out
              rw [this]; rfl
            refine wp_plainsT [Fx (.int .i64 (0 : Int)), Fx (.bool false), Fx (.bool false), Fx (undef), Fx (undef), Fx (undef), Fx (undef), Fx (undef), Fx (undef), Fx (undef), Fx (undef), Fx (undef)] (by kernel_rfl) (by kernel_rfl) ?_ ?_ ?_
            · repeat' (first | exact all_nil | apply all_cons)
              all_goals intro v y y' hv hb
              all_goals first | exact Fx_mono _ _ _ _ hv hb
            · refine ⟨?_, ?_, ?_, ?_, ?_, ?_, ?_, ?_, ?_, ?_, ?_, ?_, trivial⟩
              all_goals
                intro ρ y9 hp ρc ρg ρf ho hd
                have o11 : ρ (.tmp 11) = .int .i64 (0 : Int) := ho 11 rfl
                clear ho
                simp only [depsR, depR, slotR, Fx, List.getElem?_cons_succ, List.getElem?_cons_zero, Region.binds, forall_const] at hd
                simp only [guardR]
                go_split_ands
              · go_simp
              · go_simp
              · go_simp
              · refine ⟨fun hy => ?_, fun _ => rfl⟩
                exfalso; simp [yieldR, slotR, undef, *] at hy
              · refine ⟨fun hy => ?_, fun _ => rfl⟩
                exfalso; simp [yieldR, slotR, undef, *] at hy
              · refine ⟨fun hy => ?_, fun _ => rfl⟩
                exfalso; simp [yieldR, slotR, undef, *] at hy
              · refine ⟨fun hy => ?_, fun _ => rfl⟩
                exfalso; simp [yieldR, slotR, undef, *] at hy
              · refine ⟨fun hy => ?_, fun _ => rfl⟩
                exfalso; simp [yieldR, slotR, undef, *] at hy
              · refine ⟨fun hy => ?_, fun _ => rfl⟩
                exfalso; simp [yieldR, slotR, undef, *] at hy
              · refine ⟨fun hy => ?_, fun _ => rfl⟩
                exfalso; simp [yieldR, slotR, undef, *] at hy
              · refine ⟨fun hy => ?_, fun _ => rfl⟩
                exfalso; simp [yieldR, slotR, undef, *] at hy
              · refine ⟨fun hy => ?_, fun _ => rfl⟩
                exfalso; simp [yieldR, slotR, undef, *] at hy
            · intro us x1 hp1 hw
              simp only [owed, Fx] at hw
              obtain ⟨e0, e1, e2, e3, e4, e5, e6, e7, e8, e9, e10, e11, -⟩ := hw
              simp only [List.length_cons, List.length_nil, List.take_succ_cons, List.take_zero, List.drop_succ_cons, List.drop_zero, asg, List.cons_append, List.nil_append, e0, e1, e2, e3, e4, e5, e6, e7, e8, e9, e10, e11]
              clear e0 e1 e2 e3 e4 e5 e6 e7 e8 e9 e10 e11
              have LV : Hid True := trivial
              cases hb : behO ltI l.getLast? v
              · have h9 := HB9.out
                rw [hb] at h9
                cases h9
              · have HEr : Hid (rdL rdS ltI m [] b j0 = rdL rdS ltI (m - (0 + 1)) (l ++ [v]) b j') := by
                  show _ = _; rw [HE.out, rdL_step (by omega) HR1.out hb, Nat.sub_sub]
                have bA := below_alloc x1 (.cells (#[.int .i64 v]) 3)
                have bW : Below W.heap.size W (x1.alloc (.cells (#[.int .i64 v]) 3)) := hp1.trans (bA.mono hp1.size)
                have HK4 : Hid (Keep [g] w (x1.alloc (.cells (#[.int .i64 v]) 3))) := HK3.out.appB (bW.mono HK3.out.size)
                have HR4 : Hid (RdI (x1.alloc (.cells (#[.int .i64 v]) 3)) g x n c b j') := HR3.out.later bW
                have HO4 : OwnI (x1.alloc (.cells (#[.int .i64 v]) 3)) w.heap.size lv l := HO3.out.keep bW
                obtain ⟨v9, w9, hra, hO9, hg9, -⟩ := run_app1G intsElt (x1.alloc (.cells (#[.int .i64 v]) 3)) w.heap.size x1.heap.size 1 lv (inV l) (.int .i64 v) 30 HO4 (by simp) rfl (by rw [inV_len]; have := HL.out; have := HM.out; omega) (by unfold maxLen; rw [inV_len]; have := HL.out; have := HM.out; omega) HK4.out.size
                have hO9 : OwnI w9 w.heap.size v9 (l ++ [v]) := by unfold OwnI; rw [inV_app]; exact hO9
                have b9 : Below w.heap.size (x1.alloc (.cells (#[.int .i64 v]) 3)) w9 := grownB_below hg9 HK4.out.size (fun q hq => (OwnG.lt HO4 q hq).1)
                have HK9 : Hid (Keep [g] w w9) := HK4.out.appB b9
                have HR9 : Hid (RdI w9 g x n c b j') := HR4.out.belowB b9 HG.out HX.out H0.out
                have HO9 : Hid (OwnI w9 w.heap.size v9 (l ++ [v])) := hO9
                have HLT : Hid (0 < m) := hlt
                clear hO9 hg9 b9 HO4 bW bA hp1 hb
                go_wp2_with (first | (at_builtin; refine wpL_appG 30 rfl _ _ rfl _ w9 (by exact hra) ?_))
                go_roundw
                case rel => first | exact ⟨_, 0 + 1, l ++ [v], j', rfl, by have := HLT.out; omega, by go_num, HO9.out, by simp [HL.out], HR9.out, HK9.out, HEr.out⟩ | ((repeat apply Exists.intro); refine ⟨⟨_, 0 + 1, l ++ [v], j', rfl, by have := HLT.out; omega, ?_, HO9.out, by simp [HL.out], HR9.out, HK9.out, HEr.out⟩, rfl⟩; go_num)
                case measure => have := HLT.out; simp [intOf]; omega
          · obtain ⟨u, hu, hla⟩ := last_get l k HL.out (by omega)
            obtain ⟨gl, cl, hlv, -, hgl, -, -⟩ := OwnG.form HO3.out (by intro e; have := congrArg List.length e; rw [inV_len] at this; simp at this; have := HL.out; subst this; simp_all)
            rw [inV_len, HL.out] at hlv
            subst hlv
            have CL : Hid (∀ y, Below W.heap.size W y → y.cell? ⟨gl, k - 1, none⟩ = some (.int .i64 u)) := fun y hy => cell_later hy (OwnG.cell HO3.out (k - 1) _ (inV_get l _ u hu))
            have HB9 : Hid ((!ltI u v) = !behO ltI l.getLast? v) := by show _ = _; rw [hla]; rfl
            have leB := cmpI_le u v
            have wk1 : IntKind.i64.wrap ((k : Int) - 1) = ((k - 1 : Nat) : Int) := by rw [IntKind.wrap_i64]; have := HM.out; omega
            have q0 : (0 : Int) < (k : Int) := by omega
            have q1 : ((k - 1 : Nat) : Int) < (k : Int) := by omega
            have q2 : (0 : Int) ≤ ((k - 1 : Nat) : Int) := by omega
            clear hu hla hgl
            refine wp_plainsT [Fx (.int .i64 (k : Int)), Fx (.bool true), Fx (.bool true), Fx (.func (.func 50) #[] #[]), Fx (.slice (some ⟨gl, 0, none⟩) k cl), Fx (.int .i64 (k : Int)), Fx (.int .i64 (((k - 1 : Nat)) : Int)), Fx (.pointer (some ⟨gl, k - 1, none⟩)), Fx (.int .i64 u), Fx (.int .i64 v), Fx (.int .i64 (cmpI u v)), Fx (.bool (!ltI u v))] (by kernel_rfl) (by kernel_rfl) ?_ ?_ ?_
            · repeat' (first | exact all_nil | apply all_cons)
              all_goals intro v y y' hv hb
              all_goals first | exact Fx_mono _ _ _ _ hv hb
            · refine ⟨?_, ?_, ?_, ?_, ?_, ?_, ?_, ?_, ?_, ?_, ?_, ?_, trivial⟩
              all_goals
                intro ρ y9 hp ρc ρg ρf ho hd
                have o2 : ρ (.tmp 2) = .func (.func 50) #[] #[] := ho 2 rfl
                have o10 : ρ (.tmp 10) = .slice (some ⟨gl, 0, none⟩) k cl := ho 10 rfl
                have o11 : ρ (.tmp 11) = .int .i64 (k : Int) := ho 11 rfl
                have o13 : ρ (.tmp 13) = .int .i64 v := ho 13 rfl
                clear ho
                simp only [depsR, depR, slotR, Fx, List.getElem?_cons_succ, List.getElem?_cons_zero, Region.binds, forall_const] at hd
                simp only [guardR]
                go_split_ands
              · go_simp
              · go_simp
                try (unfold Fx; simp; omega)
              · go_simp
              · refine ⟨fun _ => ?_, fun hy => absurd (by simp [yieldR, slotR, *]) hy⟩
                go_simp
              · refine ⟨fun _ => ?_, fun hy => absurd (by simp [yieldR, slotR, *]) hy⟩
                go_simp
              · refine ⟨fun _ => ?_, fun hy => absurd (by simp [yieldR, slotR, *]) hy⟩
                go_simp
              · refine ⟨fun _ => ?_, fun hy => absurd (by simp [yieldR, slotR, *]) hy⟩
                go_simp
                try exact wk1
              · refine ⟨fun _ => ?_, fun hy => absurd (by simp [yieldR, slotR, *]) hy⟩
                go_simp
              · refine ⟨fun _ => ?_, fun hy => absurd (by simp [yieldR, slotR, *]) hy⟩
                have z1 := CL.out y9 hp
                go_simp
              · refine ⟨fun _ => ?_, fun hy => absurd (by simp [yieldR, slotR, *]) hy⟩
                go_simp
              · refine ⟨fun _ => ?_, fun hy => absurd (by simp [yieldR, slotR, *]) hy⟩
                go_simp
                exact (bySlot22 _ _ _).mono fun e w' ⟨q1, q2⟩ => ⟨_, q1, rfl, q2⟩
              · refine ⟨fun _ => ?_, fun hy => absurd (by simp [yieldR, slotR, *]) hy⟩
                go_simp
                try exact leB
            · intro us x1 hp1 hw
              simp only [owed, Fx] at hw
              obtain ⟨e0, e1, e2, e3, e4, e5, e6, e7, e8, e9, e10, e11, -⟩ := hw
              simp only [List.length_cons, List.length_nil, List.take_succ_cons, List.take_zero, List.drop_succ_cons, List.drop_zero, asg, List.cons_append, List.nil_append, e0, e1, e2, e3, e4, e5, e6, e7, e8, e9, e10, e11]
              clear e0 e1 e2 e3 e4 e5 e6 e7 e8 e9 e10 e11
              cases hb : behO ltI l.getLast? v
              · have HEr : Hid (RES = .error (j, 11)) := by show _ = _; rw [← HRES.out, HE.out]; exact rdL_bad (by omega) HR1.out hb
                rw [HB9.out, hb]
                have HK9 : Hid (Keep [g] w (x1.alloc (.cells (ftA (j : Int) 11) 72))) := (HK3.out.appB (hp1.mono HK3.out.size)).appB ((below_alloc _ _).mono (Nat.le_trans HK3.out.size hp1.size))
                have HQ : Hid (w.heap.size ≤ x1.heap.size) := Nat.le_trans HK3.out.size hp1.size
                have HN : Hid (RowC (x1.alloc (.cells (ftA (j : Int) 11) 72)) x1.heap.size (ftA (j : Int) 11)) := RowC.new _ _ _
                clear hp1 hb
                go_wp2
                go_ret2
                rw [HEr.out]
                exact ⟨HK9.out, _, rfl, HQ.out, HN.out⟩
              · have HEr : Hid (rdL rdS ltI m [] b j0 = rdL rdS ltI (m - (k + 1)) (l ++ [v]) b j') := by
                  show _ = _; rw [HE.out, rdL_step (by omega) HR1.out hb, Nat.sub_sub]
                rw [HB9.out, hb]
                have bA := below_alloc x1 (.cells (#[.int .i64 v]) 3)
                have bW : Below W.heap.size W (x1.alloc (.cells (#[.int .i64 v]) 3)) := hp1.trans (bA.mono hp1.size)
                have HK4 : Hid (Keep [g] w (x1.alloc (.cells (#[.int .i64 v]) 3))) := HK3.out.appB (bW.mono HK3.out.size)
                have HR4 : Hid (RdI (x1.alloc (.cells (#[.int .i64 v]) 3)) g x n c b j') := HR3.out.later bW
                have HO4 : OwnI (x1.alloc (.cells (#[.int .i64 v]) 3)) w.heap.size (.slice (some ⟨gl, 0, none⟩) k cl) l := HO3.out.keep bW
                obtain ⟨v9, w9, hra, hO9, hg9, -⟩ := run_app1G intsElt (x1.alloc (.cells (#[.int .i64 v]) 3)) w.heap.size x1.heap.size 1 (.slice (some ⟨gl, 0, none⟩) k cl) (inV l) (.int .i64 v) 30 HO4 (by simp) rfl (by rw [inV_len]; have := HL.out; have := HM.out; omega) (by unfold maxLen; rw [inV_len]; have := HL.out; have := HM.out; omega) HK4.out.size
                have hO9 : OwnI w9 w.heap.size v9 (l ++ [v]) := by unfold OwnI; rw [inV_app]; exact hO9
                have b9 : Below w.heap.size (x1.alloc (.cells (#[.int .i64 v]) 3)) w9 := grownB_below hg9 HK4.out.size (fun q hq => (OwnG.lt HO4 q hq).1)
                have HK9 : Hid (Keep [g] w w9) := HK4.out.appB b9
                have HR9 : Hid (RdI w9 g x n c b j') := HR4.out.belowB b9 HG.out HX.out H0.out
                have HO9 : Hid (OwnI w9 w.heap.size v9 (l ++ [v])) := hO9
                have HLT : Hid (k < m) := hlt
                clear hO9 hg9 b9 HO4 bW bA hp1 hb
                go_wp2_with (first | (at_builtin; refine wpL_appG 30 rfl _ _ rfl _ w9 (by exact hra) ?_))
                go_roundw
                case rel => first | exact ⟨_, k + 1, l ++ [v], j', rfl, by have := HLT.out; omega, by go_num, HO9.out, by simp [HL.out], HR9.out, HK9.out, HEr.out⟩ | ((repeat apply Exists.intro); refine ⟨⟨_, k + 1, l ++ [v], j', rfl, by have := HLT.out; omega, ?_, HO9.out, by simp [HL.out], HR9.out, HK9.out, HEr.out⟩, rfl⟩; go_num)
                case measure => have := HLT.out; simp [intOf]; omega
      · obtain rfl : k = m := by omega
        have HEr : Hid (RES = .ok (l, j)) := by show _ = _; rw [← HRES.out, hE, Nat.sub_self]; rfl
        have i0 : ¬ (k : Int) < (k : Int) := by omega
        clear hE hlk
        go_wp2
        go_ret2
        rw [HEr.out]
        exact ⟨hK, _, rfl, hO, hR⟩
end Go.Proofs.YtklbdhpnbjhgkaaGreatDoor
namespace Go.Proofs.YtklbdhpnbjhgkaaGreatDoor
open Go.RowKit Go.Sort

/-! The reader: the first four bytes; the end -/
def rdH9 (b : List UInt8) : Except (Nat × Nat) (Int × Nat) := match rdH b with
  | .error p => .error p
  | .ok s => .ok (s, 4)
theorem IsB.front9 {w : World} {x : Option Addr} {n c : Nat} {l : List UInt8} (h : IsB w (.slice x n c) l) (m : Nat) (hm : m ≤ l.length) : IsB w (.slice x m c) (l.take m) := by
  rcases h with ⟨h1, h2⟩ | ⟨a, d, he, hc⟩
  · simp only [Value.slice.injEq] at h1
    obtain ⟨rfl, rfl, rfl⟩ := h1
    subst h2
    simp at hm
    subst hm
    exact .inl ⟨rfl, rfl⟩
  · simp only [Value.slice.injEq] at he
    obtain ⟨rfl, rfl, rfl⟩ := he
    refine .inr ⟨a, _, by rw [List.length_take, Nat.min_eq_left hm], fun i hi => ?_⟩
    have hi' : i < m := by rw [List.length_take] at hi; omega
    rw [hc i (by omega)]
    simp
set_option linter.unusedSimpArgs false in
set_option maxRecDepth 100000 in
set_option maxHeartbeats 1600000 in
theorem status22 (w : World) (g : Nat) (x : Option Addr) (n c : Nat) (b : List UInt8) (h : RdI w g x n c b 0) :
    Calls Tryz.prog 42 #[.pointer (some ⟨g, 0, none⟩)] w fun e w' => RdQ (fun v : Int => .int .i64 v) (.int .i64 0) w g x n c b (rdH9 b) e w' := by
  have ht := take22 w g x n c b 0 4 (by omega) h
  have hL := h.len
  by_cases hlt : n < 0 + 4
  · have hr : rdH9 b = .error (0, 10) := by unfold rdH9 rdH; rw [if_pos (by omega)]
    rw [hr]
    clear hr h
    go_enter Tryz.func42, Tryz.ntmps42
    go_wp2_with fail
    refine ht.mono ?_
    rintro e w1 ⟨-, h2⟩
    obtain ⟨q, rfl, hq, hR, hK⟩ := h2 hlt
    clear hlt ht hL
    go_wp2
    go_ret2
    exact ⟨hK, q, rfl, hq, hR⟩
  · have hr : rdH9 b = if b.take 3 = headB then (bif okSt ((lB b 3).toNat : Int) then .ok (((lB b 3).toNat : Int), 4) else .error (3, 1)) else .error (0, 11) := by
      unfold rdH9 rdH
      rw [if_neg (by omega)]
      by_cases h3 : b.take 3 = headB
      · rw [if_pos h3, if_pos h3]
        cases okSt ((lB b 3).toNat : Int) <;> rfl
      · rw [if_neg h3, if_neg h3]
    have e3 : ((b.drop 0).take 4).take 3 = b.take 3 := by simp [List.take_take]
    have l4 : ((b.drop 0).take 4).length = 4 := by simp; omega
    have e4 : lB ((b.drop 0).take 4) 3 = lB b 3 := by unfold lB; simp
    obtain ⟨RES, hres⟩ : ∃ r, rdH9 b = r := ⟨_, rfl⟩
    rw [hres]
    have HRES : Hid _ := hr.symm.trans hres
    clear hr hres h hL
    go_enter Tryz.func42, Tryz.ntmps42
    go_wp2_with fail
    refine ht.mono ?_
    rintro e w1 ⟨h2, -⟩
    obtain ⟨y, d, hd, rfl, hyb, hR, hK⟩ := h2 (by omega)
    have hf := hyb.front9 3 (by omega)
    rw [e3] at hf
    have hs := hf.str
    have hyb9 : IsB w1 (.slice y ((b.drop 0).take 4).length d) ((b.drop 0).take 4) := by rw [l4]; exact hyb
    obtain ⟨gb, o, rfl, hgb, c3⟩ := hyb9.spot 3 (by rw [l4]; omega)
    clear hyb9
    have e5 : (((b.drop 0).take 4)[3]?.getD 0) = lB b 3 := e4
    rw [e5] at c3
    have hst := isStatus22 ((lB b 3).toNat : Int)
    obtain ⟨z, hz⟩ : ∃ z, (lB b 3).toNat = z := ⟨_, rfl⟩
    have hz9 : z < 256 := by rw [← hz]; exact (lB b 3).toNat_lt
    rw [hz] at c3 hst
    have HZ : Hid ((lB b 3).toNat = z) := hz
    obtain ⟨t3, ht3⟩ : ∃ t, b.take 3 = t := ⟨_, rfl⟩
    rw [ht3] at hs
    have HT : Hid (b.take 3 = t3) := ht3
    clear hz ht3 e3 l4 e4 e5 hyb hf ht h2 hlt
    by_cases h3 : t3 = headB
    · have HR3 : Hid ((bif okSt (z : Int) then .ok ((z : Int), 4) else .error (3, 1)) = RES) := by
        have := HRES.out
        rw [HT.out, if_pos h3, HZ.out] at this
        exact this
      rw [h3] at hs
      clear HRES HT HZ h3
      have hzw : (z : Int) % 256 = z := by omega
      cases hok : okSt (z : Int)
      · rw [hok] at hst
        have bb := below_alloc w1 (.cells (ftA 3 1) 72)
        have K4 : Hid (Keep [g] w (w1.alloc (.cells (ftA 3 1) 72))) := hK.trans (Keep.of_below bb)
        have hq : Hid (w.heap.size ≤ w1.heap.size) := hK.size
        have hN : Hid (RowC (w1.alloc (.cells (ftA 3 1) 72)) w1.heap.size (ftA 3 1)) := RowC.new _ _ _
        clear bb hK hR
        unfold headB at hs
        go_wp2_with fail
        refine (hst w1).mono ?_
        rintro e w2 ⟨rfl, rfl⟩
        go_wp2
        go_ret2
        rw [← HR3.out, hok]
        exact ⟨K4.out, _, rfl, hq.out, hN.out⟩
      · rw [hok] at hst
        unfold headB at hs
        go_wp2_with fail
        refine (hst w1).mono ?_
        rintro e w2 ⟨rfl, rfl⟩
        go_wp2
        go_ret2
        rw [← HR3.out, hok]
        exact ⟨hK, rfl, hR⟩
    · have HR3 : Hid (.error (0, 11) = RES) := by
        have := HRES.out
        rw [HT.out, if_neg h3] at this
        exact this
      have bb := below_alloc w1 (.cells (ftA 0 11) 72)
      have K4 : Hid (Keep [g] w (w1.alloc (.cells (ftA 0 11) 72))) := hK.trans (Keep.of_below bb)
      have hq : Hid (w.heap.size ≤ w1.heap.size) := hK.size
      have hN : Hid (RowC (w1.alloc (.cells (ftA 0 11) 72)) w1.heap.size (ftA 0 11)) := RowC.new _ _ _
      have h3' : (t3 == [65, 82, 1]) = false := beq_eq_false_iff_ne.2 h3
      clear bb hK hR HRES HT HZ h3 hst
      go_wp2
      go_ret2
      rw [← HR3.out]
      exact ⟨K4.out, _, rfl, hq.out, hN.out⟩
theorem take4_at (b : List UInt8) (i s : Nat) (hi : i + 4 ≤ b.length) (hs : s < 4294967296) : ((b.drop i).take 4 = le4 s) ↔ numN (lB b) i 4 = s := by
  have h0 : (b.drop i).take 4 = le4 s ↔ At b i (le4 s) := by
    constructor
    · intro h
      refine ⟨by rw [le4_len]; exact hi, fun k hk => ?_⟩
      rw [le4_len] at hk
      rw [← h]; unfold lB; rw [List.getElem?_take_of_lt hk, List.getElem?_drop]
    · intro h
      refine eq_of_lB (by rw [le4_len]; simp; omega) fun k hk => ?_
      have hk4 : k < 4 := by simp at hk; omega
      rw [← h.2 k (by rw [le4_len]; exact hk4)]
      unfold lB; rw [List.getElem?_take_of_lt hk4, List.getElem?_drop]
  rw [h0, le4_at hs]
  exact ⟨fun h => h.2, fun h => ⟨hi, h⟩⟩
/-- What the end leaves. -/
def EnQ (w : World) (g : Nat) (r : Option (Nat × Nat)) (e : Ending) (w' : World) : Prop := Keep [g] w w' ∧ match r with
  | none => e = .returned (.pointer none)
  | some p => ∃ q, e = .returned (.pointer (some ⟨q, 0, none⟩)) ∧ w.heap.size ≤ q ∧ RowC w' q (ftA p.1 p.2)
set_option linter.unusedSimpArgs false in
set_option maxRecDepth 100000 in
set_option maxHeartbeats 1600000 in
theorem end22 (w : World) (g : Nat) (x : Option Addr) (n c : Nat) (b : List UInt8) (i : Nat) (h : RdI w g x n c b i) :
    Calls Tryz.prog 51 #[.pointer (some ⟨g, 0, none⟩)] w fun e w' => EnQ w g (rdE b i) e w' := by
  have ht := take22 w g x n c b i 4 (by omega) h
  have hL := h.len
  have c1 : w.cell? ⟨g, 1, none⟩ = some (.int .i64 (i : Int)) := by rw [h.row.cell]; rfl
  by_cases hlt : n < i + 4
  · have hr : rdE b i = some (i, 10) := by unfold rdE; rw [if_pos (by omega)]
    rw [hr]
    clear hr h
    go_enter Tryz.func51, Tryz.ntmps51
    go_wp2_with fail
    refine ht.mono ?_
    rintro e w1 ⟨-, h2⟩
    obtain ⟨q, rfl, hq, hR, hK⟩ := h2 hlt
    clear hlt ht hL c1
    go_wp2
    go_ret
    exact ⟨hK, q, rfl, hq, hR⟩
  · have hs9 := sum_lt (b.take i)
    have h4 := take4_at b i (sumL (b.take i)).toNat (by omega) hs9
    have hr : rdE b i = if numN (lB b) i 4 = (sumL (b.take i)).toNat then (if i + 4 < b.length then some (i + 4, 14) else none) else some (i, 12) := by unfold rdE; rw [if_neg (by omega)]
    rw [hr]
    clear hr h
    go_enter Tryz.func51, Tryz.ntmps51
    go_wp2_with fail
    refine ht.mono ?_
    rintro e w1 ⟨h2, -⟩
    obtain ⟨y, d, hd, rfl, hyb, hR, hK⟩ := h2 (by omega)
    have hf := hR.isb.front9 i (by omega)
    have d0 : w1.cell? ⟨g, 0, none⟩ = some (.slice x n c) := by rw [hR.row.cell]; rfl
    have d1 : w1.cell? ⟨g, 1, none⟩ = some (.int .i64 ((i + 4 : Nat) : Int)) := by rw [hR.row.cell]; rfl
    have hcap := hR.cap
    have hsm := hR.small
    have hu := sumOf22 x i c (b.take i) w1 hf (by unfold maxLen; simp; omega)
    have hic : (i : Int) ≤ (c : Int) := by omega
    have hi0 : (0 : Int) ≤ (i : Int) := by omega
    clear ht c1 h2
    go_wp2_with fail
    refine hu.mono ?_
    rintro e w2 ⟨gs, rfl, hgs, hrow, b2⟩
    have hq := bytesEqual22 (.slice y 4 d) (.slice (some ⟨gs, 0, none⟩) 4 4) _ _ w2 (hyb.kept b2) (hrow.isB 4)
    have d0' := cell_later b2 d0
    have d1' := cell_later b2 d1
    have hK2 : Hid (Keep [g] w w2) := hK.trans (Keep.of_below b2)
    clear hu hf hyb hrow hgs d0 d1 b2 hd hR hK
    by_cases hn : numN (lB b) i 4 = (sumL (b.take i)).toNat
    · have he : decide ((b.drop i).take 4 = le4 (sumL (b.take i)).toNat) = true := decide_eq_true (h4.2 hn)
      rw [he] at hq
      clear he h4 hs9
      go_wp2_with fail
      refine hq.mono ?_
      rintro e w3 ⟨rfl, rfl⟩
      clear hq
      by_cases hlt2 : i + 4 < n
      · have HR3 : Hid (i + 4 < b.length) := by show _ < _; omega
        have q1 : ((i + 4 : Nat) : Int) < (n : Int) := by omega
        clear hL hcap hsm hic hi0 hlt hlt2
        go_upto_region 7 with fail
        go_quiet (fail)
        have b3 := below_dN w3 nq
        replace d1' := cell_later b3 d1'
        have hK3 : Keep [g] w (w3.drewN nq) := hK2.out.trans (Keep.of_below b3)
        generalize w3.drewN nq = W at b3 d1' hK3 ⊢
        have bb := below_alloc W (.cells (ftA ((i + 4 : Nat) : Int) 14) 72)
        have K4 : Hid (Keep [g] w (W.alloc (.cells (ftA ((i + 4 : Nat) : Int) 14) 72))) := hK3.trans (Keep.of_below bb)
        have hq : Hid (w.heap.size ≤ W.heap.size) := hK3.size
        have hN : Hid (RowC (W.alloc (.cells (ftA ((i + 4 : Nat) : Int) 14) 72)) W.heap.size (ftA ((i + 4 : Nat) : Int) 14)) := RowC.new _ _ _
        have HN : Hid _ := hn
        clear bb hK3 b3 hn
        go_wp2
        go_ret
        try rw [if_pos HN.out, if_pos HR3.out]
        exact ⟨K4.out, _, rfl, hq.out, hN.out⟩
      · have HR3 : Hid (¬ i + 4 < b.length) := by show ¬ _ < _; omega
        have q1 : ¬ ((i + 4 : Nat) : Int) < (n : Int) := by omega
        clear hL hcap hsm hic hi0 hlt hlt2
        go_upto_region 7 with fail
        go_quiet (fail)
        have b3 := below_dN w3 nq
        have hK3 : Hid (Keep [g] w (w3.drewN nq)) := hK2.out.trans (Keep.of_below b3)
        have HN : Hid _ := hn
        clear b3 hn
        go_wp2
        go_ret
        try rw [if_pos HN.out, if_neg HR3.out]
        exact ⟨hK3.out, rfl⟩
    · have he : decide ((b.drop i).take 4 = le4 (sumL (b.take i)).toNat) = false := decide_eq_false (fun h => hn (h4.1 h))
      rw [he] at hq
      clear he h4 hs9
      have HN : Hid _ := hn
      clear hn
      go_wp2_with fail
      refine hq.mono ?_
      rintro e w3 ⟨rfl, rfl⟩
      clear hq
      have bb := below_alloc w3 (.cells (ftA (i : Int) 12) 72)
      have K4 : Hid (Keep [g] w (w3.alloc (.cells (ftA (i : Int) 12) 72))) := hK2.out.trans (Keep.of_below bb)
      have hq : Hid (w.heap.size ≤ w3.heap.size) := hK2.out.size
      have hN : Hid (RowC (w3.alloc (.cells (ftA (i : Int) 12) 72)) w3.heap.size (ftA (i : Int) 12)) := RowC.new _ _ _
      clear bb
      go_wp2
      go_ret
      try rw [if_neg HN.out]
      exact ⟨K4.out, _, rfl, hq.out, hN.out⟩
end Go.Proofs.YtklbdhpnbjhgkaaGreatDoor
namespace Go.Proofs.YtklbdhpnbjhgkaaGreatDoor
open Go.RowKit Go.Sort

/-! The reader: a whole report; Get -/
theorem rdH9_err {b : List UInt8} {p : Nat × Nat} (h : rdH9 b = .error p) : rdH b = .error p := by
  unfold rdH9 at h
  cases h1 : rdH b with
  | error q => rw [h1] at h; dsimp only at h; cases h; rfl
  | ok s => rw [h1] at h; cases h
theorem rdH9_ok {b : List UInt8} {s : Int} {j : Nat} (h : rdH9 b = .ok (s, j)) : rdH b = .ok s ∧ j = 4 := by
  unfold rdH9 at h
  cases h1 : rdH b with
  | error q => rw [h1] at h; cases h
  | ok s' =>
    rw [h1] at h
    simp only [Except.ok.injEq, Prod.mk.injEq] at h
    exact ⟨by rw [h.1], h.2.symm⟩
/-- What reading a report leaves. -/
def RpQ (w : World) (g : Nat) (r : Except (Nat × Nat) Rp) (e : Ending) (w' : World) : Prop := Keep [g] w w' ∧ match r with
  | .ok r => ∃ xf nf cf xd nd cd xi ni ci, e = .returned (.tuple #[.agg (rpA r.st (.slice xf nf cf) (.slice xd nd cd) (.slice xi ni ci)), .pointer none]) ∧ OwnK fdE w' w.heap.size (.slice xf nf cf) r.fs ∧ OwnK dgE w' w.heap.size (.slice xd nd cd) r.ds ∧ OwnI w' w.heap.size (.slice xi ni ci) r.dr
  | .error p => ∃ u q, e = .returned (.tuple #[.agg u, .pointer (some ⟨q, 0, none⟩)]) ∧ u.size = 4 ∧ OneC u = true ∧ w.heap.size ≤ q ∧ RowC w' q (ftA p.1 p.2)
theorem Keep.mineC {F : List Nat} {w w1 : World} (h : Keep F w w1) {z : Nat} (hz : w.heap.size ≤ z) (i : Nat) (v : Value) : Keep F w (w1.setCell ⟨z, i, none⟩ v) :=
  ⟨h.os, h.tape, h.output, Nat.le_trans h.size (by simp [World.setCell]), fun k hk hn => by rw [heap_setCell_ne w1 z k i v (by omega)]; exact h.block k hk hn⟩
theorem Keep.cell1 (w : World) (z i : Nat) (v : Value) : Keep [z] w (w.setCell ⟨z, i, none⟩ v) := ⟨rfl, rfl, rfl, by simp [World.setCell], fun k _ hk => heap_setCell_ne w z k i v (by simp at hk; omega)⟩
theorem ownI_len {w : World} {B : Nat} {v : Value} {l : List Int} (h : OwnI w B v l) : ∃ x c, v = .slice x l.length c := by
  obtain ⟨x, c, h1⟩ := (OwnG.isG h).len
  exact ⟨x, c, by rw [h1, inV_len]⟩
theorem kok22 {G : List Nat} : KOk (Keep G) := ⟨fun h => Keep.of_below h, fun h k => h.trans k⟩
theorem size_setCell22 (w : World) (a : Addr) (v : Value) : (w.setCell a v).heap.size = w.heap.size := by simp [World.setCell]
theorem FtP.keepK {B : Nat} {a e : Int} {v : Value} {w w' : World} (h : FtP B a e v w) (hb : Below w.heap.size w w') : FtP B a e v w' := h.mono hb
set_option linter.unusedSimpArgs false in
set_option maxRecDepth 100000 in
set_option maxHeartbeats 6000000 in
theorem report22 (w : World) (g : Nat) (x : Option Addr) (n c : Nat) (b : List UInt8) (h : RdI w g x n c b 0) (hx0 : ∀ a, x = some a → a.block < w.heap.size) :
    Calls Tryz.prog 25 #[.pointer (some ⟨g, 0, none⟩)] w fun e w' => RpQ w g (getM b) e w' := by
  obtain ⟨RES, hres⟩ : ∃ r, getM b = r := ⟨_, rfl⟩
  rw [hres]
  have HRES : Hid (getM b = RES) := hres
  clear hres
  have b0 := below_al2 w (.cells (rpA 0 (.slice none 0 0) (.slice none 0 0) (.slice none 0 0)) 32) (.cells (rpA 0 (.slice none 0 0) (.slice none 0 0) (.slice none 0 0)) 32)
  have hg := h.row.lt
  have hR := h.later b0
  have z2row : RowC ((w.alloc (.cells (rpA 0 (.slice none 0 0) (.slice none 0 0) (.slice none 0 0)) 32)).alloc (.cells (rpA 0 (.slice none 0 0) (.slice none 0 0) (.slice none 0 0)) 32)) w.heap.size (rpA 0 (.slice none 0 0) (.slice none 0 0) (.slice none 0 0)) := (RowC.new w _ 32).kept (below_alloc _ _)
  have z4row : RowC ((w.alloc (.cells (rpA 0 (.slice none 0 0) (.slice none 0 0) (.slice none 0 0)) 32)).alloc (.cells (rpA 0 (.slice none 0 0) (.slice none 0 0) (.slice none 0 0)) 32)) (w.heap.size + 1) (rpA 0 (.slice none 0 0) (.slice none 0 0) (.slice none 0 0)) := by
    have := RowC.new (w.alloc (.cells (rpA 0 (.slice none 0 0) (.slice none 0 0) (.slice none 0 0)) 32)) (rpA 0 (.slice none 0 0) (.slice none 0 0) (.slice none 0 0)) 32
    rwa [World.size_alloc] at this
  obtain ⟨z2, hz2⟩ : ∃ z, w.heap.size = z := ⟨_, rfl⟩
  obtain ⟨z4, hz4⟩ : ∃ z, z2 + 1 = z := ⟨_, rfl⟩
  have Z2 : Hid (z2 ≠ g ∧ w.heap.size ≤ z2 ∧ z2 ≠ z4) := ⟨by omega, by omega, by omega⟩
  have Z4 : Hid (z4 ≠ g ∧ w.heap.size ≤ z4 ∧ z4 ≠ z2) := ⟨by omega, by omega, by omega⟩
  have HXZ : Hid (∀ a, x = some a → a.block ≠ z4) := fun a ha => by have := hx0 a ha; omega
  obtain ⟨BB, hBB⟩ : ∃ z, z4 + 1 = z := ⟨_, rfl⟩
  have ZB : Hid (z2 < BB ∧ z4 < BB ∧ g < BB ∧ w.heap.size ≤ BB) := ⟨by omega, by omega, by omega, by omega⟩
  have hB : BB ≤ ((w.alloc (.cells (rpA 0 (.slice none 0 0) (.slice none 0 0) (.slice none 0 0)) 32)).alloc (.cells (rpA 0 (.slice none 0 0) (.slice none 0 0) (.slice none 0 0)) 32)).heap.size := by simp; omega
  have hK : Keep [g] w ((w.alloc (.cells (rpA 0 (.slice none 0 0) (.slice none 0 0) (.slice none 0 0)) 32)).alloc (.cells (rpA 0 (.slice none 0 0) (.slice none 0 0) (.slice none 0 0)) 32)) := Keep.of_below b0
  rw [hz2, hz4] at z4row
  rw [hz2] at z2row
  clear b0 h hBB hx0 hg
  go_enter Tryz.func25, Tryz.ntmps25
  go_upto_region 3 with fail
  generalize (w.alloc (.cells (rpA 0 (.slice none 0 0) (.slice none 0 0) (.slice none 0 0)) 32)).alloc (.cells (rpA 0 (.slice none 0 0) (.slice none 0 0) (.slice none 0 0)) 32) = W at hR z2row z4row hB hK ⊢
  clear hz2 hz4
  have h1 := status22 W g x n c b hR
  have zl4 := z4row.lt
  have zl2 := z2row.lt
  cases hr0 : rdH9 b with
  | error p =>
    rw [hr0] at h1
    have HS : Hid (RES = .error p) := by show _ = _; rw [← HRES.out]; unfold getM rdR; rw [rdH9_err hr0]
    clear hr0 hR
    go_wp2_with fail
    refine h1.mono ?_
    rintro e w1 ⟨hK1, q, rfl, hq, hRq⟩
    clear h1
    have z4r := z4row.keepsF hK1 (by simpa using Z4.out.1)
    have z2r := z2row.keepsF hK1 (by simpa using Z2.out.1)
    have HK : Hid (Keep [g] w ((w1.setCell ⟨z4, 0, none⟩ (.int .i64 0)).setRow z2 (rpA 0 (.slice none 0 0) (.slice none 0 0) (.slice none 0 0)))) := ((hK.trans hK1).mineC Z4.out.2.1 _ _).mine Z2.out.2.1 _
    have fz := z4r.frozen 0
    have zc : w1.cell? ⟨z4, 0, none⟩ = some (.int .i64 0) := by rw [z4r.cell]; rfl
    have z4s : RowC (w1.setCell ⟨z4, 0, none⟩ (.int .i64 0)) z4 (rpA 0 (.slice none 0 0) (.slice none 0 0) (.slice none 0 0)) := z4r.set 0 _
    have z2s : RowC (w1.setCell ⟨z4, 0, none⟩ (.int .i64 0)) z2 (rpA 0 (.slice none 0 0) (.slice none 0 0) (.slice none 0 0)) := z2r.set_ne _ _ Z4.out.2.2
    have qs : Hid (RowC ((w1.setCell ⟨z4, 0, none⟩ (.int .i64 0)).setRow z2 (rpA 0 (.slice none 0 0) (.slice none 0 0) (.slice none 0 0))) q (ftA p.1 p.2)) := (hRq.set_ne _ _ (by omega)).setRow_ne _ (by omega)
    have hQ : Hid (w.heap.size ≤ q) := Nat.le_trans hK.size hq
    have z2t : Hid (RowC ((w1.setCell ⟨z4, 0, none⟩ (.int .i64 0)).setRow z2 (rpA 0 (.slice none 0 0) (.slice none 0 0) (.slice none 0 0))) z2 (rpA 0 (.slice none 0 0) (.slice none 0 0) (.slice none 0 0))) := z2s.setRow _
    have ld := run_load_rp _ z4 z4s.1 (by rw [z4s.2]; rfl)
    rw [z4s.2] at ld
    have st := run_store_rp _ z2 (rpA 0 (.slice none 0 0) (.slice none 0 0) (.slice none 0 0)) z2s.1 (by rw [z2s.2]; rfl) rfl (rpA_one _ _ _ _ _ _ _ _ _ _)
    clear z4r z2r z4s z2s hRq hq hK1 z4row z2row zl4 zl2 hK
    go_wp2
    (try simp only [Exit.inBlock, Exit.then])
    refine rp_ret2 2 3 z2 _ rfl rfl rfl z2t.out rfl ?_
    rw [HS.out]
    exact ⟨HK.out, _, q, rfl, rfl, rpA_one _ _ _ _ _ _ _ _ _ _, hQ.out, qs.out⟩
  | ok p =>
    obtain ⟨s, i0⟩ := p
    rw [hr0] at h1
    have HS0 : Hid (rdH b = .ok s) := (rdH9_ok hr0).1
    obtain rfl := (rdH9_ok hr0).2
    clear hr0 hR
    go_wp2_with fail
    refine h1.mono ?_
    rintro e w1 ⟨hK1, rfl, hR1⟩
    clear h1
    have z4r := z4row.keepsF hK1 (by simpa using Z4.out.1)
    have z2r := z2row.keepsF hK1 (by simpa using Z2.out.1)
    have hK2 : Keep [g] w (w1.setCell ⟨z4, 0, none⟩ (.int .i64 s)) := (hK.trans hK1).mineC Z4.out.2.1 _ _
    have fz := z4r.frozen 0
    have zc : w1.cell? ⟨z4, 0, none⟩ = some (.int .i64 0) := by rw [z4r.cell]; rfl
    have kc := Keep.cell1 w1 z4 0 (.int .i64 s)
    have z4s : RowC (w1.setCell ⟨z4, 0, none⟩ (.int .i64 s)) z4 (rpA s (.slice none 0 0) (.slice none 0 0) (.slice none 0 0)) := z4r.set 0 _
    have z2s : RowC (w1.setCell ⟨z4, 0, none⟩ (.int .i64 s)) z2 (rpA 0 (.slice none 0 0) (.slice none 0 0) (.slice none 0 0)) := z2r.set_ne _ _ Z4.out.2.2
    have hR2 := hR1.apart kc (by simpa using fun e : g = z4 => Z4.out.1 e.symm) (fun a ha => by simpa using HXZ.out _ ha)
    have hB2 : BB ≤ (w1.setCell ⟨z4, 0, none⟩ (.int .i64 s)).heap.size := by simp only [size_setCell22]; exact Nat.le_trans hB hK1.size
    clear z4row z2row zl4 zl2 hK hK1 hR1 kc z4r z2r hB
    go_upto_region 6 with fail
    clear fz zc
    generalize w1.setCell ⟨z4, 0, none⟩ (.int .i64 s) = W at hK2 z4s z2s hR2 hB2 ⊢
    have hK := hK2
    have z4row := z4s
    have z2row := z2s
    have hR := hR2
    have hB := hB2
    clear hK2 z4s z2s hR2 hB2
    have h1 := list_fd22 W g x n c b 4 hR
    have zl4 := z4row.lt
    have zl2 := z2row.lt
    cases hr1 : rdC rdF ltF b 4 with
    | error p =>
      rw [hr1] at h1
      have HS : Hid (RES = .error p) := by show _ = _; rw [← HRES.out]; unfold getM rdR; rw [HS0.out]; dsimp only; rw [hr1]
      clear hr1 hR
      go_wp2_with fail
      refine h1.mono ?_
      rintro e w1 ⟨hK1, q, rfl, hq, hRq⟩
      clear h1
      have z4r := z4row.keepsF hK1 (by simpa using Z4.out.1)
      have z2r := z2row.keepsF hK1 (by simpa using Z2.out.1)
      have HK : Hid (Keep [g] w ((w1.setCell ⟨z4, 1, none⟩ ((.slice none 0 0))).setRow z2 (rpA s (.slice none 0 0) (.slice none 0 0) (.slice none 0 0)))) := ((hK.trans hK1).mineC Z4.out.2.1 _ _).mine Z2.out.2.1 _
      have fz := z4r.frozen 1
      have zc : w1.cell? ⟨z4, 1, none⟩ = some ((.slice none 0 0)) := by rw [z4r.cell]; rfl
      have z4s : RowC (w1.setCell ⟨z4, 1, none⟩ ((.slice none 0 0))) z4 (rpA s (.slice none 0 0) (.slice none 0 0) (.slice none 0 0)) := z4r.set 1 _
      have z2s : RowC (w1.setCell ⟨z4, 1, none⟩ ((.slice none 0 0))) z2 (rpA 0 (.slice none 0 0) (.slice none 0 0) (.slice none 0 0)) := z2r.set_ne _ _ Z4.out.2.2
      have qs : Hid (RowC ((w1.setCell ⟨z4, 1, none⟩ ((.slice none 0 0))).setRow z2 (rpA s (.slice none 0 0) (.slice none 0 0) (.slice none 0 0))) q (ftA p.1 p.2)) := (hRq.set_ne _ _ (by omega)).setRow_ne _ (by omega)
      have hQ : Hid (w.heap.size ≤ q) := Nat.le_trans hK.size hq
      have z2t : Hid (RowC ((w1.setCell ⟨z4, 1, none⟩ ((.slice none 0 0))).setRow z2 (rpA s (.slice none 0 0) (.slice none 0 0) (.slice none 0 0))) z2 (rpA s (.slice none 0 0) (.slice none 0 0) (.slice none 0 0))) := z2s.setRow _
      have ld := run_load_rp _ z4 z4s.1 (by rw [z4s.2]; rfl)
      rw [z4s.2] at ld
      have st := run_store_rp _ z2 (rpA s (.slice none 0 0) (.slice none 0 0) (.slice none 0 0)) z2s.1 (by rw [z2s.2]; rfl) rfl (rpA_one _ _ _ _ _ _ _ _ _ _)
      clear z4r z2r z4s z2s hRq hq hK1 z4row z2row zl4 zl2 hK
      go_wp2
      (try simp only [Exit.inBlock, Exit.then])
      refine rp_ret2 2 3 z2 _ rfl rfl rfl z2t.out rfl ?_
      rw [HS.out]
      exact ⟨HK.out, _, q, rfl, rfl, rpA_one _ _ _ _ _ _ _ _ _ _, hQ.out, qs.out⟩
    | ok p =>
      obtain ⟨fs, i1⟩ := p
      rw [hr1] at h1
      have HS1 : Hid _ := hr1
      clear hr1 hR
      go_wp2_with fail
      refine h1.mono ?_
      rintro e w1 ⟨hK1, vv, rfl, hOn, hR1⟩
      obtain ⟨xf, cf, rfl⟩ := (hOn.isK fdE_ok).len
      obtain ⟨nf, hnn1⟩ : ∃ z, fs.length = z := ⟨_, rfl⟩
      rw [hnn1] at hOn
      try simp only [hnn1]
      clear hnn1
      clear h1
      have z4r := z4row.keepsF hK1 (by simpa using Z4.out.1)
      have z2r := z2row.keepsF hK1 (by simpa using Z2.out.1)
      have hK2 : Keep [g] w (w1.setCell ⟨z4, 1, none⟩ (.slice xf nf cf)) := (hK.trans hK1).mineC Z4.out.2.1 _ _
      have fz := z4r.frozen 1
      have zc : w1.cell? ⟨z4, 1, none⟩ = some ((.slice none 0 0)) := by rw [z4r.cell]; rfl
      have kc := Keep.cell1 w1 z4 1 (.slice xf nf cf)
      have z4s : RowC (w1.setCell ⟨z4, 1, none⟩ (.slice xf nf cf)) z4 (rpA s (.slice xf nf cf) (.slice none 0 0) (.slice none 0 0)) := z4r.set 1 _
      have z2s : RowC (w1.setCell ⟨z4, 1, none⟩ (.slice xf nf cf)) z2 (rpA 0 (.slice none 0 0) (.slice none 0 0) (.slice none 0 0)) := z2r.set_ne _ _ Z4.out.2.2
      have hR2 := hR1.apart kc (by simpa using fun e : g = z4 => Z4.out.1 e.symm) (fun a ha => by simpa using HXZ.out _ ha)
      have hB2 : BB ≤ (w1.setCell ⟨z4, 1, none⟩ (.slice xf nf cf)).heap.size := by simp only [size_setCell22]; exact Nat.le_trans hB hK1.size
      have hO1a : OwnK fdE w1 BB (.slice xf nf cf) fs := OwnK.le hOn hB
      have hO1b : OwnK fdE (w1.setCell ⟨z4, 1, none⟩ (.slice xf nf cf)) BB (.slice xf nf cf) fs := OwnK.keeps hO1a kc (fun q hq => by have := (World.ownsRow.lt hO1a q hq).1; have := ZB.out; simp; omega)
      clear z4row z2row zl4 zl2 hK hK1 hR1 kc z4r z2r hB hOn hO1a
      go_upto_region 9 with fail
      clear fz zc
      generalize w1.setCell ⟨z4, 1, none⟩ (.slice xf nf cf) = W at hK2 z4s z2s hR2 hB2 hO1b ⊢
      have hK := hK2
      have z4row := z4s
      have z2row := z2s
      have hR := hR2
      have hB := hB2
      have hO1 := hO1b
      clear hK2 z4s z2s hR2 hB2 hO1b
      have h1 := list_dg22 W g x n c b i1 hR
      have zl4 := z4row.lt
      have zl2 := z2row.lt
      cases hr2 : rdC rdD ltD b i1 with
      | error p =>
        rw [hr2] at h1
        have HS : Hid (RES = .error p) := by show _ = _; rw [← HRES.out]; unfold getM rdR; rw [HS0.out]; dsimp only; rw [HS1.out]; dsimp only; rw [hr2]
        clear hr2 hR
        go_wp2_with fail
        refine h1.mono ?_
        rintro e w1 ⟨hK1, q, rfl, hq, hRq⟩
        clear h1
        have z4r := z4row.keepsF hK1 (by simpa using Z4.out.1)
        have z2r := z2row.keepsF hK1 (by simpa using Z2.out.1)
        have HK : Hid (Keep [g] w ((w1.setCell ⟨z4, 2, none⟩ ((.slice none 0 0))).setRow z2 (rpA s (.slice xf nf cf) (.slice none 0 0) (.slice none 0 0)))) := ((hK.trans hK1).mineC Z4.out.2.1 _ _).mine Z2.out.2.1 _
        have fz := z4r.frozen 2
        have zc : w1.cell? ⟨z4, 2, none⟩ = some ((.slice none 0 0)) := by rw [z4r.cell]; rfl
        have z4s : RowC (w1.setCell ⟨z4, 2, none⟩ ((.slice none 0 0))) z4 (rpA s (.slice xf nf cf) (.slice none 0 0) (.slice none 0 0)) := z4r.set 2 _
        have z2s : RowC (w1.setCell ⟨z4, 2, none⟩ ((.slice none 0 0))) z2 (rpA 0 (.slice none 0 0) (.slice none 0 0) (.slice none 0 0)) := z2r.set_ne _ _ Z4.out.2.2
        have qs : Hid (RowC ((w1.setCell ⟨z4, 2, none⟩ ((.slice none 0 0))).setRow z2 (rpA s (.slice xf nf cf) (.slice none 0 0) (.slice none 0 0))) q (ftA p.1 p.2)) := (hRq.set_ne _ _ (by omega)).setRow_ne _ (by omega)
        have hQ : Hid (w.heap.size ≤ q) := Nat.le_trans hK.size hq
        have z2t : Hid (RowC ((w1.setCell ⟨z4, 2, none⟩ ((.slice none 0 0))).setRow z2 (rpA s (.slice xf nf cf) (.slice none 0 0) (.slice none 0 0))) z2 (rpA s (.slice xf nf cf) (.slice none 0 0) (.slice none 0 0))) := z2s.setRow _
        have ld := run_load_rp _ z4 z4s.1 (by rw [z4s.2]; rfl)
        rw [z4s.2] at ld
        have st := run_store_rp _ z2 (rpA s (.slice xf nf cf) (.slice none 0 0) (.slice none 0 0)) z2s.1 (by rw [z2s.2]; rfl) rfl (rpA_one _ _ _ _ _ _ _ _ _ _)
        clear z4r z2r z4s z2s hRq hq hK1 z4row z2row zl4 zl2 hK hO1
        go_wp2
        (try simp only [Exit.inBlock, Exit.then])
        refine rp_ret2 2 3 z2 _ rfl rfl rfl z2t.out rfl ?_
        rw [HS.out]
        exact ⟨HK.out, _, q, rfl, rfl, rpA_one _ _ _ _ _ _ _ _ _ _, hQ.out, qs.out⟩
      | ok p =>
        obtain ⟨ds, i2⟩ := p
        rw [hr2] at h1
        have HS2 : Hid _ := hr2
        clear hr2 hR
        go_wp2_with fail
        refine h1.mono ?_
        rintro e w1 ⟨hK1, vv, rfl, hOn, hR1⟩
        obtain ⟨xd, cd, rfl⟩ := (hOn.isK dgE_ok).len
        obtain ⟨nd, hnn2⟩ : ∃ z, ds.length = z := ⟨_, rfl⟩
        rw [hnn2] at hOn
        try simp only [hnn2]
        clear hnn2
        clear h1
        have z4r := z4row.keepsF hK1 (by simpa using Z4.out.1)
        have z2r := z2row.keepsF hK1 (by simpa using Z2.out.1)
        have hK2 : Keep [g] w (w1.setCell ⟨z4, 2, none⟩ (.slice xd nd cd)) := (hK.trans hK1).mineC Z4.out.2.1 _ _
        have fz := z4r.frozen 2
        have zc : w1.cell? ⟨z4, 2, none⟩ = some ((.slice none 0 0)) := by rw [z4r.cell]; rfl
        have kc := Keep.cell1 w1 z4 2 (.slice xd nd cd)
        have z4s : RowC (w1.setCell ⟨z4, 2, none⟩ (.slice xd nd cd)) z4 (rpA s (.slice xf nf cf) (.slice xd nd cd) (.slice none 0 0)) := z4r.set 2 _
        have z2s : RowC (w1.setCell ⟨z4, 2, none⟩ (.slice xd nd cd)) z2 (rpA 0 (.slice none 0 0) (.slice none 0 0) (.slice none 0 0)) := z2r.set_ne _ _ Z4.out.2.2
        have hR2 := hR1.apart kc (by simpa using fun e : g = z4 => Z4.out.1 e.symm) (fun a ha => by simpa using HXZ.out _ ha)
        have hB2 : BB ≤ (w1.setCell ⟨z4, 2, none⟩ (.slice xd nd cd)).heap.size := by simp only [size_setCell22]; exact Nat.le_trans hB hK1.size
        have hO1a : OwnK fdE w1 BB (.slice xf nf cf) fs := OwnK.keeps hO1 hK1 (fun q hq => by have := (World.ownsRow.lt hO1 q hq).1; have := ZB.out; simp; omega)
        have hO1b : OwnK fdE (w1.setCell ⟨z4, 2, none⟩ (.slice xd nd cd)) BB (.slice xf nf cf) fs := OwnK.keeps hO1a kc (fun q hq => by have := (World.ownsRow.lt hO1a q hq).1; have := ZB.out; simp; omega)
        have hO2a : OwnK dgE w1 BB (.slice xd nd cd) ds := OwnK.le hOn hB
        have hO2b : OwnK dgE (w1.setCell ⟨z4, 2, none⟩ (.slice xd nd cd)) BB (.slice xd nd cd) ds := OwnK.keeps hO2a kc (fun q hq => by have := (World.ownsRow.lt hO2a q hq).1; have := ZB.out; simp; omega)
        clear z4row z2row zl4 zl2 hK hK1 hR1 kc z4r z2r hB hOn hO1a hO2a hO1
        go_upto_region 12 with fail
        clear fz zc
        generalize w1.setCell ⟨z4, 2, none⟩ (.slice xd nd cd) = W at hK2 z4s z2s hR2 hB2 hO1b hO2b ⊢
        have hK := hK2
        have z4row := z4s
        have z2row := z2s
        have hR := hR2
        have hB := hB2
        have hO1 := hO1b
        have hO2 := hO2b
        clear hK2 z4s z2s hR2 hB2 hO1b hO2b
        have h1 := list_in22 W g x n c b i2 hR
        have zl4 := z4row.lt
        have zl2 := z2row.lt
        cases hr3 : rdC rdS ltI b i2 with
        | error p =>
          rw [hr3] at h1
          have HS : Hid (RES = .error p) := by show _ = _; rw [← HRES.out]; unfold getM rdR; rw [HS0.out]; dsimp only; rw [HS1.out]; dsimp only; rw [HS2.out]; dsimp only; rw [hr3]
          clear hr3 hR
          go_wp2_with fail
          refine h1.mono ?_
          rintro e w1 ⟨hK1, q, rfl, hq, hRq⟩
          clear h1
          have z4r := z4row.keepsF hK1 (by simpa using Z4.out.1)
          have z2r := z2row.keepsF hK1 (by simpa using Z2.out.1)
          have HK : Hid (Keep [g] w ((w1.setCell ⟨z4, 3, none⟩ ((.slice none 0 0))).setRow z2 (rpA s (.slice xf nf cf) (.slice xd nd cd) (.slice none 0 0)))) := ((hK.trans hK1).mineC Z4.out.2.1 _ _).mine Z2.out.2.1 _
          have fz := z4r.frozen 3
          have zc : w1.cell? ⟨z4, 3, none⟩ = some ((.slice none 0 0)) := by rw [z4r.cell]; rfl
          have z4s : RowC (w1.setCell ⟨z4, 3, none⟩ ((.slice none 0 0))) z4 (rpA s (.slice xf nf cf) (.slice xd nd cd) (.slice none 0 0)) := z4r.set 3 _
          have z2s : RowC (w1.setCell ⟨z4, 3, none⟩ ((.slice none 0 0))) z2 (rpA 0 (.slice none 0 0) (.slice none 0 0) (.slice none 0 0)) := z2r.set_ne _ _ Z4.out.2.2
          have qs : Hid (RowC ((w1.setCell ⟨z4, 3, none⟩ ((.slice none 0 0))).setRow z2 (rpA s (.slice xf nf cf) (.slice xd nd cd) (.slice none 0 0))) q (ftA p.1 p.2)) := (hRq.set_ne _ _ (by omega)).setRow_ne _ (by omega)
          have hQ : Hid (w.heap.size ≤ q) := Nat.le_trans hK.size hq
          have z2t : Hid (RowC ((w1.setCell ⟨z4, 3, none⟩ ((.slice none 0 0))).setRow z2 (rpA s (.slice xf nf cf) (.slice xd nd cd) (.slice none 0 0))) z2 (rpA s (.slice xf nf cf) (.slice xd nd cd) (.slice none 0 0))) := z2s.setRow _
          have ld := run_load_rp _ z4 z4s.1 (by rw [z4s.2]; rfl)
          rw [z4s.2] at ld
          have st := run_store_rp _ z2 (rpA s (.slice xf nf cf) (.slice xd nd cd) (.slice none 0 0)) z2s.1 (by rw [z2s.2]; rfl) rfl (rpA_one _ _ _ _ _ _ _ _ _ _)
          clear z4r z2r z4s z2s hRq hq hK1 z4row z2row zl4 zl2 hK hO1 hO2
          go_wp2
          (try simp only [Exit.inBlock, Exit.then])
          refine rp_ret2 2 3 z2 _ rfl rfl rfl z2t.out rfl ?_
          rw [HS.out]
          exact ⟨HK.out, _, q, rfl, rfl, rpA_one _ _ _ _ _ _ _ _ _ _, hQ.out, qs.out⟩
        | ok p =>
          obtain ⟨dr, i3⟩ := p
          rw [hr3] at h1
          have HS3 : Hid _ := hr3
          clear hr3 hR
          go_wp2_with fail
          refine h1.mono ?_
          rintro e w1 ⟨hK1, vv, rfl, hOn, hR1⟩
          obtain ⟨xi, ci, rfl⟩ := ownI_len hOn
          obtain ⟨ni, hnn3⟩ : ∃ z, dr.length = z := ⟨_, rfl⟩
          rw [hnn3] at hOn
          try simp only [hnn3]
          clear hnn3
          clear h1
          have z4r := z4row.keepsF hK1 (by simpa using Z4.out.1)
          have z2r := z2row.keepsF hK1 (by simpa using Z2.out.1)
          have hK2 : Keep [g] w (w1.setCell ⟨z4, 3, none⟩ (.slice xi ni ci)) := (hK.trans hK1).mineC Z4.out.2.1 _ _
          have fz := z4r.frozen 3
          have zc : w1.cell? ⟨z4, 3, none⟩ = some ((.slice none 0 0)) := by rw [z4r.cell]; rfl
          have kc := Keep.cell1 w1 z4 3 (.slice xi ni ci)
          have z4s : RowC (w1.setCell ⟨z4, 3, none⟩ (.slice xi ni ci)) z4 (rpA s (.slice xf nf cf) (.slice xd nd cd) (.slice xi ni ci)) := z4r.set 3 _
          have z2s : RowC (w1.setCell ⟨z4, 3, none⟩ (.slice xi ni ci)) z2 (rpA 0 (.slice none 0 0) (.slice none 0 0) (.slice none 0 0)) := z2r.set_ne _ _ Z4.out.2.2
          have hR2 := hR1.apart kc (by simpa using fun e : g = z4 => Z4.out.1 e.symm) (fun a ha => by simpa using HXZ.out _ ha)
          have hB2 : BB ≤ (w1.setCell ⟨z4, 3, none⟩ (.slice xi ni ci)).heap.size := by simp only [size_setCell22]; exact Nat.le_trans hB hK1.size
          have hO1a : OwnK fdE w1 BB (.slice xf nf cf) fs := OwnK.keeps hO1 hK1 (fun q hq => by have := (World.ownsRow.lt hO1 q hq).1; have := ZB.out; simp; omega)
          have hO1b : OwnK fdE (w1.setCell ⟨z4, 3, none⟩ (.slice xi ni ci)) BB (.slice xf nf cf) fs := OwnK.keeps hO1a kc (fun q hq => by have := (World.ownsRow.lt hO1a q hq).1; have := ZB.out; simp; omega)
          have hO2a : OwnK dgE w1 BB (.slice xd nd cd) ds := OwnK.keeps hO2 hK1 (fun q hq => by have := (World.ownsRow.lt hO2 q hq).1; have := ZB.out; simp; omega)
          have hO2b : OwnK dgE (w1.setCell ⟨z4, 3, none⟩ (.slice xi ni ci)) BB (.slice xd nd cd) ds := OwnK.keeps hO2a kc (fun q hq => by have := (World.ownsRow.lt hO2a q hq).1; have := ZB.out; simp; omega)
          have hO3a : OwnI w1 BB (.slice xi ni ci) dr := OwnG.le hOn hB
          have hO3b : OwnI (w1.setCell ⟨z4, 3, none⟩ (.slice xi ni ci)) BB (.slice xi ni ci) dr := OwnG.keepsF hO3a kc (fun q hq => by have := (OwnG.lt hO3a q hq).1; have := ZB.out; simp; omega)
          clear z4row z2row zl4 zl2 hK hK1 hR1 kc z4r z2r hB hOn hO1a hO2a hO3a hO1 hO2
          go_upto_region 15 with fail
          clear fz zc
          generalize w1.setCell ⟨z4, 3, none⟩ (.slice xi ni ci) = W at hK2 z4s z2s hR2 hB2 hO1b hO2b hO3b ⊢
          have hK := hK2
          have z4row := z4s
          have z2row := z2s
          have hR := hR2
          have hB := hB2
          have hO1 := hO1b
          have hO2 := hO2b
          have hO3 := hO3b
          clear hK2 z4s z2s hR2 hB2 hO1b hO2b hO3b
          have zl4 := z4row.lt
          have zl2 := z2row.lt
          have LD : Hid (∀ y, Keep [g] W y → (bigLoad 32 (.pointer (some ⟨z4, 0, none⟩))).run Tryz.prog y = .ok (.value (.agg (rpA s (.slice xf nf cf) (.slice xd nd cd) (.slice xi ni ci)))) y) := fun y hy => by
            have r9 := z4row.keepsF hy (by simpa using Z4.out.1)
            have h9 := run_load_rp y z4 r9.1 (by rw [r9.2]; rfl)
            rw [r9.2] at h9
            exact h9
          cases hrE : rdE b i3 with
          | none =>
            have HS : Hid (RES = .ok ⟨s, fs, ds, dr⟩) := by show _ = _; rw [← HRES.out]; unfold getM rdR; rw [HS0.out]; dsimp only; rw [HS1.out]; dsimp only; rw [HS2.out]; dsimp only; rw [HS3.out]; dsimp only; rw [hrE]
            refine wp_reliesK (kok22 (G := [g])) 2 [1] [Fx (.agg (rpA s (.slice xf nf cf) (.slice xd nd cd) (.slice xi ni ci))), Fx (.pointer (some ⟨g, 0, none⟩)), Fx (.pointer none)] (by simp) (by kernel_rfl) (by kernel_rfl) (by kernel_rfl) ?_ ?_ ?_ ?_
            · repeat' (first | exact all_nil | apply all_cons)
              all_goals intro v y y' hv hb
              all_goals first | exact Fx_mono _ _ _ _ hv hb | exact FtP.mono hv hb
            · simp only [List.eraseIdx]
              repeat' (first | exact all_nil | apply all_cons)
              all_goals intro v y y' hv hb
              all_goals first | exact (show Fx _ _ _ from hv) | exact FtP.keepK hv hb
            · refine ⟨?_, ?_, ?_, trivial⟩
              all_goals
                intro ρ y9 hk hp ρc ρg ρf ho hd
                first | (replace hp := hp (by decide)) | clear hp
                have o4 : ρ (.tmp 4) = .pointer (some ⟨z4, 0, none⟩) := ho 4 rfl
                have o0 : ρ (.tmp 0) = .pointer (some ⟨g, 0, none⟩) := ho 0 rfl
                clear ho
                simp only [depsR, depR, slotR, Fx, List.getElem?_cons_succ, List.getElem?_cons_zero, Region.binds, forall_const] at hd
                simp only [guardR, Nat.reduceBEq, cond_true, cond_false]
                go_split_ands
              · have z9 := LD.out y9 hk
                go_simp
              · go_simp
              · go_simp
                exact (end22 _ g x n c b i3 (hR.later hp)).mono fun e w' h9 => by rw [hrE] at h9; exact ⟨_, h9.2, rfl, h9.1⟩
            · intro us x1 hk hw
              simp only [owed, Fx] at hw
              obtain ⟨e0, e1, e2, -⟩ := hw
              simp only [List.length_cons, List.length_nil, List.take_succ_cons, List.take_zero, List.drop_succ_cons, List.drop_zero, asg, List.cons_append, List.nil_append, e0, e1, e2]
              clear e0 e1 e2
              have z2r := z2row.keepsF hk (by simpa using Z2.out.1)
              have st := run_store_rp x1 z2 (rpA s (.slice xf nf cf) (.slice xd nd cd) (.slice xi ni ci)) z2r.1 (by rw [z2r.2]; rfl) rfl (rpA_one _ _ _ _ _ _ _ _ _ _)
              have HK : Hid (Keep [g] w (x1.setRow z2 (rpA s (.slice xf nf cf) (.slice xd nd cd) (.slice xi ni ci)))) := (hK.trans hk).mine Z2.out.2.1 _
              have z2t : Hid (RowC (x1.setRow z2 (rpA s (.slice xf nf cf) (.slice xd nd cd) (.slice xi ni ci))) z2 (rpA s (.slice xf nf cf) (.slice xd nd cd) (.slice xi ni ci))) := z2r.setRow _
              have k9 := Keep.mine1 x1 z2 (rpA s (.slice xf nf cf) (.slice xd nd cd) (.slice xi ni ci))
              have HO1 : Hid (OwnK fdE (x1.setRow z2 (rpA s (.slice xf nf cf) (.slice xd nd cd) (.slice xi ni ci))) w.heap.size (.slice xf nf cf) fs) := OwnK.le (OwnK.keeps (OwnK.keeps hO1 hk (fun q hq => by have := (World.ownsRow.lt hO1 q hq).1; have := ZB.out; simp; omega)) k9 (fun q hq => by have := (World.ownsRow.lt hO1 q hq).1; have := ZB.out; simp; omega)) ZB.out.2.2.2
              have HO2 : Hid (OwnK dgE (x1.setRow z2 (rpA s (.slice xf nf cf) (.slice xd nd cd) (.slice xi ni ci))) w.heap.size (.slice xd nd cd) ds) := OwnK.le (OwnK.keeps (OwnK.keeps hO2 hk (fun q hq => by have := (World.ownsRow.lt hO2 q hq).1; have := ZB.out; simp; omega)) k9 (fun q hq => by have := (World.ownsRow.lt hO2 q hq).1; have := ZB.out; simp; omega)) ZB.out.2.2.2
              have HO3 : Hid (OwnI (x1.setRow z2 (rpA s (.slice xf nf cf) (.slice xd nd cd) (.slice xi ni ci))) w.heap.size (.slice xi ni ci) dr) := OwnG.le (OwnG.keepsF (OwnG.keepsF hO3 hk (fun q hq => by have := (OwnG.lt hO3 q hq).1; have := ZB.out; simp; omega)) k9 (fun q hq => by have := (OwnG.lt hO3 q hq).1; have := ZB.out; simp; omega)) ZB.out.2.2.2
              clear hk z2r k9 hO1 hO2 hO3 z4row z2row LD zl4 zl2 hK hR hrE
              go_wp2
              (try simp only [Exit.inBlock, Exit.then])
              refine rp_ret2 2 3 z2 _ rfl rfl rfl z2t.out rfl ?_
              rw [HS.out]
              exact ⟨HK.out, _, _, _, _, _, _, _, _, _, rfl, HO1.out, HO2.out, HO3.out⟩
          | some p =>
            have HS : Hid (RES = .error p) := by show _ = _; rw [← HRES.out]; unfold getM rdR; rw [HS0.out]; dsimp only; rw [HS1.out]; dsimp only; rw [HS2.out]; dsimp only; rw [HS3.out]; dsimp only; rw [hrE]
            refine wp_reliesK (kok22 (G := [g])) 2 [1] [Fx (.agg (rpA s (.slice xf nf cf) (.slice xd nd cd) (.slice xi ni ci))), Fx (.pointer (some ⟨g, 0, none⟩)), FtP W.heap.size (p.1 : Int) (p.2 : Int)] (by simp) (by kernel_rfl) (by kernel_rfl) (by kernel_rfl) ?_ ?_ ?_ ?_
            · repeat' (first | exact all_nil | apply all_cons)
              all_goals intro v y y' hv hb
              all_goals first | exact Fx_mono _ _ _ _ hv hb | exact FtP.mono hv hb
            · simp only [List.eraseIdx]
              repeat' (first | exact all_nil | apply all_cons)
              all_goals intro v y y' hv hb
              all_goals first | exact (show Fx _ _ _ from hv) | exact FtP.keepK hv hb
            · refine ⟨?_, ?_, ?_, trivial⟩
              all_goals
                intro ρ y9 hk hp ρc ρg ρf ho hd
                first | (replace hp := hp (by decide)) | clear hp
                have o4 : ρ (.tmp 4) = .pointer (some ⟨z4, 0, none⟩) := ho 4 rfl
                have o0 : ρ (.tmp 0) = .pointer (some ⟨g, 0, none⟩) := ho 0 rfl
                clear ho
                simp only [depsR, depR, slotR, Fx, List.getElem?_cons_succ, List.getElem?_cons_zero, Region.binds, forall_const] at hd
                simp only [guardR, Nat.reduceBEq, cond_true, cond_false]
                go_split_ands
              · have z9 := LD.out y9 hk
                go_simp
              · go_simp
              · go_simp
                exact (end22 _ g x n c b i3 (hR.later hp)).mono fun e w' h9 => by rw [hrE] at h9; obtain ⟨k9, q, e1, e2, e3⟩ := h9; exact ⟨_, e1, ⟨q, rfl, Nat.le_trans hp.size e2, e3⟩, k9⟩
            · intro us x1 hk hw
              simp only [owed, Fx] at hw
              obtain ⟨e0, e1, ⟨q, e2, eq2, eq3⟩, -⟩ := hw
              simp only [List.length_cons, List.length_nil, List.take_succ_cons, List.take_zero, List.drop_succ_cons, List.drop_zero, asg, List.cons_append, List.nil_append, e0, e1, e2]
              clear e0 e1 e2
              have z2r := z2row.keepsF hk (by simpa using Z2.out.1)
              have st := run_store_rp x1 z2 (rpA s (.slice xf nf cf) (.slice xd nd cd) (.slice xi ni ci)) z2r.1 (by rw [z2r.2]; rfl) rfl (rpA_one _ _ _ _ _ _ _ _ _ _)
              have HK : Hid (Keep [g] w (x1.setRow z2 (rpA s (.slice xf nf cf) (.slice xd nd cd) (.slice xi ni ci)))) := (hK.trans hk).mine Z2.out.2.1 _
              have z2t : Hid (RowC (x1.setRow z2 (rpA s (.slice xf nf cf) (.slice xd nd cd) (.slice xi ni ci))) z2 (rpA s (.slice xf nf cf) (.slice xd nd cd) (.slice xi ni ci))) := z2r.setRow _
              have qs : Hid (RowC (x1.setRow z2 (rpA s (.slice xf nf cf) (.slice xd nd cd) (.slice xi ni ci))) q (ftA p.1 p.2)) := eq3.setRow_ne _ (by omega)
              have hQ : Hid (w.heap.size ≤ q) := Nat.le_trans hK.size eq2
              clear hk z2r hO1 hO2 hO3 z4row z2row LD zl4 zl2 hK hR hrE eq3 eq2
              go_wp2
              (try simp only [Exit.inBlock, Exit.then])
              refine rp_ret2 2 3 z2 _ rfl rfl rfl z2t.out rfl ?_
              rw [HS.out]
              exact ⟨HK.out, _, q, rfl, rfl, rpA_one _ _ _ _ _ _ _ _ _ _, hQ.out, qs.out⟩
/-- What Get leaves. -/
def GtQ (w : World) (r : Except (Nat × Nat) Rp) (e : Ending) (w' : World) : Prop := Below w.heap.size w w' ∧ match r with
  | .ok r => ∃ xf nf cf xd nd cd xi ni ci, e = .returned (.tuple #[.agg (rpA r.st (.slice xf nf cf) (.slice xd nd cd) (.slice xi ni ci)), .nilIface]) ∧ OwnK fdE w' w.heap.size (.slice xf nf cf) r.fs ∧ OwnK dgE w' w.heap.size (.slice xd nd cd) r.ds ∧ OwnI w' w.heap.size (.slice xi ni ci) r.dr
  | .error p => ∃ q, e = .returned (.tuple #[.agg (rpA 0 (.slice none 0 0) (.slice none 0 0) (.slice none 0 0)), .iface 52 (.pointer (some ⟨q, 0, none⟩))]) ∧ w.heap.size ≤ q ∧ RowC w' q (ftA p.1 p.2)
set_option linter.unusedSimpArgs false in
set_option maxRecDepth 100000 in
set_option maxHeartbeats 1600000 in
theorem get22 (w : World) (x : Option Addr) (n c : Nat) (b : List UInt8) (hb : IsB w (.slice x n c) b) (hn : b.length = n) (hc : n ≤ c) (hs : n ≤ 140737488355328) (hx0 : ∀ a, x = some a → a.block < w.heap.size) :
    Calls Tryz.prog 11 #[.slice x n c] w fun e w' => GtQ w (getM b) e w' := by
  have b1 := below_alloc w (.cells (rpA 0 (.slice none 0 0) (.slice none 0 0) (.slice none 0 0)) 32)
  have r1 := RowC.new w (rpA 0 (.slice none 0 0) (.slice none 0 0) (.slice none 0 0)) 32
  have b2 := below_alloc (w.alloc (.cells (rpA 0 (.slice none 0 0) (.slice none 0 0) (.slice none 0 0)) 32)) (.cells (rdA (.slice x n c) 0) 61)
  have b12 := b1.trans (b2.mono b1.size)
  have r2 := r1.kept b2
  have r3 := RowC.new (w.alloc (.cells (rpA 0 (.slice none 0 0) (.slice none 0 0) (.slice none 0 0)) 32)) (rdA (.slice x n c) 0) 61
  rw [World.size_alloc] at r3
  have hR : RdI ((w.alloc (.cells (rpA 0 (.slice none 0 0) (.slice none 0 0) (.slice none 0 0)) 32)).alloc (.cells (rdA (.slice x n c) 0) 61)) (w.heap.size + 1) x n c b 0 := ⟨r3, hb.kept b12, hn, hc, fun a ha => by have := hx0 a ha; omega, hs, by omega⟩
  have hp := report22 _ _ x n c b hR (fun a ha => Nat.lt_of_lt_of_le (hx0 a ha) b12.size)
  obtain ⟨RES, hres⟩ : ∃ r, getM b = r := ⟨_, rfl⟩
  rw [hres] at hp ⊢
  clear hres hR r3 hb hn hc hs hx0 r1 b1 b2
  obtain ⟨z, hz⟩ : ∃ z, w.heap.size = z := ⟨_, rfl⟩
  have HZ : Hid (w.heap.size = z) := hz
  rw [hz] at r2 hp
  go_enter Tryz.func11, Tryz.ntmps11
  go_wp2_with fail
  generalize (w.alloc (.cells (rpA 0 (.slice none 0 0) (.slice none 0 0) (.slice none 0 0)) 32)).alloc (.cells (rdA (.slice x n c) 0) 61) = W at b12 r2 hp ⊢
  clear hz
  refine hp.mono ?_
  rintro e w1 ⟨hK, hm⟩
  clear hp
  have zl := r2.lt
  have r4 := r2.keepsF hK (by simp)
  have bK : Below w.heap.size w w1 := b12.trans (hK.below (fun q hq => by simp at hq; have := HZ.out; omega) b12.size)
  cases RES with
  | error p =>
    obtain ⟨u, q, rfl, hu, hu1, hq, hRq⟩ := hm
    have st1 := run_store_rp (w1.alloc (.cells (rpA 0 (.slice none 0 0) (.slice none 0 0) (.slice none 0 0)) 32)) w1.heap.size u (RowC.new w1 _ _).1 (by rw [(RowC.new w1 _ _).2]; rfl) hu hu1
    have bA := below_alloc w1 (.cells u 32)
    have r5 := r4.kept bA
    have qA := hRq.kept bA
    have st2 := run_store_rp (w1.alloc (.cells u 32)) z (rpA 0 (.slice none 0 0) (.slice none 0 0) (.slice none 0 0)) r5.1 (by rw [r5.2]; rfl) rfl (rpA_one _ _ _ _ _ _ _ _ _ _)
    have HB : Hid (Below w.heap.size w ((w1.alloc (.cells u 32)).setRow z (rpA 0 (.slice none 0 0) (.slice none 0 0) (.slice none 0 0)))) := below_row (bK.trans (bA.mono bK.size)) (by rw [HZ.out]; exact Nat.le_refl _) _
    have HQ : Hid (w.heap.size ≤ q) := Nat.le_trans b12.size hq
    have qz : q ≠ z := by omega
    have HR : Hid (RowC ((w1.alloc (.cells u 32)).setRow z (rpA 0 (.slice none 0 0) (.slice none 0 0) (.slice none 0 0))) q (ftA p.1 p.2)) := qA.setRow_ne _ qz
    have Hz : Hid (RowC ((w1.alloc (.cells u 32)).setRow z (rpA 0 (.slice none 0 0) (.slice none 0 0) (.slice none 0 0))) z (rpA 0 (.slice none 0 0) (.slice none 0 0) (.slice none 0 0))) := r5.setRow _
    clear r2 r4 r5 qA hRq hq hK b12 bK bA zl hu1 qz
    go_wp2
    (try simp only [Exit.inBlock, Exit.then])
    refine rp_ret2 2 3 z _ rfl rfl rfl Hz.out rfl ?_
    exact ⟨HB.out, q, rfl, HQ.out, HR.out⟩
  | ok r =>
    obtain ⟨xf, nf, cf, xd, nd, cd, xi, ni, ci, rfl, h1, h2, h3⟩ := hm
    obtain ⟨R, hR⟩ : ∃ R, rpA r.st (.slice xf nf cf) (.slice xd nd cd) (.slice xi ni ci) = R := ⟨_, rfl⟩
    have hR4 : R.size = 4 := by rw [← hR]; rfl
    have hR1 : OneC R = true := by rw [← hR]; exact rpA_one _ _ _ _ _ _ _ _ _ _
    have HR : Hid (rpA r.st (.slice xf nf cf) (.slice xd nd cd) (.slice xi ni ci) = R) := hR
    try simp only [hR]
    clear hR
    have st1 := run_store_rp (w1.alloc (.cells (rpA 0 (.slice none 0 0) (.slice none 0 0) (.slice none 0 0)) 32)) w1.heap.size R (RowC.new w1 _ _).1 (by rw [(RowC.new w1 _ _).2]; rfl) hR4 hR1
    have bA := below_alloc w1 (.cells R 32)
    have r5 := r4.kept bA
    have r6 := RowC.new w1 R 32
    have ld := run_load_rp _ w1.heap.size r6.1 (by rw [r6.2]; exact hR4)
    rw [r6.2] at ld
    have st2 := run_store_rp (w1.alloc (.cells R 32)) z R r5.1 (by rw [r5.2]; rfl) hR4 hR1
    have HB : Hid (Below w.heap.size w ((w1.alloc (.cells R 32)).setRow z R)) := below_row (bK.trans (bA.mono bK.size)) (by rw [HZ.out]; exact Nat.le_refl _) _
    have Hz : Hid (RowC ((w1.alloc (.cells R 32)).setRow z R) z R) := r5.setRow _
    have k9 := Keep.mine1 (w1.alloc (.cells R 32)) z R
    have H1 : Hid (OwnK fdE ((w1.alloc (.cells R 32)).setRow z R) w.heap.size (.slice xf nf cf) r.fs) := OwnK.le (OwnK.keeps (h1.keep bA) k9 (fun q hq => by have := (World.ownsRow.lt h1 q hq).1; simp; omega)) b12.size
    have H2 : Hid (OwnK dgE ((w1.alloc (.cells R 32)).setRow z R) w.heap.size (.slice xd nd cd) r.ds) := OwnK.le (OwnK.keeps (h2.keep bA) k9 (fun q hq => by have := (World.ownsRow.lt h2 q hq).1; simp; omega)) b12.size
    have H3 : Hid (OwnI ((w1.alloc (.cells R 32)).setRow z R) w.heap.size (.slice xi ni ci) r.dr) := OwnG.le (OwnG.keepsF (h3.keep bA) k9 (fun q hq => by have := (OwnG.lt h3 q hq).1; simp; omega)) b12.size
    clear r2 r4 r5 r6 hK b12 bK bA zl h1 h2 h3 k9 hR1
    go_wp2
    (try simp only [Exit.inBlock, Exit.then])
    refine rp_ret2 2 3 z _ rfl rfl rfl Hz.out hR4 ?_
    rw [← HR.out]
    rw [← HR.out] at H1 H2 H3 HB
    exact ⟨HB.out, _, _, _, _, _, _, _, _, _, rfl, H1.out, H2.out, H3.out⟩
end Go.Proofs.YtklbdhpnbjhgkaaGreatDoor
namespace Go.Proofs.YtklbdhpnbjhgkaaGreatDoor
open Go.RowKit Go.Extern.Stop Go.Stop Go.Extern

/-! errors.As at **Fault; errors.Is at an Errno -/
theorem rl_valueP2 (t : Addr) (w : World) : (ReflectliteValue.unpack (.iface 69 (.pointer (some t)))).run Tryz.prog w
    = .ok (.agg #[.pointer (some ⟨5, 69, none⟩), .pointer (some ⟨w.heap.size, 0, none⟩), .int .u64 150]) (w.alloc (.cells #[.pointer (some t)] 69)) := by kernel_rfl
theorem rl_typeP2 (a : Addr) (w : World) : (ReflectliteValue.methodAny (ReflectliteValue.valueError "reflectlite.Value.Type" 0) (fun t _ _ _ => ReflectliteType.toType t) #[.agg #[.pointer (some ⟨5, 69, none⟩), .pointer (some a), .int .u64 150]]).run Tryz.prog w
    = .ok (.iface 146 (.agg #[.pointer (some ⟨5, 69, none⟩)])) w := by kernel_rfl
theorem rl_methodKind (h : Value) (w : World) : (Go.method 317 146 (.agg #[h]) "Kind").run Tryz.prog w = .ok (139, h) w := by kernel_rfl
theorem rl_kindP2 (w : World) : ((ReflectliteType.abiMethod fun t => Functor.map (fun a : Nat => Value.int IntKind.u8 (a : Int)) (Rtype.kind t)) #[.pointer (some ⟨5, 69, none⟩)]).run Tryz.prog w = .ok (.int .u8 22) w := by kernel_rfl
theorem rl_kindP1 (w : World) : ((ReflectliteType.abiMethod fun t => Functor.map (fun a : Nat => Value.int IntKind.u8 (a : Int)) (Rtype.kind t)) #[.pointer (some ⟨5, 52, none⟩)]).run Tryz.prog w = .ok (.int .u8 22) w := by kernel_rfl
theorem rlm (z : Sem Value) (f : TypeId → Addr → Nat → Nat → Sem Value) (v : Value) :
    ReflectliteValue.method z f #[v] = (do match ← ReflectliteValue.parts v with | none => z | some (t, a, fl) => f t a fl (fl % 32)) := rfl
theorem rl_partsP2 (a : Addr) (w : World) : (ReflectliteValue.parts (.agg #[.pointer (some ⟨5, 69, none⟩), .pointer (some a), .int .u64 150])).run Tryz.prog w = .ok (some (69, a, 150)) w := by kernel_rfl
theorem rl_isNilP2 (a p : Addr) (W : World) (ha : W.cell? a = some (.pointer (some p))) :
    (ReflectliteValue.method (ReflectliteValue.valueError "reflectlite.Value.IsNil" 0) ReflectliteValue.isNil #[.agg #[.pointer (some ⟨5, 69, none⟩), .pointer (some a), .int .u64 150]]).run Tryz.prog W = .ok (.bool false) W := by
  rw [rlm]
  simp only [Sem.run_bind, rl_partsP2, Result.andThen]
  simp [ReflectliteValue.isNil, loadVar, isAgg, underlying, Tryz.underlying69, ha, Result.andThen]
theorem rl_methodElem (h : Value) (w : World) : (Go.method 317 146 (.agg #[h]) "Elem").run Tryz.prog w = .ok (148, .agg #[h]) w := by kernel_rfl
theorem rl_methodImplements (h : Value) (w : World) : (Go.method 317 146 (.agg #[h]) "Implements").run Tryz.prog w = .ok (149, .agg #[h]) w := by kernel_rfl
theorem rl_methodAssignableTo (h : Value) (w : World) : (Go.method 317 146 (.agg #[h]) "AssignableTo").run Tryz.prog w = .ok (146, .agg #[h]) w := by kernel_rfl
theorem rl_methodComparable (h : Value) (w : World) : (Go.method 317 146 (.agg #[h]) "Comparable").run Tryz.prog w = .ok (147, .agg #[h]) w := by kernel_rfl
theorem rl_elemP2 (w : World) : (ReflectliteType.method ReflectliteType.elem #[.agg #[.pointer (some ⟨5, 69, none⟩)]]).run Tryz.prog w = .ok (.iface 146 (.agg #[.pointer (some ⟨5, 52, none⟩)])) w := by kernel_rfl
theorem rl_implementsP1 (w : World) : (ReflectliteType.relation "Implements" ReflectliteType.implements_ #[.agg #[.pointer (some ⟨5, 52, none⟩)], .iface 146 (.agg #[.pointer (some ⟨5, 35, none⟩)])]).run Tryz.prog w = .ok (.bool true) w := by kernel_rfl
theorem rl_typeOfP1 (v : Value) (w : World) : (ReflectliteType.typeOf #[.iface 52 v]).run Tryz.prog w = .ok (.iface 146 (.agg #[.pointer (some ⟨5, 52, none⟩)])) w := by kernel_rfl
theorem rl_typeOfEN (v : Value) (w : World) : (ReflectliteType.typeOf #[.iface 38 v]).run Tryz.prog w = .ok (.iface 146 (.agg #[.pointer (some ⟨5, 38, none⟩)])) w := by kernel_rfl
theorem rl_assignableP1 (w : World) : (ReflectliteType.relation "AssignableTo" ReflectliteType.assignableTo #[.agg #[.pointer (some ⟨5, 52, none⟩)], .iface 146 (.agg #[.pointer (some ⟨5, 52, none⟩)])]).run Tryz.prog w = .ok (.bool true) w := by kernel_rfl
theorem rl_valueP1 (e : Addr) (w : World) : (ReflectliteValue.unpack (.iface 52 (.pointer (some e)))).run Tryz.prog w
    = .ok (.agg #[.pointer (some ⟨5, 52, none⟩), .pointer (some ⟨w.heap.size, 0, none⟩), .int .u64 150]) (w.alloc (.cells #[.pointer (some e)] 52)) := by kernel_rfl
theorem rl_elemOfP2 (w : World) : (Rtype.elem? 69).run Tryz.prog w = .ok (some 52) w := by kernel_rfl
theorem rl_mkP1 (p : Addr) (w : World) : (ReflectliteValue.mk 52 p ReflectliteValue.flagAddr).run Tryz.prog w = .ok (.agg #[.pointer (some ⟨5, 52, none⟩), .pointer (some p), .int .u64 406]) w := by kernel_rfl
theorem rl_elemVP2 (a p : Addr) (W : World) (ha : W.cell? a = some (.pointer (some p))) :
    (ReflectliteValue.method (ReflectliteValue.valueError "reflectlite.Value.Elem" 0) ReflectliteValue.elem #[.agg #[.pointer (some ⟨5, 69, none⟩), .pointer (some a), .int .u64 150]]).run Tryz.prog W
      = .ok (.agg #[.pointer (some ⟨5, 52, none⟩), .pointer (some p), .int .u64 406]) W := by
  rw [rlm]
  simp only [Sem.run_bind, rl_partsP2, Result.andThen]
  simp [ReflectliteValue.elem, loadVar, isAgg, underlying, Tryz.underlying69, ha, Result.andThen, rl_elemOfP2, rl_mkP1]
theorem rls (v x : Value) : ReflectliteValue.set #[v, x] = (do
    let (some (dst, a, fl), some (src, b, _)) := (← ReflectliteValue.parts v, ← ReflectliteValue.parts x)
      | unsupported (.noEntry "extern/(internal/reflectlite.Value).Set.zeroValue")
    if fl / ReflectliteValue.flagAddr % 2 == 0 then unsupported (.noEntry "extern/(internal/reflectlite.Value).Set.unaddressable")
    let val ← loadVar src b
    if ← Rtype.directlyAssignable dst src then storeVar dst a val
    else if ← Rtype.implements dst src then
      if (← Rtype.kind src) == 20 then
        match val with
        | .nilIface => unsupported (.noEntry "extern/reflectlite: a nil value of one interface type handed on as a value of another")
        | _ => storeVar dst a val
      else storeVar dst a (.iface src val)
    else panicString ("reflectlite.Set: value of type " ++ (← Rtype.spelt src) ++ " is not assignable to type " ++ (← Rtype.spelt dst))
    pure (.tuple #[])) := rfl
theorem rl_partsP1a (a : Addr) (w : World) : (ReflectliteValue.parts (.agg #[.pointer (some ⟨5, 52, none⟩), .pointer (some a), .int .u64 406])).run Tryz.prog w = .ok (some (52, a, 406)) w := by kernel_rfl
theorem rl_partsP1 (a : Addr) (w : World) : (ReflectliteValue.parts (.agg #[.pointer (some ⟨5, 52, none⟩), .pointer (some a), .int .u64 150])).run Tryz.prog w = .ok (some (52, a, 150)) w := by kernel_rfl
theorem rl_directP1 (w : World) : (Rtype.directlyAssignable 52 52).run Tryz.prog w = .ok true w := by kernel_rfl
theorem rl_setP1 (ta b e : Addr) (old : Value) (W : World) (hb : W.cell? b = some (.pointer (some e))) (ht : W.cell? ta = some old) (hf : W.frozen? ta = false) :
    (ReflectliteValue.set #[.agg #[.pointer (some ⟨5, 52, none⟩), .pointer (some ta), .int .u64 406], .agg #[.pointer (some ⟨5, 52, none⟩), .pointer (some b), .int .u64 150]]).run Tryz.prog W
      = .ok (.tuple #[]) (W.setCell ta (.pointer (some e))) := by
  rw [rls]
  simp only [Sem.run_bind, rl_partsP1a, rl_partsP1, Result.andThen]
  simp [ReflectliteValue.flagAddr, loadVar, isAgg, underlying, Tryz.underlying52, hb, Result.andThen, rl_directP1, storeVar, Value.cells, storeCells, Addr.add]
  rw [run_store Tryz.prog W ta _ _ (by rfl)]
  simp [ht, hf]
def ETy (w : World) : Prop := w.cell? ⟨0, 0, none⟩ = some (.iface 146 (.agg #[.pointer (some ⟨5, 35, none⟩)]))
theorem ETy.later {w w' : World} (h : ETy w) (hb : Below w.heap.size w w') : ETy w' := cell_later hb h
set_option maxRecDepth 100000 in
set_option maxHeartbeats 4000000 in
theorem as_hit (e t : Addr) (old : Value) (w : World) (hg : ETy w) (ht0 : w.cell? t = some old) (hf0 : w.frozen? t = false) :
    Calls Tryz.prog 31 #[.iface 52 (.pointer (some e)), .iface 69 (.pointer (some t))] w fun ev w' => ev = .returned (.bool true) ∧ w' = ((((w.alloc (.cells #[.pointer (some t)] 69)).alloc (.cells #[.pointer (some ⟨5, 69, none⟩), .pointer (some ⟨w.heap.size, 0, none⟩), .int .u64 150] 110)).alloc (.cells #[.pointer (some ⟨5, 69, none⟩), .pointer (some ⟨w.heap.size, 0, none⟩), .int .u64 150] 110)).alloc (.cells #[.pointer (some e)] 52)).setCell t (.pointer (some e)) := by
  unfold ETy at hg
  have h6 := @run_callFunc_extern Tryz.prog 63 _ (fun args => ReflectliteValue.unpack (args.getD 0 (.tuple #[]))) Tryz.func63 (by kernel_rfl) (by kernel_rfl) (by kernel_rfl) (by kernel_rfl)
  have h7 := @run_callFunc_extern Tryz.prog 64 _ (ReflectliteValue.methodAny (ReflectliteValue.valueError "reflectlite.Value.Type" 0) (fun t _ _ _ => ReflectliteType.toType t)) Tryz.func64 (by kernel_rfl) (by kernel_rfl) (by kernel_rfl) (by kernel_rfl)
  have h8 := @run_callFunc_extern Tryz.prog 65 _ (ReflectliteValue.method (ReflectliteValue.valueError "reflectlite.Value.IsNil" 0) ReflectliteValue.isNil) Tryz.func65 (by kernel_rfl) (by kernel_rfl) (by kernel_rfl) (by kernel_rfl)
  have h27 := @run_callFunc_extern Tryz.prog 139 _ (ReflectliteType.abiMethod fun t => do pure (.int .u8 (← Rtype.kind t))) Tryz.func139 (by kernel_rfl) (by kernel_rfl) (by kernel_rfl) (by kernel_rfl)
  have h37 := @run_callFunc_extern Tryz.prog 148 _ (ReflectliteType.method ReflectliteType.elem) Tryz.func148 (by kernel_rfl) (by kernel_rfl) (by kernel_rfl) (by kernel_rfl)
  have h38 := @run_callFunc_extern Tryz.prog 149 _ (ReflectliteType.relation "Implements" ReflectliteType.implements_) Tryz.func149 (by kernel_rfl) (by kernel_rfl) (by kernel_rfl) (by kernel_rfl)
  have h10 := @run_callFunc_extern Tryz.prog 67 _ ReflectliteType.typeOf Tryz.func67 (by kernel_rfl) (by kernel_rfl) (by kernel_rfl) (by kernel_rfl)
  have h35 := @run_callFunc_extern Tryz.prog 146 _ (ReflectliteType.relation "AssignableTo" ReflectliteType.assignableTo) Tryz.func146 (by kernel_rfl) (by kernel_rfl) (by kernel_rfl) (by kernel_rfl)
  have h11 := @run_callFunc_extern Tryz.prog 92 _ (ReflectliteValue.method (ReflectliteValue.valueError "reflectlite.Value.Elem" 0) ReflectliteValue.elem) Tryz.func92 (by kernel_rfl) (by kernel_rfl) (by kernel_rfl) (by kernel_rfl)
  have h12 := @run_callFunc_extern Tryz.prog 93 _ ReflectliteValue.set Tryz.func93 (by kernel_rfl) (by kernel_rfl) (by kernel_rfl) (by kernel_rfl)
  have tO := rl_typeOfP1
  have mA := rl_methodAssignableTo
  have a25 := rl_assignableP1
  have v25 := rl_valueP1
  have f6 := rl_valueP2
  have f7 := rl_typeP2
  have mK := rl_methodKind
  have mE := rl_methodElem
  have mI := rl_methodImplements
  have k27 := rl_kindP2
  have k25 := rl_kindP1
  have e27 := rl_elemP2
  have i25 := rl_implementsP1
  have n8 := rl_isNilP2 ⟨w.heap.size, 0, none⟩ t ((w.alloc (.cells #[.pointer (some t)] 69)).alloc (.cells #[.pointer (some ⟨5, 69, none⟩), .pointer (some ⟨w.heap.size, 0, none⟩), .int .u64 150] 110)) (by simp)
  have hlt : 0 < w.heap.size := World.block_lt_of_cell? w _ hg
  have hg2 : ((w.alloc (.cells #[.pointer (some t)] 69)).alloc (.cells #[.pointer (some ⟨5, 69, none⟩), .pointer (some ⟨w.heap.size, 0, none⟩), .int .u64 150] 110)).cell? ⟨0, 0, none⟩ = some (.iface 146 (.agg #[.pointer (some ⟨5, 35, none⟩)])) := by
    rw [World.cell?_alloc_lt _ _ ⟨0, 0, none⟩ (by simp), World.cell?_alloc_lt _ _ ⟨0, 0, none⟩ hlt]; exact hg
  have htl : t.block < w.heap.size := World.block_lt_of_cell? w _ ht0
  have el := rl_elemVP2 ⟨w.heap.size, 0, none⟩ t (((w.alloc (.cells #[.pointer (some t)] 69)).alloc (.cells #[.pointer (some ⟨5, 69, none⟩), .pointer (some ⟨w.heap.size, 0, none⟩), .int .u64 150] 110)).alloc (.cells #[.pointer (some ⟨5, 69, none⟩), .pointer (some ⟨w.heap.size, 0, none⟩), .int .u64 150] 110)) (by rw [World.cell?_alloc_lt _ _ ⟨w.heap.size, 0, none⟩ (by simp; omega), World.cell?_alloc_lt _ _ ⟨w.heap.size, 0, none⟩ (by simp), World.cell?_alloc_at _ _ _ _ rfl]; rfl)
  have st := rl_setP1 t ⟨w.heap.size + 1 + 1 + 1, 0, none⟩ e old ((((w.alloc (.cells #[.pointer (some t)] 69)).alloc (.cells #[.pointer (some ⟨5, 69, none⟩), .pointer (some ⟨w.heap.size, 0, none⟩), .int .u64 150] 110)).alloc (.cells #[.pointer (some ⟨5, 69, none⟩), .pointer (some ⟨w.heap.size, 0, none⟩), .int .u64 150] 110)).alloc (.cells #[.pointer (some e)] 52))
    (by rw [World.cell?_alloc_at _ _ _ _ (by simp)]; rfl)
    (by rw [World.cell?_alloc_lt _ _ t (by simp; omega), World.cell?_alloc_lt _ _ t (by simp; omega), World.cell?_alloc_lt _ _ t (by simp; omega), World.cell?_alloc_lt _ _ t htl]; exact ht0)
    (by rw [World.frozen?_alloc_old _ _ t (by simp; omega), World.frozen?_alloc_old _ _ t (by simp; omega), World.frozen?_alloc_old _ _ t (by simp; omega), World.frozen?_alloc_old _ _ t (Nat.ne_of_lt htl)]; exact hf0)
  go_enter Tryz.func31, Tryz.ntmps31
  go_wp2
  refine wp_loop_rounds 1 ?_
  rw [rounds_succ]
  go_wp2
  go_ret
  exact ⟨rfl, rfl⟩
end Go.Proofs.YtklbdhpnbjhgkaaGreatDoor
