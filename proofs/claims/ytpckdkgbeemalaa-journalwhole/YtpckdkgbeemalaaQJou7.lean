import Derived.Test.YtpckdkgbeemalaaQJou4
import Derived.Test.YtpckdkgbeemalaaQRef12
import Derived.Test.YtpckdkgbeemalaaQRelk
namespace Go.Proofs.Ytpckdkgbeemalaa
open Go.RowKit

/-! assaylaw10's alike: a device and the document's own, in one state -/
def SlA {α : Type} (E : EK α) (n : Nat) (l : List α) (v : Value) (x : World) : Prop := ∃ y c, v = .slice y n c ∧ OwnK E x 0 (.slice y n c) l
theorem SlA.keep {α : Type} {E : EK α} {n : Nat} {l : List α} {v : Value} {x x' : World} (h : SlA E n l v x) (hb : Below x.heap.size x x') : SlA E n l v x' := by
  obtain ⟨y, c, h1, h2⟩ := h
  exact ⟨y, c, h1, OwnK.keep h2 hb⟩
theorem refSectors10 {w : World} {B r : Nat} {st : DSt} {F : List Nat} (h : RefIs w B r st F) (hp : st.pend.length ≤ 1099511627776) :
    Calls Try.prog 51 #[.pointer (some ⟨r, 0, none⟩)] w fun e w' => ∃ y c, e = .returned (.slice y st.last.length c) ∧ OwnK secE w' w.heap.size (.slice y st.last.length c) (over st.last st.pend) ∧ Below w.heap.size w w' := by
  refine (refSectors_any w B r st F h hp).mono ?_
  rintro e w' ⟨g, n, c, rfl, ho, hb⟩
  obtain ⟨cur, hn, -⟩ := ho.heap
  rw [over_len] at hn
  subst hn
  exact ⟨_, c, rfl, ho, hb⟩
section
variable {DevIs : World → Value → DSt → List Nat → List Nat → Prop}
/-- Both, apart, in one state. -/
structure Bo10 (DevIs : World → Value → DSt → List Nat → List Nat → Prop) (B : Nat) (w0 w : World) (a : Addr) (r : Nat) (sd sr : DSt) (F R G : List Nat) : Prop where
  d : DevIs w (.pointer (some a)) sd F R
  r : RefIs w B r sr G
  ap : ∀ q ∈ R, q ∉ G
  ge : ∀ q ∈ R, B ≤ q
  bel : Below B w0 w
  sz : B ≤ w.heap.size
set_option linter.unusedSimpArgs false in
set_option maxRecDepth 100000 in
set_option maxHeartbeats 4000000 in
theorem alike10_any (O : DvOk DevIs) {B : Nat} {w0 w : World} {a : Addr} {r : Nat} {st : DSt} {F R G : List Nat} (h : Bo10 DevIs B w0 w a r st st F R G) (hp9 : st.pend.length ≤ 1099511627776) :
    Calls Try.prog 23 #[.pointer (some a), .pointer (some ⟨r, 0, none⟩)] w fun e w' => e = .returned (.bool true) ∧ Below w.heap.size w w' := by
  have hAc := O.acts _ _ _ _ _ h.d
  have hok := O.ok h.d
  have hlo := hok.hi
  go_enter Try.func23, Try.ntmps23
  go_wp2_with fail
  go_at_call 15
  refine hAc.mono ?_
  rintro e W ⟨rfl, hb⟩
  have hd := O.later h.d hb
  have hr := h.r.later hb
  obtain ⟨vl, vp, v1, v2, v3, -⟩ := id hr
  obtain ⟨xl, cl, rfl⟩ := (v2.isK secE_ok).len
  obtain ⟨xp, cp, rfl⟩ := (v3.isK wrE_ok).len
  obtain ⟨c0, c1, -, c3, c4, c5, c6⟩ := v1.cells
  obtain ⟨m, hm⟩ : ∃ q, st.last.length = q := ⟨_, rfl⟩
  obtain ⟨np, hnp⟩ : ∃ q, st.pend.length = q := ⟨_, rfl⟩
  obtain ⟨O9, hO9⟩ : ∃ q, over st.last st.pend = q := ⟨_, rfl⟩
  have hO9l : O9.length = m := by rw [← hO9, over_len, hm]
  rw [hm] at c0 v2
  rw [hnp] at c1 v3
  have hvl : Hid (IsK secE W (.slice xl m cl) st.last) := OwnK.isK secE_ok v2
  have hvp : Hid (IsK wrE W (.slice xp np cp) st.pend) := OwnK.isK wrE_ok v3
  have hd9 : Hid (DevIs W (.pointer (some a)) st F R) := hd
  have hDu := fun x (hp : Below W.heap.size W x) => O.durable x _ _ _ _ (O.later hd hp)
  have hPe := fun x (hp : Below W.heap.size W x) => O.pending x _ _ _ _ (O.later hd hp) (by omega)
  have hSe := fun x (hp : Below W.heap.size W x) => O.sectors x _ _ _ _ (O.later hd hp) (by omega)
  have hRs := fun x (hp : Below W.heap.size W x) => refSectors10 (hr.later hp) (by omega)
  simp only [hm, hnp, hO9] at hDu hPe hSe hRs
  have HB : Hid (Below w.heap.size w W) := hb
  clear hAc hd hr v1 v2 v3 hb h hok hO9
  go_upto_region 2 with fail
  refine wp_reliesT [Fx (.pointer (some a)), Fx (.bool st.down), Fx (.pointer (some ⟨r, 0, none⟩)), Fx (.pointer (some ⟨r, 0, none⟩)), Fx (.pointer (some ⟨r, 3, none⟩)), Fx (.bool st.down), Fx (.bool true), Fx (.bool true), Fx (.int .i64 ((st.rd : Int))), Fx (.pointer (some ⟨r, 0, none⟩)), Fx (.pointer (some ⟨r, 0, none⟩)), Fx (.pointer (some ⟨r, 4, none⟩)), Fx (.int .i64 ((st.rd : Int))), Fx (.bool true), Fx (.bool true), Fx (.bool true), Fx (.int .i64 ((st.wt : Int))), Fx (.pointer (some ⟨r, 0, none⟩)), Fx (.pointer (some ⟨r, 0, none⟩)), Fx (.pointer (some ⟨r, 5, none⟩)), Fx (.int .i64 ((st.wt : Int))), Fx (.bool true), Fx (.bool true), Fx (.bool true), Fx (.int .i64 ((st.fl : Int))), Fx (.pointer (some ⟨r, 0, none⟩)), Fx (.pointer (some ⟨r, 0, none⟩)), Fx (.pointer (some ⟨r, 6, none⟩)), Fx (.int .i64 ((st.fl : Int))), Fx (.bool true), Fx (.bool true), Fx (.bool true), Fx (.pointer (some a)), SlA secE m st.last, Fx (.pointer (some ⟨r, 0, none⟩)), Fx (.pointer (some ⟨r, 0, none⟩)), Fx (.pointer (some ⟨r, 0, none⟩)), Fx (.slice xl m cl), Fx (.bool true), Fx (.bool true), Fx (.bool true), Fx (.pointer (some a)), SlA wrE np st.pend, Fx (.pointer (some ⟨r, 0, none⟩)), Fx (.pointer (some ⟨r, 0, none⟩)), Fx (.pointer (some ⟨r, 1, none⟩)), Fx (.slice xp np cp), Fx (.bool true), Fx (.bool true), Fx (.bool true), Fx (.pointer (some a)), SlA secE m O9, Fx (.pointer (some ⟨r, 0, none⟩)), SlA secE m O9, Fx (.bool true), Fx (.bool true)] (by kernel_rfl) (by kernel_rfl) ?_ ?_ ?_
  · repeat' (first | exact all_nil | apply all_cons)
    all_goals intro v y y' hv hb
    all_goals first | exact Fx_mono _ _ _ _ hv hb | exact SlA.keep hv hb
  · refine ⟨?_, ?_, ?_, ?_, ?_, ?_, ?_, ?_, ?_, ?_, ?_, ?_, ?_, ?_, ?_, ?_, ?_, ?_, ?_, ?_, ?_, ?_, ?_, ?_, ?_, ?_, ?_, ?_, ?_, ?_, ?_, ?_, ?_, ?_, ?_, ?_, ?_, ?_, ?_, ?_, ?_, ?_, ?_, ?_, ?_, ?_, ?_, ?_, ?_, ?_, ?_, ?_, ?_, ?_, ?_, ?_, trivial⟩
    all_goals
      intro ρ x hp ρc ρg ρf ho hd
      have o0 : ρ (.tmp 0) = .pointer (some a) := ho 0 rfl
      have o1 : ρ (.tmp 1) = .pointer (some ⟨r, 0, none⟩) := ho 1 rfl
      have o5 : ρ (.tmp 5) = .int .i64 ((st.rd : Int)) := ho 5 rfl
      have o6 : ρ (.tmp 6) = .int .i64 ((st.wt : Int)) := ho 6 rfl
      have o7 : ρ (.tmp 7) = .int .i64 ((st.fl : Int)) := ho 7 rfl
      clear ho
      have q0 := cell_later hp c0
      have q1 := cell_later hp c1
      have q3 := cell_later hp c3
      have q4 := cell_later hp c4
      have q5 := cell_later hp c5
      have q6 := cell_later hp c6
      simp only [depsR, depR, slotR, Fx, List.getElem?_cons_succ, List.getElem?_cons_zero, Region.binds, forall_const] at hd
      simp only [guardR]
      go_split_ands
    · go_simp
    · go_simp
      refine (O.down x _ _ _ _ (O.later hd9.out hp)).mono ?_
      rintro e w' ⟨rfl, hw⟩
      exact ⟨_, rfl, rfl, hw⟩
    · go_simp
    · go_simp
    · go_simp
    · go_simp
    · go_simp
    · go_simp
    · refine ⟨fun _ => ?_, fun hy => absurd (by simp [yieldR, slotR, *]) hy⟩
      go_simp
    · refine ⟨fun _ => ?_, fun hy => absurd (by simp [yieldR, slotR, *]) hy⟩
      go_simp
    · refine ⟨fun _ => ?_, fun hy => absurd (by simp [yieldR, slotR, *]) hy⟩
      go_simp
    · refine ⟨fun _ => ?_, fun hy => absurd (by simp [yieldR, slotR, *]) hy⟩
      go_simp
    · refine ⟨fun _ => ?_, fun hy => absurd (by simp [yieldR, slotR, *]) hy⟩
      go_simp
    · refine ⟨fun _ => ?_, fun hy => absurd (by simp [yieldR, slotR, *]) hy⟩
      go_simp
    · go_simp
    · go_simp
    · refine ⟨fun _ => ?_, fun hy => absurd (by simp [yieldR, slotR, *]) hy⟩
      go_simp
    · refine ⟨fun _ => ?_, fun hy => absurd (by simp [yieldR, slotR, *]) hy⟩
      go_simp
    · refine ⟨fun _ => ?_, fun hy => absurd (by simp [yieldR, slotR, *]) hy⟩
      go_simp
    · refine ⟨fun _ => ?_, fun hy => absurd (by simp [yieldR, slotR, *]) hy⟩
      go_simp
    · refine ⟨fun _ => ?_, fun hy => absurd (by simp [yieldR, slotR, *]) hy⟩
      go_simp
    · refine ⟨fun _ => ?_, fun hy => absurd (by simp [yieldR, slotR, *]) hy⟩
      go_simp
    · go_simp
    · go_simp
    · refine ⟨fun _ => ?_, fun hy => absurd (by simp [yieldR, slotR, *]) hy⟩
      go_simp
    · refine ⟨fun _ => ?_, fun hy => absurd (by simp [yieldR, slotR, *]) hy⟩
      go_simp
    · refine ⟨fun _ => ?_, fun hy => absurd (by simp [yieldR, slotR, *]) hy⟩
      go_simp
    · refine ⟨fun _ => ?_, fun hy => absurd (by simp [yieldR, slotR, *]) hy⟩
      go_simp
    · refine ⟨fun _ => ?_, fun hy => absurd (by simp [yieldR, slotR, *]) hy⟩
      go_simp
    · refine ⟨fun _ => ?_, fun hy => absurd (by simp [yieldR, slotR, *]) hy⟩
      go_simp
    · go_simp
    · go_simp
    · refine ⟨fun _ => ?_, fun hy => absurd (by simp [yieldR, slotR, *]) hy⟩
      go_simp
    · refine ⟨fun _ => ?_, fun hy => absurd (by simp [yieldR, slotR, *]) hy⟩
      go_simp
      refine (hDu x hp).mono ?_
      rintro e w' ⟨y, c, rfl, ho9, hw⟩
      exact ⟨_, rfl, ⟨y, c, rfl, OwnK.le ho9 (Nat.zero_le _)⟩, hw⟩
    · refine ⟨fun _ => ?_, fun hy => absurd (by simp [yieldR, slotR, *]) hy⟩
      go_simp
    · refine ⟨fun _ => ?_, fun hy => absurd (by simp [yieldR, slotR, *]) hy⟩
      go_simp
    · refine ⟨fun _ => ?_, fun hy => absurd (by simp [yieldR, slotR, *]) hy⟩
      go_simp
    · refine ⟨fun _ => ?_, fun hy => absurd (by simp [yieldR, slotR, *]) hy⟩
      go_simp
    · refine ⟨fun _ => ?_, fun hy => absurd (by simp [yieldR, slotR, *]) hy⟩
      obtain ⟨y, c, hv, ho9⟩ : SlA secE m st.last (ρ (.tmp 47)) x := by first | exact hd.1 | assumption
      go_simp
      refine (same10_any y xl c cl m m st.last st.last x hm hm (OwnK.isK secE_ok ho9) (hvl.out.kept hp) (by omega)).mono ?_
      rintro e w' ⟨rfl, hw⟩
      exact ⟨_, rfl, by rw [decide_eq_true rfl]; rfl, hw⟩
    · go_simp
    · go_simp
    · refine ⟨fun _ => ?_, fun hy => absurd (by simp [yieldR, slotR, *]) hy⟩
      go_simp
    · refine ⟨fun _ => ?_, fun hy => absurd (by simp [yieldR, slotR, *]) hy⟩
      go_simp
      refine (hPe x hp).mono ?_
      rintro e w' ⟨y, c, rfl, ho9, hw⟩
      exact ⟨_, rfl, ⟨y, c, rfl, OwnK.le ho9 (Nat.zero_le _)⟩, hw⟩
    · refine ⟨fun _ => ?_, fun hy => absurd (by simp [yieldR, slotR, *]) hy⟩
      go_simp
    · refine ⟨fun _ => ?_, fun hy => absurd (by simp [yieldR, slotR, *]) hy⟩
      go_simp
    · refine ⟨fun _ => ?_, fun hy => absurd (by simp [yieldR, slotR, *]) hy⟩
      go_simp
    · refine ⟨fun _ => ?_, fun hy => absurd (by simp [yieldR, slotR, *]) hy⟩
      go_simp
    · refine ⟨fun _ => ?_, fun hy => absurd (by simp [yieldR, slotR, *]) hy⟩
      obtain ⟨y, c, hv, ho9⟩ : SlA wrE np st.pend (ρ (.tmp 56)) x := by first | exact hd.1 | assumption
      go_simp
      refine (writes10_any y xp c cp np np st.pend st.pend x hnp hnp (OwnK.isK wrE_ok ho9) (hvp.out.kept hp) (by omega)).mono ?_
      rintro e w' ⟨rfl, hw⟩
      exact ⟨_, rfl, by rw [decide_eq_true rfl]; rfl, hw⟩
    · go_simp
    · go_simp
    · refine ⟨fun _ => ?_, fun hy => absurd (by simp [yieldR, slotR, *]) hy⟩
      go_simp
    · refine ⟨fun _ => ?_, fun hy => absurd (by simp [yieldR, slotR, *]) hy⟩
      go_simp
      refine (hSe x hp).mono ?_
      rintro e w' ⟨y, c, rfl, ho9, hw⟩
      exact ⟨_, rfl, ⟨y, c, rfl, OwnK.le ho9 (Nat.zero_le _)⟩, hw⟩
    · refine ⟨fun _ => ?_, fun hy => absurd (by simp [yieldR, slotR, *]) hy⟩
      go_simp
    · refine ⟨fun _ => ?_, fun hy => absurd (by simp [yieldR, slotR, *]) hy⟩
      go_simp
      refine (hRs x hp).mono ?_
      rintro e w' ⟨y, c, rfl, ho9, hw⟩
      exact ⟨_, rfl, ⟨y, c, rfl, OwnK.le ho9 (Nat.zero_le _)⟩, hw⟩
    · refine ⟨fun _ => ?_, fun hy => absurd (by simp [yieldR, slotR, *]) hy⟩
      obtain ⟨⟨y, c, hv, ho9⟩, ⟨y2, c2, hv2, ho2⟩⟩ : SlA secE m O9 (ρ (.tmp 65)) x ∧ SlA secE m O9 (ρ (.tmp 67)) x := by first | exact ⟨hd.1, hd.2.1⟩ | (constructor <;> assumption)
      go_simp
      refine (same10_any y y2 c c2 m m O9 O9 x hO9l hO9l (OwnK.isK secE_ok ho9) (OwnK.isK secE_ok ho2) (by omega)).mono ?_
      rintro e w' ⟨rfl, hw⟩
      exact ⟨_, rfl, by rw [decide_eq_true rfl]; rfl, hw⟩
    · go_simp
  · intro vs x1 hp hw
    simp only [owed, Fx] at hw
    obtain ⟨e0, e1, e2, e3, e4, e5, e6, e7, e8, e9, e10, e11, e12, e13, e14, e15, e16, e17, e18, e19, e20, e21, e22, e23, e24, e25, e26, e27, e28, e29, e30, e31, e32, ⟨y33, c33, e33, -⟩, e34, e35, e36, e37, e38, e39, e40, e41, ⟨y42, c42, e42, -⟩, e43, e44, e45, e46, e47, e48, e49, e50, ⟨y51, c51, e51, -⟩, e52, ⟨y53, c53, e53, -⟩, e54, e55, -⟩ := hw
    simp only [List.length_cons, List.length_nil, List.take_succ_cons, List.take_zero, List.drop_succ_cons, List.drop_zero, asg, List.cons_append, List.nil_append, e0, e1, e2, e3, e4, e5, e6, e7, e8, e9, e10, e11, e12, e13, e14, e15, e16, e17, e18, e19, e20, e21, e22, e23, e24, e25, e26, e27, e28, e29, e30, e31, e32, e33, e34, e35, e36, e37, e38, e39, e40, e41, e42, e43, e44, e45, e46, e47, e48, e49, e50, e51, e52, e53, e54, e55]
    clear e0 e1 e2 e3 e4 e5 e6 e7 e8 e9 e10 e11 e12 e13 e14 e15 e16 e17 e18 e19 e20 e21 e22 e23 e24 e25 e26 e27 e28 e29 e30 e31 e32 e33 e34 e35 e36 e37 e38 e39 e40 e41 e42 e43 e44 e45 e46 e47 e48 e49 e50 e51 e52 e53 e54 e55
    have HB1 : Hid (Below w.heap.size w x1) := HB.out.trans (hp.mono HB.out.size)
    clear hp
    go_wp2_with fail
    go_ret
    exact ⟨rfl, HB1.out⟩
end
end Go.Proofs.Ytpckdkgbeemalaa
namespace Go.Proofs.Ytpckdkgbeemalaa
open Go.RowKit

/-! assaylaw10's done -/
def opA (kd k : Int) (xl : Option Addr) (nl cl : Nat) (xs : Option Addr) (ns cs : Nat) (v : Sc) : Array Value := #[.int .i64 kd, .int .i64 k, .slice xl nl cl, .slice xs ns cs] ++ secA v
@[go_sem] theorem opA_size (kd k : Int) (xl : Option Addr) (nl cl : Nat) (xs : Option Addr) (ns cs : Nat) (v : Sc) : (opA kd k xl nl cl xs ns cs v).size = 68 := by simp [opA]
@[go_sem] theorem opA_one (kd k : Int) (xl : Option Addr) (nl cl : Nat) (xs : Option Addr) (ns cs : Nat) (v : Sc) : OneC (opA kd k xl nl cl xs ns cs v) = true := by
  have := secA_one v
  simp only [OneC, opA, Array.all_append, this, Bool.and_true]
  simp [Value.oneCell']
theorem opA_get (kd k : Int) (xl : Option Addr) (nl cl : Nat) (xs : Option Addr) (ns cs : Nat) (v : Sc) : (opA kd k xl nl cl xs ns cs v)[0]? = some (.int .i64 kd) ∧ (opA kd k xl nl cl xs ns cs v)[1]? = some (.int .i64 k) ∧ (opA kd k xl nl cl xs ns cs v)[2]? = some (.slice xl nl cl) ∧ (opA kd k xl nl cl xs ns cs v)[3]? = some (.slice xs ns cs) ∧ ∀ j, j < 64 → (opA kd k xl nl cl xs ns cs v)[4 + j]? = (secA v)[j]? := by
  refine ⟨by unfold opA; rw [Array.getElem?_append_left (by simp)]; rfl, by unfold opA; rw [Array.getElem?_append_left (by simp)]; rfl, by unfold opA; rw [Array.getElem?_append_left (by simp)]; rfl, by unfold opA; rw [Array.getElem?_append_left (by simp)]; rfl, fun j _ => ?_⟩
  unfold opA
  rw [Array.getElem?_append_right (by simp)]
  congr 1
  simp
section
variable (ρ : Operand → Value) (dst : Option Tmp) (ty : TypeId) (pos : String) (after : Array Edge) (guard : Option (Nat × Bool))
@[go_sem ↓] theorem execOp_load_op10 (x : Operand) : execOp ρ { dst, op := .load 62 x, type := ty, pos, after, guard } = bigLoad 62 (ρ x) := rfl
@[go_sem ↓] theorem execOp_store_op10 (x y : Operand) : execOp ρ { dst, op := .store 62 x y, type := ty, pos, after, guard } = bigStore 62 (ρ x) (ρ y) := rfl
@[go_sem ↓] theorem execOp_alloc_op10 : execOp ρ { dst, op := .alloc 62, type := ty, pos, after, guard } = bigAlloc 62 := rfl
@[go_sem ↓] theorem execOp_box_op10 (x : Operand) : execOp ρ { dst, op := .box 62 x, type := ty, pos, after, guard } = bigBox 62 (ρ x) := rfl
end
theorem info_op10 : (Try.prog.info? 62).map (fun i => (i.zero, i.size)) = some (some (.agg (opA 0 0 none 0 0 none 0 0 secZ)), 68) := by kernel_rfl
theorem sizeT_op10 : (Try.prog.info? 62).map (·.size) = some 68 := (zero_of_info info_op10).2
@[go_sem] theorem run_load_op10 (w : World) (g : Nat) (h : rowL w g = true) (hs : (rowAt w g).size = 68) : (bigLoad 62 (.pointer (some ⟨g, 0, none⟩))).run Try.prog w = .ok (.value (.agg (rowAt w g))) w := by
  rw [run_bigLoad 62 _ 68 Try.underlying62 rfl sizeT_op10 w g 0 h (by omega), Nat.zero_add, Array.extract_eq_self_of_le (by omega)]
@[go_sem] theorem run_store_op10 (w : World) (g : Nat) (c : Array Value) (h : rowL w g = true) (hs : (rowAt w g).size = 68) (hc : c.size = 68) (h1 : OneC c = true) : (bigStore 62 (.pointer (some ⟨g, 0, none⟩)) (.agg c)).run Try.prog w = .ok .skip (w.setRow g c) := by
  rw [run_bigStore 62 68 sizeT_op10 w g 0 c h hc (by omega) h1, layC_all _ _ (by omega)]
@[go_sem] theorem run_alloc_op10 (w : World) : (bigAlloc 62).run Try.prog w = .ok (.value (.pointer (some ⟨w.heap.size, 0, none⟩))) (w.alloc (.cells (opA 0 0 none 0 0 none 0 0 secZ) 62)) := by
  simp only [bigAlloc, Instr.alloc, Sem.run_bind, (zero_of_info info_op10).1 w, Result.andThen_ok]
  rfl
@[go_sem] theorem run_box_op10 (w : World) (c : Array Value) : (bigBox 62 (.agg c)).run Try.prog w = .ok (.value (.pointer (some ⟨w.heap.size, 0, none⟩))) (w.alloc (.cells c 62)) := run_bigBox _ c w
/-- What lies below B, and the blocks A, are as they were. -/
structure KA10 (B : Nat) (A : List Nat) (w w' : World) : Prop where
  os : w'.os = w.os
  tape : w'.tape = w.tape
  output : w'.output = w.output
  size : w.heap.size ≤ w'.heap.size
  block : ∀ k, (k < B ∨ k ∈ A) → k < w.heap.size → w'.heap[k]? = w.heap[k]?
theorem kokA10 {B : Nat} {A : List Nat} : KOk (KA10 B A) := ⟨fun h => ⟨h.os, h.tape, h.output, h.size, fun k _ hk => h.block k hk⟩, fun h k => ⟨k.os.trans h.os, k.tape.trans h.tape, k.output.trans h.output, Nat.le_trans h.size k.size, fun i hb hi => (k.block i hb (Nat.lt_of_lt_of_le hi h.size)).trans (h.block i hb hi)⟩⟩
theorem IsK.ka10 {α : Type} {E : EK α} {B : Nat} {A : List Nat} {w w' : World} {g n c : Nat} {l : List α} (h : IsK E w (.slice (some ⟨g, 0, none⟩) n c) l) (hk : KA10 B A w w') (hg : g ∈ A) : IsK E w' (.slice (some ⟨g, 0, none⟩) n c) l := by
  obtain ⟨y, d, he, hc, hd⟩ := h
  refine ⟨y, d, he, hc, fun i e hi => ?_⟩
  simp only [Value.slice.injEq] at he
  obtain ⟨rfl, -, -⟩ := he
  obtain ⟨b, o, e9, h1, h2⟩ := hd i e hi
  cases e9
  exact ⟨g, 0, rfl, Nat.lt_of_lt_of_le h1 hk.size, range_block h2 (hk.block g (.inr hg) h1)⟩
theorem IsK.kb10 {α : Type} {E : EK α} {B : Nat} {A : List Nat} {w0 w w' : World} {x : Option Addr} {n c : Nat} {l : List α} (h : IsK E w0 (.slice x n c) l) (hB : w0.heap.size ≤ B) (hb : Below B w0 w) (hk : KA10 B A w w') : IsK E w' (.slice x n c) l := by
  obtain ⟨y, d, he, hc, hd⟩ := h
  refine ⟨y, d, he, hc, fun i e hi => ?_⟩
  obtain ⟨b, o, e9, h1, h2⟩ := hd i e hi
  exact ⟨b, o, e9, Nat.lt_of_lt_of_le h1 (Nat.le_trans hb.size hk.size), range_block h2 ((hk.block b (.inl (Nat.lt_of_lt_of_le h1 hB)) (Nat.lt_of_lt_of_le h1 hb.size)).trans (hb.block b (Nat.lt_of_lt_of_le h1 hB)))⟩
theorem OwnK.held11 {α : Type} {E : EK α} {w w' : World} {B g n c : Nat} {ds : List α} (h : OwnK E w B (.slice (some ⟨g, 0, none⟩) n c) ds) (hb : w'.heap[g]? = w.heap[g]?) : OwnK E w' B (.slice (some ⟨g, 0, none⟩) n c) ds := by
  obtain ⟨h1, h2⟩ := h
  refine ⟨h1, ?_⟩
  rcases h2 with hn | ⟨q, cap, cur, hv, hb', hg, r⟩
  · exact .inl hn
  · refine .inr ⟨q, cap, cur, hv, hb', ?_, r⟩
    simp only [Value.slice.injEq, Option.some.injEq, Addr.mk.injEq] at hv
    obtain ⟨⟨rfl, -⟩, -⟩ := hv
    rw [hb]; exact hg
theorem cell_ka10 {B : Nat} {A : List Nat} {w w' : World} {g i : Nat} {v : Value} (h : w.cell? ⟨g, i, none⟩ = some v) (hk : KA10 B A w w') (hg : g ∈ A) : w'.cell? ⟨g, i, none⟩ = some v := by
  have h1 := World.block_lt_of_cell? w _ h
  have := hk.block g (.inr hg) h1
  unfold World.cell? at h ⊢
  rw [this]; exact h
theorem rg_ka10 {B : Nat} {A : List Nat} {w w' : World} {g o : Nat} {s : Sc} (h : rgOk w g o 64 = true) (hv : rg w g o 64 = secA s) (hk : KA10 B A w w') (hg : g ∈ A) : rgOk w' g o 64 = true ∧ rg w' g o 64 = secA s := by
  have h1 := rangeAt_rg h
  rw [hv] at h1
  have hlt : g < w.heap.size := World.block_lt_of_cell? w _ (h1 0 _ (by rw [Array.getElem?_toList]; exact secA_get s 0 (by omega)))
  have h2 := rg_of (k := 64) (range_block h1 (hk.block g (.inr hg) hlt)) (by simp)
  rw [Array.toArray_toList] at h2
  exact h2
theorem isG_lt11 {w : World} {x : Addr} {n c : Nat} {xs : List Value} (h : IsG w (.slice (some x) n c) xs) (h0 : xs ≠ []) : x.block < w.heap.size := by
  rcases h with ⟨h1, -⟩ | ⟨y, d, he, hc⟩
  · cases h1
  · simp only [Value.slice.injEq, Option.some.injEq] at he
    obtain ⟨rfl, -, -⟩ := he
    have := hc 0 (List.length_pos_iff.2 h0)
    exact World.block_lt_of_cell? w _ this
section
variable {DevIs : World → Value → DSt → List Nat → List Nat → Prop}
/-- Both devices, apart from each other and from the blocks A. -/
def BoA (DevIs : World → Value → DSt → List Nat → List Nat → Prop) (B : Nat) (w0 : World) (A : List Nat) (w : World) (a : Addr) (r : Nat) (sd sr : DSt) : Prop :=
  ∃ F R G, Bo10 DevIs B w0 w a r sd sr F R G ∧ (∀ q ∈ R, q ∉ A) ∧ (∀ q ∈ G, q ∉ A) ∧ (∀ q ∈ A, q < w.heap.size)
variable {B : Nat} {w0 w w' : World} {A : List Nat} {a : Addr} {r : Nat} {sd sr st' : DSt}
theorem BoA.later (O : DvOk DevIs) (h : BoA DevIs B w0 A w a r sd sr) (hb : Below w.heap.size w w') : BoA DevIs B w0 A w' a r sd sr := by
  obtain ⟨F, R, G, h1, h2, h3, h4⟩ := h
  exact ⟨F, R, G, ⟨O.later h1.d hb, h1.r.later hb, h1.ap, h1.ge, h1.bel.trans (hb.mono h1.sz), Nat.le_trans h1.sz hb.size⟩, h2, h3, fun q hq => Nat.lt_of_lt_of_le (h4 q hq) hb.size⟩
theorem BoA.add (O : DvOk DevIs) (h : BoA DevIs B w0 A w a r sd sr) (hb : Below w.heap.size w w') (g : Nat) (hg : w.heap.size ≤ g) (hl : g < w'.heap.size) : BoA DevIs B w0 (g :: A) w' a r sd sr := by
  have h' := h.later O hb
  obtain ⟨F, R, G, h1, h2, h3, h4⟩ := h
  obtain ⟨F, R, G, h1, h2, h3, h4⟩ : ∃ F R G, Bo10 DevIs B w0 w' a r sd sr F R G ∧ (∀ q ∈ R, q ∉ g :: A) ∧ (∀ q ∈ G, q ∉ g :: A) ∧ (∀ q ∈ A, q < w'.heap.size) := ⟨F, R, G, ⟨O.later h1.d hb, h1.r.later hb, h1.ap, h1.ge, h1.bel.trans (hb.mono h1.sz), Nat.le_trans h1.sz hb.size⟩, fun q hq hm => by
      rcases List.mem_cons.1 hm with rfl | hm
      · have := O.lt h1.d q hq; omega
      · exact h2 q hq hm, fun q hq hm => by
      rcases List.mem_cons.1 hm with rfl | hm
      · have := (h1.r.lt q hq).2; omega
      · exact h3 q hq hm, fun q hq => Nat.lt_of_lt_of_le (h4 q hq) hb.size⟩
  exact ⟨F, R, G, h1, h2, h3, fun q hq => by
    rcases List.mem_cons.1 hq with rfl | hq
    · exact hl
    · exact h4 q hq⟩
theorem BoA.turnD (O : DvOk DevIs) {F R G : List Nat} (h1 : Bo10 DevIs B w0 w a r sd sr F R G) (h2 : ∀ q ∈ R, q ∉ A) (h3 : ∀ q ∈ G, q ∉ A) (h4 : ∀ q ∈ A, q < w.heap.size) (hk : ∃ F' R', DevIs w' (.pointer (some a)) st' F' R' ∧ (∀ q ∈ F', q ∈ F ∨ w.heap.size ≤ q) ∧ (∀ q ∈ R', q ∈ R ∨ w.heap.size ≤ q) ∧ Keep F w w') : BoA DevIs B w0 A w' a r st' sr ∧ KA10 B A w w' := by
  obtain ⟨F', R', k1, k2, k3, k4⟩ := hk
  have hs := O.sub h1.d
  refine ⟨⟨F', R', G, ⟨k1, h1.r.keeps k4 fun q hq hm => h1.ap q (hs q hm) hq, fun q hq hm => ?_, fun q hq => ?_, h1.bel.trans (k4.below (fun q hq => h1.ge q (hs q hq)) h1.sz), Nat.le_trans h1.sz k4.size⟩, fun q hq hm => ?_, h3, fun q hq => Nat.lt_of_lt_of_le (h4 q hq) k4.size⟩, ⟨k4.os, k4.tape, k4.output, k4.size, fun k hk hl => k4.block k hl fun hm => ?_⟩⟩
  · rcases k3 q hq with hq | hq
    · exact h1.ap q hq hm
    · have := (h1.r.lt q hm).2; omega
  · rcases k3 q hq with hq | hq
    · exact h1.ge q hq
    · have := h1.sz; omega
  · rcases k3 q hq with hq | hq
    · exact h2 q hq hm
    · have := h4 q hm; omega
  · rcases hk with hk | hk
    · have := h1.ge k (hs k hm); omega
    · exact h2 k (hs k hm) hk
theorem BoA.turnR (O : DvOk DevIs) {F R G : List Nat} (h1 : Bo10 DevIs B w0 w a r sd sr F R G) (h2 : ∀ q ∈ R, q ∉ A) (h3 : ∀ q ∈ G, q ∉ A) (h4 : ∀ q ∈ A, q < w.heap.size) (hk : RefPost w B r G st' w') : BoA DevIs B w0 A w' a r sd st' ∧ KA10 B A w w' := by
  obtain ⟨G', k1, k2, k4⟩ := hk
  have hG := h1.r.lt
  refine ⟨⟨F, R, G', ⟨O.keeps h1.d k4 fun q hq hm => h1.ap q hq hm, k1, fun q hq hm => ?_, h1.ge, h1.bel.trans (k4.below (fun q hq => (hG q hq).1) h1.sz), Nat.le_trans h1.sz k4.size⟩, h2, fun q hq hm => ?_, fun q hq => Nat.lt_of_lt_of_le (h4 q hq) k4.size⟩, ⟨k4.os, k4.tape, k4.output, k4.size, fun k hk hl => k4.block k hl fun hm => ?_⟩⟩
  · rcases k2 q hm with hm | hm
    · exact h1.ap q hq hm
    · have := O.lt h1.d q hq; omega
  · rcases k2 q hq with hq | hq
    · exact h3 q hq hm
    · have := h4 q hm; omega
  · rcases hk with hk | hk
    · have := (hG k hm).1; omega
    · exact h3 k hm hk
def BoI (DevIs : World → Value → DSt → List Nat → List Nat → Prop) (B : Nat) (w0 : World) (A : List Nat) (a : Addr) (r : Nat) (st st' : DSt) : List Value → World → Prop
  | [], x => BoA DevIs B w0 A x a r st st
  | [_], x => BoA DevIs B w0 A x a r st' st
  | _ :: _ :: _, x => BoA DevIs B w0 A x a r st' st'
theorem BoI_later (O : DvOk DevIs) {st : DSt} : ∀ vs x x', BoI DevIs B w0 A a r st st' vs x → Below x.heap.size x x' → BoI DevIs B w0 A a r st st' vs x'
  | [], _, _, h, hb => BoA.later O h hb
  | [_], _, _, h, hb => BoA.later O h hb
  | _ :: _ :: _, _, _, h, hb => BoA.later O h hb
theorem bo_do (O : DvOk DevIs) (J : JOk DevIs) {st : DSt} {gl nl c9 : Nat} {ol : List Wr} (h : BoA DevIs B w0 A w a r st sr) (hl : IsK wrE w (.slice (some ⟨gl, 0, none⟩) nl c9) ol) (hol : ol.length = nl) (hnl : nl ≤ 1954687338211) (hsm : StSm st) (hB : WrB ol) (hg : gl ∈ A) :
    Calls Try.prog 17 #[.pointer (some a), .slice (some ⟨gl, 0, none⟩) nl c9] w fun e w' => e = .returned (.int .i64 (doR st ol)) ∧ BoA DevIs B w0 A w' a r (doS st ol) sr ∧ KA10 B A w w' := by
  obtain ⟨F, R, G, h1, h2, h3, h4⟩ := h
  refine (J.do_ w _ st F R _ nl c9 ol h1.d hsm hol (by omega) hl (fun b hb hm => by cases hb; exact h2 _ (O.sub h1.d _ hm) hg) hB).mono ?_
  rintro e w' ⟨rfl, k⟩
  exact ⟨rfl, BoA.turnD O h1 h2 h3 h4 k⟩
theorem bo_rep (O : DvOk DevIs) (J : JOk DevIs) {st : DSt} (h : BoA DevIs B w0 A w a r st sr) (hsm : StSm st) :
    Calls Try.prog 10 #[.pointer (some a)] w fun e w' => e = .returned (.tuple #[.int .i64 (repK st), .int .i64 (repE st)]) ∧ BoA DevIs B w0 A w' a r (repS st) sr ∧ KA10 B A w w' := by
  obtain ⟨F, R, G, h1, h2, h3, h4⟩ := h
  refine (J.replay w _ st F R h1.d hsm).mono ?_
  rintro e w' ⟨rfl, k⟩
  exact ⟨rfl, BoA.turnD O h1 h2 h3 h4 k⟩
theorem bo_clr (O : DvOk DevIs) (J : JOk DevIs) {st : DSt} (h : BoA DevIs B w0 A w a r st sr) (hsm : StSm st) :
    Calls Try.prog 25 #[.pointer (some a)] w fun e w' => e = .returned (.int .i64 (jpR st clrL)) ∧ BoA DevIs B w0 A w' a r (jpS st clrL) sr ∧ KA10 B A w w' := by
  obtain ⟨F, R, G, h1, h2, h3, h4⟩ := h
  refine (J.clear_ w _ st F R h1.d hsm).mono ?_
  rintro e w' ⟨rfl, k⟩
  exact ⟨rfl, BoA.turnD O h1 h2 h3 h4 k⟩
theorem bo_stop (O : DvOk DevIs) {st : DSt} (h : BoA DevIs B w0 A w a r st sr) (k : Int) (hk : i64w k) :
    Calls Try.prog 9 #[.pointer (some a), .int .i64 k] w fun e w' => e = .returned (.tuple #[]) ∧ BoA DevIs B w0 A w' a r (stSt st k) sr ∧ KA10 B A w w' := by
  obtain ⟨F, R, G, h1, h2, h3, h4⟩ := h
  refine (O.stop w _ st F R k h1.d hk.1 hk.2).mono ?_
  rintro e w' ⟨rfl, q⟩
  exact ⟨rfl, BoA.turnD O h1 h2 h3 h4 q⟩
theorem bo_wr (O : DvOk DevIs) {st : DSt} (h : BoA DevIs B w0 A w a r st sr) (v : Sc) (hsm : StSm st) :
    Calls Try.prog 48 #[.pointer (some a), .int .i64 2, .agg (secA v)] w fun e w' => e = .returned (.int .i64 (wrRes st 2)) ∧ BoA DevIs B w0 A w' a r (wrSt st 2 v) sr ∧ KA10 B A w w' := by
  obtain ⟨F, R, G, h1, h2, h3, h4⟩ := h
  have s1 := hsm.pend
  have s2 := hsm.wt
  refine (O.write w _ st F R 2 v h1.d (by omega) (by omega) (by omega) (by omega)).mono ?_
  rintro e w' ⟨rfl, q, -⟩
  exact ⟨rfl, BoA.turnD O h1 h2 h3 h4 q⟩
theorem bo_re (O : DvOk DevIs) {st : DSt} {xs : Option Addr} {ns cs : Nat} {bs : List Bool} (h : BoA DevIs w0.heap.size w0 A w a r st sr) (hsm : StSm st) (hbs : bs.length = ns) (hcs : ns ≤ cs) (hs : IsG w0 (.slice xs ns cs) (bs.map Value.bool)) :
    Calls Try.prog 11 #[.pointer (some a), .slice xs ns cs] w fun e w' => e = .returned (.tuple #[]) ∧ BoA DevIs w0.heap.size w0 A w' a r (reSt st bs) sr ∧ KA10 w0.heap.size A w w' := by
  obtain ⟨F, R, G, h1, h2, h3, h4⟩ := h
  have s1 := hsm.pend
  refine (O.restart w _ st F R xs ns cs bs h1.d (by omega) hbs hcs (IsG.kept hs h1.bel) (fun h0 x hx hm => by
    subst hx
    have h9 := isG_lt11 hs (by simpa using h0)
    have h8 := h1.ge _ (O.sub h1.d _ hm)
    omega)).mono ?_
  rintro e w' ⟨rfl, q⟩
  exact ⟨rfl, BoA.turnD O h1 h2 h3 h4 q⟩
theorem bo_rdo (O : DvOk DevIs) {sd st : DSt} {xl : Option Addr} {nl cl : Nat} {ol : List Wr} (h : BoA DevIs w0.heap.size w0 A w a r sd st) (hl : IsK wrE w0 (.slice xl nl cl) ol) (hol : ol.length = nl) (hnl : nl ≤ 1954687338211) (hB : WrB ol) (s1 : st.pend.length ≤ 1099511627766) (s2 : st.wt ≤ 2305843009213693952) (s3 : st.fl ≤ 2305843009213693952) :
    Calls Try.prog 42 #[.pointer (some ⟨r, 0, none⟩), .slice xl nl cl] w fun e w' => e = .returned (.int .i64 (doR st ol)) ∧ BoA DevIs w0.heap.size w0 A w' a r sd (doS st ol) ∧ KA10 w0.heap.size A w w' := by
  obtain ⟨F, R, G, h1, h2, h3, h4⟩ := h
  refine (rdo10_any ol xl nl cl w w0.heap.size r st G hol (by omega) (hl.kept h1.bel) hB (fun h0 b hb hm => by
    obtain ⟨b9, o9, e9, q9, -⟩ := hl.at 0 _ (List.getElem?_eq_getElem (List.length_pos_iff.2 h0))
    rw [hb] at e9
    cases e9
    have := (h1.r.lt _ hm).1
    simp only at this
    omega) h1.r s1 s2 s3).mono ?_
  rintro e w' ⟨rfl, q⟩
  exact ⟨rfl, BoA.turnR O h1 h2 h3 h4 q⟩
theorem bo_rrep (O : DvOk DevIs) {sd st : DSt} (h : BoA DevIs B w0 A w a r sd st) (s1 : st.pend.length ≤ 1099511627766) (s2 : st.wt ≤ 2305843009213693952) (s3 : st.fl ≤ 2305843009213693952) (s4 : st.rd ≤ 2305843009213693952) :
    Calls Try.prog 44 #[.pointer (some ⟨r, 0, none⟩)] w fun e w' => e = .returned (.tuple #[.int .i64 (repK st), .int .i64 (repE st)]) ∧ BoA DevIs B w0 A w' a r sd (repS st) ∧ KA10 B A w w' := by
  obtain ⟨F, R, G, h1, h2, h3, h4⟩ := h
  refine (rrep10_any w B r st G h1.r s1 s2 s3 s4).mono ?_
  rintro e w' ⟨rfl, q⟩
  exact ⟨rfl, BoA.turnR O h1 h2 h3 h4 q⟩
theorem bo_rclr (O : DvOk DevIs) {sd st : DSt} (h : BoA DevIs B w0 A w a r sd st) (s1 : st.pend.length ≤ 1099511627766) (s2 : st.wt ≤ 2305843009213693952) (s3 : st.fl ≤ 2305843009213693952) :
    Calls Try.prog 45 #[.pointer (some ⟨r, 0, none⟩)] w fun e w' => e = .returned (.int .i64 (jpR st clrL)) ∧ BoA DevIs B w0 A w' a r sd (jpS st clrL) ∧ KA10 B A w w' := by
  obtain ⟨F, R, G, h1, h2, h3, h4⟩ := h
  refine (rclr10_any w B r st G h1.r (by omega) (by omega) (by omega)).mono ?_
  rintro e w' ⟨rfl, q⟩
  exact ⟨rfl, BoA.turnR O h1 h2 h3 h4 q⟩
theorem bo_rstop (O : DvOk DevIs) {sd st : DSt} (h : BoA DevIs B w0 A w a r sd st) (k : Int) (hk : i64w k) :
    Calls Try.prog 46 #[.pointer (some ⟨r, 0, none⟩), .int .i64 k] w fun e w' => e = .returned (.tuple #[]) ∧ BoA DevIs B w0 A w' a r sd (stSt st k) ∧ KA10 B A w w' := by
  obtain ⟨F, R, G, h1, h2, h3, h4⟩ := h
  refine (refStop_any w B r st G k h1.r ⟨hk.1, hk.2⟩).mono ?_
  rintro e w' ⟨rfl, q1, q2⟩
  exact ⟨rfl, BoA.turnR O h1 h2 h3 h4 ⟨G, q1, fun q hq => .inl hq, q2⟩⟩
theorem bo_rwr (O : DvOk DevIs) {sd st : DSt} (h : BoA DevIs B w0 A w a r sd st) (v : Sc) (s1 : st.pend.length ≤ 1099511627766) (s2 : st.wt ≤ 2305843009213693952) :
    Calls Try.prog 49 #[.pointer (some ⟨r, 0, none⟩), .int .i64 2, .agg (secA v)] w fun e w' => e = .returned (.int .i64 (wrRes st 2)) ∧ BoA DevIs B w0 A w' a r sd (wrSt st 2 v) ∧ KA10 B A w w' := by
  obtain ⟨F, R, G, h1, h2, h3, h4⟩ := h
  refine (refWrite_any w B r st G 2 v h1.r (by omega) (by omega)).mono ?_
  rintro e w' ⟨rfl, q⟩
  exact ⟨rfl, BoA.turnR O h1 h2 h3 h4 q⟩
theorem bo_rre (O : DvOk DevIs) {sd st : DSt} {xs : Option Addr} {ns cs : Nat} {bs : List Bool} (h : BoA DevIs w0.heap.size w0 A w a r sd st) (s1 : st.pend.length ≤ 1099511627766) (hbs : bs.length = ns) (hs : IsG w0 (.slice xs ns cs) (bs.map Value.bool)) :
    Calls Try.prog 47 #[.pointer (some ⟨r, 0, none⟩), .slice xs ns cs] w fun e w' => e = .returned (.tuple #[]) ∧ BoA DevIs w0.heap.size w0 A w' a r sd (reSt st bs) ∧ KA10 w0.heap.size A w w' := by
  obtain ⟨F, R, G, h1, h2, h3, h4⟩ := h
  refine (refRestart_any w w0.heap.size r st G xs ns cs bs h1.r (by omega) hbs (IsG.kept hs h1.bel) (fun h0 x hx hm => by
    subst hx
    have h9 := isG_lt11 hs (by simpa using h0)
    have h8 := (h1.r.lt _ hm).1
    omega)).mono ?_
  rintro e w' ⟨rfl, q1, q2⟩
  exact ⟨rfl, BoA.turnR O h1 h2 h3 h4 ⟨G, q1, fun q hq => .inl hq, q2⟩⟩
/-- What an act of a script makes of a state. -/
def opS (st : DSt) (kd k : Int) (ol : List Wr) (bs : List Bool) (v : Sc) : DSt :=
  if kd = 0 then doS st ol else if kd = 1 then repS st else if kd = 2 then jpS st clrL else if kd = 3 then stSt st k else if kd = 4 then reSt st bs else if kd = 5 then wrSt st 2 v else st
set_option linter.unusedSimpArgs false in
set_option maxRecDepth 100000 in
set_option maxHeartbeats 4000000 in
theorem done10_any (O : DvOk DevIs) (J : JOk DevIs) (kd k : Int) (xl : Option Addr) (nl cl : Nat) (xs : Option Addr) (ns cs : Nat) (v : Sc) (ol : List Wr) (bs : List Bool) (st : DSt) (h : BoA DevIs w0.heap.size w0 [] w a r st st) (hsm : StSm st) (hs1 : st.pend.length ≤ 1099511627766)
    (hol : ol.length = nl) (hnl : nl ≤ 1954687338211) (hcl : IsK wrE w0 (.slice xl nl cl) ol) (hB9 : WrB ol) (hk9 : i64w k) (hbs : bs.length = ns) (hcs : ns ≤ cs) (hs : IsG w0 (.slice xs ns cs) (bs.map Value.bool)) :
    Calls Try.prog 22 #[.pointer (some a), .pointer (some ⟨r, 0, none⟩), .agg (opA kd k xl nl cl xs ns cs v)] w fun e w' => e = .returned (.bool true) ∧ BoA DevIs w0.heap.size w0 [] w' a r (opS st kd k ol bs v) (opS st kd k ol bs v) := by
  have hs2 := hsm.wt
  have hs3 := hsm.fl
  have hs4 := hsm.rd
  obtain ⟨SS, hSS⟩ : ∃ q, opS st kd k ol bs v = q := ⟨_, rfl⟩
  have HSS : Hid (opS st kd k ol bs v = SS) := hSS
  rw [hSS]
  clear hSS
  obtain ⟨B, hBe⟩ : ∃ q, w0.heap.size = q := ⟨_, rfl⟩
  have drop9 : ∀ {A : List Nat} {x : World} {s1 s2 : DSt}, BoA DevIs B w0 A x a r s1 s2 → BoA DevIs B w0 [] x a r s1 s2 := fun h => by
    obtain ⟨F, R, G, h1, -, -, -⟩ := h
    exact ⟨F, R, G, h1, fun q _ hm => by simp at hm, fun q _ hm => by simp at hm, fun q hq => by simp at hq⟩
  rw [hBe] at h ⊢
  have HBE : Hid (w0.heap.size = B) := hBe
  clear hBe
  go_enter Try.func22, Try.ntmps22
  go_upto_region 1 with fail
  have hbo := h.add O (below_alloc w (.cells (opA kd k xl nl cl xs ns cs v) 62)) w.heap.size (Nat.le_refl _) (by simp)
  have hC := RowC.new w (opA kd k xl nl cl xs ns cs v) 62
  obtain ⟨g5, hg5⟩ : ∃ g, w.heap.size = g := ⟨_, rfl⟩
  rw [hg5] at hC hbo
  simp only [hg5]
  clear hg5 h
  generalize w.alloc (.cells (opA kd k xl nl cl xs ns cs v) 62) = X at hbo hC ⊢
  obtain ⟨p0, p1, p2, p3, p4⟩ := opA_get kd k xl nl cl xs ns cs v
  have c0 : X.cell? ⟨g5, 0, none⟩ = some (.int .i64 kd) := by rw [hC.cell 0]; exact p0
  have c1 : X.cell? ⟨g5, 1, none⟩ = some (.int .i64 k) := by rw [hC.cell 1]; exact p1
  have c2 : X.cell? ⟨g5, 2, none⟩ = some (.slice xl nl cl) := by rw [hC.cell 2]; exact p2
  have c3 : X.cell? ⟨g5, 3, none⟩ = some (.slice xs ns cs) := by rw [hC.cell 3]; exact p3
  have hrg := rg_of (k := 64) (w := X) (b := g5) (o := 4) (cs := (secA v).toList) (fun j u hu => by
    have hj : j < 64 := by
      have := (List.getElem?_eq_some_iff.1 hu).1
      simpa using this
    rw [hC.cell (4 + j), p4 j hj, ← Array.getElem?_toList]; exact hu) (by simp)
  obtain ⟨rk, rv⟩ := hrg
  rw [Array.toArray_toList] at rv
  clear p0 p1 p2 p3 p4 hC
  by_cases k0 : kd = 0
  · subst k0
    have hX0 : Hid (Below B w0 X) := by show Below _ _ _; obtain ⟨F, R, G, h1, -⟩ := hbo; exact h1.bel
    have hq1 := lent10_any xl nl cl ol X hol (IsK.kept hcl (by have := hX0.out; rw [← HBE.out] at this; exact this)) hnl
    go_wp2_with fail
    go_at_call 18
    refine hq1.mono ?_
    rintro e X' ⟨gl, c9, rfl, hO, hbX⟩
    clear hq1
    have hglt : gl < X'.heap.size := (World.ownsRow.lt hO gl rfl).2
    have hge := hO.ge
    have hbo := hbo.add O hbX gl hge hglt
    have hkX : KA10 B [g5] X X' := kokA10.1 hbX
    have c2 := cell_ka10 c2 hkX (by simp)
    have hX0 : Hid (Below B w0 X') := by
      show Below _ _ _
      obtain ⟨F, R, G, h1, -⟩ := hbo
      exact h1.bel
    have hl9 : Hid (IsK wrE X' (.slice (some ⟨gl, 0, none⟩) nl c9) ol) := lentIs wrE_ok hO hol
    clear hkX hge c0 c1 c3 rk rv
    go_upto_region 4 with fail
    refine wp_reliesI (kokA10 (B := B) (A := [gl, g5])) (BoI DevIs B w0 [gl, g5] a r st (doS st ol)) [2, 6] [none, none, some (0, [], []), none, none, none, some (1, [], []), none, none, none, none, none, none, none] [Fx (.pointer (some a)), Fx (.slice (some ⟨gl, 0, none⟩) nl c9), Fx (.int .i64 (doR st ol)), Fx (.pointer (some ⟨r, 0, none⟩)), Fx (.pointer (some ⟨g5, 2, none⟩)), Fx (.slice xl nl cl), Fx (.int .i64 (doR st ol)), Fx (.bool false), Fx (.bool false), Fx (.slice (some ⟨gl, 0, none⟩) nl c9), Fx (.pointer (some ⟨g5, 2, none⟩)), Fx (.slice xl nl cl), Fx (.bool true), Fx (.bool false)] rfl (by decide) rfl (by kernel_rfl) (by kernel_rfl) (by kernel_rfl) hbo (BoI_later O) ?_ ?_ ?_ ?_
    · repeat' (first | exact all_nil | apply all_cons)
      all_goals intro v y y' hv hb
      all_goals first | exact Fx_mono _ _ _ _ hv hb
    · intro i9 f9 hf9 hl9 v y y' hv hb
      rcases i9 with _ | i9
      · first | (cases hl9; done) | (cases hf9; first | exact hv)
      rcases i9 with _ | i9
      · first | (cases hl9; done) | (cases hf9; first | exact hv)
      rcases i9 with _ | i9
      · first | (cases hl9; done) | (cases hf9; first | exact hv)
      rcases i9 with _ | i9
      · first | (cases hl9; done) | (cases hf9; first | exact hv)
      rcases i9 with _ | i9
      · first | (cases hl9; done) | (cases hf9; first | exact hv)
      rcases i9 with _ | i9
      · first | (cases hl9; done) | (cases hf9; first | exact hv)
      rcases i9 with _ | i9
      · first | (cases hl9; done) | (cases hf9; first | exact hv)
      rcases i9 with _ | i9
      · first | (cases hl9; done) | (cases hf9; first | exact hv)
      rcases i9 with _ | i9
      · first | (cases hl9; done) | (cases hf9; first | exact hv)
      rcases i9 with _ | i9
      · first | (cases hl9; done) | (cases hf9; first | exact hv)
      rcases i9 with _ | i9
      · first | (cases hl9; done) | (cases hf9; first | exact hv)
      rcases i9 with _ | i9
      · first | (cases hl9; done) | (cases hf9; first | exact hv)
      rcases i9 with _ | i9
      · first | (cases hl9; done) | (cases hf9; first | exact hv)
      rcases i9 with _ | i9
      · first | (cases hl9; done) | (cases hf9; first | exact hv)
      · simp at hf9
    · refine ⟨?_, ?_, ?_, ?_, ?_, ?_, ?_, ?_, ?_, ?_, ?_, ?_, ?_, ?_, trivial⟩
      all_goals
        intro ρ x hk hat ρc ρg ρf ho hd
        have o0 : ρ (.tmp 0) = .pointer (some a) := ho 0 rfl
        have o7 : ρ (.tmp 7) = .slice (some ⟨gl, 0, none⟩) nl c9 := ho 7 rfl
        have o1 : ρ (.tmp 1) = .pointer (some ⟨r, 0, none⟩) := ho 1 rfl
        have o5 : ρ (.tmp 5) = .pointer (some ⟨g5, 0, none⟩) := ho 5 rfl
        clear ho
        have q2 := cell_ka10 c2 hk (by simp)
        simp only [depsR, depR, slotR, Fx, List.getElem?_cons_succ, List.getElem?_cons_zero, Region.binds, forall_const] at hd
        simp only [guardR, List.contains_cons, List.contains_nil, List.elem_cons, List.elem_nil, Nat.reduceBEq, Bool.or_false, Bool.false_or, Bool.or_true, Bool.true_or, cond_true, cond_false]
        go_split_ands
      · go_simp
      · go_simp
      · have hb9 : BoA DevIs B w0 [gl, g5] x a r st st := hat
        go_simp
        refine (bo_do O J hb9 (IsK.ka10 hl9.out hk (by simp)) hol hnl hsm hB9 (by simp)).mono ?_
        rintro e x' ⟨rfl, h1, h2⟩
        exact ⟨_, rfl, ⟨rfl, h1⟩, h2⟩
      · go_simp
      · go_simp
      · go_simp
      · have hb9 : BoA DevIs B w0 [gl, g5] x a r (doS st ol) st := hat
        go_simp
        have hq9 := bo_rdo O (HBE.out ▸ hb9) hcl hol hnl hB9 hs1 hs2 hs3
        rw [HBE.out] at hq9
        refine hq9.mono ?_
        rintro e x' ⟨rfl, h1, h2⟩
        exact ⟨_, rfl, ⟨rfl, h1⟩, h2⟩
      · go_simp
      · go_simp
      · refine ⟨fun _ => ?_, fun hy => absurd (by simp [yieldR, slotR, *]) hy⟩
        go_simp
      · refine ⟨fun _ => ?_, fun hy => absurd (by simp [yieldR, slotR, *]) hy⟩
        go_simp
      · refine ⟨fun _ => ?_, fun hy => absurd (by simp [yieldR, slotR, *]) hy⟩
        go_simp
      · refine ⟨fun _ => ?_, fun hy => absurd (by simp [yieldR, slotR, *]) hy⟩
        go_simp
        refine (writes10_any (some ⟨gl, 0, none⟩) xl c9 cl nl nl ol ol x hol hol (IsK.ka10 hl9.out hk (by simp)) (IsK.kb10 hcl (Nat.le_of_eq HBE.out) hX0.out hk) (by omega)).mono ?_
        rintro e w' ⟨rfl, hw⟩
        exact ⟨_, rfl, by rw [decide_eq_true rfl]; rfl, hw⟩
      · refine ⟨fun _ => ?_, fun hy => absurd (by simp [yieldR, slotR, *]) hy⟩
        go_simp
    · intro vs x1 hk hw hI
      simp only [owed, Fx] at hw
      obtain ⟨e0, e1, e2, e3, e4, e5, e6, e7, e8, e9, e10, e11, e12, e13, -⟩ := hw
      simp only [List.length_cons, List.length_nil, List.take_succ_cons, List.take_zero, List.drop_succ_cons, List.drop_zero, asg, List.cons_append, List.nil_append, e0, e1, e2, e3, e4, e5, e6, e7, e8, e9, e10, e11, e12, e13]
      clear e0 e1 e2 e3 e4 e5 e6 e7 e8 e9 e10 e11 e12 e13
      have HP : Hid (BoA DevIs B w0 [] x1 a r SS SS) := by show BoA _ _ _ _ _ _ _ _ _; rw [← HSS.out]; exact drop9 hI
      have hO1 := hO.held11 (hk.block gl (.inr (by simp)) hglt)
      have q2 := cell_ka10 c2 hk (by simp)
      have q7 := hO1.range wrE_ok nl (-77, secZ) (by rw [List.getElem?_append_right (by omega), hol, Nat.sub_self]; rfl) 0 (.int .i64 (-77)) rfl
      have hcap : nl + 1 ≤ c9 := by obtain ⟨-, -, -, -, hle, -⟩ := hO.heap; exact hle
      have hcap1 : (nl : Int) + 1 ≤ (c9 : Int) := by omega
      rw [wrE_k] at q7
      clear hI hk hbo hO hO1 hbX hX0 hl9 c2 hglt
      go_upto_region 7 with fail
      have hlt9 : (nl : Int) < (nl : Int) + 1 := by omega
      rw [Nat.add_zero] at q7
      clear hcap hcap1 hnl hol hs1 hs2 hs3 hs4
      go_wp2_with fail
      go_ret
      exact ⟨rfl, HP.out⟩
  · by_cases k1 : kd = 1
    · subst k1
      have hq1 := bo_rep O J hbo hsm
      go_wp2_with fail
      go_at_call 10
      refine hq1.mono ?_
      rintro e w2 ⟨rfl, hb2, -⟩
      have hq2 := bo_rrep O hb2 hs1 hs2 hs3 hs4
      clear hq1 hb2 hbo
      go_wp2_with fail
      go_at_call 44
      refine hq2.mono ?_
      rintro e w3 ⟨rfl, hb3, -⟩
      have HP : Hid (BoA DevIs B w0 [] w3 a r SS SS) := by show BoA _ _ _ _ _ _ _ _ _; rw [← HSS.out]; exact drop9 hb3
      clear hq2 hb3
      go_wp2_with fail
      go_ret
      exact ⟨rfl, HP.out⟩
    · by_cases k2 : kd = 2
      · subst k2
        have hq1 := bo_clr O J hbo hsm
        go_wp2_with fail
        go_at_call 25
        refine hq1.mono ?_
        rintro e w2 ⟨rfl, hb2, -⟩
        have hq2 := bo_rclr O hb2 hs1 hs2 hs3
        clear hq1 hb2 hbo
        go_wp2_with fail
        go_at_call 45
        refine hq2.mono ?_
        rintro e w3 ⟨rfl, hb3, -⟩
        have HP : Hid (BoA DevIs B w0 [] w3 a r SS SS) := by show BoA _ _ _ _ _ _ _ _ _; rw [← HSS.out]; exact drop9 hb3
        clear hq2 hb3
        go_wp2_with fail
        go_ret
        exact ⟨rfl, HP.out⟩
      · by_cases k3 : kd = 3
        · subst k3
          have hq1 := bo_stop O hbo k hk9
          go_wp2_with fail
          go_at_call 9
          refine hq1.mono ?_
          rintro e w2 ⟨rfl, hb2, hka⟩
          have hq2 := bo_rstop O hb2 k hk9
          have c12 := cell_ka10 c1 hka (by simp)
          clear hq1 hb2 hbo hka
          go_wp2_with fail
          go_at_call 46
          refine hq2.mono ?_
          rintro e w3 ⟨rfl, hb3, -⟩
          have HP : Hid (BoA DevIs B w0 [] w3 a r SS SS) := by show BoA _ _ _ _ _ _ _ _ _; rw [← HSS.out]; exact drop9 hb3
          clear hq2 hb3
          go_wp2_with fail
          go_ret
          exact ⟨rfl, HP.out⟩
        · by_cases k4 : kd = 4
          · subst k4
            have hq1 := bo_re O (HBE.out ▸ hbo) hsm hbs hcs hs
            rw [HBE.out] at hq1
            go_wp2_with fail
            go_at_call 11
            refine hq1.mono ?_
            rintro e w2 ⟨rfl, hb2, hka⟩
            have hq2 := bo_rre O (HBE.out ▸ hb2) hs1 hbs hs
            rw [HBE.out] at hq2
            have c32 := cell_ka10 c3 hka (by simp)
            clear hq1 hb2 hbo hka
            go_wp2_with fail
            go_at_call 47
            refine hq2.mono ?_
            rintro e w3 ⟨rfl, hb3, -⟩
            have HP : Hid (BoA DevIs B w0 [] w3 a r SS SS) := by show BoA _ _ _ _ _ _ _ _ _; rw [← HSS.out]; exact drop9 hb3
            clear hq2 hb3
            go_wp2_with fail
            go_ret
            exact ⟨rfl, HP.out⟩
          · by_cases k5 : kd = 5
            · subst k5
              go_upto_region 21 with fail
              refine wp_reliesI (kokA10 (B := B) (A := [g5])) (BoI DevIs B w0 [g5] a r st (wrSt st 2 v)) [3, 7] [none, none, none, some (0, [], []), none, none, none, some (1, [], []), none] [Fx (.pointer (some a)), Fx (.pointer (some ⟨g5, 4, none⟩)), Fx (.agg (secA v)), Fx (.int .i64 (wrRes st 2)), Fx (.pointer (some ⟨r, 0, none⟩)), Fx (.pointer (some ⟨g5, 4, none⟩)), Fx (.agg (secA v)), Fx (.int .i64 (wrRes st 2)), Fx (.bool true)] rfl (by decide) rfl (by kernel_rfl) (by kernel_rfl) (by kernel_rfl) hbo (BoI_later O) ?_ ?_ ?_ ?_
              · repeat' (first | exact all_nil | apply all_cons)
                all_goals intro v y y' hv hb
                all_goals first | exact Fx_mono _ _ _ _ hv hb
              · intro i9 f9 hf9 hl9 v y y' hv hb
                rcases i9 with _ | i9
                · first | (cases hl9; done) | (cases hf9; first | exact hv)
                rcases i9 with _ | i9
                · first | (cases hl9; done) | (cases hf9; first | exact hv)
                rcases i9 with _ | i9
                · first | (cases hl9; done) | (cases hf9; first | exact hv)
                rcases i9 with _ | i9
                · first | (cases hl9; done) | (cases hf9; first | exact hv)
                rcases i9 with _ | i9
                · first | (cases hl9; done) | (cases hf9; first | exact hv)
                rcases i9 with _ | i9
                · first | (cases hl9; done) | (cases hf9; first | exact hv)
                rcases i9 with _ | i9
                · first | (cases hl9; done) | (cases hf9; first | exact hv)
                rcases i9 with _ | i9
                · first | (cases hl9; done) | (cases hf9; first | exact hv)
                rcases i9 with _ | i9
                · first | (cases hl9; done) | (cases hf9; first | exact hv)
                · simp at hf9
              · refine ⟨?_, ?_, ?_, ?_, ?_, ?_, ?_, ?_, ?_, trivial⟩
                all_goals
                  intro ρ x hk hat ρc ρg ρf ho hd
                  have o0 : ρ (.tmp 0) = .pointer (some a) := ho 0 rfl
                  have o1 : ρ (.tmp 1) = .pointer (some ⟨r, 0, none⟩) := ho 1 rfl
                  have o5 : ρ (.tmp 5) = .pointer (some ⟨g5, 0, none⟩) := ho 5 rfl
                  clear ho
                  simp only [depsR, depR, slotR, Fx, List.getElem?_cons_succ, List.getElem?_cons_zero, Region.binds, forall_const] at hd
                  simp only [guardR, List.contains_cons, List.contains_nil, List.elem_cons, List.elem_nil, Nat.reduceBEq, Bool.or_false, Bool.false_or, Bool.or_true, Bool.true_or, cond_true, cond_false]
                  go_split_ands
                · go_simp
                · go_simp
                · obtain ⟨kk1, kk2⟩ := rg_ka10 rk rv hk (by simp)
                  go_simp
                · have hb9 : BoA DevIs B w0 [g5] x a r st st := hat
                  go_simp
                  refine (bo_wr O hb9 v hsm).mono ?_
                  rintro e x' ⟨rfl, h1, h2⟩
                  exact ⟨_, rfl, ⟨rfl, h1⟩, h2⟩
                · go_simp
                · go_simp
                · obtain ⟨kk1, kk2⟩ := rg_ka10 rk rv hk (by simp)
                  go_simp
                · have hb9 : BoA DevIs B w0 [g5] x a r (wrSt st 2 v) st := hat
                  go_simp
                  refine (bo_rwr O hb9 v hs1 hs2).mono ?_
                  rintro e x' ⟨rfl, h1, h2⟩
                  exact ⟨_, rfl, ⟨rfl, h1⟩, h2⟩
                · go_simp
              · intro vs x1 hk hw hI
                simp only [owed, Fx] at hw
                obtain ⟨e0, e1, e2, e3, e4, e5, e6, e7, e8, -⟩ := hw
                simp only [List.length_cons, List.length_nil, List.take_succ_cons, List.take_zero, List.drop_succ_cons, List.drop_zero, asg, List.cons_append, List.nil_append, e0, e1, e2, e3, e4, e5, e6, e7, e8]
                clear e0 e1 e2 e3 e4 e5 e6 e7 e8
                have HP : Hid (BoA DevIs B w0 [] x1 a r SS SS) := by show BoA _ _ _ _ _ _ _ _ _; rw [← HSS.out]; exact drop9 hI
                clear hI hk hbo
                go_wp2_with fail
                go_ret
                exact ⟨rfl, HP.out⟩
            · have HP : Hid (BoA DevIs B w0 [] X a r SS SS) := by
                show BoA _ _ _ _ _ _ _ _ _
                rw [← HSS.out]
                unfold opS
                rw [if_neg k0, if_neg k1, if_neg k2, if_neg k3, if_neg k4, if_neg k5]
                exact drop9 hbo
              clear hbo
              go_wp2_with fail
              go_ret
              exact ⟨rfl, HP.out⟩
end
end Go.Proofs.Ytpckdkgbeemalaa
namespace Go.Proofs.Ytpckdkgbeemalaa
open Go.RowKit

/-! How far an act of a script moves a state's numbers -/
def Gr (k : Nat) (s t : DSt) : Prop := t.pend.length ≤ s.pend.length + k ∧ t.rd ≤ s.rd + k ∧ t.wt ≤ s.wt + k ∧ t.fl ≤ s.fl + k
theorem Gr.refl (k : Nat) (s : DSt) : Gr k s s := ⟨by omega, by omega, by omega, by omega⟩
theorem Gr.trans {j k : Nat} {s t u : DSt} (h : Gr j s t) (h' : Gr k t u) : Gr (j + k) s u := by
  obtain ⟨a1, a2, a3, a4⟩ := h
  obtain ⟨b1, b2, b3, b4⟩ := h'
  exact ⟨by omega, by omega, by omega, by omega⟩
theorem Gr.mono {j k : Nat} {s t : DSt} (h : Gr j s t) (hj : j ≤ k) : Gr k s t := by
  obtain ⟨a1, a2, a3, a4⟩ := h
  exact ⟨by omega, by omega, by omega, by omega⟩
theorem wr_gr (st : DSt) (a : Int) (s : Sc) : Gr 1 st (wrSt st a s) := by
  obtain ⟨m1, m2, m3, m4, m5⟩ := mayS_same st
  unfold wrSt
  split
  · exact Gr.refl _ _
  · split
    · split
      · refine ⟨by simp, ?_, ?_, ?_⟩
        · show (mayS st).rd ≤ _; omega
        · show st.wt + 1 ≤ _; omega
        · show (mayS st).fl ≤ _; omega
      · exact ⟨by rw [m2]; omega, by omega, by omega, by omega⟩
    · exact Gr.refl _ _
theorem fl_gr (st : DSt) : Gr 1 st (flSt st) := by
  obtain ⟨m1, m2, m3, m4, m5⟩ := mayS_same st
  unfold flSt
  split
  · exact Gr.refl _ _
  · split
    · refine ⟨by simp, ?_, ?_, ?_⟩
      · show (mayS st).rd ≤ _; omega
      · show (mayS st).wt ≤ _; omega
      · show st.fl + 1 ≤ _; omega
    · exact ⟨by rw [m2]; omega, by omega, by omega, by omega⟩
theorem ac_gr (st : DSt) : ∀ a : JAc, Gr 1 st (acS st a)
  | some x => wr_gr st x.1 x.2
  | none => fl_gr st
theorem run_gr : ∀ (az : List JAc) (st : DSt), Gr az.length st (runS st az)
  | [], st => Gr.refl _ _
  | a :: r, st => by
    unfold runS
    split
    · exact (Gr.trans (ac_gr st a) (run_gr r _)).mono (by simp; omega)
    · exact (ac_gr st a).mono (by simp)
theorem bat_eight {n : Int} {l : List Wr} (h : batB n l = true) : l.length ≤ 8 := by
  unfold batB lenB at h
  simp only [Bool.and_eq_true, decide_eq_true_eq] at h
  omega
theorem op_gr {st : DSt} (h0 : 64 ≤ st.last.length) (h1 : st.last.length ≤ 1024) (kd k : Int) (ol : List Wr) (bs : List Bool) (v : Sc) : Gr 40 st (opS st kd k ol bs v) := by
  unfold opS
  split
  · unfold doS
    rcases mPut_bat h0 h1 ol with ⟨e1, e2, e3⟩ | ⟨e1, e2⟩
    · rw [if_pos (show mPutE ol (dnI st) = 0 from e1), (seq_run _ st).2]
      refine (run_gr _ st).mono ?_
      rw [acLs_len]
      have := bat_eight e3
      simp only [doL, clrL, List.map_cons, List.map_nil, List.sum_cons, List.sum_nil, jlW_len, List.length_cons, List.length_nil]
      omega
    · rw [if_neg (show ¬ mPutE ol (dnI st) = 0 by show ¬ mPutE ol (st.last.length : Int) = 0; omega)]
      exact Gr.refl _ _
  · split
    · unfold repS
      split
      · exact Gr.refl _ _
      · rw [(seq_run _ _).2]
        have h9 : Gr 9 st (rd9 st) := ⟨by show st.pend.length ≤ _; omega, by show st.rd + 9 ≤ _; omega, by show st.wt ≤ _; omega, by show st.fl ≤ _; omega⟩
        refine (h9.trans (run_gr _ _)).mono ?_
        rw [acLs_len]
        unfold rpLs
        split
        · rename_i h2
          have := bat_eight (dK_two h2)
          simp only [rpL, clrL, List.map_cons, List.map_nil, List.sum_cons, List.sum_nil, List.length_cons, List.length_nil]
          omega
        · split
          · simp [clrL]
          · simp
    · split
      · rw [(put_run clrL st).2]
        exact (run_gr _ st).mono (by rw [acL_len]; simp [clrL])
      · split
        · exact ⟨by show st.pend.length ≤ _; omega, by show st.rd ≤ _; omega, by show st.wt ≤ _; omega, by show st.fl ≤ _; omega⟩
        · split
          · exact ⟨by simp [reSt], by show st.rd ≤ _; omega, by show st.wt ≤ _; omega, by show st.fl ≤ _; omega⟩
          · split
            · exact (wr_gr st 2 v).mono (by omega)
            · exact Gr.refl _ _
/-! How long the list of writes that wait can grow -/
theorem may_yes {st : DSt} (hd : st.down = false) (hm : mayB st = true) : (mayS st).down = false := by
  have h0 : st.left ≠ 0 := of_decide_eq_true hm
  unfold mayS
  rw [if_neg h0]
  split
  · exact hd
  · exact hd
theorem may_no {st : DSt} (hm : ¬ mayB st = true) : (mayS st).down = true := by
  have h0 : st.left = 0 := by
    apply Classical.byContradiction
    intro h
    exact hm (decide_eq_true h)
  unfold mayS
  rw [if_pos h0]
def inL (n : Nat) (l : List Wr) : Prop := ∀ x ∈ l, 0 ≤ x.1 ∧ x.1 < (n : Int)
theorem jp_down {st : DSt} (hd : st.down = true) (l : List Wr) : jpS st l = st ∧ jpR st l = 21 := by
  cases l with
  | nil => simp only [jpS, jpR]; unfold flSt flRes; rw [if_pos hd, if_pos hd]; exact ⟨rfl, rfl⟩
  | cons x r =>
    have h1 : wrRes st x.1 = 21 := by unfold wrRes; rw [if_pos hd]
    have h2 : wrSt st x.1 x.2 = st := by unfold wrSt; rw [if_pos hd]
    simp only [jpS, jpR, h1, h2]
    rw [if_neg (by omega), if_neg (by omega)]
    exact ⟨rfl, rfl⟩
theorem seq_down {st : DSt} (hd : st.down = true) (ls : List (List Wr)) : seqS st ls = st := by
  cases ls with
  | nil => rfl
  | cons l r =>
    obtain ⟨h1, h2⟩ := jp_down hd l
    simp only [seqS, h1, h2]
    rw [if_neg (by omega)]
theorem jp_pd (n : Nat) : ∀ (l : List Wr) (st : DSt), st.down = false → st.last.length = n → inL n l →
    (jpR st l = 0 ∧ (jpS st l).pend.length = 0 ∧ (jpS st l).down = false ∧ (jpS st l).last.length = n) ∨ (¬ jpR st l = 0 ∧ (jpS st l).down = true ∧ (jpS st l).pend.length ≤ st.pend.length + l.length)
  | [], st, hd, hn, _ => by
    simp only [jpR, jpS]
    have hd' : ¬ st.down = true := by rw [hd]; simp
    by_cases hm : mayB st = true
    · have f1 : flRes st = 0 := by unfold flRes; rw [if_neg hd', if_pos hm]
      have f2 : flSt st = { mayS st with last := over st.last st.pend, pend := [], fl := st.fl + 1 } := by unfold flSt; rw [if_neg hd', if_pos hm]
      rw [f1, f2]
      exact .inl ⟨rfl, rfl, may_yes hd hm, by show (over _ _).length = _; rw [over_len, hn]⟩
    · have f1 : flRes st = 21 := by unfold flRes; rw [if_neg hd', if_neg hm]
      have f2 : flSt st = mayS st := by unfold flSt; rw [if_neg hd', if_neg hm]
      rw [f1, f2]
      exact .inr ⟨by omega, may_no hm, by rw [(mayS_same st).2.1]; simp⟩
  | x :: r, st, hd, hn, hin => by
    have hx := hin x (by simp)
    have ht : thereB st x.1 = true := by unfold thereB; rw [hn]; exact decide_eq_true hx
    simp only [jpR, jpS]
    have hd' : ¬ st.down = true := by rw [hd]; simp
    by_cases hm : mayB st = true
    · have f1 : wrRes st x.1 = 0 := by unfold wrRes; rw [if_neg hd', if_pos ht, if_pos hm]
      rw [f1, if_pos rfl, if_pos rfl]
      have hw : wrSt st x.1 x.2 = { mayS st with pend := st.pend ++ [(x.1, x.2)], wt := st.wt + 1 } := by unfold wrSt; rw [if_neg (by rw [hd]; simp), if_pos ht, if_pos hm]
      have q1 : (wrSt st x.1 x.2).down = false := by rw [hw]; exact may_yes hd hm
      have q2 : (wrSt st x.1 x.2).last.length = n := by rw [hw]; show (mayS st).last.length = n; rw [(mayS_same st).1, hn]
      have q3 : (wrSt st x.1 x.2).pend.length = st.pend.length + 1 := by rw [hw]; simp
      rcases jp_pd n r _ q1 q2 (fun y hy => hin y (by simp [hy])) with h | ⟨h1, h2, h3⟩
      · exact .inl h
      · exact .inr ⟨h1, h2, by rw [q3] at h3; simp only [List.length_cons]; omega⟩
    · have f1 : wrRes st x.1 = 21 := by unfold wrRes; rw [if_neg hd', if_pos ht, if_neg hm]
      rw [f1, if_neg (by omega), if_neg (by omega)]
      have hw : wrSt st x.1 x.2 = mayS st := by unfold wrSt; rw [if_neg (by rw [hd]; simp), if_pos ht, if_neg hm]
      rw [hw]
      exact .inr ⟨by omega, may_no hm, by rw [(mayS_same st).2.1]; simp⟩
theorem seq_pd (n : Nat) : ∀ (ls : List (List Wr)) (st : DSt), st.down = false → st.last.length = n → (∀ l ∈ ls, inL n l ∧ l.length ≤ 8) →
    ((seqS st ls).down = false ∧ (seqS st ls).pend.length ≤ st.pend.length) ∨ ((seqS st ls).down = true ∧ (seqS st ls).pend.length ≤ st.pend.length + 8)
  | [], st, hd, _, _ => .inl ⟨hd, Nat.le_refl _⟩
  | l :: r, st, hd, hn, hin => by
    obtain ⟨h1, h8⟩ := hin l (by simp)
    simp only [seqS]
    rcases jp_pd n l st hd hn h1 with ⟨a1, a2, a3, a4⟩ | ⟨a1, a2, a3⟩
    · rw [if_pos a1]
      rcases seq_pd n r _ a3 a4 (fun y hy => hin y (by simp [hy])) with ⟨b1, b2⟩ | ⟨b1, b2⟩
      · exact .inl ⟨b1, by omega⟩
      · exact .inr ⟨b1, by omega⟩
    · rw [if_neg a1]
      exact .inr ⟨a2, by omega⟩
/-- After k acts: at most k writes wait, and eight more where the device went down. -/
def Iv (k : Nat) (st : DSt) : Prop := (st.down = false → st.pend.length ≤ k) ∧ st.pend.length ≤ k + 8
theorem Iv.of {k : Nat} {s : DSt} {p : Nat} (hp : p ≤ k) (h : (s.down = false ∧ s.pend.length ≤ p) ∨ (s.down = true ∧ s.pend.length ≤ p + 8)) : Iv k s := by
  rcases h with ⟨h1, h2⟩ | ⟨h1, h2⟩
  · exact ⟨fun _ => by omega, by omega⟩
  · exact ⟨fun h => (by rw [h1] at h; cases h), by omega⟩
theorem Iv.up {k : Nat} {s : DSt} (h : Iv k s) : Iv (k + 1) s := ⟨fun hd => by have := h.1 hd; omega, by have := h.2; omega⟩
theorem clr_in {n : Nat} (h0 : 64 ≤ n) : inL n clrL ∧ clrL.length ≤ 8 := ⟨fun x hx => by simp [clrL] at hx; subst hx; exact ⟨by simp, by show (2 : Int) < _; omega⟩, by simp [clrL]⟩
theorem bat_in {n : Nat} {l : List Wr} (hb : batB (n : Int) l = true) : inL n l ∧ l.length ≤ 8 := ⟨fun x hx => (bat_pos hb x hx).1, bat_eight hb⟩
theorem jl_in {n : Nat} {l : List Wr} (h0 : 64 ≤ n) (h8 : l.length ≤ 8) : inL n (jlW l) ∧ (jlW l).length ≤ 8 := ⟨fun x hx => by
    obtain ⟨i, hi, rfl⟩ := jlW_mem hx
    exact ⟨by simp only; omega, by simp only; omega⟩, by rw [jlW_len]; exact h8⟩
theorem op_iv {st : DSt} {m : Nat} (h0 : 64 ≤ st.last.length) (h1 : st.last.length ≤ 1024) (h : Iv m st) (kd k : Int) (ol : List Wr) (bs : List Bool) (v : Sc) : Iv (m + 1) (opS st kd k ol bs v) := by
  unfold opS
  by_cases hd : st.down = true
  · split
    · unfold doS
      split
      · rw [seq_down hd]; exact h.up
      · exact h.up
    · split
      · unfold repS; rw [if_pos hd]; exact h.up
      · split
        · rw [(jp_down hd clrL).1]; exact h.up
        · split
          · exact ⟨fun q => h.up.1 q, h.up.2⟩
          · split
            · exact ⟨fun _ => by simp [reSt], by simp [reSt]⟩
            · split
              · unfold wrSt; rw [if_pos hd]; exact h.up
              · exact h.up
  · have hd : st.down = false := by simpa using hd
    have hp := h.1 hd
    split
    · unfold doS
      rcases mPut_bat h0 h1 ol with ⟨e1, e2, e3⟩ | ⟨e1, e2⟩
      · rw [if_pos (show mPutE ol (dnI st) = 0 from e1)]
        have hb := bat_in e3
        refine (Iv.of hp (seq_pd _ _ st hd rfl fun l hl => ?_)).up
        simp only [doL, List.mem_cons, List.not_mem_nil, or_false] at hl
        rcases hl with rfl | rfl | rfl | rfl
        · exact jl_in h0 hb.2
        · exact ⟨fun x hx => by simp at hx; subst hx; exact ⟨by simp, by show (2 : Int) < _; omega⟩, by simp⟩
        · exact hb
        · exact clr_in h0
      · rw [if_neg (show ¬ mPutE ol (dnI st) = 0 by show ¬ mPutE ol (st.last.length : Int) = 0; omega)]
        exact h.up
    · split
      · unfold repS
        rw [if_neg (by rw [hd]; simp)]
        refine (Iv.of (s := seqS (rd9 st) (rpLs st)) hp (seq_pd st.last.length _ (rd9 st) hd rfl fun l hl => ?_)).up
        unfold rpLs at hl
        split at hl
        · rename_i h2
          have hb := dK_two h2
          rw [over_len] at hb
          simp only [List.mem_cons, List.not_mem_nil, or_false] at hl
          rcases hl with rfl | rfl
          · exact bat_in hb
          · exact clr_in h0
        · split at hl
          · simp only [List.mem_cons, List.not_mem_nil, or_false] at hl
            subst hl
            exact clr_in h0
          · simp at hl
      · split
        · rcases jp_pd _ clrL st hd rfl (clr_in h0).1 with ⟨a1, a2, a3, a4⟩ | ⟨a1, a2, a3⟩
          · exact ⟨fun _ => by omega, by omega⟩
          · refine ⟨fun q => (by rw [a2] at q; cases q), ?_⟩
            have : clrL.length = 1 := rfl
            omega
        · split
          · exact ⟨fun q => h.up.1 q, h.up.2⟩
          · split
            · exact ⟨fun _ => by simp [reSt], by simp [reSt]⟩
            · split
              · have := (wr_gr st 2 v).1
                exact ⟨fun _ => by omega, by omega⟩
              · exact h.up
end Go.Proofs.Ytpckdkgbeemalaa
