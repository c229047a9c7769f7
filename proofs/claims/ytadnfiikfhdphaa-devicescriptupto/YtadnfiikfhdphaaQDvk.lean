import Derived.Test.YtadnfiikfhdphaaQGdl
import Derived.Test.YtadnfiikfhdphaaQDevK
namespace Go.Proofs.Ytadnfiikfhdphaa
open Go.RowKit

/-! assaylaw05's alike: a device and the document's own, in one state -/
def SlD {α : Type} (E : EK α) (n : Nat) (l : List α) (v : Value) (x : World) : Prop := ∃ y c, v = .slice y n c ∧ OwnK E x 0 (.slice y n c) l
theorem SlD.keep {α : Type} {E : EK α} {n : Nat} {l : List α} {v : Value} {x x' : World} (h : SlD E n l v x) (hb : Below x.heap.size x x') : SlD E n l v x' := by
  obtain ⟨y, c, h1, h2⟩ := h
  exact ⟨y, c, h1, OwnK.keep h2 hb⟩
theorem refSectors5 {w : World} {B r : Nat} {st : DSt} {F : List Nat} (h : RefIs w B r st F) (hp : st.pend.length ≤ 1099511627776) :
    Calls Try.prog 32 #[.pointer (some ⟨r, 0, none⟩)] w fun e w' => ∃ y c, e = .returned (.slice y st.last.length c) ∧ OwnK secE w' w.heap.size (.slice y st.last.length c) (over st.last st.pend) ∧ Below w.heap.size w w' := by
  refine (refSectors_any w B r st F h hp).mono ?_
  rintro e w' ⟨g, n, c, rfl, ho, hb⟩
  obtain ⟨cur, hn, -⟩ := ho.heap
  rw [over_len] at hn
  subst hn
  exact ⟨_, c, rfl, ho, hb⟩
set_option linter.unusedSimpArgs false in
set_option maxRecDepth 100000 in
set_option maxHeartbeats 4000000 in
theorem alike5_any {B : Nat} {w : World} {a : Addr} {r : Nat} {st : DSt} {F R G : List Nat} (hD : DevIs w (.pointer (some a)) st F R) (hRf : RefIs w B r st G) (hp9 : st.pend.length ≤ 1099511627776) :
    Calls Try.prog 12 #[.pointer (some a), .pointer (some ⟨r, 0, none⟩)] w fun e w' => e = .returned (.bool true) ∧ Below w.heap.size w w' := by
  have O := devOk
  have hAc := O.acts _ _ _ _ _ hD
  have hok := O.ok hD
  have hlo := hok.hi
  go_enter Try.func12, Try.ntmps12
  go_wp2_with fail
  go_at_call 23
  refine hAc.mono ?_
  rintro e W ⟨rfl, hb⟩
  have hd := O.later hD hb
  have hr := hRf.later hb
  obtain ⟨vl, vp, v1, v2, v3, -⟩ := id hr
  obtain ⟨xl, cl, rfl⟩ := (v2.isK secE_ok).len
  obtain ⟨xp, cp, rfl⟩ := (v3.isK wrE_ok).len
  obtain ⟨c0, c1, -, c3, c4, c5, c6⟩ := v1.cells
  obtain ⟨m, hm⟩ : ∃ q, st.last.length = q := ⟨_, rfl⟩
  obtain ⟨np, hnp⟩ : ∃ q, st.pend.length = q := ⟨_, rfl⟩
  obtain ⟨O9, hO9⟩ : ∃ q, over st.last st.pend = q := ⟨_, rfl⟩
  have hO9l : O9.length = m := by rw [← hO9, over_len, hm]
  rw [hm] at c0 v2
  rw [hnp] at c1 v3
  have hvl : Hid (IsK secE W (.slice xl m cl) st.last) := OwnK.isK secE_ok v2
  have hvp : Hid (IsK wrE W (.slice xp np cp) st.pend) := OwnK.isK wrE_ok v3
  have hd9 : Hid (DevIs W (.pointer (some a)) st F R) := hd
  have hDu := fun x (hp : Below W.heap.size W x) => O.durable x _ _ _ _ (O.later hd hp)
  have hPe := fun x (hp : Below W.heap.size W x) => O.pending x _ _ _ _ (O.later hd hp) (by omega)
  have hSe := fun x (hp : Below W.heap.size W x) => O.sectors x _ _ _ _ (O.later hd hp) (by omega)
  have hRs := fun x (hp : Below W.heap.size W x) => refSectors5 (hr.later hp) (by omega)
  simp only [hm, hnp, hO9] at hDu hPe hSe hRs
  have HB : Hid (Below w.heap.size w W) := hb
  clear hAc hd hr v1 v2 v3 hb hD hRf hok hO9
  go_upto_region 4 with fail
  refine wp_reliesT [Fx (.pointer (some a)), Fx (.bool st.down), Fx (.pointer (some ⟨r, 0, none⟩)), Fx (.pointer (some ⟨r, 0, none⟩)), Fx (.pointer (some ⟨r, 3, none⟩)), Fx (.bool st.down), Fx (.bool true), Fx (.bool true), Fx (.int .i64 ((st.rd : Int))), Fx (.pointer (some ⟨r, 0, none⟩)), Fx (.pointer (some ⟨r, 0, none⟩)), Fx (.pointer (some ⟨r, 4, none⟩)), Fx (.int .i64 ((st.rd : Int))), Fx (.bool true), Fx (.bool true), Fx (.bool true), Fx (.int .i64 ((st.wt : Int))), Fx (.pointer (some ⟨r, 0, none⟩)), Fx (.pointer (some ⟨r, 0, none⟩)), Fx (.pointer (some ⟨r, 5, none⟩)), Fx (.int .i64 ((st.wt : Int))), Fx (.bool true), Fx (.bool true), Fx (.bool true), Fx (.int .i64 ((st.fl : Int))), Fx (.pointer (some ⟨r, 0, none⟩)), Fx (.pointer (some ⟨r, 0, none⟩)), Fx (.pointer (some ⟨r, 6, none⟩)), Fx (.int .i64 ((st.fl : Int))), Fx (.bool true), Fx (.bool true), Fx (.bool true), Fx (.pointer (some a)), SlD secE m O9, Fx (.pointer (some ⟨r, 0, none⟩)), SlD secE m O9, Fx (.bool true), Fx (.bool true), Fx (.bool true), Fx (.pointer (some a)), SlD secE m st.last, Fx (.pointer (some ⟨r, 0, none⟩)), Fx (.pointer (some ⟨r, 0, none⟩)), Fx (.pointer (some ⟨r, 0, none⟩)), Fx (.slice xl m cl), Fx (.bool true), Fx (.bool true), Fx (.bool true), Fx (.pointer (some a)), SlD wrE np st.pend, Fx (.pointer (some ⟨r, 0, none⟩)), Fx (.pointer (some ⟨r, 0, none⟩)), Fx (.pointer (some ⟨r, 1, none⟩)), Fx (.slice xp np cp), Fx (.bool true), Fx (.bool true)] (by kernel_rfl) (by kernel_rfl) ?_ ?_ ?_
  · repeat' (first | exact all_nil | apply all_cons)
    all_goals intro v y y' hv hb
    all_goals first | exact Fx_mono _ _ _ _ hv hb | exact SlD.keep hv hb
  · refine ⟨?_, ?_, ?_, ?_, ?_, ?_, ?_, ?_, ?_, ?_, ?_, ?_, ?_, ?_, ?_, ?_, ?_, ?_, ?_, ?_, ?_, ?_, ?_, ?_, ?_, ?_, ?_, ?_, ?_, ?_, ?_, ?_, ?_, ?_, ?_, ?_, ?_, ?_, ?_, ?_, ?_, ?_, ?_, ?_, ?_, ?_, ?_, ?_, ?_, ?_, ?_, ?_, ?_, ?_, ?_, ?_, trivial⟩
    all_goals
      intro ρ x hp ρc ρg ρf ho hd
      have o0 : ρ (.tmp 0) = .pointer (some a) := ho 0 rfl
      have o1 : ρ (.tmp 1) = .pointer (some ⟨r, 0, none⟩) := ho 1 rfl
      have o5 : ρ (.tmp 5) = .int .i64 ((st.rd : Int)) := ho 5 rfl
      have o6 : ρ (.tmp 6) = .int .i64 ((st.wt : Int)) := ho 6 rfl
      have o7 : ρ (.tmp 7) = .int .i64 ((st.fl : Int)) := ho 7 rfl
      clear ho
      have q0 := cell_later hp c0
      have q1 := cell_later hp c1
      have q3 := cell_later hp c3
      have q4 := cell_later hp c4
      have q5 := cell_later hp c5
      have q6 := cell_later hp c6
      simp only [depsR, depR, slotR, Fx, List.getElem?_cons_succ, List.getElem?_cons_zero, Region.binds, forall_const] at hd
      simp only [guardR]
      go_split_ands
    · go_simp
    · go_simp
      refine (O.down x _ _ _ _ (O.later hd9.out hp)).mono ?_
      rintro e w' ⟨rfl, hw⟩
      exact ⟨_, rfl, rfl, hw⟩
    · go_simp
    · go_simp
    · go_simp
    · go_simp
    · go_simp
    · go_simp
    · refine ⟨fun _ => ?_, fun hy => absurd (by simp [yieldR, slotR, *]) hy⟩
      go_simp
    · refine ⟨fun _ => ?_, fun hy => absurd (by simp [yieldR, slotR, *]) hy⟩
      go_simp
    · refine ⟨fun _ => ?_, fun hy => absurd (by simp [yieldR, slotR, *]) hy⟩
      go_simp
    · refine ⟨fun _ => ?_, fun hy => absurd (by simp [yieldR, slotR, *]) hy⟩
      go_simp
    · refine ⟨fun _ => ?_, fun hy => absurd (by simp [yieldR, slotR, *]) hy⟩
      go_simp
    · refine ⟨fun _ => ?_, fun hy => absurd (by simp [yieldR, slotR, *]) hy⟩
      go_simp
    · go_simp
    · go_simp
    · refine ⟨fun _ => ?_, fun hy => absurd (by simp [yieldR, slotR, *]) hy⟩
      go_simp
    · refine ⟨fun _ => ?_, fun hy => absurd (by simp [yieldR, slotR, *]) hy⟩
      go_simp
    · refine ⟨fun _ => ?_, fun hy => absurd (by simp [yieldR, slotR, *]) hy⟩
      go_simp
    · refine ⟨fun _ => ?_, fun hy => absurd (by simp [yieldR, slotR, *]) hy⟩
      go_simp
    · refine ⟨fun _ => ?_, fun hy => absurd (by simp [yieldR, slotR, *]) hy⟩
      go_simp
    · refine ⟨fun _ => ?_, fun hy => absurd (by simp [yieldR, slotR, *]) hy⟩
      go_simp
    · go_simp
    · go_simp
    · refine ⟨fun _ => ?_, fun hy => absurd (by simp [yieldR, slotR, *]) hy⟩
      go_simp
    · refine ⟨fun _ => ?_, fun hy => absurd (by simp [yieldR, slotR, *]) hy⟩
      go_simp
    · refine ⟨fun _ => ?_, fun hy => absurd (by simp [yieldR, slotR, *]) hy⟩
      go_simp
    · refine ⟨fun _ => ?_, fun hy => absurd (by simp [yieldR, slotR, *]) hy⟩
      go_simp
    · refine ⟨fun _ => ?_, fun hy => absurd (by simp [yieldR, slotR, *]) hy⟩
      go_simp
    · refine ⟨fun _ => ?_, fun hy => absurd (by simp [yieldR, slotR, *]) hy⟩
      go_simp
    · go_simp
    · go_simp
    · refine ⟨fun _ => ?_, fun hy => absurd (by simp [yieldR, slotR, *]) hy⟩
      go_simp
    · refine ⟨fun _ => ?_, fun hy => absurd (by simp [yieldR, slotR, *]) hy⟩
      go_simp
      refine (hSe x hp).mono ?_
      rintro e w' ⟨y, c, rfl, ho9, hw⟩
      exact ⟨_, rfl, ⟨y, c, rfl, OwnK.le ho9 (Nat.zero_le _)⟩, hw⟩
    · refine ⟨fun _ => ?_, fun hy => absurd (by simp [yieldR, slotR, *]) hy⟩
      go_simp
    · refine ⟨fun _ => ?_, fun hy => absurd (by simp [yieldR, slotR, *]) hy⟩
      go_simp
      refine (hRs x hp).mono ?_
      rintro e w' ⟨y, c, rfl, ho9, hw⟩
      exact ⟨_, rfl, ⟨y, c, rfl, OwnK.le ho9 (Nat.zero_le _)⟩, hw⟩
    · refine ⟨fun _ => ?_, fun hy => absurd (by simp [yieldR, slotR, *]) hy⟩
      obtain ⟨⟨y, c, hv, ho9⟩, ⟨y2, c2, hv2, ho2⟩⟩ : SlD secE m O9 (ρ (.tmp 49)) x ∧ SlD secE m O9 (ρ (.tmp 51)) x := by first | exact ⟨hd.1, hd.2.1⟩ | (constructor <;> assumption)
      go_simp
      refine (sameS_any y y2 c c2 m m O9 O9 x hO9l hO9l (OwnK.isK secE_ok ho9) (OwnK.isK secE_ok ho2) (by omega)).mono ?_
      rintro e w' ⟨rfl, hw⟩
      exact ⟨_, rfl, by rw [decide_eq_true rfl]; rfl, hw⟩
    · go_simp
    · go_simp
    · refine ⟨fun _ => ?_, fun hy => absurd (by simp [yieldR, slotR, *]) hy⟩
      go_simp
    · refine ⟨fun _ => ?_, fun hy => absurd (by simp [yieldR, slotR, *]) hy⟩
      go_simp
      refine (hDu x hp).mono ?_
      rintro e w' ⟨y, c, rfl, ho9, hw⟩
      exact ⟨_, rfl, ⟨y, c, rfl, OwnK.le ho9 (Nat.zero_le _)⟩, hw⟩
    · refine ⟨fun _ => ?_, fun hy => absurd (by simp [yieldR, slotR, *]) hy⟩
      go_simp
    · refine ⟨fun _ => ?_, fun hy => absurd (by simp [yieldR, slotR, *]) hy⟩
      go_simp
    · refine ⟨fun _ => ?_, fun hy => absurd (by simp [yieldR, slotR, *]) hy⟩
      go_simp
    · refine ⟨fun _ => ?_, fun hy => absurd (by simp [yieldR, slotR, *]) hy⟩
      go_simp
    · refine ⟨fun _ => ?_, fun hy => absurd (by simp [yieldR, slotR, *]) hy⟩
      obtain ⟨y, c, hv, ho9⟩ : SlD secE m st.last (ρ (.tmp 56)) x := by first | exact hd.1 | assumption
      go_simp
      refine (sameS_any y xl c cl m m st.last st.last x hm hm (OwnK.isK secE_ok ho9) (hvl.out.kept hp) (by omega)).mono ?_
      rintro e w' ⟨rfl, hw⟩
      exact ⟨_, rfl, by rw [decide_eq_true rfl]; rfl, hw⟩
    · go_simp
    · go_simp
    · refine ⟨fun _ => ?_, fun hy => absurd (by simp [yieldR, slotR, *]) hy⟩
      go_simp
    · refine ⟨fun _ => ?_, fun hy => absurd (by simp [yieldR, slotR, *]) hy⟩
      go_simp
      refine (hPe x hp).mono ?_
      rintro e w' ⟨y, c, rfl, ho9, hw⟩
      exact ⟨_, rfl, ⟨y, c, rfl, OwnK.le ho9 (Nat.zero_le _)⟩, hw⟩
    · refine ⟨fun _ => ?_, fun hy => absurd (by simp [yieldR, slotR, *]) hy⟩
      go_simp
    · refine ⟨fun _ => ?_, fun hy => absurd (by simp [yieldR, slotR, *]) hy⟩
      go_simp
    · refine ⟨fun _ => ?_, fun hy => absurd (by simp [yieldR, slotR, *]) hy⟩
      go_simp
    · refine ⟨fun _ => ?_, fun hy => absurd (by simp [yieldR, slotR, *]) hy⟩
      go_simp
    · refine ⟨fun _ => ?_, fun hy => absurd (by simp [yieldR, slotR, *]) hy⟩
      obtain ⟨y, c, hv, ho9⟩ : SlD wrE np st.pend (ρ (.tmp 65)) x := by first | exact hd.1 | assumption
      go_simp
      refine (writesS_any y xp c cp np np st.pend st.pend x hnp hnp (OwnK.isK wrE_ok ho9) (hvp.out.kept hp) (by omega)).mono ?_
      rintro e w' ⟨rfl, hw⟩
      exact ⟨_, rfl, by rw [decide_eq_true rfl]; rfl, hw⟩
    · go_simp
  · intro vs x1 hp hw
    simp only [owed, Fx] at hw
    obtain ⟨e0, e1, e2, e3, e4, e5, e6, e7, e8, e9, e10, e11, e12, e13, e14, e15, e16, e17, e18, e19, e20, e21, e22, e23, e24, e25, e26, e27, e28, e29, e30, e31, e32, ⟨y33, c33, e33, -⟩, e34, ⟨y35, c35, e35, -⟩, e36, e37, e38, e39, ⟨y40, c40, e40, -⟩, e41, e42, e43, e44, e45, e46, e47, e48, ⟨y49, c49, e49, -⟩, e50, e51, e52, e53, e54, e55, -⟩ := hw
    simp only [List.length_cons, List.length_nil, List.take_succ_cons, List.take_zero, List.drop_succ_cons, List.drop_zero, asg, List.cons_append, List.nil_append, e0, e1, e2, e3, e4, e5, e6, e7, e8, e9, e10, e11, e12, e13, e14, e15, e16, e17, e18, e19, e20, e21, e22, e23, e24, e25, e26, e27, e28, e29, e30, e31, e32, e33, e34, e35, e36, e37, e38, e39, e40, e41, e42, e43, e44, e45, e46, e47, e48, e49, e50, e51, e52, e53, e54, e55]
    clear e0 e1 e2 e3 e4 e5 e6 e7 e8 e9 e10 e11 e12 e13 e14 e15 e16 e17 e18 e19 e20 e21 e22 e23 e24 e25 e26 e27 e28 e29 e30 e31 e32 e33 e34 e35 e36 e37 e38 e39 e40 e41 e42 e43 e44 e45 e46 e47 e48 e49 e50 e51 e52 e53 e54 e55
    have HB1 : Hid (Below w.heap.size w x1) := HB.out.trans (hp.mono HB.out.size)
    clear hp
    go_wp2_with fail
    go_ret
    exact ⟨rfl, HB1.out⟩
end Go.Proofs.Ytadnfiikfhdphaa
