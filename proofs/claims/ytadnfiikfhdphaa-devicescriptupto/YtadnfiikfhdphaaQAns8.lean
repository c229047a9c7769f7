import Derived.Test.YtadnfiikfhdphaaQGdj
namespace Go.Proofs.Ytadnfiikfhdphaa
open Go.RowKit

/-! assaylaw05's answered, Kind 8 -/
set_option linter.unusedSimpArgs false in
set_option linter.unusedVariables false in
set_option maxRecDepth 100000 in
set_option maxHeartbeats 8000000 in
theorem answered_8 {W : World} {B : Nat} {T : Nat → Option Th} {ps : List Pr5} {b : Bk} {k n : Nat} {da : Addr} {r : Nat} {st : DSt} (on a : Int) (v : UInt8) (y : Option Addr) (nb c : Nat) (bs : List Bool) (h : G5 W B T ps b (bkA b)) (hp : ps[k]? = some ⟨.pointer (some da), r, st, st⟩) (hL : Lim n st) (hn : n ≤ 4194304) (hb : BkOk n b) (ha0 : -9223372036854775808 ≤ a) (ha1 : a ≤ 9223372036854775807)
    (hbl : bs.length = nb) (hbn : nb ≤ 4194304) (hbc : nb ≤ c) (hbs : IsG W (.slice y nb c) (bs.map Value.bool)) (hby : bs ≠ [] → ∀ x, y = some x → x.block < B) :
    Calls Try.prog 9 #[.pointer (some da), .pointer (some ⟨r, 0, none⟩), .agg #[.int .i64 8, .int .i64 on, .int .i64 a, .int .u8 (v.toNat : Int), .slice y nb c], .pointer (some ⟨b.g, 0, none⟩)] W fun e w' => AnsPost W B T ps b k ⟨.pointer (some da), r, st, st⟩ n e w' := by
  have hA := h.box #[.int .i64 8, .int .i64 on, .int .i64 a, .int .u8 (v.toNat : Int), .slice y nb c] 46
  have hR := RowC.new W #[.int .i64 8, .int .i64 on, .int .i64 a, .int .u8 (v.toNat : Int), .slice y nb c] 46
  have hB0 := below_alloc W (.cells #[.int .i64 8, .int .i64 on, .int .i64 a, .int .u8 (v.toNat : Int), .slice y nb c] 46)
  have c0 : (W.alloc (.cells #[.int .i64 8, .int .i64 on, .int .i64 a, .int .u8 (v.toNat : Int), .slice y nb c] 46)).cell? ⟨W.heap.size, 0, none⟩ = some (.int .i64 8) := by rw [hR.cell 0]; rfl
  have c2 : (W.alloc (.cells #[.int .i64 8, .int .i64 on, .int .i64 a, .int .u8 (v.toNat : Int), .slice y nb c] 46)).cell? ⟨W.heap.size, 2, none⟩ = some (.int .i64 a) := by rw [hR.cell 2]; rfl
  have c3 : (W.alloc (.cells #[.int .i64 8, .int .i64 on, .int .i64 a, .int .u8 (v.toNat : Int), .slice y nb c] 46)).cell? ⟨W.heap.size, 3, none⟩ = some (.int .u8 (v.toNat : Int)) := by rw [hR.cell 3]; rfl
  have c4 : (W.alloc (.cells #[.int .i64 8, .int .i64 on, .int .i64 a, .int .u8 (v.toNat : Int), .slice y nb c] 46)).cell? ⟨W.heap.size, 4, none⟩ = some (.slice y nb c) := by rw [hR.cell 4]; rfl
  have hszB : B ≤ W.heap.size := h.ga.size
  have hLm : Lim 1099511627776 st := hL.le (by omega)
  have HB0 : Hid (Below B W (W.alloc (.cells #[.int .i64 8, .int .i64 on, .int .i64 a, .int .u8 (v.toNat : Int), .slice y nb c] 46))) := hB0.mono hszB
  clear hR
  go_enter Try.func9, Try.ntmps9
  go_upto_region 37 with fail
  obtain ⟨gk, hgk⟩ : ∃ g, b.g = g := ⟨_, rfl⟩
  rw [hgk] at hA
  simp only [hgk]
  obtain ⟨gb, hgb⟩ : ∃ g, W.heap.size = g := ⟨_, rfl⟩
  rw [hgb] at c0 c2 c3 c4 hA
  simp only [hgb]
  obtain ⟨Tb, hTb⟩ : ∃ t, updT T 64 (thRow gb #[.int .i64 8, .int .i64 on, .int .i64 a, .int .u8 (v.toNat : Int), .slice y nb c]) = t := ⟨_, rfl⟩
  rw [hTb] at hA
  generalize W.alloc (.cells #[.int .i64 8, .int .i64 on, .int .i64 a, .int .u8 (v.toNat : Int), .slice y nb c] 46) = X at hA hB0 HB0 c0 c2 c3 c4 ⊢
  have Hb : Hid _ := hb
  have HLm : Hid (Lim 1099511627776 st) := hLm
  have hHi : st.last.length ≤ 1024 := by
    obtain ⟨F, R, hd⟩ := h.isDev hp
    exact (devOk.ok hd).hi
  have hcS := hb.cS
  have hcP := hb.cP
  have heS : b.sS.length = b.sW.length := by have := congrArg List.length hb.eS; simpa using this
  have heP : b.sP.length = b.sV.length := by have := congrArg List.length hb.eP; simpa using this
  obtain ⟨FD, RD, hd⟩ : ∃ F R, DevIs X (.pointer (some da)) st F R := by
    obtain ⟨T9, g9, -⟩ := hA
    exact g9.isDev hp
  obtain ⟨FR, hrf⟩ : ∃ F, RefIs X B r st F := by
    obtain ⟨T9, g9, -⟩ := hA
    exact g9.isRef hp
  clear h hb hbs hB0 c0 c2 c3 c4
  go_wp2_with fail
  go_at_call 23
  refine (devOk.acts X _ st FD RD hd).mono ?_
  rintro e Y ⟨rfl, hbY⟩
  have hdY := devOk.later hd hbY
  have hrY := hrf.later hbY
  obtain ⟨vl, vp, v1, v2, v3, -⟩ := id hrY
  obtain ⟨xl, cl, rfl⟩ := (v2.isK secE_ok).len
  obtain ⟨r0, -, -, r3, r4, r5, r6⟩ := v1.cells
  obtain ⟨m, hm⟩ : ∃ q, st.last.length = q := ⟨_, rfl⟩
  rw [hm] at r0
  have hd9 : Hid (DevIs Y (.pointer (some da)) st FD RD) := hdY
  have hNN := fun x (hp : Below Y.heap.size Y x) => devOk.n x _ _ _ _ (devOk.later hdY hp)
  simp only [hm] at hNN
  have hA1 := hA.later hbY
  have HA1 : Hid (At5 B [gb, gk] Tb ps b (bkA b) Y) := hA1
  have HBY : Hid (Below B W Y) := HB0.out.trans (hbY.mono hA.size)
  have hp9 := hp
  clear hd hrf hdY hrY v1 v2 v3 hA hA1 hbY hp
  go_upto_region 38 with fail
  refine wp_reliesT [Fx (.pointer (some da)), Fx (.bool st.down), Fx (.pointer (some ⟨r, 0, none⟩)), Fx (.pointer (some ⟨r, 0, none⟩)), Fx (.pointer (some ⟨r, 3, none⟩)), Fx (.bool st.down), Fx (.bool true), Fx (.bool true), Fx (.int .i64 ((st.rd : Int))), Fx (.pointer (some ⟨r, 0, none⟩)), Fx (.pointer (some ⟨r, 0, none⟩)), Fx (.pointer (some ⟨r, 4, none⟩)), Fx (.int .i64 ((st.rd : Int))), Fx (.bool true), Fx (.bool true), Fx (.bool true), Fx (.int .i64 ((st.wt : Int))), Fx (.pointer (some ⟨r, 0, none⟩)), Fx (.pointer (some ⟨r, 0, none⟩)), Fx (.pointer (some ⟨r, 5, none⟩)), Fx (.int .i64 ((st.wt : Int))), Fx (.bool true), Fx (.bool true), Fx (.bool true), Fx (.int .i64 ((st.fl : Int))), Fx (.pointer (some ⟨r, 0, none⟩)), Fx (.pointer (some ⟨r, 0, none⟩)), Fx (.pointer (some ⟨r, 6, none⟩)), Fx (.int .i64 ((st.fl : Int))), Fx (.bool true), Fx (.bool true), Fx (.bool true), Fx (.pointer (some da)), Fx (.int .i64 ((m : Int))), Fx (.pointer (some ⟨r, 0, none⟩)), Fx (.pointer (some ⟨r, 0, none⟩)), Fx (.pointer (some ⟨r, 0, none⟩)), Fx (.slice xl m cl), Fx (.int .i64 ((m : Int))), Fx (.bool true), Fx (.bool true)] (by kernel_rfl) (by kernel_rfl) ?_ ?_ ?_
  · repeat' (first | exact all_nil | apply all_cons)
    all_goals intro v y y' hv hb
    all_goals first | exact Fx_mono _ _ _ _ hv hb
  · refine ⟨?_, ?_, ?_, ?_, ?_, ?_, ?_, ?_, ?_, ?_, ?_, ?_, ?_, ?_, ?_, ?_, ?_, ?_, ?_, ?_, ?_, ?_, ?_, ?_, ?_, ?_, ?_, ?_, ?_, ?_, ?_, ?_, ?_, ?_, ?_, ?_, ?_, ?_, ?_, ?_, ?_, trivial⟩
    all_goals
      intro ρ x hp ρc ρg ρf ho hd
      have o0 : ρ (.tmp 0) = .pointer (some da) := ho 0 rfl
      have o1 : ρ (.tmp 1) = .pointer (some ⟨r, 0, none⟩) := ho 1 rfl
      have o17 : ρ (.tmp 17) = .int .i64 ((st.rd : Int)) := ho 17 rfl
      have o18 : ρ (.tmp 18) = .int .i64 ((st.wt : Int)) := ho 18 rfl
      have o19 : ρ (.tmp 19) = .int .i64 ((st.fl : Int)) := ho 19 rfl
      clear ho
      have q0 := cell_later hp r0
      have q3 := cell_later hp r3
      have q4 := cell_later hp r4
      have q5 := cell_later hp r5
      have q6 := cell_later hp r6
      simp only [depsR, depR, slotR, Fx, List.getElem?_cons_succ, List.getElem?_cons_zero, Region.binds, forall_const] at hd
      simp only [guardR]
      go_split_ands
    · go_simp
    · go_simp
      refine (devOk.down x _ _ _ _ (devOk.later hd9.out hp)).mono ?_
      rintro e w' ⟨rfl, hw⟩
      exact ⟨_, rfl, rfl, hw⟩
    · go_simp
    · go_simp
    · go_simp
    · go_simp
    · go_simp
    · go_simp
    · refine ⟨fun _ => ?_, fun hy => absurd (by simp [yieldR, slotR, *]) hy⟩
      go_simp
    · refine ⟨fun _ => ?_, fun hy => absurd (by simp [yieldR, slotR, *]) hy⟩
      go_simp
    · refine ⟨fun _ => ?_, fun hy => absurd (by simp [yieldR, slotR, *]) hy⟩
      go_simp
    · refine ⟨fun _ => ?_, fun hy => absurd (by simp [yieldR, slotR, *]) hy⟩
      go_simp
    · refine ⟨fun _ => ?_, fun hy => absurd (by simp [yieldR, slotR, *]) hy⟩
      go_simp
    · refine ⟨fun _ => ?_, fun hy => absurd (by simp [yieldR, slotR, *]) hy⟩
      go_simp
    · go_simp
    · go_simp
    · refine ⟨fun _ => ?_, fun hy => absurd (by simp [yieldR, slotR, *]) hy⟩
      go_simp
    · refine ⟨fun _ => ?_, fun hy => absurd (by simp [yieldR, slotR, *]) hy⟩
      go_simp
    · refine ⟨fun _ => ?_, fun hy => absurd (by simp [yieldR, slotR, *]) hy⟩
      go_simp
    · refine ⟨fun _ => ?_, fun hy => absurd (by simp [yieldR, slotR, *]) hy⟩
      go_simp
    · refine ⟨fun _ => ?_, fun hy => absurd (by simp [yieldR, slotR, *]) hy⟩
      go_simp
    · refine ⟨fun _ => ?_, fun hy => absurd (by simp [yieldR, slotR, *]) hy⟩
      go_simp
    · go_simp
    · go_simp
    · refine ⟨fun _ => ?_, fun hy => absurd (by simp [yieldR, slotR, *]) hy⟩
      go_simp
    · refine ⟨fun _ => ?_, fun hy => absurd (by simp [yieldR, slotR, *]) hy⟩
      go_simp
    · refine ⟨fun _ => ?_, fun hy => absurd (by simp [yieldR, slotR, *]) hy⟩
      go_simp
    · refine ⟨fun _ => ?_, fun hy => absurd (by simp [yieldR, slotR, *]) hy⟩
      go_simp
    · refine ⟨fun _ => ?_, fun hy => absurd (by simp [yieldR, slotR, *]) hy⟩
      go_simp
    · refine ⟨fun _ => ?_, fun hy => absurd (by simp [yieldR, slotR, *]) hy⟩
      go_simp
    · go_simp
    · go_simp
    · refine ⟨fun _ => ?_, fun hy => absurd (by simp [yieldR, slotR, *]) hy⟩
      go_simp
    · refine ⟨fun _ => ?_, fun hy => absurd (by simp [yieldR, slotR, *]) hy⟩
      go_simp
      refine (hNN x hp).mono ?_
      rintro e w' ⟨rfl, hw⟩
      exact ⟨_, rfl, rfl, hw⟩
    · refine ⟨fun _ => ?_, fun hy => absurd (by simp [yieldR, slotR, *]) hy⟩
      go_simp
    · refine ⟨fun _ => ?_, fun hy => absurd (by simp [yieldR, slotR, *]) hy⟩
      go_simp
    · refine ⟨fun _ => ?_, fun hy => absurd (by simp [yieldR, slotR, *]) hy⟩
      go_simp
    · refine ⟨fun _ => ?_, fun hy => absurd (by simp [yieldR, slotR, *]) hy⟩
      go_simp
    · refine ⟨fun _ => ?_, fun hy => absurd (by simp [yieldR, slotR, *]) hy⟩
      go_simp
    · refine ⟨fun _ => ?_, fun hy => absurd (by simp [yieldR, slotR, *]) hy⟩
      go_simp
    · go_simp
  · intro vs x1 hp hw
    simp only [owed, Fx] at hw
    obtain ⟨e0, e1, e2, e3, e4, e5, e6, e7, e8, e9, e10, e11, e12, e13, e14, e15, e16, e17, e18, e19, e20, e21, e22, e23, e24, e25, e26, e27, e28, e29, e30, e31, e32, e33, e34, e35, e36, e37, e38, e39, e40, -⟩ := hw
    simp only [List.length_cons, List.length_nil, List.take_succ_cons, List.take_zero, List.drop_succ_cons, List.drop_zero, asg, List.cons_append, List.nil_append, e0, e1, e2, e3, e4, e5, e6, e7, e8, e9, e10, e11, e12, e13, e14, e15, e16, e17, e18, e19, e20, e21, e22, e23, e24, e25, e26, e27, e28, e29, e30, e31, e32, e33, e34, e35, e36, e37, e38, e39, e40]
    clear e0 e1 e2 e3 e4 e5 e6 e7 e8 e9 e10 e11 e12 e13 e14 e15 e16 e17 e18 e19 e20 e21 e22 e23 e24 e25 e26 e27 e28 e29 e30 e31 e32 e33 e34 e35 e36 e37 e38 e39 e40
    have HF : Hid (AnsPost W B T ps b k ⟨.pointer (some da), r, st, st⟩ n (.returned (.bool true)) x1) := by
      subst hTb
      exact At5.fin (p' := ⟨.pointer (some da), r, st, st⟩) (by rw [set_same5 hp9]; exact At5.later HA1.out hp) rfl rfl hL.up Hb.out.up (HBY.out.trans (hp.mono (At5.size HA1.out)))
    clear hp HA1 HBY
    go_wp2_with fail
    go_ret
    exact HF.out
end Go.Proofs.Ytadnfiikfhdphaa
