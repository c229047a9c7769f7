import Derived.Test.YtadnfiikfhdphaaQDev6
import Derived.Deep.RegionHeld3
namespace Go.Proofs.Ytadnfiikfhdphaa
open Go.RowKit

/-! The document's device: Copy, Write -/
set_option linter.unusedSimpArgs false in
set_option maxRecDepth 100000 in
set_option maxHeartbeats 800000 in
theorem refCopy_any (w : World) (B r : Nat) (st : DSt) (F : List Nat) (h : RefIs w B r st F) (hp9 : st.pend.length ≤ 1099511627776) :
    Calls Try.prog 11 #[.pointer (some ⟨r, 0, none⟩)] w fun e w' => ∃ q G, e = .returned (.pointer (some ⟨q, 0, none⟩)) ∧ RefIs w' w.heap.size q st G ∧ Below w.heap.size w w' := by
  have h8 := h.ok
  obtain ⟨vl, vp, h1, h2, h3, h4, h5, h6, h7, -⟩ := h
  obtain ⟨xl, cl, rfl⟩ := (h2.isK secE_ok).len
  obtain ⟨xp, cp, rfl⟩ := (h3.isK wrE_ok).len
  have IL := h2.isK secE_ok
  have IP := h3.isK wrE_ok
  obtain ⟨n, hn⟩ : ∃ n, st.last.length = n := ⟨_, rfl⟩
  obtain ⟨np, hnp⟩ : ∃ n, st.pend.length = n := ⟨_, rfl⟩
  have hhi := h8.hi
  have hrl := h1.lt
  rw [hn] at h1 IL hhi
  rw [hnp] at h1 IP hp9
  obtain ⟨c0, c1, c2, c3, c4, c5, c6⟩ := h1.cells
  clear h2 h3 h4 h5 h6 h7
  go_enter Try.func11, Try.ntmps11
  go_upto_region 1 with fail
  refine wp_reliesT [Fx (.pointer (some ⟨r, 0, none⟩)), Fx (.pointer (some ⟨r, 0, none⟩)), Fx (.pointer (some ⟨r, 2, none⟩)), Fx (.int .i64 st.left), Fx (.pointer (some ⟨r, 0, none⟩)), Fx (.pointer (some ⟨r, 0, none⟩)), Fx (.pointer (some ⟨r, 3, none⟩)), Fx (.bool st.down), Fx (.pointer (some ⟨r, 0, none⟩)), Fx (.pointer (some ⟨r, 0, none⟩)), Fx (.pointer (some ⟨r, 4, none⟩)), Fx (.int .i64 (st.rd : Int)), Fx (.pointer (some ⟨r, 0, none⟩)), Fx (.pointer (some ⟨r, 0, none⟩)), Fx (.pointer (some ⟨r, 5, none⟩)), Fx (.int .i64 (st.wt : Int)), Fx (.pointer (some ⟨r, 0, none⟩)), Fx (.pointer (some ⟨r, 0, none⟩)), Fx (.pointer (some ⟨r, 6, none⟩)), Fx (.int .i64 (st.fl : Int)), Fx (.agg #[Value.slice none 0 0, Value.slice none 0 0, Value.int .i64 st.left, Value.bool st.down, Value.int .i64 (st.rd : Int), Value.int .i64 (st.wt : Int), Value.int .i64 (st.fl : Int)])] (by kernel_rfl) (by kernel_rfl) ?_ ?_ ?_
  · repeat' (first | exact all_nil | apply all_cons)
    all_goals intro v y y' hv hb
    all_goals first | exact Fx_mono _ _ _ _ hv hb
  · refine ⟨?_, ?_, ?_, ?_, ?_, ?_, ?_, ?_, ?_, ?_, ?_, ?_, ?_, ?_, ?_, ?_, ?_, ?_, ?_, ?_, ?_, trivial⟩
    all_goals
      intro ρ x hp ρc ρg ρf ho hd
      have o0 : ρ (.tmp 0) = .pointer (some ⟨r, 0, none⟩) := ho 0 rfl
      clear ho
      have q2 := cell_later hp c2
      have q3 := cell_later hp c3
      have q4 := cell_later hp c4
      have q5 := cell_later hp c5
      have q6 := cell_later hp c6
      simp only [depsR, depR, slotR, Fx, List.getElem?_cons_succ, List.getElem?_cons_zero, Region.binds, forall_const] at hd
      simp only [guardR]
      go_split_ands
    · go_simp
    · go_simp
    · go_simp
    · go_simp
    · go_simp
    · go_simp
    · go_simp
    · go_simp
    · go_simp
    · go_simp
    · go_simp
    · go_simp
    · go_simp
    · go_simp
    · go_simp
    · go_simp
    · go_simp
    · go_simp
    · go_simp
    · go_simp
    · go_simp
  · intro vs x_1 hp hw
    simp only [owed, Fx] at hw
    obtain ⟨e0, e1, e2, e3, e4, e5, e6, e7, e8, e9, e10, e11, e12, e13, e14, e15, e16, e17, e18, e19, e20, -⟩ := hw
    simp only [List.length_cons, List.length_nil, List.take_succ_cons, List.take_zero, List.drop_succ_cons, List.drop_zero, asg, List.cons_append, List.nil_append, e0, e1, e2, e3, e4, e5, e6, e7, e8, e9, e10, e11, e12, e13, e14, e15, e16, e17, e18, e19, e20]
    clear e0 e1 e2 e3 e4 e5 e6 e7 e8 e9 e10 e11 e12 e13 e14 e15 e16 e17 e18 e19 e20
    have hA : (#[Value.slice none 0 0, Value.slice none 0 0, Value.int .i64 st.left, Value.bool st.down, Value.int .i64 (st.rd : Int), Value.int .i64 (st.wt : Int), Value.int .i64 (st.fl : Int)] : Array Value) = refA (.slice none 0 0) (.slice none 0 0) st := rfl
    have hx1 : Below w.heap.size w x_1 := hp
    have hC0 : RefRow (x_1.alloc (.cells (refA (.slice none 0 0) (.slice none 0 0) st) 58)) x_1.heap.size (.slice none 0 0) (.slice none 0 0) st := heap_alloc_last x_1 _
    have hbX := hx1.alloc hx1.size (.cells (refA (.slice none 0 0) (.slice none 0 0) st) 58)
    have hzX : (x_1.alloc (.cells (refA (.slice none 0 0) (.slice none 0 0) st) 58)).heap.size = x_1.heap.size + 1 := by simp
    have hx1s := hx1.size
    clear hp c0 c1 c2 c3 c4 c5 c6
    rw [hA]
    go_upto_region 2 with fail
    have hRX := h1.kept (hbX.block r hrl)
    generalize x_1.alloc (.cells (refA (.slice none 0 0) (.slice none 0 0) st) 58) = X at hC0 hbX hzX hRX ⊢
    obtain ⟨q, hq⟩ : ∃ q, x_1.heap.size = q := ⟨_, rfl⟩
    simp only [hq]
    rw [hq] at hC0 hzX hx1s
    have hqX : q < X.heap.size := by omega
    have hqr : q ≠ r := by omega
    obtain ⟨e0, -⟩ := hC0.cells
    obtain ⟨d0, -⟩ := hRX.cells
    have ILX := IL.kept hbX
    clear hzX
    refine wp_reliesT [Fx (.pointer (some ⟨q, 0, none⟩)), Fx (.pointer (some ⟨q, 0, none⟩)), Fx (.pointer (some ⟨q, 0, none⟩)), Fx (.pointer (some ⟨q, 0, none⟩)), Fx (.slice none 0 0), Fx (.pointer (some ⟨r, 0, none⟩)), Fx (.pointer (some ⟨r, 0, none⟩)), Fx (.pointer (some ⟨r, 0, none⟩)), Fx (.slice xl n cl), fun v x => ∃ y c', v = .slice y n c' ∧ OwnK secE x X.heap.size (.slice y n c') st.last, Fx (.pointer (some ⟨q, 0, none⟩)), Fx (.pointer (some ⟨q, 0, none⟩))] (by kernel_rfl) (by kernel_rfl) ?_ ?_ ?_
    · repeat' (first | exact all_nil | apply all_cons)
      all_goals intro v y y' hv hb
      all_goals first | exact Fx_mono _ _ _ _ hv hb | (obtain ⟨y, c', h1, h2⟩ := hv; exact ⟨y, c', h1, h2.keep hb⟩)
    · refine ⟨?_, ?_, ?_, ?_, ?_, ?_, ?_, ?_, ?_, ?_, ?_, ?_, trivial⟩
      all_goals
        intro ρ x hp ρc ρg ρf ho hd
        have o0 : ρ (.tmp 0) = .pointer (some ⟨r, 0, none⟩) := ho 0 rfl
        have o3 : ρ (.tmp 3) = .pointer (some ⟨q, 0, none⟩) := ho 3 rfl
        clear ho
        have q0 := cell_later hp e0
        have q1 := cell_later hp d0
        have iX := ILX.kept hp
        simp only [depsR, depR, slotR, Fx, List.getElem?_cons_succ, List.getElem?_cons_zero, Region.binds, forall_const] at hd
        simp only [guardR]
        go_split_ands
      · go_simp
      · go_simp
      · go_simp
      · go_simp
      · go_simp
      · go_simp
      · go_simp
      · go_simp
      · go_simp
      · obtain ⟨y, c', x', hr, hy, hb⟩ := run_copyK secE_ok x (.slice none 0 0) xl cl st.last x.heap.size 24 (OwnK.nil _ _ _) (Nat.le_refl _) (by rw [hn]; exact iX) (by rw [hn]; show n * 64 ≤ _; omega) (by rw [hn]; unfold maxLen; omega)
        have hT : secE.S = 24 := rfl
        rw [hT, hn] at hr
        rw [hn] at hy
        rw [BigFrame.execOp_builtin, BigFrame.builtin_append]
        simp only [List.map_toArray, List.map_cons, List.map_nil, *, Sem.run_bind, Result.andThen_ok, Sem.run_pure, okUpon_value]
        exact ⟨⟨y, c', rfl, hy.le hp.size⟩, trivial⟩
      · go_simp
      · go_simp
    · intro vs x_2 hp hw
      simp only [owed, Fx] at hw
      obtain ⟨e0, e1, e2, e3, e4, e5, e6, e7, e8, ⟨y, c', e9, hOy⟩, e10, e11, -⟩ := hw
      simp only [List.length_cons, List.length_nil, List.take_succ_cons, List.take_zero, List.drop_succ_cons, List.drop_zero, asg, List.cons_append, List.nil_append, e0, e1, e2, e3, e4, e5, e6, e7, e8, e9, e10, e11]
      clear e0 e1 e2 e3 e4 e5 e6 e7 e8 e9 e10 e11
      have f0 := (hC0.kept (hp.block q hqX)).frozen 0
      obtain ⟨e0', -⟩ := (hC0.kept (hp.block q hqX)).cells
      have hC1 : RefRow (x_2.setCell ⟨q, 0, none⟩ (.slice y n c')) q (.slice y n c') (.slice none 0 0) st := (hC0.kept (hp.block q hqX)).set 0 _ rfl
      have hgY := grown_cell x_2 q 0 (.slice y n c')
      have hKY : Keep [q] x_2 (x_2.setCell ⟨q, 0, none⟩ (.slice y n c')) := Keep.of_grown hgY (fun k hk => by cases hk; simp)
      have yb := World.ownsRow.lt hOy
      have hOY := hOy.keeps hKY (fun k hk => by have := yb k hk; simp; omega)
      have hBY : Below w.heap.size w (x_2.setCell ⟨q, 0, none⟩ (.slice y n c')) := (hbX.trans (hp.mono hbX.size)).trans (hKY.below (fun k hk => by simp only [List.mem_singleton] at hk; omega) (by have := hbX.size; have := hp.size; omega))
      have hRY := h1.kept (hBY.block r hrl)
      have hsY : x_2.heap.size = (x_2.setCell ⟨q, 0, none⟩ (.slice y n c')).heap.size := by simp [World.setCell]
      have hXs := hp.size
      go_upto_region 3 with fail
      generalize x_2.setCell ⟨q, 0, none⟩ (.slice y n c') = Y at hC1 hOY hBY hRY hsY ⊢
      have IPY := IP.kept hBY
      obtain ⟨-, e1, -⟩ := hC1.cells
      obtain ⟨-, d1, -⟩ := hRY.cells
      have hqY : q < Y.heap.size := hC1.lt
      clear hp e0 d0 f0 e0' hOy hgY hKY ILX hRX
      refine wp_reliesT [Fx (.pointer (some ⟨q, 0, none⟩)), Fx (.pointer (some ⟨q, 0, none⟩)), Fx (.pointer (some ⟨q, 0, none⟩)), Fx (.pointer (some ⟨q, 1, none⟩)), Fx (.slice none 0 0), Fx (.pointer (some ⟨r, 0, none⟩)), Fx (.pointer (some ⟨r, 0, none⟩)), Fx (.pointer (some ⟨r, 1, none⟩)), Fx (.slice xp np cp), fun v x => ∃ y c', v = .slice y np c' ∧ OwnK wrE x Y.heap.size (.slice y np c') st.pend, Fx (.pointer (some ⟨q, 0, none⟩)), Fx (.pointer (some ⟨q, 1, none⟩))] (by kernel_rfl) (by kernel_rfl) ?_ ?_ ?_
      · repeat' (first | exact all_nil | apply all_cons)
        all_goals intro v y y' hv hb
        all_goals first | exact Fx_mono _ _ _ _ hv hb | (obtain ⟨y, c', h1, h2⟩ := hv; exact ⟨y, c', h1, h2.keep hb⟩)
      · refine ⟨?_, ?_, ?_, ?_, ?_, ?_, ?_, ?_, ?_, ?_, ?_, ?_, trivial⟩
        all_goals
          intro ρ x hp ρc ρg ρf ho hd
          have o0 : ρ (.tmp 0) = .pointer (some ⟨r, 0, none⟩) := ho 0 rfl
          have o3 : ρ (.tmp 3) = .pointer (some ⟨q, 0, none⟩) := ho 3 rfl
          clear ho
          have q0 := cell_later hp e1
          have q1 := cell_later hp d1
          have iX := IPY.kept hp
          simp only [depsR, depR, slotR, Fx, List.getElem?_cons_succ, List.getElem?_cons_zero, Region.binds, forall_const] at hd
          simp only [guardR]
          go_split_ands
        · go_simp
        · go_simp
        · go_simp
        · go_simp
        · go_simp
        · go_simp
        · go_simp
        · go_simp
        · go_simp
        · obtain ⟨y, c', x', hr, hy, hb⟩ := run_copyK wrE_ok x (.slice none 0 0) xp cp st.pend x.heap.size 56 (OwnK.nil _ _ _) (Nat.le_refl _) (by rw [hnp]; exact iX) (by rw [hnp]; show np * 72 ≤ _; omega) (by rw [hnp]; unfold maxLen; omega)
          have hT : wrE.S = 56 := rfl
          rw [hT, hnp] at hr
          rw [hnp] at hy
          rw [BigFrame.execOp_builtin, BigFrame.builtin_append]
          simp only [List.map_toArray, List.map_cons, List.map_nil, *, Sem.run_bind, Result.andThen_ok, Sem.run_pure, okUpon_value]
          exact ⟨⟨y, c', rfl, hy.le hp.size⟩, trivial⟩
        · go_simp
        · go_simp
      · intro vs x_3 hp hw
        simp only [owed, Fx] at hw
        obtain ⟨e0, e1, e2, e3, e4, e5, e6, e7, e8, ⟨z, c'', e9, hOz⟩, e10, e11, -⟩ := hw
        simp only [List.length_cons, List.length_nil, List.take_succ_cons, List.take_zero, List.drop_succ_cons, List.drop_zero, asg, List.cons_append, List.nil_append, e0, e1, e2, e3, e4, e5, e6, e7, e8, e9, e10, e11]
        clear e0 e1 e2 e3 e4 e5 e6 e7 e8 e9 e10 e11
        have g0 := (hC1.kept (hp.block q hqY)).frozen 1
        obtain ⟨-, e1', -⟩ := (hC1.kept (hp.block q hqY)).cells
        have hC2 : RefRow (x_3.setCell ⟨q, 1, none⟩ (.slice z np c'')) q (.slice y n c') (.slice z np c'') st := (hC1.kept (hp.block q hqY)).set 1 _ rfl
        have hK9 : Keep [q] x_3 (x_3.setCell ⟨q, 1, none⟩ (.slice z np c'')) := Keep.of_grown (grown_cell x_3 q 1 _) (fun k hk => by cases hk; simp)
        have zb := World.ownsRow.lt hOz
        have hOZ := (hOz.keeps hK9 (fun k hk => by have := zb k hk; simp; omega)).le (B' := w.heap.size) (by omega)
        have hOY9 := ((hOY.keep hp).keeps hK9 (fun k hk => by have := yb k hk; simp; omega)).le (B' := w.heap.size) (by omega)
        have hB9 : Below w.heap.size w (x_3.setCell ⟨q, 1, none⟩ (.slice z np c'')) := (hBY.trans (hp.mono hBY.size)).trans (hK9.below (fun k hk => by simp only [List.mem_singleton] at hk; omega) (by have := hBY.size; have := hp.size; omega))
        have hp3 := hp.size
        have hk9 := hK9.size
        have HF : Hid (RefIs (x_3.setCell ⟨q, 1, none⟩ (.slice z np c'')) w.heap.size q st (q :: ((Value.slice y n c').ownBlock.toList ++ (Value.slice z np c'').ownBlock.toList))) := by
          refine ⟨_, _, hC2, hOY9, hOZ, by simp, fun k hk => ?_, fun k hk => ?_, fun k hk => ?_, h8⟩
          · have := yb k hk
            refine ⟨by rw [hk]; simp, by omega, fun e => ?_⟩
            have := zb k e
            omega
          · have := zb k hk
            exact ⟨by rw [hk]; simp, by omega⟩
          · rcases List.mem_cons.1 hk with rfl | hk
            · exact ⟨by omega, hC2.lt⟩
            · rcases List.mem_append.1 hk with hk | hk
              · have := yb k (by simpa using hk)
                exact ⟨by omega, by omega⟩
              · have := zb k (by simpa using hk)
                exact ⟨by omega, by omega⟩
        have HB : Hid _ := hB9
        clear hC2 hK9 hOZ hOY9 hB9 hOY hOz hC1 hBY hRY IPY IP IL hp e1 d1
        go_wp2
        go_ret
        exact ⟨q, _, rfl, HF.out, HB.out⟩
end Go.Proofs.Ytadnfiikfhdphaa
