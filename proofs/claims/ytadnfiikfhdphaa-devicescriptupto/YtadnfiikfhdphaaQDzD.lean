import Derived.Test.YtadnfiikfhdphaaQDzC
namespace Go.Proofs.Ytadnfiikfhdphaa
open Go.RowKit

/-! Sectors, Pending, Copy -/
theorem DevP.act {w : World} {r : Nat} {vl vp : Value} {ps : List Ac} {sp : Int} {st : DSt} {F R : List Nat} (h : DevP w r vl vp ps sp st F R) {i : Nat} {x : Ac} (hx : ps[i]? = some x) : st.pend[i]? = some x.1 ∧ ∃ a : Nat, x.1.1 = (a : Int) ∧ a < st.last.length := by
  have e : st.pend[i]? = some x.1 := by rw [← h.eqp, List.getElem?_map, hx]; rfl
  exact ⟨e, pend_at h.ok e⟩
theorem DevP.plen {w : World} {r : Nat} {vl vp : Value} {ps : List Ac} {sp : Int} {st : DSt} {F R : List Nat} (h : DevP w r vl vp ps sp st F R) : ps.length = st.pend.length := by rw [← h.eqp, List.length_map]
theorem grown_bel {w w' : World} (h : Below w.heap.size w w') (row : Option Nat) : w.grownBy w' row := Below.grown h row
set_option linter.unusedSimpArgs false in
set_option maxHeartbeats 800000 in
theorem devSectors (w : World) (d : Value) (st : DSt) (F R : List Nat) (h : DevIs w d st F R) (hp9 : st.pend.length ≤ 1099511627776) :
    Calls Try.prog 25 #[d] w fun e w' => ∃ y c, e = .returned (.slice y st.last.length c) ∧ OwnK secE w' w.heap.size (.slice y st.last.length c) (over st.last st.pend) ∧ Below w.heap.size w w' := by
  have hD := devDurable w d st F R h
  obtain ⟨r, vl, vp, ps, sp, rfl, h⟩ := h
  have hpl := h.plen
  obtain ⟨xp, cp, rfl⟩ := (h.pend.isK actE_ok).len
  obtain ⟨n, hn⟩ : ∃ n, st.last.length = n := ⟨_, rfl⟩
  obtain ⟨np, hnp⟩ : ∃ n, ps.length = n := ⟨_, rfl⟩
  have hlo := h.ok.lo
  have hhi := h.ok.hi
  have hrl := h.row.lt
  rw [hn] at hD hlo hhi ⊢
  have hact : ∀ (i : Nat) (x : Ac), ps[i]? = some x → st.pend[i]? = some x.1 ∧ ∃ a : Nat, x.1.1 = (a : Int) ∧ a < n := fun i x hx => by rw [← hn]; exact h.act hx
  have hrow := h.row
  have hpend := h.pend
  have hbox : ∀ y ∈ ps, Boxed w y := fun y hy => (h.box y hy).1
  rw [hnp] at hrow hpend
  clear h
  go_enter Try.func25, Try.ntmps25
  go_wp2_with fail
  refine hD.mono ?_
  rintro e w1 ⟨y, c', rfl, hO, hB⟩
  obtain ⟨g, rfl, hg⟩ := hO.form (by omega)
  have hgl : w.heap.size ≤ g := (World.ownsRow.lt hO g rfl).1
  have hrow1 := hrow.kept (hB.block r hrl)
  obtain ⟨-, c1, -⟩ := hrow1.cells
  have hpq := fun q hq => (World.ownsRow.lt hpend q hq).2
  have hP1 := hpend.keep hB
  have hbox1 : ∀ y ∈ ps, Boxed w1 y := fun y hy => (hbox y hy).keeps (G := []) (Keep.of_below hB) (by simp) (by simp)
  have hblt : ∀ y ∈ ps, y.2.1 < w.heap.size ∧ y.2.2 < w.heap.size := fun y hy => ⟨World.block_lt_of_cell? w _ (hbox y hy).1, (hbox y hy).2.lt⟩
  clear hD hrow hpend hbox hrow1
  go_wp2_with fail
  go_loopw [15] (fun v wr => ∃ i : Nat, i ≤ np ∧ v = .int .i64 i ∧ OwnK secE wr w.heap.size (.slice (some ⟨g, 0, none⟩) n c') (over st.last (st.pend.take i)) ∧ w1.grownBy wr (some g)) (fun v _ => np - (intOf v).toNat)
  case atStart => exact ⟨0, by omega, rfl, hO, grown_drew w1 0 _⟩
  case round =>
    clear hO
    obtain ⟨i, hi, rfl, hO, hG⟩ := hrel
    have hK : Keep [g] w1 wr := Keep.of_grown hG (fun q hq => by cases hq; simp)
    by_cases hlt : i < np
    · obtain ⟨x, hx⟩ : ∃ x, ps[i]? = some x := ⟨ps[i]'(by omega), List.getElem?_eq_getElem (by omega)⟩
      obtain ⟨hxp, a, ha, hal⟩ := hact i x hx
      have hPw := hP1.keeps hK (fun q hq => by have := hpq q hq; simp only [List.mem_singleton]; omega)
      obtain ⟨gp, rfl, hgp⟩ := hPw.form (by omega)
      obtain ⟨dok, drg⟩ := actCells hPw i x hx
      have hxm := List.mem_of_getElem? hx
      obtain ⟨hb1, hb2⟩ := hblt x hxm
      have hbx := (hbox1 x hxm).keeps hK (by simp; omega) (by simp; omega)
      have HX : Hid (over st.last (st.pend.take (i + 1)) = (over st.last (st.pend.take i)).set a x.1.2) := over_step hxp ha
      have i0 : (0 : Int) ≤ (i : Int) := by omega
      have i1 : (i : Int) < (np : Int) := by omega
      obtain ⟨k1, k2⟩ := hbx
      rw [ha] at k1
      obtain ⟨xx, ga, gs⟩ := x
      simp only at k1 k2 HX hb1 hb2
      obtain ⟨q1, q2, q3⟩ := actRow wr (xx, ga, gs)
      simp only at q1
      have b2 := below_alloc wr (.cells (actA (xx, ga, gs)) 80)
      have hclo := clo_any (wr.alloc (.cells (actA (xx, ga, gs)) 80)) w.heap.size g n c' a ga gs xx.2 (over st.last (st.pend.take i)) (hO.keep b2) (by omega) (cell_later b2 k1) (k2.kept b2)
      have hO2 := secPut (hO.keep b2) a xx.2 (by omega)
      rw [← HX.out] at hO2
      have HO : Hid _ := hO2
      have HG : Hid _ := grown_two (grown_two hG (Below.grown b2 (some g))) (grown_setC (wr.alloc (.cells (actA (xx, ga, gs)) 80)) g (a * 64) (secA xx.2).toList)
      clear hx hxp ha hK hPw hP1 hpq hact hblt hbox1 hO hG hO2 HX q2 q3 k1 k2 b2 hxm
      go_upto_region 7 with fail
      generalize wr.alloc (.cells (actA (xx, ga, gs)) 80) = X at hclo HO HG q1 ⊢
      unfold cloV at q1
      go_wp2_with fail
      refine hclo.mono ?_
      rintro e X' ⟨rfl, hX'⟩
      rw [← hX'] at HO HG
      clear hclo hX' q1
      go_wp2
      go_roundw
      case rel => exact ⟨i + 1, by omega, by go_num, HO.out, HG.out⟩
      case measure => simp [intOf]; omega
    · obtain rfl : i = np := by omega
      rw [List.take_of_length_le (by omega)] at hO
      have HO : Hid _ := hO
      have HB : Hid (Below w.heap.size w wr) := hB.trans ⟨hG.os, hG.tape, hG.output, hG.size, fun q hq => hG.block q (Nat.lt_of_lt_of_le hq hB.size) (fun e => by cases e; omega)⟩
      clear hO hG
      go_wp2
      go_ret
      exact ⟨_, c', rfl, HO.out, HB.out⟩
set_option linter.unusedSimpArgs false in
set_option maxHeartbeats 800000 in
theorem devPending (w : World) (d : Value) (st : DSt) (F R : List Nat) (h : DevIs w d st F R) (hp9 : st.pend.length ≤ 1099511627776) :
    Calls Try.prog 17 #[d] w fun e w' => ∃ y c, e = .returned (.slice y st.pend.length c) ∧ OwnK wrE w' w.heap.size (.slice y st.pend.length c) st.pend ∧ Below w.heap.size w w' := by
  obtain ⟨r, vl, vp, ps, sp, rfl, h⟩ := h
  have hpl := h.plen
  obtain ⟨xp, cp, rfl⟩ := (h.pend.isK actE_ok).len
  obtain ⟨np, hnp⟩ : ∃ n, ps.length = n := ⟨_, rfl⟩
  obtain ⟨-, c1, -⟩ := h.row.cells
  have hpend := h.pend
  have hact : ∀ (i : Nat) (x : Ac), ps[i]? = some x → st.pend[i]? = some x.1 := fun i x hx => (h.act hx).1
  rw [hnp] at c1 hpend
  rw [← hpl, hnp] at hp9 ⊢
  clear h
  go_enter Try.func17, Try.ntmps17
  go_wp2_with fail
  go_loopw [3, 13] (fun l v wr => ∃ (i : Nat) (y : Option Addr) (c : Nat), i ≤ np ∧ v = .int .i64 i ∧ l = .slice y i c ∧ OwnK wrE wr w.heap.size (.slice y i c) (st.pend.take i) ∧ Below w.heap.size w wr) (fun _ v _ => np - (intOf v).toNat)
  case atStart => exact ⟨0, none, 0, by omega, rfl, rfl, by rw [List.take_zero]; exact OwnK.nil _ _ _, Below.refl _ _⟩
  case round =>
    obtain ⟨i, y, c, hi, rfl, rfl, hO, hB⟩ := hrel
    by_cases hlt : i < np
    · obtain ⟨x, hx⟩ : ∃ x, ps[i]? = some x := ⟨ps[i]'(by omega), List.getElem?_eq_getElem (by omega)⟩
      have hxp := hact i x hx
      have hPw := hpend.keep hB
      obtain ⟨gp, rfl, hgp⟩ := hPw.form (by omega)
      obtain ⟨dok, drg⟩ := actCells hPw i x hx
      have i0 : (0 : Int) ≤ (i : Int) := by omega
      have i1 : (i : Int) < (np : Int) := by omega
      obtain ⟨xx, ga, gs⟩ := x
      simp only at hxp
      obtain ⟨q1, q2, q3⟩ := actRow wr (xx, ga, gs)
      simp only at q3
      have b2 := below_alloc wr (.cells (actA (xx, ga, gs)) 80)
      have hT : st.pend.take (i + 1) = st.pend.take i ++ [xx] := by rw [List.take_add_one, hxp]; rfl
      have htl : (st.pend.take i).length = i := by rw [List.length_take]; omega
      clear hx hxp hPw hact
      go_upto_region 7 with fail
      generalize wr.alloc (.cells (actA (xx, ga, gs)) 80) = X at q2 q3 b2 ⊢
      have hO1 := hO.keep b2
      have b3 := below_alloc X (.cells (wrA xx) 77)
      obtain ⟨g, c2, w', hr, h1, -, h3, -⟩ := run_app1K wrE_ok (X.alloc (.cells (wrA xx) 77)) w.heap.size X.heap.size (.slice y i c) (st.pend.take i) xx 56 (hO1.keep b3) (by
        intro j u hu
        rw [Nat.zero_add, cell_of_row _ _ j _ _ _ (heap_alloc_last X _)]
        rw [wrE_enc, Array.getElem?_toList] at hu; exact hu) (by simp) (by rw [htl]; show (i + 1) * 72 ≤ _; omega) (by rw [htl]; unfold maxLen; omega) (by have := hB.size; have := b2.size; have := b3.size; omega)
      rw [htl] at hr h1
      rw [← hT] at h1
      have hE : wrE.S = 56 := rfl
      rw [hE] at hr
      have HO : Hid _ := h1
      have HB : Hid (Below w.heap.size w w') := ((hB.trans (b2.mono hB.size)).trans (b3.mono (by have := hB.size; have := b2.size; omega))).trans ((hO1.keep b3).below h3 (by have := hB.size; have := b2.size; have := b3.size; omega))
      clear hO hO1 hB h1 h3 b2 b3 dok drg hT
      go_wp2_with (at_builtin; refine wpL_appT 56 rfl _ _ rfl _ w' (by exact hr) ?_)
      go_roundw
      case rel => exact ⟨i + 1, _, _, by omega, by go_num, rfl, HO.out, HB.out⟩
      case measure => simp [intOf]; omega
    · obtain rfl : i = np := by omega
      rw [List.take_of_length_le (by omega)] at hO
      have HO : Hid _ := hO
      have HB : Hid _ := hB
      clear hO hB
      go_wp2
      go_ret
      exact ⟨y, c, rfl, HO.out, HB.out⟩
set_option linter.unusedSimpArgs false in
set_option maxHeartbeats 800000 in
theorem devCopy (w : World) (d : Value) (st : DSt) (F R : List Nat) (h : DevIs w d st F R) (hp9 : st.pend.length ≤ 1099511627776) :
    Calls Try.prog 10 #[d] w fun e w' => ∃ d' F' R', e = .returned d' ∧ DevIs w' d' st F' R' ∧ (∀ q ∈ F', w.heap.size ≤ q) ∧ (∀ q ∈ R', (q ∈ R ∧ q ∉ F) ∨ w.heap.size ≤ q) ∧ Below w.heap.size w w' := by
  obtain ⟨r, vl, vp, ps, sp, rfl, h⟩ := h
  have hpl := h.plen
  obtain ⟨xl, cl, rfl⟩ := (h.last.isK secE_ok).len
  obtain ⟨xp, cp, rfl⟩ := (h.pend.isK actE_ok).len
  have IL := h.last.isK secE_ok
  have IP := h.pend.isK actE_ok
  obtain ⟨n, hn⟩ : ∃ n, st.last.length = n := ⟨_, rfl⟩
  obtain ⟨np, hnp⟩ : ∃ n, ps.length = n := ⟨_, rfl⟩
  have hhi := h.ok.hi
  have hrl := h.row.lt
  have h1 := h.row
  rw [hn] at h1 IL hhi
  rw [hnp] at h1 IP
  rw [← hpl, hnp] at hp9
  obtain ⟨c0, c1, c2, c3, c4, c5, c6⟩ := h1.cells
  go_enter Try.func10, Try.ntmps10
  go_upto_region 4 with fail
  have hA : (#[Value.slice xl n cl, Value.slice xp np cp, Value.bool st.down, Value.int .i64 sp, Value.int .i64 (st.rd : Int), Value.int .i64 (st.wt : Int), Value.int .i64 (st.fl : Int)] : Array Value) = devA (.slice xl n cl) (.slice xp np cp) sp st := rfl
  rw [hA]
  have hb0 := below_alloc w (.cells (devA (.slice xl n cl) (.slice xp np cp) sp st) 55)
  have hC0 : DevRow (w.alloc (.cells (devA (.slice xl n cl) (.slice xp np cp) sp st) 55)) w.heap.size (.slice xl n cl) (.slice xp np cp) sp st := heap_alloc_last w _
  obtain ⟨q, hq⟩ : ∃ q, w.heap.size = q := ⟨_, rfl⟩
  simp only [hq]
  rw [hq] at hC0 hrl
  generalize w.alloc (.cells (devA (.slice xl n cl) (.slice xp np cp) sp st) 55) = X at hC0 hb0 ⊢
  have hRX := h1.kept (hb0.block r (by omega))
  obtain ⟨d0, -⟩ := hRX.cells
  have hC1 := cloneSec X xl n cl st.last hn (IL.kept hb0) (by omega)
  clear c0 c1 c2 c3 c4 c5 c6 hA
  go_wp2_with fail
  refine hC1.mono ?_
  rintro e X1 ⟨y, c', rfl, hOy, hB1⟩
  have hqX : q < X.heap.size := hC0.lt
  have hC2 := hC0.kept (hB1.block q hqX)
  have f0 := hC2.frozen 0
  obtain ⟨e0, -⟩ := hC2.cells
  have hC3 : DevRow (X1.setCell ⟨q, 0, none⟩ (.slice y n c')) q (.slice y n c') (.slice xp np cp) sp st := hC2.set 0 _ rfl
  have yb := World.ownsRow.lt hOy
  have hKY : Keep [q] X1 (X1.setCell ⟨q, 0, none⟩ (.slice y n c')) := Keep.of_grown (grown_cell X1 q 0 _) (fun k hk => by cases hk; simp)
  have hOY := hOy.keeps hKY (fun k hk => by have := yb k hk; simp; omega)
  have hs0 := hb0.size
  have hs1 := hB1.size
  have hs2 := hKY.size
  rw [hq] at hs0 hb0
  have hBY : Below q w (X1.setCell ⟨q, 0, none⟩ (.slice y n c')) := (hb0.trans (hB1.mono hs0)).trans (hKY.below (fun k hk => by simp only [List.mem_singleton] at hk; omega) (by omega))
  clear hC1 d0 hC2 hC0 hKY
  go_upto_region 5 with fail
  have hys : X1.heap.size = (X1.setCell ⟨q, 0, none⟩ (.slice y n c')).heap.size := by simp [World.setCell]
  rw [hys] at yb
  generalize X1.setCell ⟨q, 0, none⟩ (.slice y n c') = Y at hC3 hOY hBY hs2 yb ⊢
  have hRY := h1.kept (hBY.block r (by omega))
  obtain ⟨-, d1, -⟩ := hRY.cells
  have hBY' : Below w.heap.size w Y := by rw [hq]; exact hBY
  have hC4 := cloneAct Y xp np cp ps hnp (IP.kept hBY') hp9
  clear f0 e0 hOy hB1
  go_wp2_with fail
  refine hC4.mono ?_
  rintro e X2 ⟨z, c'', rfl, hOz, hB2⟩
  have hqY : q < Y.heap.size := hC3.lt
  have hC5 := hC3.kept (hB2.block q hqY)
  have f1 := hC5.frozen 1
  obtain ⟨-, e1, -⟩ := hC5.cells
  have hC6 : DevRow (X2.setCell ⟨q, 1, none⟩ (.slice z np c'')) q (.slice y n c') (.slice z np c'') sp st := hC5.set 1 _ rfl
  have zb := World.ownsRow.lt hOz
  have hK9 : Keep [q] X2 (X2.setCell ⟨q, 1, none⟩ (.slice z np c'')) := Keep.of_grown (grown_cell X2 q 1 _) (fun k hk => by cases hk; simp)
  have hOZ := (hOz.keeps hK9 (fun k hk => by have := zb k hk; simp; omega)).le (Nat.zero_le _)
  have hOY9 := ((hOY.keep hB2).keeps hK9 (fun k hk => by have := yb k hk; simp; omega)).le (Nat.zero_le _)
  have hs3 := hB2.size
  have hs4 := hK9.size
  have hB9 : Below q w (X2.setCell ⟨q, 1, none⟩ (.slice z np c'')) := (hBY.trans (hB2.mono (by omega))).trans (hK9.below (fun k hk => by simp only [List.mem_singleton] at hk; omega) (by omega))
  have hbx : ∀ y ∈ ps, y.2.1 < q ∧ y.2.2 < q := fun y hy => by
    have h9 := (h.box y hy).1
    have := World.block_lt_of_cell? w _ h9.1
    have := h9.2.lt
    rw [hq] at *
    exact ⟨by assumption, by assumption⟩
  have hsz9 : X2.heap.size ≤ (X2.setCell ⟨q, 1, none⟩ (.slice z np c'')).heap.size := hK9.size
  have HP : Hid (DevP (X2.setCell ⟨q, 1, none⟩ (.slice z np c'')) q (.slice y n c') (.slice z np c'') ps sp st (q :: ((Value.slice y n c').ownBlock.toList ++ (Value.slice z np c'').ownBlock.toList)) ((q :: ((Value.slice y n c').ownBlock.toList ++ (Value.slice z np c'').ownBlock.toList)) ++ (ps.map (·.2.1) ++ ps.map (·.2.2)))) :=
    { row := hC6, last := hOY9, pend := hOZ, eqp := h.eqp, s0 := h.s0, s1 := h.s1, left := h.left, rF := by simp
      lF := fun k hk => by
        have := yb k hk
        refine ⟨by rw [hk]; simp, by omega, fun e => ?_⟩
        have := zb k e
        omega
      pF := fun k hk => by
        have := zb k hk
        exact ⟨by rw [hk]; simp, by omega⟩
      sub := fun k hk => List.mem_append_left _ hk
      lt := fun k hk => by
        rcases List.mem_append.1 hk with hk | hk
        · rcases List.mem_cons.1 hk with rfl | hk
          · omega
          · rcases List.mem_append.1 hk with hk | hk
            · have := yb k (by simpa using hk); omega
            · have := zb k (by simpa using hk); omega
        · rcases List.mem_append.1 hk with hk | hk
          · obtain ⟨y9, h9, rfl⟩ := List.mem_map.1 hk; have := hbx y9 h9; omega
          · obtain ⟨y9, h9, rfl⟩ := List.mem_map.1 hk; have := hbx y9 h9; omega
      box := fun y9 h9 => by
        have hq9 := hbx y9 h9
        have hno : ∀ k, k < q → k ∉ (q :: ((Value.slice y n c').ownBlock.toList ++ (Value.slice z np c'').ownBlock.toList)) := fun k hk hm => by
          rcases List.mem_cons.1 hm with rfl | hm
          · omega
          · rcases List.mem_append.1 hm with hm | hm
            · have := yb k (by simpa using hm); omega
            · have := zb k (by simpa using hm); omega
        refine ⟨(h.box y9 h9).1.keeps (G := []) ⟨hB9.os, hB9.tape, hB9.output, by rw [hq]; omega, fun k hk _ => hB9.block k (by omega)⟩ (by simp) (by simp), ?_, hno _ hq9.1, ?_, hno _ hq9.2⟩
        · exact List.mem_append_right _ (List.mem_append_left _ (List.mem_map.2 ⟨y9, h9, rfl⟩))
        · exact List.mem_append_right _ (List.mem_append_right _ (List.mem_map.2 ⟨y9, h9, rfl⟩))
      ok := h.ok }
  have HB : Hid _ := hB9
  have HF : Hid (∀ k ∈ (q :: ((Value.slice y n c').ownBlock.toList ++ (Value.slice z np c'').ownBlock.toList)), q ≤ k) := fun k hk => by
    rcases List.mem_cons.1 hk with rfl | hk
    · exact Nat.le_refl _
    · rcases List.mem_append.1 hk with hk | hk
      · have := yb k (by simpa using hk); omega
      · have := zb k (by simpa using hk); omega
  have HR : Hid (∀ k ∈ ps.map (·.2.1) ++ ps.map (·.2.2), k ∈ R ∧ k ∉ F) := fun k hk => by
    rcases List.mem_append.1 hk with hk | hk
    · obtain ⟨y9, h9, rfl⟩ := List.mem_map.1 hk
      exact ⟨(h.box y9 h9).2.1, (h.box y9 h9).2.2.1⟩
    · obtain ⟨y9, h9, rfl⟩ := List.mem_map.1 hk
      exact ⟨(h.box y9 h9).2.2.2.1, (h.box y9 h9).2.2.2.2⟩
  clear h h1 hC6 hK9 hOZ hOY9 hB9 hOY hOz hC3 hC5 hBY hBY' hRY IP IL hC4 hb0 hRX yb zb hbx hB2 d1
  go_wp2
  go_ret
  refine ⟨_, _, _, rfl, ⟨_, _, _, _, _, rfl, HP.out⟩, fun k hk => by rw [hq]; exact HF.out k hk, fun k hk => ?_, by rw [hq]; exact HB.out⟩
  rcases List.mem_append.1 hk with hk | hk
  · exact .inr (by rw [hq]; exact HF.out k hk)
  · exact .inl (HR.out k hk)
end Go.Proofs.Ytadnfiikfhdphaa
