import Derived.Test.YtadnfiikfhdphaaQDzB
namespace Go.Proofs.Ytadnfiikfhdphaa
open Go.RowKit

set_option linter.unusedSimpArgs false in
theorem devActs (w : World) (d : Value) (st : DSt) (F R : List Nat) (h : DevIs w d st F R) : Calls Try.prog 23 #[d] w fun e w' => e = .returned (.tuple #[.int .i64 (st.rd : Int), .int .i64 (st.wt : Int), .int .i64 (st.fl : Int)]) ∧ Below w.heap.size w w' := by
  obtain ⟨r, vl, vp, ps, sp, rfl, h⟩ := h
  obtain ⟨-, -, -, -, c4, c5, c6⟩ := h.row.cells
  generalize (st.rd : Int) = n4 at c4 ⊢
  generalize (st.wt : Int) = n5 at c5 ⊢
  generalize (st.fl : Int) = n6 at c6 ⊢
  clear h
  go_enter Try.func23, Try.ntmps23
  go_upto_region 3 with fail
  go_quiet (fail)
  go_wp2
  go_ret3
  exact ⟨rfl, ⟨rfl, rfl, rfl, Nat.le_refl _, fun _ _ => rfl⟩⟩
/-- What reach answers. -/
def reachI (st : DSt) (a : Int) : Int := if st.down then 21 else if thereB st a then 0 else 20
set_option linter.unusedSimpArgs false in
theorem reach_any (w : World) (r : Nat) (vl vp : Value) (sp : Int) (st : DSt) (x : Option Addr) (c : Nat) (a : Int) (h : DevRow w r vl vp sp st) (hv : vl = .slice x st.last.length c) :
    Calls Try.prog 35 #[.pointer (some ⟨r, 0, none⟩), .int .i64 a] w fun e w' => e = .returned (.int .i64 (reachI st a)) ∧ w' = w := by
  obtain ⟨c0, -, c2, -⟩ := h.cells
  rw [hv] at c0
  by_cases hd : st.down = true
  · have HR : Hid (reachI st a = 21) := by show _ = _; unfold reachI; rw [if_pos hd]
    rw [hd] at c2
    clear h hv
    generalize st.last.length = n at c0
    go_enter Try.func35, Try.ntmps35
    go_wp2
    go_ret
    exact ⟨by rw [HR.out]; rfl, rfl⟩
  · have hd' : st.down = false := by simpa using hd
    rw [hd'] at c2
    by_cases h1 : 0 ≤ a
    · by_cases h2 : a < (st.last.length : Int)
      · have HR : Hid (reachI st a = 0) := by show _ = _; unfold reachI thereB; rw [if_neg hd]; simp [h1, h2]
        clear h hv
        generalize st.last.length = n at c0 h2
        go_enter Try.func35, Try.ntmps35
        go_wp2
        go_ret
        exact ⟨by rw [HR.out]; rfl, rfl⟩
      · have HR : Hid (reachI st a = 20) := by show _ = _; unfold reachI thereB; rw [if_neg hd]; simp [h2]
        clear h hv
        generalize st.last.length = n at c0 h2
        go_enter Try.func35, Try.ntmps35
        go_wp2
        go_ret
        exact ⟨by rw [HR.out]; rfl, rfl⟩
    · have HR : Hid (reachI st a = 20) := by show _ = _; unfold reachI thereB; rw [if_neg hd]; simp [h1]
      clear h hv
      generalize st.last.length = n at c0
      go_enter Try.func35, Try.ntmps35
      go_wp2
      go_ret
      exact ⟨by rw [HR.out]; rfl, rfl⟩
/-- What begin answers, and leaves: flRes; and mayS, where it was up. -/
def begS (st : DSt) : DSt := if st.down then st else mayS st
set_option linter.unusedSimpArgs false in
theorem begin_any (w : World) (r : Nat) (vl vp : Value) (sp : Int) (st : DSt) (h : DevRow w r vl vp sp st) (h0 : -9223372036854775808 ≤ sp) (h1 : sp ≤ 9223372036854775807) (hl : st.left = if sp < 0 then -1 else sp) :
    Calls Try.prog 36 #[.pointer (some ⟨r, 0, none⟩)] w fun e w' => e = .returned (.int .i64 (flRes st)) ∧ w.grownBy w' (some r) ∧ ∃ sp', DevRow w' r vl vp sp' (begS st) ∧ -9223372036854775808 ≤ sp' ∧ sp' ≤ 9223372036854775807 ∧ (begS st).left = if sp' < 0 then -1 else sp' := by
  obtain ⟨-, -, c2, c3, -⟩ := h.cells
  have f2 := h.frozen 2
  have f3 := h.frozen 3
  by_cases hd : st.down = true
  · have HR : Hid (flRes st = 21) := by show _ = _; unfold flRes; rw [if_pos hd]
    have HS : Hid (begS st = st) := by show _ = _; unfold begS; rw [if_pos hd]
    have HD : Hid (DevRow (w.setCell ⟨r, 2, none⟩ (.bool true)) r vl vp sp st) := h.set 2 _ (by unfold devA; rw [hd]; rfl)
    rw [hd] at c2
    clear h
    go_enter Try.func36, Try.ntmps36
    go_wp2
    go_ret
    exact ⟨by rw [HR.out]; rfl, grown_cell _ _ _ _, sp, by rw [HS.out]; exact HD.out, h0, h1, by rw [HS.out]; exact hl⟩
  · have hd' : st.down = false := by simpa using hd
    rw [hd'] at c2
    by_cases e0 : sp = 0
    · have el : st.left = 0 := by rw [hl, e0]; rfl
      have HR : Hid (flRes st = 21) := by show _ = _; unfold flRes mayB; rw [if_neg hd]; simp [el]
      have HS : Hid (begS st = { st with down := true }) := by show _ = _; unfold begS mayS; rw [if_neg hd, if_pos el]
      have HD : Hid (DevRow (w.setCell ⟨r, 2, none⟩ (.bool true)) r vl vp sp { st with down := true }) := h.set 2 _ rfl
      have HL : Hid _ := hl
      rw [e0] at c3
      clear h hl el
      go_enter Try.func36, Try.ntmps36
      go_wp2
      go_ret
      exact ⟨by rw [HR.out]; rfl, grown_cell _ _ _ _, sp, by rw [HS.out]; exact HD.out, h0, h1, by rw [HS.out]; exact HL.out⟩
    · by_cases e1 : 0 < sp
      · have el : st.left = sp := by rw [hl, if_neg (by omega)]
        have HR : Hid (flRes st = 0) := by show _ = _; unfold flRes mayB; rw [if_neg hd]; simp [el, e0]
        have HS : Hid (begS st = { st with left := sp - 1 }) := by show _ = _; unfold begS mayS; rw [if_neg hd, if_neg (by rw [el]; exact e0), if_pos (by rw [el]; exact e1), el]
        have HD : Hid (DevRow (w.setCell ⟨r, 3, none⟩ (.int .i64 (sp - 1))) r vl vp (sp - 1) { st with left := sp - 1 }) := h.set 3 _ rfl
        have w1 : IntKind.i64.wrap (sp - 1) = sp - 1 := by rw [IntKind.wrap_i64]; omega
        clear h hl el
        go_enter Try.func36, Try.ntmps36
        go_wp2
        go_ret
        exact ⟨by rw [HR.out]; rfl, grown_cell _ _ _ _, sp - 1, by rw [HS.out]; exact HD.out, by omega, by omega, by rw [HS.out, if_neg (by omega)]⟩
      · have el : st.left = -1 := by rw [hl, if_pos (by omega)]
        have HR : Hid (flRes st = 0) := by show _ = _; unfold flRes mayB; rw [if_neg hd]; simp [el]
        have HS : Hid (begS st = st) := by show _ = _; unfold begS mayS; rw [if_neg hd, if_neg (by omega), if_neg (by omega)]
        have HD : Hid (DevRow w r vl vp sp st) := h
        have HL : Hid _ := hl
        clear h hl el
        go_enter Try.func36, Try.ntmps36
        go_wp2
        go_ret
        exact ⟨by rw [HR.out]; rfl, grown_drew w 0 _, sp, by rw [HS.out]; exact HD.out, h0, h1, by rw [HS.out]; exact HL.out⟩
set_option linter.unusedSimpArgs false in
theorem devDurable (w : World) (d : Value) (st : DSt) (F R : List Nat) (h : DevIs w d st F R) :
    Calls Try.prog 18 #[d] w fun e w' => ∃ y c, e = .returned (.slice y st.last.length c) ∧ OwnK secE w' w.heap.size (.slice y st.last.length c) st.last ∧ Below w.heap.size w w' := by
  obtain ⟨r, vl, vp, ps, sp, rfl, h⟩ := h
  obtain ⟨x, c, rfl⟩ := (h.last.isK secE_ok).len
  obtain ⟨c0, -⟩ := h.row.cells
  have hhi := h.ok.hi
  have hC := cloneSec w x st.last.length c st.last rfl (h.last.isK secE_ok) (by omega)
  generalize hn : st.last.length = n at c0 hC ⊢
  clear h
  go_enter Try.func18, Try.ntmps18
  go_wp2_with fail
  refine hC.mono ?_
  rintro e w' ⟨y, c', rfl, hO, hB⟩
  clear hC
  have HO : Hid _ := hO
  have HB : Hid _ := hB
  clear hO hB
  go_wp2
  go_ret
  exact ⟨y, c', rfl, HO.out, HB.out⟩
set_option linter.unusedSimpArgs false in
theorem devNew (w : World) (x : Option Addr) (n c : Nat) (ss : List Sc) (hss : ss.length = n) (h : IsK secE w (.slice x n c) ss) (hn : n ≤ 2000) :
    Calls Try.prog 5 #[.slice x n c] w fun e w' => Below w.heap.size w w' ∧ ((64 ≤ n ∧ n ≤ 1024 ∧ ∃ d F R, e = .returned (.tuple #[d, .int .i64 0]) ∧ DevIs w' d (newS ss) F R ∧ ∀ q ∈ R, w.heap.size ≤ q) ∨ (¬ (64 ≤ n ∧ n ≤ 1024) ∧ e = .returned (.tuple #[.pointer none, .int .i64 22]))) := by
  by_cases h1 : 64 ≤ n
  · by_cases h2 : n ≤ 1024
    · have hC := cloneSec w x n c ss hss h (by omega)
      have g1 : ¬ (n : Int) < 64 := by omega
      have g2 : ¬ (n : Int) > 1024 := by omega
      clear h
      go_enter Try.func5, Try.ntmps5
      go_wp2_with fail
      refine hC.mono ?_
      rintro e w1 ⟨y, c', rfl, hO, hB⟩
      clear hC
      have yb := World.ownsRow.lt hO
      have hR : DevRow (w1.alloc (.cells (devA (.slice y n c') (.slice none 0 0) (-1) (newS ss)) 55)) w1.heap.size (.slice y n c') (.slice none 0 0) (-1) (newS ss) := heap_alloc_last w1 _
      have hb := below_alloc w1 (.cells (devA (.slice y n c') (.slice none 0 0) (-1) (newS ss)) 55)
      have HP : Hid (DevP (w1.alloc (.cells (devA (.slice y n c') (.slice none 0 0) (-1) (newS ss)) 55)) w1.heap.size (.slice y n c') (.slice none 0 0) [] (-1) (newS ss) (w1.heap.size :: (Value.slice y n c').ownBlock.toList) (w1.heap.size :: (Value.slice y n c').ownBlock.toList)) :=
        { row := hR, last := (hO.keep hb).le (Nat.zero_le _), pend := OwnK.nil _ _ _, eqp := rfl, s0 := by omega, s1 := by omega, left := rfl, rF := by simp,
          lF := fun q hq => ⟨by rw [hq]; simp, by have := yb q hq; omega, by simp [Value.ownBlock]⟩, pF := fun q hq => by simp [Value.ownBlock] at hq, sub := fun q hq => hq,
          lt := fun q hq => by
            rcases List.mem_cons.1 hq with rfl | hq
            · simp
            · have := yb q (by simpa using hq); simp; omega
          box := fun y hy => by cases hy
          ok := ⟨(fun x hx => absurd hx List.not_mem_nil), by show 64 ≤ ss.length; omega, by show ss.length ≤ 1024; omega, by show (-1 : Int) ≤ -1; omega, by show (-1 : Int) ≤ _; omega⟩ }
      have hsz := hB.size
      have HB : Hid (Below w.heap.size w (w1.alloc (.cells (devA (.slice y n c') (.slice none 0 0) (-1) (newS ss)) 55))) := hB.trans (hb.mono hsz)
      have HY : Hid _ := yb
      have hA : devA (.slice y n c') (.slice none 0 0) (-1) (newS ss) = #[Value.slice y n c', Value.slice none 0 0, Value.bool false, Value.int .i64 (-1), Value.int .i64 0, Value.int .i64 0, Value.int .i64 0] := rfl
      rw [hA] at HP HB
      clear hO hB hR hb yb hA
      go_wp2
      go_ret2
      refine ⟨HB.out, .inl ⟨h1, h2, _, _, _, rfl, ⟨_, _, _, _, _, rfl, HP.out⟩, fun q hq => ?_⟩⟩
      rcases List.mem_cons.1 hq with rfl | hq
      · exact hsz
      · exact (HY.out q (by simpa using hq)).1
    · have g1 : ¬ (n : Int) < 64 := by omega
      have g2 : (n : Int) > 1024 := by omega
      clear h
      go_enter Try.func5, Try.ntmps5
      go_wp2
      go_ret2
      first | exact ⟨Below.refl _ _, .inr ⟨by omega, rfl⟩⟩ | exact ⟨Below.refl _ _, rfl⟩
  · have g1 : (n : Int) < 64 := by omega
    clear h
    go_enter Try.func5, Try.ntmps5
    go_wp2
    go_ret2
    first | exact ⟨Below.refl _ _, .inr ⟨by omega, rfl⟩⟩ | exact ⟨Below.refl _ _, rfl⟩
end Go.Proofs.Ytadnfiikfhdphaa
