import Derived.Test.YtafbkdpheneceaaQHea6
namespace Go.Proofs.Ytafbkdpheneceaa
open Go.RowKit Go.Shelf

/-! Extent's joined -/
/-- What IndexFunc said. -/
def Told (l : List Pr) (d : Pr → Bool) (r : Int) : Prop := (r = -1 ∧ ∀ p ∈ l, d p = false) ∨ ∃ j : Nat, r = (j : Int) ∧ j < l.length ∧ d (gp l j) = true
def lenAt (b o : Nat) (w : World) : Nat := match w.cell? ⟨b, o, none⟩ with | some (.slice _ n _) => n | _ => 0
theorem HpAt.lenAt {w : World} {b o n c : Nat} {x : Option Addr} {cur : Array Value} {T : TypeId} {l : List Pr} (h : HpAt w b o cur T (.slice x n c) l) : lenAt b o w = n := by
  unfold Go.Proofs.Ytafbkdpheneceaa.lenAt
  rw [h.cell]
theorem HpAt.len {w : World} {b o n c : Nat} {x : Option Addr} {cur : Array Value} {T : TypeId} {l : List Pr} (h : HpAt w b o cur T (.slice x n c) l) : l.length = n := by
  obtain ⟨y, k, he⟩ := (h.own.isK spE_ok).len
  cases he; rfl
theorem gp_mem (l : List Pr) (j : Nat) (h : j < l.length) : gp l j ∈ l := by rw [getD_at l j h]; exact List.getElem_mem h
set_option linter.unusedSimpArgs false in
set_option maxHeartbeats 4000000 in
theorem joined_any (st : XSt) (w : World) (b : Nat) (cur : Array Value) (T : TypeId) (v : Value) (l : List Pr) (s : Pr) (h : HpAt w b 2 cur T v l) (hU : Hp l) (hn : l.length ≤ 1024) (hJ : Jn st s l) :
    Calls Try.prog 30 #[.pointer (some ⟨b, 0, none⟩), .agg (prA s)] w fun e w' => (∃ s' v' l', e = .returned (.agg (prA s')) ∧ HpAt w' b 2 cur T v' l' ∧ Hp l' ∧ l'.length ≤ l.length ∧ Fr st (s' :: l') ∧ ∀ q, v'.ownBlock = some q → v.ownBlock = some q) ∧ Keep (b :: v.ownBlock.toList) w w' := by
  obtain ⟨xp, cp, rfl⟩ := (h.own.isK spE_ok).len
  obtain ⟨n, hnl⟩ : ∃ n, l.length = n := ⟨_, rfl⟩
  rw [hnl] at h hn ⊢
  have b0 := below_al2 w (.cells (prA s) 56) (.cells (prA prZ) 56)
  have hH := h.later b0
  have k3 := (RowC.newB w (prA s) 56).kept (below_alloc _ (.cells (prA prZ) 56))
  have k4 := RowC.newB (w.alloc (.cells (prA s) 56)) (prA prZ) 56
  have hs1 : (w.alloc (.cells (prA s) 56)).heap.size = w.heap.size + 1 := by simp
  have hs2 : ((w.alloc (.cells (prA s) 56)).alloc (.cells (prA prZ) 56)).heap.size = w.heap.size + 2 := by simp
  rw [hs1] at k4
  obtain ⟨g3, hg3⟩ : ∃ q, w.heap.size = q := ⟨_, rfl⟩
  obtain ⟨g4, hg4⟩ : ∃ q, g3 + 1 = q := ⟨_, rfl⟩
  rw [hg3] at k3 k4
  rw [hg4] at k4
  have hbs : b < w.heap.size := h.blt
  have hos : ∀ q, (Value.slice xp n cp).ownBlock = some q → q < w.heap.size := fun q hq => (World.ownsRow.lt h.own q hq).2
  have kc := hH.cell
  clear h
  go_enter Try.func30, Try.ntmps30
  go_upto_region 2 with fail
  try simp only [hg3]
  try simp only [hg4]
  generalize (w.alloc (.cells (prA s) 56)).alloc (.cells (prA prZ) 56) = X at hH k3 k4 b0 hs2 kc ⊢
  have hidx := index_cap X xp n cp l hnl (hH.own.isK spE_ok) (by omega) (touchB s) 40 (.pointer (some ⟨g3, 0, none⟩)) eg40 (fun W hW p => clo40 W g3 s p (k3.kept hW))
  go_wp2_with fail
  go_at_call 24
  refine hidx.mono ?_
  rintro e w1 ⟨⟨r, rfl, hr⟩, hB1⟩
  have hH1 := hH.later hB1
  have k31 := k3.kept hB1
  have k41 := k4.kept hB1
  have hT : Told l (touchB s) r := by
    rcases hr with hr | ⟨j, h1, h2, h3⟩
    · exact .inl hr
    · exact .inr ⟨j, h1, by omega, h3⟩
  have hK1 : Keep (b :: (Value.slice xp n cp).ownBlock.toList) w w1 := (Keep.of_below b0).trans (Keep.of_below hB1)
  have hs3 : w.heap.size + 2 ≤ w1.heap.size := by have := hB1.size; omega
  clear hidx hr hH k3 k4 hB1 b0 kc hs2
  go_wp2_with fail
  go_loopw [6] (fun iv wr => ∃ (r : Int) (n' : Nat) (x' : Option Addr) (c' : Nat) (l' : List Pr) (s' : Pr), iv = .int .i64 r ∧ HpAt wr b 2 cur T (.slice x' n' c') l' ∧ Hp l' ∧ n' ≤ n ∧ (∀ q, (Value.slice x' n' c').ownBlock = some q → (Value.slice xp n cp).ownBlock = some q) ∧ Jn st s' l' ∧ Told l' (touchB s') r ∧ RowC wr g3 (prA s') ∧ RowC wr g4 (prA prZ) ∧ Keep (b :: (Value.slice xp n cp).ownBlock.toList) w wr ∧ w.heap.size + 2 ≤ wr.heap.size) (fun _ wr => lenAt b 2 wr)
  case atStart => exact ⟨r, n, xp, cp, l, s, rfl, hH1, hU, Nat.le_refl _, fun q hq => hq, hJ, hT, k31, k41, hK1, hs3⟩
  case round =>
    clear hH1 hU hT k31 k41 hK1 hs3 hJ
    obtain ⟨r, n', x', c', l', s', rfl, hH, hU, hn', hob, hJ, hT, k3, k4, hK, hsw⟩ := hrel
    have hl' := hH.len
    rcases hT with ⟨rfl, hno⟩ | ⟨j, rfl, hj, hd⟩
    · have hfin := hJ.done (fun p hp hh => by
        have := hno p hp
        unfold touchB at this
        rw [decide_eq_false_iff_not] at this
        exact this hh)
      have q1 := k3.1
      have q2 := k3.2
      have q3 : (rowAt wr g3).size = 2 := by rw [q2]; exact prA_size _
      have p1 := k4.1
      have p2 := k4.2
      have p3 : (rowAt wr g4).size = 2 := by rw [p2]; exact prA_size _
      have hld := run_load_sp wr g3 q1 q3
      rw [q2] at hld
      have hst := run_store_sp wr g4 (prA s') p1 p3 (prA_size _) (prA_one _)
      have hrow : RowC (wr.setRow g4 (prA s')) g4 (prA s') := ⟨rowL_setRow_same _ _ _ p1, rowAt_setRow_L _ _ _ p1⟩
      have hKs := keep_setRow wr g4 (prA s')
      have hH2 := hH.keep hKs (by simp; omega) (fun q hq => by have := hos q (hob q hq); simp; omega)
      have hK2 := hK.trans2 hKs (fun q hq => .inr (by simp only [List.mem_singleton] at hq; omega))
      generalize wr.setRow g4 (prA s') = Y at hst hrow hH2 hK2
      clear hKs hH hno hJ p1 p2 p3 q1 q2 q3
      go_wp2
      refine sp_bodyPost 4 g4 s' rfl rfl rfl hrow ?_
      exact ⟨⟨s', _, l', rfl, hH2, hU, by omega, hfin, hob⟩, hK2⟩
    · obtain ⟨g, rfl, hglt⟩ := OwnK.form hH.own (by omega)
      have hgo : (Value.slice xp n cp).ownBlock = some g := hob g rfl
      have hgw := hos g hgo
      have HL : Hid (lenAt b 2 wr = n') := hH.lenAt
      have hrm := remove_any wr b 2 g n' c' cur T l' j hH (by omega) (by omega) hU
      have hj0 : (0 : Int) ≤ (j : Int) := by omega
      clear hH
      go_wp2_with fail
      go_at_call 27
      refine hrm.mono ?_
      rintro e w2 ⟨rfl, ⟨l2, hH2, hP2, hU2⟩, hK2⟩
      obtain ⟨o, ho⟩ : ∃ o, gp l' j = o := ⟨_, rfl⟩
      rw [ho] at hP2 hd ⊢
      have hgb : g ≠ b := fun e => hH2.ne (by rw [← e]; rfl)
      have k32 := k3.keeps hK2 (by simp; omega)
      have k42 := k4.keeps hK2 (by simp; omega)
      have hK3 : Keep (b :: (Value.slice xp n cp).ownBlock.toList) w w2 := hK.trans (hK2.mono (fun q hq => .inl (by
        simp only [List.mem_cons, List.not_mem_nil, or_false] at hq
        rcases hq with rfl | rfl
        · simp
        · rw [hgo]; simp)))
      have hs3 : w.heap.size + 2 ≤ w2.heap.size := by have := hK2.size; omega
      have b5 := below_alloc w2 (.cells (prA o) 56)
      have hH3 := hH2.later b5
      have k33 := k32.kept b5
      have k43 := k42.kept b5
      have k7 := RowC.newB w2 (prA o) 56
      have hs4 : (w2.alloc (.cells (prA o) 56)).heap.size = w2.heap.size + 1 := by simp
      have hJ2 := hJ.step hP2 (of_decide_eq_true hd)
      clear hrm hH2 k32 k42 k3 k4 hK hK2 hJ hU hd hP2
      go_upto_region 6 with fail
      have a0 := k33.cell 0
      have a1 := k33.cell 1
      have d0 := k7.cell 0
      have d1 := k7.cell 1
      rw [prA_0] at a0 d0
      rw [prA_1] at a1 d1
      have q1 := k33.1
      have q2 := k33.2
      have q3 : (rowAt (w2.alloc (.cells (prA o) 56)) g3).size = 2 := by rw [q2]; exact prA_size _
      have hKb := Keep.of_below (F := b :: (Value.slice xp n cp).ownBlock.toList) b5
      generalize w2.alloc (.cells (prA o) 56) = Y at hH3 k33 k43 k7 a0 a1 d0 d1 q1 q2 q3 hKb hs4 ⊢
      clear k7 b5
      obtain ⟨m1, hm1⟩ : ∃ m, (if o.1 < s'.1 then o.1 else s'.1) = m := ⟨_, rfl⟩
      obtain ⟨m2, hm2⟩ : ∃ m, (if s'.2 < o.2 then o.2 else s'.2) = m := ⟨_, rfl⟩
      have hmin : min s'.1 o.1 = m1 := by rw [← hm1]; split <;> omega
      have hmax : max s'.2 o.2 = m2 := by rw [← hm2]; split <;> omega
      rw [hmin, hmax] at hJ2
      have hst := run_store_sp Y g3 (prA (m1, m2)) q1 q3 (prA_size _) (prA_one _)
      have hrow : RowC (Y.setRow g3 (prA (m1, m2))) g3 (prA (m1, m2)) := ⟨rowL_setRow_same _ _ _ q1, rowAt_setRow_L _ _ _ q1⟩
      have hKs := keep_setRow Y g3 (prA (m1, m2))
      have hgb2 : g ≠ g3 := by omega
      have hH4 := hH3.keep hKs (by simp; omega) (fun q hq => by have e9 : q = g := (by cases hq; rfl); rw [e9]; simpa using hgb2)
      have k44 := k43.keeps hKs (by simp; omega)
      have hK4 : Keep (b :: (Value.slice xp n cp).ownBlock.toList) w (Y.setRow g3 (prA (m1, m2))) := (hK3.trans hKb).trans2 hKs (fun q hq => .inr (by simp only [List.mem_singleton] at hq; omega))
      have hs5 : w.heap.size + 2 ≤ (Y.setRow g3 (prA (m1, m2))).heap.size := by have := hKs.size; have := hKb.size; omega
      go_upto_region 4 with fail
      generalize Y.setRow g3 (prA (m1, m2)) = Z at hst hrow hH4 k44 hK4 hs5 ⊢
      clear hKs hH3 k33 k43 q1 q2 q3 a0 a1 d0 d1 hKb hK3 hst
      have kc := hH4.cell
      have hl2 := hH4.len
      have hidx := index_cap Z (some ⟨g, 0, none⟩) (n' - 1) c' l2 hl2 (hH4.own.isK spE_ok) (by omega) (touchB (m1, m2)) 40 (.pointer (some ⟨g3, 0, none⟩)) eg40 (fun W hW p => clo40 W g3 (m1, m2) p (hrow.kept hW))
      go_wp2_with fail
      go_at_call 24
      refine hidx.mono ?_
      rintro e w5 ⟨⟨r2, rfl, hr2⟩, hB5⟩
      have hH5 := hH4.later hB5
      have HF : Hid (HpAt w5 b 2 cur T (.slice (some ⟨g, 0, none⟩) (n' - 1) c') l2 ∧ Hp l2 ∧ n' - 1 ≤ n ∧ (∀ q, (Value.slice (some ⟨g, 0, none⟩) (n' - 1) c').ownBlock = some q → (Value.slice xp n cp).ownBlock = some q) ∧ Jn st (m1, m2) l2 ∧ Told l2 (touchB (m1, m2)) r2 ∧ RowC w5 g3 (prA (m1, m2)) ∧ RowC w5 g4 (prA prZ) ∧ Keep (b :: (Value.slice xp n cp).ownBlock.toList) w w5 ∧ w.heap.size + 2 ≤ w5.heap.size) :=
        ⟨hH5, hU2, by omega, fun q hq => by have e9 : q = g := (by cases hq; rfl); rw [e9]; exact hgo, hJ2, (by
          rcases hr2 with hr2 | ⟨j2, h1, h2, h3⟩
          · exact .inl hr2
          · exact .inr ⟨j2, h1, by omega, h3⟩), hrow.kept hB5, k44.kept hB5, hK4.trans (Keep.of_below hB5), by have := hB5.size; omega⟩
      have hl5 := hH5.lenAt
      have hl6 : lenAt b 2 wr = n' := HL.out
      clear hidx hH4 hrow k44 hK4 hB5 hr2 hU2 hJ2
      go_wp2_with fail
      go_roundw
      case rel => exact ⟨r2, _, _, _, l2, (m1, m2), rfl, HF.out⟩
      case measure => rw [hl5, hl6]; omega
end Go.Proofs.Ytafbkdpheneceaa
