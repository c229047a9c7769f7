import Derived.Test.YtafbkdpheneceaaQHea7
import Derived.Test.YtafbkdpheneceaaQExtM
namespace Go.Proofs.Ytafbkdpheneceaa
open Go.RowKit Go.Shelf

/-! The landed extent: what it is in memory; New, Take -/
abbrev exT : TypeId := 61
def curX (fr hi : Nat) : Array Value := exA (fr : Int) (hi : Int) (.slice none 0 0)
/-- The extent at b, its free ranges l in the slice sv. -/
structure ExAt (w : World) (b : Nat) (st : XSt) (sv : Value) (l : List Pr) : Prop where
  at_ : HpAt w b 2 (curX st.fr st.hi) 61 sv l
  hp : Hp l
  fr : Fr st l
  le : st.fr ≤ st.hi
  hi : st.hi ≤ 1024
def EIs (w : World) (v : Value) (st : XSt) (F : List Nat) : Prop := ∃ b sv l, v = .pointer (some ⟨b, 0, none⟩) ∧ ExAt w b st sv l ∧ F = b :: sv.ownBlock.toList
theorem ExAt.len {w : World} {b : Nat} {st : XSt} {sv : Value} {l : List Pr} (h : ExAt w b st sv l) : l.length ≤ 1024 := h.fr.len h.le h.hi
theorem curX_set (fr hi : Nat) (v : Value) : (curX fr hi).setIfInBounds 2 v = exA (fr : Int) (hi : Int) v := rfl
theorem HpAt.row {w : World} {b fr hi : Nat} {T : TypeId} {sv : Value} {l : List Pr} (h : HpAt w b 2 (curX fr hi) T sv l) : RowC w b (exA (fr : Int) (hi : Int) sv) := by
  have hb := h.box
  rw [curX_set] at hb
  exact ⟨by unfold rowL; rw [hb]; rfl, by unfold rowAt; rw [hb]⟩
theorem HpAt.c0 {w : World} {b fr hi : Nat} {T : TypeId} {sv : Value} {l : List Pr} (h : HpAt w b 2 (curX fr hi) T sv l) : w.cell? ⟨b, 0, none⟩ = some (.int .i64 (fr : Int)) := by rw [h.row.cell 0]; rfl
theorem HpAt.c1 {w : World} {b fr hi : Nat} {T : TypeId} {sv : Value} {l : List Pr} (h : HpAt w b 2 (curX fr hi) T sv l) : w.cell? ⟨b, 1, none⟩ = some (.int .i64 (hi : Int)) := by rw [h.row.cell 1]; rfl
theorem rg_two {w : World} {b o : Nat} {p : Pr} (h0 : w.cell? ⟨b, o, none⟩ = some (.int .i64 p.1)) (h1 : w.cell? ⟨b, o + 1, none⟩ = some (.int .i64 p.2)) : rgOk w b o 2 = true ∧ rg w b o 2 = prA p := by
  have := rg_of (w := w) (b := b) (o := o) (k := 2) (cs := (prA p).toList) (fun j v hv => by
    rcases j with _ | _ | j
    · have : v = .int .i64 p.1 := by simpa [prA] using hv.symm
      rw [this]; exact h0
    · have : v = .int .i64 p.2 := by simpa [prA] using hv.symm
      rw [this]; exact h1
    · simp [prA] at hv) rfl
  rwa [Array.toArray_toList] at this
theorem ExAt.is {w : World} {b : Nat} {st : XSt} {sv : Value} {l : List Pr} (h : ExAt w b st sv l) : EIs w (.pointer (some ⟨b, 0, none⟩)) st (b :: sv.ownBlock.toList) := ⟨b, sv, l, rfl, h, rfl⟩
theorem ExAt.keep {w w' : World} {b : Nat} {st : XSt} {sv : Value} {l : List Pr} {G : List Nat} (h : ExAt w b st sv l) (hk : Keep G w w') (hb : b ∉ G) (hv : ∀ q, sv.ownBlock = some q → q ∉ G) : ExAt w' b st sv l := ⟨h.at_.keep hk hb hv, h.hp, h.fr, h.le, h.hi⟩
theorem ExAt.later {w w' : World} {b : Nat} {st : XSt} {sv : Value} {l : List Pr} (h : ExAt w b st sv l) (hk : Below w.heap.size w w') : ExAt w' b st sv l := ⟨h.at_.later hk, h.hp, h.fr, h.le, h.hi⟩
theorem ExAt.step {w w' : World} {b : Nat} {st : XSt} {sv sv' : Value} {l' : List Pr} (h : ExAt w' b st sv' l') (hk : Keep (b :: sv.ownBlock.toList) w w') (hv : ∀ q, sv'.ownBlock = some q → sv.ownBlock = some q ∨ w.heap.size ≤ q) : XStep EIs (b :: sv.ownBlock.toList) w (.pointer (some ⟨b, 0, none⟩)) st w' := by
  refine ⟨_, h.is, fun q hq => ?_, hk⟩
  rcases List.mem_cons.1 hq with rfl | hq
  · exact .inl (List.mem_cons_self ..)
  · rcases hv q (by simpa using hq) with h9 | h9
    · exact .inl (List.mem_cons_of_mem _ (by simpa using h9))
    · exact .inr h9
theorem ExAt.quiet {w w' : World} {b : Nat} {st : XSt} {sv : Value} {l : List Pr} (h : ExAt w b st sv l) (hb : Below w.heap.size w w') : XStep EIs (b :: sv.ownBlock.toList) w (.pointer (some ⟨b, 0, none⟩)) st w' := (h.later hb).step (Keep.of_below hb) (fun _ hq => .inl hq)
theorem eis_keeps {w w' : World} {v : Value} {st : XSt} {F G : List Nat} (h : EIs w v st F) (hk : Keep G w w') (hG : ∀ q ∈ F, q ∉ G) : EIs w' v st F := by
  obtain ⟨b, sv, l, rfl, h, rfl⟩ := h
  exact ⟨b, sv, l, rfl, h.keep hk (hG b (List.mem_cons_self ..)) (fun q hq => hG q (List.mem_cons_of_mem _ (by simpa using hq))), rfl⟩
theorem eis_lt {w : World} {v : Value} {st : XSt} {F : List Nat} (h : EIs w v st F) : ∀ q ∈ F, q < w.heap.size := by
  obtain ⟨b, sv, l, rfl, h, rfl⟩ := h
  intro q hq
  rcases List.mem_cons.1 hq with rfl | hq
  · exact h.at_.blt
  · exact (World.ownsRow.lt h.at_.own q (by simpa using hq)).2
theorem b62 {p : Pr} (h1 : 0 ≤ p.1) (h2 : p.1 ≤ 1048576) (h3 : 0 ≤ p.2) (h4 : p.2 ≤ 1048576) : -4611686018427387904 ≤ p.1 ∧ p.1 ≤ 4611686018427387903 ∧ -4611686018427387904 ≤ p.2 ∧ p.2 ≤ 4611686018427387903 := by omega
set_option linter.unusedSimpArgs false in
set_option maxHeartbeats 1000000 in
theorem xnew_any (w : World) (a b : Int) : Calls Try.prog 6 #[.int .i64 a, .int .i64 b] w fun e w' => Below w.heap.size w w' ∧
    ((0 ≤ a ∧ a ≤ b ∧ b ≤ 1024 ∧ ∃ v F, e = .returned (.tuple #[v, .int .i64 0]) ∧ EIs w' v ⟨a.toNat, b.toNat, fun _ => false⟩ F ∧ ∀ q ∈ F, w.heap.size ≤ q) ∨ (¬ (0 ≤ a ∧ a ≤ b ∧ b ≤ 1024) ∧ e = .returned (.tuple #[.pointer none, .int .i64 1]))) := by
  by_cases c1 : a < 0
  · go_enter Try.func6, Try.ntmps6
    go_wp2_with fail
    refine bodyPost_ret (results_tmp2 rfl _ _ _) rfl ?_
    first | exact ⟨Below.refl _ _, .inr ⟨by omega, rfl⟩⟩ | exact ⟨Below.refl _ _, .inr rfl⟩
  · by_cases c2 : b < a
    · go_enter Try.func6, Try.ntmps6
      go_wp2_with fail
      refine bodyPost_ret (results_tmp2 rfl _ _ _) rfl ?_
      first | exact ⟨Below.refl _ _, .inr ⟨by omega, rfl⟩⟩ | exact ⟨Below.refl _ _, .inr rfl⟩
    · by_cases c3 : 1024 < b
      · go_enter Try.func6, Try.ntmps6
        go_wp2_with fail
        refine bodyPost_ret (results_tmp2 rfl _ _ _) rfl ?_
        first | exact ⟨Below.refl _ _, .inr ⟨by omega, rfl⟩⟩ | exact ⟨Below.refl _ _, .inr rfl⟩
      · obtain ⟨an, rfl⟩ : ∃ n : Nat, a = (n : Int) := ⟨a.toNat, by omega⟩
        obtain ⟨bn, rfl⟩ : ∃ n : Nat, b = (n : Int) := ⟨b.toNat, by omega⟩
        have b0 := below_alloc w (.cells (curX an bn) 61)
        have hH : HpAt (w.alloc (.cells (curX an bn) 61)) w.heap.size 2 (curX an bn) 61 (.slice none 0 0) [] := ⟨heap_alloc_last w _, by show 2 < 3; omega, OwnK.nil _ _ _, by simp [Value.ownBlock]⟩
        have hrg := rg_two (p := ((an : Int), (bn : Int))) hH.c0 hH.c1
        have hgi := give_any _ _ _ _ _ _ ((an : Int), (bn : Int)) hH (by simp) Hp.nil (by simp only; omega) (by simp only; omega) (by simp only; omega) (by simp only; omega)
        obtain ⟨r1, r2⟩ := hrg
        unfold curX at hgi r1 r2 b0
        go_enter Try.func6, Try.ntmps6
        go_upto_region 4 with fail
        generalize w.alloc (.cells (exA (an : Int) (bn : Int) (.slice none 0 0)) 61) = X at hgi r1 r2 b0 ⊢
        go_wp2_with fail
        go_at_call 22
        refine hgi.mono ?_
        rintro e w2 ⟨⟨u, rfl⟩, ⟨v', l', hH2, hP2, hU2, hv2⟩, hK2⟩
        have hB : Below w.heap.size w w2 := b0.trans (hK2.below (fun q hq => by
          simp only [Value.ownBlock, List.mem_cons, Option.toList, List.not_mem_nil, or_false] at hq
          rw [hq]; exact Nat.le_refl _) b0.size)
        rw [List.append_nil] at hP2
        have hE : ExAt w2 w.heap.size ⟨an, bn, fun _ => false⟩ v' l' := ⟨hH2, hU2, (Fr.new an bn).perm hP2, by show an ≤ bn; omega, by show bn ≤ 1024; omega⟩
        have HE : Hid _ := hE.is
        have HF : Hid (∀ q ∈ w.heap.size :: v'.ownBlock.toList, w.heap.size ≤ q) := fun q hq => by
          rcases List.mem_cons.1 hq with rfl | hq
          · exact Nat.le_refl _
          · rcases hv2 q (by simpa using hq) with h9 | h9
            · cases h9
            · have := b0.size; omega
        clear hgi hH2 hE hK2 hv2
        go_wp2_with fail
        refine bodyPost_ret (results_tmp2 rfl _ _ _) rfl ?_
        exact ⟨hB, .inl ⟨by omega, by omega, by omega, _, _, rfl, HE.out, HF.out⟩⟩
theorem xok_part {st : XSt} {a n : Int} {q : Bool} (hn : n ≠ 0) (h : partB st.fr st.hi a n = false) : xOk st a n q = false := by
  unfold xOk
  unfold partB at h
  rw [decide_eq_false_iff_not] at h
  rw [decide_eq_false hn, decide_eq_false (by omega)]; rfl
theorem xok_free {st : XSt} {l : List Pr} {a n : Int} (hF : Fr st l) (hn : n ≠ 0) (h : partB st.fr st.hi a n = true) : xOk st a n true = true ↔ ∃ s ∈ l, s.1 ≤ a ∧ a + n ≤ s.2 := by
  unfold partB at h
  rw [decide_eq_true_eq] at h
  unfold xOk
  rw [decide_eq_false hn, decide_eq_true (by omega : 0 < n ∧ (st.fr : Int) ≤ a ∧ a + n ≤ (st.hi : Int)), Bool.false_or, Bool.true_and]
  exact hF.all_free a n (by omega) h.2.1 h.2.2
theorem xok_taken {st : XSt} {l : List Pr} {a n : Int} (hF : Fr st l) (hn : n ≠ 0) (h : partB st.fr st.hi a n = true) : xOk st a n false = true ↔ ∀ s ∈ l, ¬ (a < s.2 ∧ s.1 < a + n) := by
  unfold partB at h
  rw [decide_eq_true_eq] at h
  unfold xOk
  rw [decide_eq_false hn, decide_eq_true (by omega : 0 < n ∧ (st.fr : Int) ≤ a ∧ a + n ≤ (st.hi : Int)), Bool.false_or, Bool.true_and]
  exact hF.all_taken a n (by omega) h.2.1 h.2.2
set_option linter.unusedSimpArgs false in
set_option maxHeartbeats 4000000 in
theorem xtake_any (w : World) (b : Nat) (st : XSt) (sv : Value) (l : List Pr) (a n : Int) (h : ExAt w b st sv l) (ha : i64 a) (hn : i64 n) :
    Calls Try.prog 8 #[.pointer (some ⟨b, 0, none⟩), .int .i64 a, .int .i64 n] w fun e w' => e = .returned (.bool (xOk st a n true)) ∧ XStep EIs (b :: sv.ownBlock.toList) w (.pointer (some ⟨b, 0, none⟩)) (xTurn st a n true) w' := by
  by_cases h0 : n = 0
  · subst h0
    rw [xTurn_0.1, xTurn_0.2]
    have hq := h.quiet (Below.refl _ _)
    clear ha hn
    go_enter Try.func8, Try.ntmps8
    go_wp2_with fail
    go_ret
    exact ⟨rfl, hq⟩
  · have h0b : (n == 0) = false := by simp [h0]
    have hpa := part_any w b st.fr st.hi a n h.at_.c0 h.at_.c1 h.hi ha hn
    have hlen := h.len
    obtain ⟨xp, cp, rfl⟩ := (h.at_.own.isK spE_ok).len
    obtain ⟨k, hk⟩ : ∃ k, l.length = k := ⟨_, rfl⟩
    rw [hk] at h hlen ⊢
    cases hpb : partB st.fr st.hi a n
    · rw [xTurnNo (xok_part h0 hpb), xok_part h0 hpb]
      rw [hpb] at hpa
      go_enter Try.func8, Try.ntmps8
      go_wp2_with fail
      go_at_call 23
      refine hpa.mono ?_
      rintro e w1 ⟨rfl, hB1⟩
      have hq := h.quiet (hB1.trans (below_alloc w1 (.cells (prA prZ) 56) |>.mono hB1.size))
      clear hpa
      go_wp2_with fail
      go_ret
      exact ⟨rfl, hq⟩
    · rw [hpb, if_pos rfl] at hpa
      have hxo := xok_free h.fr h0 hpb
      unfold partB at hpb
      rw [decide_eq_true_eq] at hpb
      obtain ⟨q, hq⟩ : ∃ q, xOk st a n true = q := ⟨_, rfl⟩
      obtain ⟨st', hst'⟩ : ∃ s, xTurn st a n true = s := ⟨_, rfl⟩
      rw [hq, hst']
      go_enter Try.func8, Try.ntmps8
      go_wp2_with fail
      go_at_call 23
      refine hpa.mono ?_
      rintro e w1 ⟨rfl, hB1⟩
      clear hpa
      have hB2 : Below w.heap.size w (w1.alloc (.cells (prA (a, a + n)) 56)) := hB1.trans (below_alloc w1 (.cells (prA (a, a + n)) 56) |>.mono hB1.size)
      have h2 := h.later hB2
      have k7 := RowC.newB w1 (prA (a, a + n)) 56
      have hs7 : w.heap.size ≤ w1.heap.size := hB1.size
      obtain ⟨g7, hg7⟩ : ∃ g, w1.heap.size = g := ⟨_, rfl⟩
      rw [hg7] at k7 hs7
      have kc := h2.at_.cell
      have hK2 : Keep (b :: (Value.slice xp k cp).ownBlock.toList) w (w1.alloc (.cells (prA (a, a + n)) 56)) := Keep.of_below hB2
      have hbw : b < w.heap.size := h.at_.blt
      have hos : ∀ q, (Value.slice xp k cp).ownBlock = some q → q < w.heap.size := fun q hq => (World.ownsRow.lt h.at_.own q hq).2
      have hsX : g7 + 1 ≤ (w1.alloc (.cells (prA (a, a + n)) 56)).heap.size := by simp; omega
      go_upto_region 8 with fail
      generalize w1.alloc (.cells (prA (a, a + n)) 56) = X at hB2 h2 k7 kc hK2 hsX ⊢
      have hidx := index_cap X xp k cp l hk (h2.at_.own.isK spE_ok) (by omega) (holdsB (a, a + n)) 25 (.pointer (some ⟨g7, 0, none⟩)) eg25 (fun W hW p => clo25 W g7 (a, a + n) p (k7.kept hW))
      clear hB1 h
      go_wp2_with fail
      go_at_call 24
      refine hidx.mono ?_
      rintro e w3 ⟨⟨r, rfl, hr⟩, hB3⟩
      have h3 := h2.later hB3
      have k73 := k7.kept hB3
      have hK3 : Keep (b :: (Value.slice xp k cp).ownBlock.toList) w w3 := hK2.trans (Keep.of_below hB3)
      have hs3 : g7 + 1 ≤ w3.heap.size := by have := hB3.size; omega
      clear hidx h2 k7 hB2 hB3 hK2 hsX kc
      rcases hr with ⟨rfl, hno⟩ | ⟨j, rfl, hj, hd⟩
      · obtain rfl : q = false := by
          cases q with
          | false => rfl
          | true =>
            exfalso
            obtain ⟨s, hs, e1, e2⟩ := hxo.1 hq
            have := hno s hs
            unfold holdsB at this
            rw [decide_eq_false_iff_not] at this
            exact this ⟨e1, e2⟩
        obtain rfl : st = st' := by rw [← hst', xTurnNo hq]
        have hfin := h3.step hK3 (fun _ hq => .inl hq)
        clear hno
        go_wp2_with fail
        go_ret
        exact ⟨rfl, hfin⟩
      · have hd2 : (gp l j).1 ≤ a ∧ a + n ≤ (gp l j).2 := of_decide_eq_true hd
        obtain rfl : q = true := by rw [← hq]; exact hxo.2 ⟨gp l j, gp_mem l j (by omega), hd2.1, hd2.2⟩
        rw [xTurn_eq hq] at hst'
        obtain ⟨g, rfl, hglt⟩ := OwnK.form h3.at_.own (by omega)
        have hgw := hos g rfl
        have hrm := remove_any w3 b 2 g k cp _ _ l j h3.at_ hj (by omega) h3.hp
        have hj0 : ¬ (j : Int) < 0 := by omega
        clear hd hxo
        go_wp2_with fail
        go_at_call 27
        refine hrm.mono ?_
        rintro e w4 ⟨rfl, ⟨l4, hH4, hP4, hU4⟩, hK4⟩
        obtain ⟨s, hs⟩ : ∃ s, gp l j = s := ⟨_, rfl⟩
        rw [hs] at hP4 hd2 ⊢
        have hfr := h3.fr.take s hP4 a n (by omega) hd2.1 hd2.2
        rw [hst'] at hfr
        have hbs := h3.fr.bnd s (hP4.mem_iff.1 (List.mem_cons_self ..))
        have hle := h3.le
        have hhi := h3.hi
        have hl4 := hP4.length_eq
        rw [List.length_cons] at hl4
        have k74 := k73.keeps hK4 (by simp; omega)
        have hK5 : Keep (b :: (Value.slice (some ⟨g, 0, none⟩) k cp).ownBlock.toList) w w4 := hK3.trans (hK4.mono (fun q hq => .inl (by simpa [Value.ownBlock] using hq)))
        have hs4 : g7 + 1 ≤ w4.heap.size := by have := hK4.size; omega
        have b5 := below_alloc w4 (.cells (prA s) 56)
        have hH5 := hH4.later b5
        have k75 := k74.kept b5
        have k10 := RowC.newB w4 (prA s) 56
        have hK6 := hK5.trans (Keep.of_below b5)
        have hsY : g7 + 1 ≤ (w4.alloc (.cells (prA s) 56)).heap.size := by simp; omega
        obtain ⟨g10, hg10⟩ : ∃ q, w4.heap.size = q := ⟨_, rfl⟩
        rw [hg10] at k10
        clear hrm h3 k73 k74 hK3 hK4 hK5 hH4
        go_upto_region 12 with fail
        try simp only [hg10]
        generalize w4.alloc (.cells (prA s) 56) = Y at hH5 k75 k10 hK6 hsY ⊢
        have hg1 := give_any Y b _ _ _ l4 (s.1, a) hH5 (by omega) hU4 (by simp only; omega) (by simp only; omega) (by simp only; omega) (by simp only; omega)
        have a0 := k75.cell 0
        have d0 := k10.cell 0
        rw [prA_0] at a0 d0
        clear b5
        go_wp2_with fail
        go_at_call 22
        refine hg1.mono ?_
        rintro e w5 ⟨⟨u5, rfl⟩, ⟨v6, l6, hH6, hP6, hU6, hv6⟩, hK7⟩
        have hob : (Value.slice (some ⟨g, 0, none⟩) (k - 1) cp).ownBlock.toList = [g] := rfl
        rw [hob] at hK7
        have hv6' : ∀ q, v6.ownBlock = some q → q = g ∨ Y.heap.size ≤ q := fun q hq => (hv6 q hq).imp (fun h9 => by cases h9; rfl) id
        have k77 := k75.keeps hK7 (by simp; omega)
        have k17 := k10.keeps hK7 (by simp; omega)
        have hK8 : Keep [b, g] w w5 := hK6.trans hK7
        have hsz5 : Y.heap.size ≤ w5.heap.size := hK7.size
        have hszw : w.heap.size ≤ Y.heap.size := hK6.size
        have hbl6 : ∀ q, v6.ownBlock = some q → q < w5.heap.size := fun q hq => (World.ownsRow.lt hH6.own q hq).2
        have hl6 := hP6.length_eq
        have hgl : ∀ p : Pr, (gv p).length ≤ 1 := fun p => by unfold gv; split <;> simp
        have hgl1 := hgl (s.1, a)
        rw [List.length_append] at hl6
        have hg2 := give_any w5 b _ _ _ l6 (a + n, s.2) hH6 (by omega) hU6 (by simp only; omega) (by simp only; omega) (by simp only; omega) (by simp only; omega)
        have a1 := k77.cell 1
        have d1 := k17.cell 1
        rw [prA_1] at a1 d1
        clear hg1 hH5 k75 k10 hK7 a0 d0 hv6
        go_wp2_with fail
        go_at_call 22
        refine hg2.mono ?_
        rintro e w7 ⟨⟨u7, rfl⟩, ⟨v8, l8, hH8, hP8, hU8, hv8⟩, hK9⟩
        have hE : ExAt w7 b st' v8 l8 := by
          have e1 : st'.fr = st.fr := by rw [← hst']
          have e2 : st'.hi = st.hi := by rw [← hst']
          refine ⟨by rw [e1, e2]; exact hH8, hU8, hfr.perm (hP8.trans (List.Perm.append_left _ hP6)), by rw [e1, e2]; exact hle, by rw [e2]; exact hhi⟩
        have hfin := hE.step (sv := .slice (some ⟨g, 0, none⟩) k cp) (w := w) (hK8.trans2 hK9 (fun q hq => by
          rcases List.mem_cons.1 hq with rfl | hq
          · exact .inl (by simp)
          · rcases hv6' q (by simpa using hq) with rfl | h9
            · exact .inl (by simp)
            · exact .inr (by omega))) (fun q hq => by
          rcases hv8 q hq with h9 | h9
          · rcases hv6' q h9 with rfl | h10
            · exact .inl rfl
            · exact .inr (by omega)
          · exact .inr (by omega))
        clear hg2 hH8 hE hK9 hv8 hP8 hfr
        go_wp2_with fail
        go_ret
        exact ⟨rfl, hfin⟩
end Go.Proofs.Ytafbkdpheneceaa
