import Derived.Test.YtafbkdpheneceaaQExZ2
namespace Go.Proofs.Ytafbkdpheneceaa
open Go.RowKit Go.Shelf

/-! The landed extent: Left, Copy -/
def FcH (B : Nat) (l : List Pr) (k : Nat) (v : Value) (x : World) : Prop := ∃ y c', v = .agg (heA (.slice y k c')) ∧ OwnK spE x B (.slice y k c') l
def FcX (B fr hi : Nat) (l : List Pr) (k : Nat) (v : Value) (x : World) : Prop := ∃ y c', v = .agg (exA (fr : Int) (hi : Int) (.slice y k c')) ∧ OwnK spE x B (.slice y k c') l
def FcB (B fr hi : Nat) (l : List Pr) (k : Nat) (v : Value) (x : World) : Prop := ∃ g y c', v = .pointer (some ⟨g, 0, none⟩) ∧ B ≤ g ∧ x.heap[g]? = some (.cells (exA (fr : Int) (hi : Int) (.slice y k c')) 61 (0, 0)) ∧ OwnK spE x B (.slice y k c') l ∧ (Value.slice y k c').ownBlock ≠ some g
theorem FcB.mk {W x : World} {fr hi : Nat} {l : List Pr} {k : Nat} {y : Option Addr} {c' : Nat} (hp : Below W.heap.size W x) (hO : OwnK spE x W.heap.size (.slice y k c') l) : FcB W.heap.size fr hi l k (.pointer (some ⟨x.heap.size, 0, none⟩)) (x.alloc (.cells (exA (fr : Int) (hi : Int) (.slice y k c')) 61)) :=
  ⟨x.heap.size, y, c', rfl, hp.size, heap_alloc_last x _, hO.keep (below_alloc _ _), fun e => by have := (World.ownsRow.lt hO _ e).2; omega⟩
theorem FcB.later {B fr hi : Nat} {l : List Pr} {k : Nat} {v : Value} {x x' : World} (h : FcB B fr hi l k v x) (hb : Below x.heap.size x x') : FcB B fr hi l k v x' := by
  obtain ⟨g, y, c', rfl, h1, h2, h3, h4⟩ := h
  exact ⟨g, y, c', rfl, h1, by rw [hb.block g (Array.getElem?_eq_some_iff.1 h2).1]; exact h2, h3.keep hb, h4⟩
set_option linter.unusedSimpArgs false in
set_option maxHeartbeats 2000000 in
theorem xcopy_any (W : World) (b fr hi : Nat) (f : Nat → Bool) (sv : Value) (l : List Pr) (h : ExAt W b ⟨fr, hi, f⟩ sv l) :
    Calls Try.prog 18 #[.pointer (some ⟨b, 0, none⟩)] W fun e w' => ∃ g sv', e = .returned (.pointer (some ⟨g, 0, none⟩)) ∧ ExAt w' g ⟨fr, hi, f⟩ sv' l ∧ (∀ q, sv'.ownBlock = some q → W.heap.size ≤ q) ∧ W.heap.size ≤ g ∧ Below W.heap.size W w' := by
  have hlen := h.len
  obtain ⟨xp, cp, rfl⟩ := (h.at_.own.isK spE_ok).len
  obtain ⟨k, hk⟩ : ∃ k, l.length = k := ⟨_, rfl⟩
  rw [hk] at h hlen
  have h1 := h.hp
  have h2 := h.fr
  have h3 := h.le
  have h4 := h.hi
  go_enter Try.func18, Try.ntmps18
  go_upto_region 3 with fail
  refine wp_reliesT [Fx (.pointer (some ⟨b, 0, none⟩)), Fx (.pointer (some ⟨b, 0, none⟩)), Fx (.pointer (some ⟨b, 0, none⟩)), Fx (.agg (prA ((fr : Int), (hi : Int)))), Fx (.pointer (some ⟨b, 0, none⟩)), Fx (.pointer (some ⟨b, 0, none⟩)), Fx (.pointer (some ⟨b, 2, none⟩)), fun v x => FcH W.heap.size l k v x, fun v x => FcX W.heap.size fr hi l k v x, fun v x => FcB W.heap.size fr hi l k v x] (by kernel_rfl) (by kernel_rfl) ?_ ?_ ?_
  · repeat' (first | exact all_nil | apply all_cons)
    all_goals intro v y y' hv hb
    all_goals first | exact Fx_mono _ _ _ _ hv hb | (obtain ⟨y, c', e1, h1⟩ := hv; exact ⟨y, c', e1, h1.keep hb⟩) | exact FcB.later hv hb
  · refine ⟨?_, ?_, ?_, ?_, ?_, ?_, ?_, ?_, ?_, ?_, trivial⟩
    all_goals
      intro ρ x hp ρc ρg ρf ho hd
      have o0 : ρ (.tmp 0) = .pointer (some ⟨b, 0, none⟩) := ho 0 rfl
      clear ho
      have hx := h.later hp
      simp only [depsR, depR, slotR, Fx, List.getElem?_cons_succ, List.getElem?_cons_zero, Region.binds, forall_const] at hd
      simp only [guardR]
      go_split_ands
    · go_simp
    · go_simp
    · go_simp
    · obtain ⟨r1, r2⟩ := rg_two (p := ((fr : Int), (hi : Int))) hx.at_.c0 hx.at_.c1
      go_simp
    · go_simp
    · go_simp
    · go_simp
    · go_simp
      have hc := hcopy_any x b 2 _ _ _ l hx.at_ (by omega)
      rw [hk] at hc
      refine hc.mono ?_
      rintro e w' ⟨y, c', rfl, hO, hB⟩
      exact ⟨_, rfl, ⟨y, c', rfl, hO.le hp.size⟩, hB⟩
    · obtain ⟨y, c', e7, hO⟩ : FcH W.heap.size l k (ρ (.tmp 12)) x := by first | exact hd.2 | assumption
      go_simp
      exact ⟨y, c', rfl, hO⟩
    · obtain ⟨y, c', e7, hO⟩ : FcX W.heap.size fr hi l k (ρ (.tmp 13)) x := by first | exact hd | assumption
      go_simp
      exact ⟨FcB.mk hp hO, below_alloc _ _⟩
  · intro vs x2 hp hw
    simp only [owed, Fx] at hw
    obtain ⟨e0, e1, e2, e3, e4, e5, e6, ⟨y7, c7, e7, -⟩, ⟨y8, c8, e8, -⟩, ⟨g9, y9, c9, e9, hg9, hb9, hO9, hn9⟩, -⟩ := hw
    simp only [List.length_cons, List.length_nil, List.take_succ_cons, List.take_zero, List.drop_succ_cons, List.drop_zero, asg, List.cons_append, List.nil_append, e0, e1, e2, e3, e4, e5, e6, e7, e8, e9]
    clear e0 e1 e2 e3 e4 e5 e6 e7 e8 e9
    have hE : ExAt x2 g9 ⟨fr, hi, f⟩ (.slice y9 k c9) l := ⟨⟨hb9, by show 2 < 3; omega, hO9.le (Nat.zero_le _), hn9⟩, h1, h2, h3, h4⟩
    clear h h1 h2
    go_wp2_with fail
    go_ret
    have hlow : ∀ q, (Value.slice y9 k c9).ownBlock = some q → W.heap.size ≤ q := fun q hq => (World.ownsRow.lt hO9 q hq).1
    first | exact ⟨g9, _, rfl, hE, hlow, hg9, hp⟩ | exact ⟨g9, rfl, ⟨_, hE, hlow⟩, hg9, hp⟩ | exact ⟨g9, rfl, _, hE, hlow, hg9, hp⟩
set_option linter.unusedSimpArgs false in
set_option maxHeartbeats 2000000 in
theorem xleft_any (w : World) (b : Nat) (st : XSt) (sv : Value) (l : List Pr) (h : ExAt w b st sv l) :
    Calls Try.prog 13 #[.pointer (some ⟨b, 0, none⟩)] w fun e w' => e = .returned (.int .i64 (xLeft st : Nat)) ∧ Below w.heap.size w w' := by
  have hlen := h.len
  have hsum := h.fr.left h.le
  have hpos : ∀ p ∈ l, p.1 < p.2 := fun p hp => (h.fr.bnd p hp).2.1
  obtain ⟨xp, cp, rfl⟩ := (h.at_.own.isK spE_ok).len
  obtain ⟨k, hk⟩ : ∃ k, l.length = k := ⟨_, rfl⟩
  rw [hk] at h hlen
  obtain ⟨L, hL⟩ : ∃ L, xLeft st = L := ⟨_, rfl⟩
  rw [hL] at hsum ⊢
  have hLle : (L : Int) ≤ 1048576 := by
    have h9 : xLeft st ≤ 1024 := by
      unfold xLeft
      have : ∀ m, leftU st.f st.fr m ≤ m := fun m => by
        induction m with
        | zero => simp [leftU]
        | succ m ih => rw [leftU]; cases st.f (st.fr + m) <;> simp <;> omega
      have := this (st.hi - st.fr)
      have := h.hi
      omega
    omega
  have kc := h.at_.cell
  go_enter Try.func13, Try.ntmps13
  go_wp2_with fail
  go_loopw [3, 14] (fun sv' iv wr => ∃ (i : Nat) (z : Int), i ≤ k ∧ iv = .int .i64 i ∧ sv' = .int .i64 z ∧ z = sumP (l.take i) ∧ Below w.heap.size w wr) (fun _ iv _ => k - (intOf iv).toNat)
  case atStart => exact ⟨0, 0, by omega, rfl, rfl, rfl, Below.refl _ _⟩
  case round =>
    obtain ⟨i, z, hi, rfl, rfl, hz, hB⟩ := hrel
    have hzb := sumP_take_le l i hpos
    by_cases hlt : i < k
    · obtain ⟨b1, o1, rfl, hb1, hr1⟩ := ((h.at_.own.isK spE_ok).kept hB).at i (gp l i) (gp_get l i (by omega))
      obtain ⟨ok1, rg1⟩ := rg_of hr1 (spE_ok.len _)
      rw [spE_arr] at rg1
      rw [spE_k] at ok1 rg1
      have hk0 : (0 : Int) ≤ (i : Int) := by omega
      have hk1 : (i : Int) < (k : Int) := by omega
      have hbd := h.fr.bnd (gp l i) (gp_mem l i (by omega))
      have hhi := h.hi
      have hzs := sumP_take l i (gp l i) (gp_get l i (by omega))
      have hzb2 := sumP_take_le l (i + 1) hpos
      have b5 := below_alloc wr (.cells (prA (gp l i)) 56)
      have k5 := RowC.newB wr (prA (gp l i)) 56
      have q1 := k5.1
      have q2 := k5.2
      have q3 : (rowAt (wr.alloc (.cells (prA (gp l i)) 56)) wr.heap.size).size = 2 := by rw [q2]; exact prA_size _
      have hsz := size_any (wr.alloc (.cells (prA (gp l i)) 56)) (gp l i) (by omega) (by omega) (by omega) (by omega)
      obtain ⟨d, hd⟩ : ∃ d, (gp l i).2 - (gp l i).1 = d := ⟨_, rfl⟩
      rw [hd] at hsz hzs
      have hw1 : IntKind.i64.wrap (z + d) = z + d := by rw [IntKind.wrap_i64]; omega
      have hw2 : IntKind.i64.wrap ((i : Int) + 1) = ((i + 1 : Nat) : Int) := by rw [IntKind.wrap_i64]; omega
      have HZ : Hid (z + d = sumP (l.take (i + 1))) := by show _ = _; rw [hzs, hz]
      clear hr1 hzs hzb2 hzb hz hbd
      go_upto_region 7 with fail
      generalize wr.alloc (.cells (prA (gp l i)) 56) = X at b5 k5 q1 q2 q3 hsz ⊢
      go_wp2_with fail
      go_at_call 32
      refine hsz.mono ?_
      rintro e w2 ⟨rfl, hB2⟩
      have hB3 : Below w.heap.size w w2 := (hB.trans (b5.mono hB.size)).trans (hB2.mono (by have := hB.size; have := b5.size; omega))
      clear hsz q1 q2 q3 k5 ok1 rg1
      go_wp2_with fail
      go_roundw
      case rel => exact ⟨i + 1, z + d, by omega, by go_num, rfl, HZ.out, hB3⟩
      case measure => simp [intOf]; omega
    · obtain rfl : i = k := by omega
      rw [List.take_of_length_le (by omega), ← hsum] at hz
      subst hz
      go_wp2_with fail
      go_ret
      exact ⟨rfl, hB⟩
end Go.Proofs.Ytafbkdpheneceaa
