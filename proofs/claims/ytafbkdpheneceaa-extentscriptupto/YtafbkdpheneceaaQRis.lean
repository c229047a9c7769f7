import Derived.Test.YtafbkdpheneceaaQExZ3
namespace Go.Proofs.Ytafbkdpheneceaa
open Go.RowKit Go.Shelf
attribute [local go_sem] Oper.semAt_some

/-! The heap's rising: what it hands back, the lowest first. J Z pre W: what the rounds keep up when pre has come; Z: blocks that are none of theirs. -/
structure Rnd (l : Nat) (L : List Pr) (J : List Nat → List Pr → World → Prop) (Jx : List Pr → World → Prop) : Prop where
  grow : ∀ {Z pre W W'}, J Z pre W → Keep Z W W' → J Z pre W'
  new : ∀ {Z Z' pre W W'}, J Z pre W → Below W.heap.size W W' → (∀ q ∈ Z', W.heap.size ≤ q ∧ q < W'.heap.size) → J (Z' ++ Z) pre W'
  yield : ∀ Z pre x W, J Z pre W → pre.length < L.length → x ∈ L → YieldAt Fence.wide (9 - 1) Try.prog l #[.agg (prA x)] W fun e W' =>
    (e = .returned (.bool true) ∧ J Z (pre ++ [x]) W' ∧ (∀ q ∈ Z, W'.heap[q]? = W.heap[q]?)) ∨ (e = .returned (.bool false) ∧ Jx (pre ++ [x]) W')
/-- pre has come, rest is still there. -/
structure Come (L pre rest : List Pr) : Prop where
  perm : (pre ++ rest).Perm L
  srt : Srt pre
  low : ∀ p ∈ pre, ∀ q ∈ rest, p.1 ≤ q.1
theorem Come.step {L pre rest r2 : List Pr} {x : Pr} (h : Come L pre rest) (hp : (x :: r2).Perm rest) (hx : ∀ q ∈ rest, x.1 ≤ q.1) : Come L (pre ++ [x]) r2 := by
  refine ⟨?_, ?_, fun p hp1 q hq => ?_⟩
  · refine List.Perm.trans ?_ h.perm
    rw [List.append_assoc]
    exact List.Perm.append_left pre hp
  · unfold Srt
    rw [List.pairwise_append]
    refine ⟨h.srt, by simp, fun p hp1 q hq => ?_⟩
    simp only [List.mem_singleton] at hq
    subst hq
    exact h.low p hp1 q (hp.mem_iff.1 (List.mem_cons_self ..))
  · have hqr : q ∈ rest := hp.mem_iff.1 (List.mem_cons_of_mem _ hq)
    rcases List.mem_append.1 hp1 with hp1 | hp1
    · exact h.low p hp1 q hqr
    · simp only [List.mem_singleton] at hp1
      subst hp1
      exact hx q hqr
theorem keep_same {w w' : World} {b o : Nat} {cur : Array Value} {T : TypeId} {v : Value} {l : List Pr} (h : HpAt w b o cur T v l) (hb : w'.heap[b]? = w.heap[b]?) (hv : ∀ q, v.ownBlock = some q → w'.heap[q]? = w.heap[q]?) : HpAt w' b o cur T v l := by
  refine ⟨by rw [hb]; exact h.box, h.lt, ?_, h.ne⟩
  refine ⟨h.own.1, ?_⟩
  rcases h.own.2 with hn | ⟨g, cap, cur2, rfl, h1, hg, rest⟩
  · exact .inl hn
  · exact .inr ⟨g, cap, cur2, rfl, h1, by rw [hv g rfl]; exact hg, rest⟩
def curH : Array Value := heA (.slice none 0 0)
set_option linter.unusedSimpArgs false in
set_option maxRecDepth 100000 in
set_option maxHeartbeats 2000000 in
theorem rising_rounds (l : Nat) (J : List Nat → List Pr → World → Prop) (Jx : List Pr → World → Prop) (W : World) (b o : Nat) (cur : Array Value) (T : TypeId) (v : Value) (L : List Pr) (hR : Rnd l L J Jx) (h : HpAt W b o cur T v L) (hU : Hp L) (hn : L.length ≤ 1024) (h0 : J [] [] W) :
    CallsIn Fence.wide 9 Try.prog 31 #[.pointer (some ⟨b, o, none⟩), .func (.yield l) #[] #[]] W fun e W' => (∃ v, e = .returned v) ∧
      ((∃ Z ys, Come L ys [] ∧ J Z ys W') ∨ (∃ pre rest, Come L pre rest ∧ Jx pre W')) := by
  have hco := hcopy_any W b o cur T v L h (by omega)
  obtain ⟨n, hnl⟩ : ∃ n, L.length = n := ⟨_, rfl⟩
  rw [hnl] at hco hn
  refine callsIn_of_wp Try.func31 rfl trivial ?_ rfl
  simp only [Try.ntmps31, List.size_toArray, List.length_cons, List.length_nil, Nat.reduceAdd, Nat.reduceSub, Array.replicate_succ, Array.replicate_zero, List.push_toArray, List.append_toArray, List.nil_append, List.cons_append]
  gi_wp2_with fail
  refine ⟨trivial, (callsIn_wide.2 hco).mono ?_⟩
  rintro e w1 ⟨y, c', rfl, hO, hB⟩
  have b4 := below_alloc w1 (.cells (heA (.slice y n c')) 59)
  have hH4 : HpAt (w1.alloc (.cells (heA (.slice y n c')) 59)) w1.heap.size 0 curH 59 (.slice y n c') L := ⟨heap_alloc_last w1 _, by show 0 < 1; omega, (hO.keep b4).le (Nat.zero_le _), fun e => by have := (World.ownsRow.lt hO _ e).2; omega⟩
  have hJ4 := hR.new (Z' := w1.heap.size :: (Value.slice y n c').ownBlock.toList) h0 (hB.trans (b4.mono hB.size)) (fun q hq => by
    rcases List.mem_cons.1 hq with rfl | hq
    · exact ⟨hB.size, by simp⟩
    · have := World.ownsRow.lt hO q (by simpa using hq)
      exact ⟨this.1, by simp; omega⟩)
  rw [List.append_nil] at hJ4
  obtain ⟨g4, hg4⟩ : ∃ g, w1.heap.size = g := ⟨_, rfl⟩
  have hst : (bigStore 59 (.pointer (some ⟨g4, 0, none⟩)) (.agg (heA (.slice y n c')))).run Try.prog (w1.alloc (.cells (heA (.slice none 0 0)) 59)) = .ok .skip (w1.alloc (.cells (heA (.slice y n c')) 59)) := by
    have kb := RowC.newB w1 (heA (.slice none 0 0)) 59
    rw [hg4] at kb
    rw [run_store_he _ g4 _ kb.1 (by rw [kb.2]; rfl) rfl (heA_one y n c'), setRow_new w1 g4 _ _ _ hg4.symm]
  rw [hg4] at hH4 hJ4
  clear hco
  gi_wp2_with fail
  generalize w1.alloc (.cells (heA (.slice y n c')) 59) = X at hH4 hJ4 b4 ⊢
  have hC0 : Come L [] L := ⟨List.Perm.refl _, List.Pairwise.nil, fun p hp => by cases hp⟩
  gi_loopw [15] (fun _ wr => ∃ (k : Nat) (x : Option Addr) (pre rest : List Pr), k ≤ n ∧ HpAt wr g4 0 curH 59 (.slice x k c') rest ∧ Hp rest ∧ Come L pre rest ∧ J (g4 :: (Value.slice y n c').ownBlock.toList) pre wr ∧ (∀ q, (Value.slice x k c').ownBlock = some q → (Value.slice y n c').ownBlock = some q)) (fun _ wr => lenAt g4 0 wr)
  case atStart => exact ⟨n, y, [], L, Nat.le_refl _, hH4, hU, hC0, hJ4, fun q hq => hq⟩
  case round =>
    clear hH4 hJ4 hst b4 hC0
    obtain ⟨k, x, pre, rest, hk, hH, hUr, hC, hJ, hob⟩ := hrel
    have hlr := hH.len
    have kc := hH.cell
    by_cases hk0 : 0 < k
    · obtain ⟨g, rfl, hglt⟩ := OwnK.form hH.own (by omega)
      have hkI : (0 : Int) < (k : Int) := by omega
      have HL : Hid (lenAt g4 0 wr = k) := hH.lenAt
      have hrm := remove_any wr g4 0 g k c' curH _ rest 0 hH hk0 (by omega) hUr
      have hmin : ∀ q ∈ rest, (gp rest 0).1 ≤ q.1 := fun q hq => hUr.min q hq
      gi_wp2_with fail
      refine ⟨trivial, (callsIn_wide.2 hrm).mono ?_⟩
      rintro e w2 ⟨rfl, ⟨r2, hH2, hP2, hU2⟩, hK2⟩
      have hZ : ∀ q ∈ [g4, g], q ∈ g4 :: (Value.slice y n c').ownBlock.toList := fun q hq => by
        simp only [List.mem_cons, List.not_mem_nil, or_false] at hq
        rcases hq with rfl | rfl
        · exact List.mem_cons_self ..
        · exact List.mem_cons_of_mem _ (by have := hob q rfl; simpa using this)
      have hJ2 := hR.grow hJ (hK2.mono (fun q hq => .inl (hZ q hq)))
      have hC2 := hC.step hP2 hmin
      have hpl : pre.length < n := by
        have := hC2.perm.length_eq
        simp at this; omega
      obtain ⟨fn, tmps, assign, body, hy, hRd⟩ := hR.yield _ pre (gp rest 0) w2 hJ2 (by omega) (hC.perm.mem_iff.1 (List.mem_append_right _ (gp_mem rest 0 (by omega))))
      clear hrm hJ hH kc hmin hJ2
      gi_wp2_with fail
      refine hRd.mono ?_
      rintro e W3 (⟨rfl, hJ3, hk3⟩ | ⟨rfl, hJx3⟩)
      · have hH3 := keep_same hH2 (hk3 g4 (List.mem_cons_self ..)) (fun q hq => hk3 q (hZ q (by have e9 : q = g := (by cases hq; rfl); rw [e9]; simp)))
        have hl3 := hH3.lenAt
        have hl4 := HL.out
        gi_wp2_with fail
        go_roundw
        case rel => exact ⟨k - 1, _, pre ++ [gp rest 0], r2, by omega, hH3, hU2, hC2, hJ3, fun q hq => by have e9 : q = g := (by cases hq; rfl); rw [e9]; exact hob g rfl⟩
        case measure => rw [hl3, hl4]; omega
      · gi_wp2_with fail
        go_end0
        exact ⟨⟨_, rfl⟩, .inr ⟨_, _, hC2, hJx3⟩⟩
    · obtain rfl : k = 0 := by omega
      obtain rfl : rest = [] := List.eq_nil_of_length_eq_zero hlr
      gi_wp2_with fail
      refine ⟨trivial, ?_⟩
      gi_wp2_with fail
      first | go_end0 | (refine ⟨fun _ h => (by cases h), ?_⟩; gi_wp2_with fail; go_end0)
      exact ⟨⟨_, rfl⟩, .inl ⟨_, _, hC, hJ⟩⟩
end Go.Proofs.Ytafbkdpheneceaa
