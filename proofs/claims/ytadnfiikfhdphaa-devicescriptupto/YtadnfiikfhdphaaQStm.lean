import Derived.Test.YtadnfiikfhdphaaQGdj
import Derived.Test.YtadnfiikfhdphaaQDevA
namespace Go.Proofs.Ytadnfiikfhdphaa
open Go.RowKit

/-! assaylaw05's stay: things that are marked and grown -/
def sm3 (p q : UInt8) : Sc := upd (upd (upd secZ 0 1) 1 p) 2 q
def secBuild3 (x y z : Value) : Sem Next := do pure (.value (← Instr.build 27 #[(0, x), (1, y), (2, z)]))
@[go_sem ↓] theorem execOp_build_sec3 (ρ : Operand → Value) (dst : Option Tmp) (ty : TypeId) (pos : String) (after : Array Edge) (guard : Option (Nat × Bool)) (x y z : Operand) : execOp ρ { dst, op := .build 27 #[(0, x), (1, y), (2, z)], type := ty, pos, after, guard } = secBuild3 (ρ x) (ρ y) (ρ z) := by
  simp [execOp, secBuild3]
theorem run_secBuild3 (w : World) (p q : UInt8) : (secBuild3 (.int .u8 1) (.int .u8 (p.toNat : Int)) (.int .u8 (q.toNat : Int))).run Try.prog w = .ok (.value (.agg (secA (sm3 p q)))) w := by
  simp only [secBuild3, Sem.run_bind]
  rw [run_build w 27 #[(0, .int .u8 1), (1, .int .u8 (p.toNat : Int)), (2, .int .u8 (q.toNat : Int))] (secA (sm3 p q)) (by kernel_rfl)]; rfl
def mS (k : Nat) : Sc := sm3 (UInt8.ofNat k) (UInt8.ofNat (k / 256))
def mP (k : Nat) : Wr := (-5 - (k : Int), secZ)
theorem b8_0 (i : Nat) : ((UInt8.ofNat i).toNat : Int) = (i : Int) % 256 := by simp
theorem b8_1 (i : Nat) : ((UInt8.ofNat (i / 256)).toNat : Int) = (i : Int) / 256 % 256 := by simp
@[go_sem] theorem run_mS (w : World) (i : Nat) : (secBuild3 (.int .u8 1) (.int .u8 ((i : Int) % 256)) (.int .u8 ((i : Int) / 256 % 256))).run Try.prog w = .ok (.value (.agg (secA (mS i)))) w := by
  rw [← b8_0, ← b8_1]; exact run_secBuild3 w _ _
/-- A list written over from the front. -/
def over9 {α : Type} (m : α) (j : Nat) (l : List α) : List α := List.replicate j m ++ l.drop j
theorem over9_zero {α : Type} (m : α) (l : List α) : over9 m 0 l = l := by simp [over9]
theorem over9_len {α : Type} (m : α) (j : Nat) (l : List α) (h : j ≤ l.length) : (over9 m j l).length = l.length := by simp [over9]; omega
theorem over9_all {α : Type} (m : α) (l : List α) : over9 m l.length l = List.replicate l.length m := by simp [over9]
theorem over9_set {α : Type} (m : α) (j : Nat) (l : List α) (h : j < l.length) : (over9 m j l).set j m = over9 m (j + 1) l := by
  unfold over9
  rw [List.set_append_right _ _ (by simp), List.length_replicate, Nat.sub_self, List.drop_eq_getElem_cons h, List.set_cons_zero, List.replicate_succ', List.append_assoc]
  rfl
/-- A list and one that has grown out of it. -/
def thGr {α : Type} (E : EK α) (B : Nat) (v z : Value) (n : Nat) (m : α) : Th where
  P w F R := OwnK E w B v (List.replicate n m) ∧ OwnK E w B z (List.replicate (n + 2) m) ∧ F = v.ownBlock.toList ++ z.ownBlock.toList ∧ R = F
  keeps := fun ⟨h1, h2, h3, h4⟩ hK hd => ⟨h1.keeps hK (fun q hq => hd q (by rw [h4, h3, hq]; simp)), h2.keeps hK (fun q hq => hd q (by rw [h4, h3, hq]; simp)), h3, h4⟩
  sub := fun ⟨_, _, _, h4⟩ q hq => by rw [h4]; exact hq
  lt := fun ⟨h1, h2, h3, h4⟩ q hq => by
    rw [h4, h3] at hq
    rcases List.mem_append.1 hq with hq | hq
    · exact (World.ownsRow.lt h1 q (by simpa using hq)).2
    · exact (World.ownsRow.lt h2 q (by simpa using hq)).2
def mkF {α : Type} (E : EK α) (B : Nat) (m : Nat → α) (t j : Nat) (k : Nat) (x : Slc × List α) : Th := thK E B x.1.v (if k < t then List.replicate x.2.length (m k) else if k = t then over9 (m t) j x.2 else x.2)
def grF {α : Type} (E : EK α) (B : Nat) (m : Nat → α) (z : Nat → Slc) (u k : Nat) (x : Slc × List α) : Th := if k < u then thGr E B x.1.v (z k).v x.2.length (m k) else thK E B x.1.v (List.replicate x.2.length (m k))
/-- stay's game. -/
structure Sy (W : World) (B : Nat) (T : Nat → Option Th) (b : Bk) (fS : Nat → Slc × List Sc → Th) (fP : Nat → Slc × List Wr → Th) : Prop where
  ga : Ga W B T
  book : T 16 = some (thRow b.g (bkA b))
  S : T 24 = some (thG 24 B b.S.v (b.sS.map sVal))
  P : T 40 = some (thG 56 B b.P.v (b.sP.map sVal))
  lS : ∀ (k : Nat) x, b.sS[k]? = some x → T (8 * k + 3) = some (fS k x)
  lP : ∀ (k : Nat) x, b.sP[k]? = some x → T (8 * k + 4) = some (fP k x)
variable {W W' : World} {B : Nat} {T : Nat → Option Th} {b : Bk} {fS : Nat → Slc × List Sc → Th} {fP : Nat → Slc × List Wr → Th}
theorem Sy.later (h : Sy W B T b fS fP) (hb : Below W.heap.size W W') : Sy W' B T b fS fP := { h with ga := h.ga.later hb }
theorem mkF_start {α : Type} (E : EK α) (B : Nat) (m : Nat → α) (k : Nat) (x : Slc × List α) : mkF E B m 0 0 k x = thK E B x.1.v x.2 := by
  unfold mkF
  rw [if_neg (by omega)]
  split
  · rename_i h; rw [over9_zero]
  · rfl
theorem mkF_in {α : Type} (E : EK α) (B : Nat) (m : Nat → α) (t k : Nat) (x : Slc × List α) : mkF E B m t 0 k x = thK E B x.1.v (if k < t then List.replicate x.2.length (m k) else x.2) := by
  unfold mkF
  congr 1
  split
  · rfl
  · split
    · rename_i h; rw [over9_zero]
    · rfl
theorem mkF_next {α : Type} (E : EK α) (B : Nat) (m : Nat → α) (t k : Nat) (x : Slc × List α) (n : Nat) (hn : k = t → x.2.length = n) : mkF E B m t n k x = mkF E B m (t + 1) 0 k x := by
  rw [mkF_in]
  unfold mkF
  congr 1
  by_cases h1 : k < t
  · rw [if_pos h1, if_pos (by omega)]
  · rw [if_neg h1]
    by_cases h2 : k = t
    · rw [if_pos h2, if_pos (by omega), ← hn h2, over9_all, h2]
    · rw [if_neg h2, if_neg (by omega)]
/-- One of the lists of sectors has turned. -/
theorem Sy.actS (h : Sy W B T b fS fP) {t : Nat} {x : Slc × List Sc} (hx : b.sS[t]? = some x) (fS' : Nat → Slc × List Sc → Th) (hne : ∀ k y, b.sS[k]? = some y → k ≠ t → fS' k y = fS k y) (hg : Ga W' B (updT T (8 * t + 3) (fS' t x))) : Sy W' B (updT T (8 * t + 3) (fS' t x)) b fS' fP := by
  refine ⟨hg, ?_, ?_, ?_, fun k y hy => ?_, fun k y hy => ?_⟩
  · rw [updT_ne _ _ _ _ (by omega)]; exact h.book
  · rw [updT_ne _ _ _ _ (by omega)]; exact h.S
  · rw [updT_ne _ _ _ _ (by omega)]; exact h.P
  · by_cases e : k = t
    · subst e
      rw [hx] at hy
      cases hy
      exact updT_same _ _ _
    · rw [updT_ne _ _ _ _ (by omega), hne k y hy e]; exact h.lS k y hy
  · rw [updT_ne _ _ _ _ (by omega)]; exact h.lP k y hy
theorem Sy.actP (h : Sy W B T b fS fP) {t : Nat} {x : Slc × List Wr} (hx : b.sP[t]? = some x) (fP' : Nat → Slc × List Wr → Th) (hne : ∀ k y, b.sP[k]? = some y → k ≠ t → fP' k y = fP k y) (hg : Ga W' B (updT T (8 * t + 4) (fP' t x))) : Sy W' B (updT T (8 * t + 4) (fP' t x)) b fS fP' := by
  refine ⟨hg, ?_, ?_, ?_, fun k y hy => ?_, fun k y hy => ?_⟩
  · rw [updT_ne _ _ _ _ (by omega)]; exact h.book
  · rw [updT_ne _ _ _ _ (by omega)]; exact h.S
  · rw [updT_ne _ _ _ _ (by omega)]; exact h.P
  · rw [updT_ne _ _ _ _ (by omega)]; exact h.lS k y hy
  · by_cases e : k = t
    · subst e
      rw [hx] at hy
      cases hy
      exact updT_same _ _ _
    · rw [updT_ne _ _ _ _ (by omega), hne k y hy e]; exact h.lP k y hy
/-- Something beside. -/
theorem Sy.upd (h : Sy W B T b fS fP) {k : Nat} {t : Th} (hk : k = 80 ∨ k = 88) (hg : Ga W' B (updT T k t)) : Sy W' B (updT T k t) b fS fP := by
  refine ⟨hg, ?_, ?_, ?_, fun j y hy => ?_, fun j y hy => ?_⟩
  · rw [updT_ne _ _ _ _ (by omega)]; exact h.book
  · rw [updT_ne _ _ _ _ (by omega)]; exact h.S
  · rw [updT_ne _ _ _ _ (by omega)]; exact h.P
  · rw [updT_ne _ _ _ _ (by omega)]; exact h.lS j y hy
  · rw [updT_ne _ _ _ _ (by omega)]; exact h.lP j y hy
theorem Sy.congr (h : Sy W B T b fS fP) {fS' : Nat → Slc × List Sc → Th} {fP' : Nat → Slc × List Wr → Th} (e1 : ∀ k x, b.sS[k]? = some x → fS' k x = fS k x) (e2 : ∀ k x, b.sP[k]? = some x → fP' k x = fP k x) : Sy W B T b fS' fP' :=
  ⟨h.ga, h.book, h.S, h.P, fun k x hx => by rw [e1 k x hx]; exact h.lS k x hx, fun k x hx => by rw [e2 k x hx]; exact h.lP k x hx⟩
/-- append(append(s, m), m): it may stand where s stands; s stays. -/
theorem grow2E {α : Type} {E : EK α} (O : E.Ok) (W : World) (B : Nat) (s : Slc) (R : List α) (m : α) (ty ty' : TypeId) (cs : Array Value) (hcs : cs.toList = E.enc m) (h : OwnK E W B s.v R) (hn : R.length = s.n) (hB : B ≤ W.heap.size) (hl : (s.n + 2) * E.bytes ≤ 140737488355328) (h63 : s.n + 2 ≤ maxLen) :
    ∃ g1 c1 w1, (Builtin.append_ #[E.S, E.S] ty #[s.v, .slice (some ⟨W.heap.size, 0, none⟩) 1 1]).run Try.prog (W.alloc (.cells cs ty')) = .ok (.slice (some ⟨g1, 0, none⟩) (s.n + 1) c1) w1 ∧
    ∃ g2 c2 w2, (Builtin.append_ #[E.S, E.S] ty #[.slice (some ⟨g1, 0, none⟩) (s.n + 1) c1, .slice (some ⟨w1.heap.size, 0, none⟩) 1 1]).run Try.prog (w1.alloc (.cells cs ty')) = .ok (.slice (some ⟨g2, 0, none⟩) (s.n + 2) c2) w2 ∧
      OwnK E w2 B (.slice (some ⟨g2, 0, none⟩) (s.n + 2) c2) (R ++ [m] ++ [m]) ∧ OwnK E w2 B s.v R ∧ Keep s.v.ownBlock.toList W w2 ∧ (s.v.ownBlock = some g2 ∨ W.heap.size ≤ g2) := by
  have hrange : ∀ w : World, (w.alloc (.cells cs ty')).rangeAt w.heap.size 0 (E.enc m) := fun w j u hu => by
    rw [Nat.zero_add, cell_of_row _ _ j _ _ _ (heap_alloc_last w _), ← Array.getElem?_toList, hcs]; exact hu
  have hA := below_alloc W (.cells cs ty')
  obtain ⟨g1, c1, w1, hr1, hO1, hS1, hg1, hw1⟩ := run_app1K O (W.alloc (.cells cs ty')) B W.heap.size s.v R m ty (h.keep hA) (hrange W) (by simp) (by have : (R.length + 1) * E.bytes ≤ (s.n + 2) * E.bytes := Nat.mul_le_mul_right _ (by omega); omega) (by omega) (by simp; omega)
  have hB1 : B ≤ w1.heap.size := by have := hg1.size; simp at this; omega
  have hA1 := below_alloc w1 (.cells cs ty')
  have hlen1 : (R ++ [m]).length = R.length + 1 := by simp
  have hO1' : OwnK E w1 B (.slice (some ⟨g1, 0, none⟩) (R.length + 1) c1) (R ++ [m]) := hO1
  obtain ⟨g2, c2, w2, hr2, hO2, hS2, hg2, hw2⟩ := run_app1K O (w1.alloc (.cells cs ty')) B w1.heap.size (.slice (some ⟨g1, 0, none⟩) (R.length + 1) c1) (R ++ [m]) m ty (hO1'.keep hA1) (hrange w1) (by simp) (by rw [hlen1]; have : (R.length + 1 + 1) * E.bytes ≤ (s.n + 2) * E.bytes := Nat.mul_le_mul_right _ (by omega); omega) (by rw [hlen1]; omega) (by simp; omega)
  rw [hlen1] at hr2 hO2
  have hW1 : W.heap.size ≤ w1.heap.size := by have := hg1.size; simp at this; omega
  have hown1 : (Value.slice (some ⟨g1, 0, none⟩) (R.length + 1) c1).ownBlock = some g1 := rfl
  rw [hown1] at hg2 hw2
  have hg1b : s.v.ownBlock = some g1 ∨ W.heap.size ≤ g1 := by
    rcases hw1 with h1 | h1
    · exact .inl h1
    · right; rw [World.size_alloc] at h1; omega
  refine ⟨g1, c1, w1, by rw [← hn]; exact hr1, g2, c2, w2, by rw [← hn]; exact hr2, by rw [← hn]; exact hO2, ?_, ?_, ?_⟩
  · -- the old one
    have hS1' := hS1.keep hA1
    by_cases hb : s.v.ownBlock = some g1
    · obtain ⟨cur, a1, a2, a3, a4, a5, a6, a7⟩ := (hO1'.keep hA1).heap
      have hsv : ∃ c, s.v = .slice (some ⟨g1, 0, none⟩) R.length c := by
        rcases hS1'.2 with ⟨e, hz⟩ | ⟨g, cap, cur', e, b1, b2, b3⟩
        · rw [e] at hb; simp [Value.ownBlock] at hb
        · rw [e] at hb
          have : g = g1 := by simpa [Value.ownBlock] using hb
          subst this
          exact ⟨cap, e⟩
      obtain ⟨c, hsv⟩ := hsv
      rw [hsv] at hS1' ⊢
      obtain ⟨cur', b1, b2, b3, b4, b5, b6, b7⟩ := hS1'.heap
      rw [a3] at b3
      cases b3
      have hcc : c = c1 := Nat.eq_of_mul_eq_mul_right O.kp (by omega)
      subst hcc
      have := hS2.cut O R.length (by omega)
      rwa [List.take_left' rfl] at this
    · exact World.ownsRow.kept hS1' hg2 (by
        cases hq : s.v.ownBlock with
        | none => exact .inl rfl
        | some q => exact .inr (fun e => hb (by rw [hq]; exact e)))
  · refine ⟨hg2.os.trans (hA1.os.trans (hg1.os.trans hA.os)), hg2.tape.trans (hA1.tape.trans (hg1.tape.trans hA.tape)), hg2.output.trans (hA1.output.trans (hg1.output.trans hA.output)), ?_, fun k hk hno => ?_⟩
    · have := hg2.size; simp at this; omega
    · have hkg : some k ≠ s.v.ownBlock := fun e => hno (by rw [← e]; simp)
      have hk1 : some k ≠ some g1 := fun e => by
        rcases hg1b with h1 | h1
        · exact hkg (by rw [h1]; exact e)
        · cases e; omega
      exact (hg2.block k (by simp; omega) hk1).trans ((hA1.block k (by omega)).trans ((hg1.block k (by simp; omega) hkg).trans (hA.block k hk)))
  · rcases hw2 with h1 | h1
    · have : g1 = g2 := by simpa using h1
      subst this
      exact hg1b
    · right; rw [World.size_alloc] at h1; omega
end Go.Proofs.Ytadnfiikfhdphaa
