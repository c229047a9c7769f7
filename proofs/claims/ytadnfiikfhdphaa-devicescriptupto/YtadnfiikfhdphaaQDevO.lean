import Derived.Test.YtadnfiikfhdphaaQDevK
namespace Go.Proofs.Ytadnfiikfhdphaa
open Go.RowKit

/-! assaylaw05's acts; a device without a stop -/
structure OpD where
  kind : Int
  at_ : Int
  v : UInt8
def DOpAt (w : World) (b p : Nat) (o : OpD) : Prop :=
  w.cell? ⟨b, p, none⟩ = some (.int .i64 o.kind) ∧ w.cell? ⟨b, p + 2, none⟩ = some (.int .i64 o.at_) ∧ w.cell? ⟨b, p + 3, none⟩ = some (.int .u8 (o.v.toNat : Int)) ∧
  (-9223372036854775808 ≤ o.kind ∧ o.kind ≤ 9223372036854775807) ∧ (-9223372036854775808 ≤ o.at_ ∧ o.at_ ≤ 9223372036854775807)
def IsDOps (w : World) (v : Value) (os : List OpD) : Prop := ∃ x c, v = .slice x os.length c ∧ ∀ (i : Nat) o, os[i]? = some o → ∃ b p, x = some ⟨b, p, none⟩ ∧ b < w.heap.size ∧ DOpAt w b (p + i * 5) o
theorem DOpAt.kept {w w1 : World} {b p : Nat} {o : OpD} (h : DOpAt w b p o) (hb : Below w.heap.size w w1) (hlt : b < w.heap.size) : DOpAt w1 b p o :=
  ⟨by rw [hb.cell hlt]; exact h.1, by rw [hb.cell hlt]; exact h.2.1, by rw [hb.cell hlt]; exact h.2.2.1, h.2.2.2⟩
theorem IsDOps.kept {w w1 : World} {v : Value} {os : List OpD} (h : IsDOps w v os) (hb : Below w.heap.size w w1) : IsDOps w1 v os := by
  obtain ⟨x, c, rfl, hc⟩ := h
  refine ⟨x, c, rfl, fun i o ho => ?_⟩
  obtain ⟨b, p, rfl, hlt, h⟩ := hc i o ho
  exact ⟨b, p, rfl, Nat.lt_of_lt_of_le hlt hb.size, h.kept hb hlt⟩
theorem IsDOps.at {w : World} {x : Option Addr} {n c : Nat} {os : List OpD} (h : IsDOps w (.slice x n c) os) (i : Nat) (o : OpD) (ho : os[i]? = some o) : ∃ b p, x = some ⟨b, p, none⟩ ∧ b < w.heap.size ∧ DOpAt w b (p + i * 5) o := by
  obtain ⟨x', c', e, hc⟩ := h
  obtain ⟨rfl, rfl, rfl⟩ := Value.slice.inj e
  exact hc i o ho
structure Runs (n i : Nat) (st : DSt) : Prop where
  len : st.last.length = n
  left : st.left = -1
  down : st.down = false
  pend : st.pend.length ≤ i
  wt : st.wt ≤ i
  fl : st.fl ≤ i
theorem Runs.may {n i : Nat} {st : DSt} (h : Runs n i st) : mayB st = true ∧ mayS st = st := by
  unfold mayB mayS
  rw [h.left]
  exact ⟨rfl, rfl⟩
theorem Runs.fr {n i : Nat} {st : DSt} (h : Runs n i st) : flRes st = 0 := by unfold flRes; rw [h.down, h.may.1]; rfl
theorem Runs.fs {n i : Nat} {st : DSt} (h : Runs n i st) : flSt st = { st with last := over st.last st.pend, pend := [], fl := st.fl + 1 } := by unfold flSt; rw [if_neg (by rw [h.down]; simp), if_pos h.may.1, h.may.2]
theorem Runs.flush {n i : Nat} {st : DSt} (h : Runs n i st) : Runs n (i + 1) (flSt st) := by
  have h1 := h.wt
  have h2 := h.fl
  rw [h.fs]
  exact ⟨by simp only [over_len]; exact h.len, h.left, h.down, by simp, by simp only; omega, by simp only; omega⟩
theorem Runs.write {n i : Nat} {st : DSt} (h : Runs n i st) (a : Int) (s : Sc) : Runs n (i + 1) (wrSt st a s) := by
  have h0 := h.pend
  have h1 := h.wt
  have h2 := h.fl
  unfold wrSt
  rw [if_neg (by rw [h.down]; simp), if_pos h.may.1, h.may.2]
  split
  · exact ⟨h.len, h.left, h.down, by simp only [List.length_append, List.length_cons, List.length_nil]; omega, by simp only; omega, by simp only; omega⟩
  · exact ⟨h.len, h.left, h.down, by omega, by omega, by omega⟩
theorem Runs.new (n : Nat) (fs : List UInt8) : Runs n 0 (newS (fillL n fs)) := ⟨fillL_len _ _, rfl, rfl, Nat.le_refl _, Nat.le_refl _, Nat.le_refl _⟩
section
variable {DevIs : World → Value → DSt → List Nat → List Nat → Prop}
variable {B : Nat} {w0 w : World} {A : List Nat} {d : Value} {st : DSt}
theorem DevAt.own {α : Type} {E : EK α} (O : DevOk DevIs) (h : DevAt DevIs B w0 A w d st) {w' : World} (hb : Below w.heap.size w w') {v : Value} {ds : List α} (hO : OwnK E w' w.heap.size v ds) : DevAt DevIs B w0 (v.ownBlock.toList ++ A) w' d st := by
  have hl := fun q hq => World.ownsRow.lt hO q hq
  cases hv : v.ownBlock with
  | none => exact h.later O hb
  | some q => exact h.add O hb q (hl q hv).1 (hl q hv).2
end
end Go.Proofs.Ytadnfiikfhdphaa
