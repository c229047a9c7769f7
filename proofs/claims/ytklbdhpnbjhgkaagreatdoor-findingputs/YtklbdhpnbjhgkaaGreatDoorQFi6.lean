import Derived.Test.YtklbdhpnbjhgkaaGreatDoorQFi5
import Derived.Test.YtklbdhpnbjhgkaaGreatDoorQRelk
namespace Go.Proofs.YtklbdhpnbjhgkaaGreatDoor
open Go.RowKit Go.Sort

/-! Rows of one's own, whatever their elements: copied, marked; what a mark keeps -/
structure RawT (t e : TypeId) (k bytes : Nat) : Prop where
  und : Tryz.prog.underlying t = some (.slice e)
  info : ∃ i z, Tryz.prog.info? e = some i ∧ i.zero = some z ∧ i.size = k ∧ i.bytes = bytes ∧ z.cells.size = k
  kp : 0 < k
theorem rawK {α : Type} {E : EK α} (O : E.Ok) : RawT E.S E.T E.k E.bytes := ⟨O.und, by
  obtain ⟨i, hi, hzz⟩ := Option.map_eq_some_iff.1 O.info
  simp only [Prod.mk.injEq] at hzz
  exact ⟨i, E.z, hi, hzz.1, hzz.2.1, hzz.2.2, O.zc⟩, O.kp⟩
theorem rawI : RawT 30 3 1 8 := ⟨intsElt.ht, by
  obtain ⟨i, z, h1, h2, h3, h4, h5⟩ := intsElt.info
  exact ⟨i, z, h1, h2, h3, h4, h5⟩, Nat.one_pos⟩
theorem row_keep {w w' : World} {B k n : Nat} {e : TypeId} {v : Value} {xs : List Value} (h : w.ownsRow B e k v n xs) (hb : Below w.heap.size w w') : w'.ownsRow B e k v n xs :=
  World.ownsRow.kept h (row := none) ⟨hb.os, hb.tape, hb.output, hb.size, fun k hk _ => hb.block k hk⟩ (by
    rcases h.2 with ⟨rfl, _⟩ | ⟨g, cap, cur, rfl, _⟩
    · exact .inl rfl
    · exact .inr (by simp [Value.ownBlock]))
/-- append([]T{}, x...) -/
theorem rawCopy {t e : TypeId} {k bytes : Nat} (R : RawT t e k bytes) (w : World) (B g : Nat) (x : Option Addr) (m c : Nat) (xs : List Value) (ty : TypeId) (hv : w.ownsRow B e k (.slice (some ⟨g, 0, none⟩) 0 0) 0 []) (hl : xs.length = m * k) (h1 : ∀ u ∈ xs, u.oneCell' = true)
    (src : m = 0 ∨ ∃ ad, x = some ad ∧ ∀ j u, xs[j]? = some u → w.cell? (ad.add j) = some u) (hs : m * bytes ≤ 140737488355328) (h63 : m ≤ maxLen) (hb : B ≤ w.heap.size) :
    ∃ y c' w', (Builtin.append_ #[t, t] ty #[.slice (some ⟨g, 0, none⟩) 0 0, .slice x m c]).run Tryz.prog w = .ok (.slice y m c') w' ∧ w'.ownsRow B e k (.slice y m c') m xs ∧ Below w.heap.size w w' := by
  obtain ⟨i, z, hi, hz, hsz, hby, hzs⟩ := R.info
  by_cases h0 : m = 0
  · subst h0
    have hx : xs = [] := List.eq_nil_of_length_eq_zero (by omega)
    subst hx
    refine ⟨some ⟨g, 0, none⟩, 0, w, ?_, hv, Below.refl _ _⟩
    cases x <;> simp [Builtin.append_, run_underlying R.und, sizeOf, typeInfo, hi, Builtin.lenOf, Builtin.firstCells, loadCells, loadCellsFrom, storeCells]
  · obtain ⟨ad, rfl, hc⟩ := src.resolve_left h0
    obtain ⟨g', cap, w', hr, h2, h3, h4, h5⟩ := run_append_lies (P := Tryz.prog) w t ty B e i z k bytes R.und hi hz hsz hby hzs R.kp _ 0 [] hv ad m c xs hl hc h1 (by omega) (by omega) (by simpa using hs) hb _ rfl
    have hr2 := run_append_grow (P := Tryz.prog) w t ty e i z R.und hi hz ⟨g, 0, none⟩ 0 0 [] (by simp) (fun j u hu => by simp at hu) ad m c xs (by rw [hsz]; exact hl) hc (by omega) (by unfold maxLen at h63; omega) (growslice_fits (by omega) (by rw [hby]; simpa using hs))
    rw [hr] at hr2
    simp only [Result.ok.injEq] at hr2
    rw [Nat.zero_add] at hr h2
    rw [List.nil_append] at h2
    refine ⟨_, cap, w', hr, h2, ?_⟩
    rw [hr2.2]
    exact (below_alloc w _).drew
/-- What stays of a row of n elements xs and of a literal ys, while ys is put behind xs. -/
def KO (e : TypeId) (k B n : Nat) (xs ys : List Value) (w w' : World) : Prop := (B ≤ w.heap.size → Below B w w') ∧ w.heap.size ≤ w'.heap.size ∧
  (∀ v n', n' ≤ n + 1 → w.ownsRow B e k v n' ((xs ++ ys).take (n' * k)) → w'.ownsRow B e k v n' ((xs ++ ys).take (n' * k))) ∧ ∀ v, w.ownsRow B e k v 1 ys → w'.ownsRow B e k v 1 ys
theorem kokO {e : TypeId} {k B n : Nat} {xs ys : List Value} : KOk (KO e k B n xs ys) :=
  ⟨fun hb => ⟨fun h => hb.mono h, hb.size, fun _ _ _ ho => row_keep ho hb, fun _ ho => row_keep ho hb⟩,
   fun h1 h2 => ⟨fun h => (h1.1 h).trans (h2.1 (Nat.le_trans h h1.2.1)), Nat.le_trans h1.2.1 h2.2.1, fun v n' hn ho => h2.2.2.1 v n' hn (h1.2.2.1 v n' hn ho), fun v ho => h2.2.2.2 v (h1.2.2.2 v ho)⟩⟩
/-- append(v, y): y a literal of one. -/
theorem rawMark {t e : TypeId} {k bytes : Nat} (R : RawT t e k bytes) (w : World) (B y n c : Nat) (x : Option Addr) (xs ys : List Value) (ty : TypeId) (hv : w.ownsRow B e k (.slice x n c) n xs) (hy : w.ownsRow B e k (.slice (some ⟨y, 0, none⟩) 1 1) 1 ys) (h1 : ∀ u ∈ ys, u.oneCell' = true)
    (hs : (n + 1) * bytes ≤ 140737488355328) (h63 : n + 1 ≤ maxLen) (hb : B ≤ w.heap.size) :
    ∃ g c' w', (Builtin.append_ #[t, t] ty #[.slice x n c, .slice (some ⟨y, 0, none⟩) 1 1]).run Tryz.prog w = .ok (.slice (some ⟨g, 0, none⟩) (n + 1) c') w' ∧ w'.ownsRow B e k (.slice (some ⟨g, 0, none⟩) (n + 1) c') (n + 1) (xs ++ ys) ∧ KO e k B n xs ys w w' := by
  obtain ⟨i, z, hi, hz, hsz, hby, hzs⟩ := R.info
  have hcell : ∀ j u, ys[j]? = some u → w.cell? ((⟨y, 0, none⟩ : Addr).add j) = some u := fun j u hu => World.ownsRow.cells hy (g := y) rfl j u hu
  have hyl : ys.length = 1 * k := hy.1
  obtain ⟨g, cap, w', hr, h2, h3, h4, h5⟩ := run_append_lies (P := Tryz.prog) w t ty B e i z k bytes R.und hi hz hsz hby hzs R.kp _ n xs hv ⟨y, 0, none⟩ 1 1 ys hyl hcell h1 Nat.one_pos h63 hs hb _ rfl
  have hB : Below B w w' := (Below.refl B w).grown h3 hb (fun q hq => (World.ownsRow.lt hv q hq).1)
  -- a row in the block that is written
  have same : ∀ g0, (Value.slice x n c).ownBlock = some g0 → (∃ cur cur2 c0, c0 = c ∧ w.heap[g0]? = some (.cells cur e (0, 0)) ∧ w'.heap[g0]? = some (.cells cur2 e (0, 0)) ∧ cur.size = c * k ∧ cur2.size = c * k ∧ cur.toList.take (n * k) = xs ∧ cur2.toList.take ((n + 1) * k) = xs ++ ys) ∨ Below w.heap.size w w' := fun g0 hg0 => by
    rcases hv.2 with ⟨hx, -⟩ | ⟨g1, c1, cur, he, hb1, hg1, hle, hm, hcs, ht⟩
    · rw [hx] at hg0; cases hg0
    · simp only [Value.slice.injEq] at he
      obtain ⟨rfl, -, rfl⟩ := he
      have hgg : g1 = g0 := by simpa [Value.ownBlock] using hg0
      subst hgg
      by_cases hroom : n + 1 ≤ c
      · left
        have hfit : n * i.size + ys.length ≤ cur.size := by
          rw [hsz, hyl, hcs, ← Nat.add_mul]
          exact Nat.mul_le_mul_right k hroom
        have hr2 := run_append_room (P := Tryz.prog) w t ty e i R.und hi g1 n c cur hg1 ⟨y, 0, none⟩ 1 1 ys (by rw [hsz]; exact hyl) hcell h1 hroom hfit
        rw [hr] at hr2
        simp only [Result.ok.injEq, Value.slice.injEq, Option.some.injEq, Addr.mk.injEq, and_true] at hr2
        obtain ⟨⟨rfl, -, rfl⟩, -⟩ := hr2
        rcases h2.2 with ⟨hx, -⟩ | ⟨g2, c2, cur2, he2, -, hg2, -, -, hcs2, ht2⟩
        · cases hx
        · simp only [Value.slice.injEq, Option.some.injEq, Addr.mk.injEq, and_true] at he2
          obtain ⟨rfl, -, rfl⟩ := he2
          exact ⟨cur, cur2, _, rfl, hg1, hg2, hcs, hcs2, ht, ht2⟩
      · right
        have hr2 := run_append_grow (P := Tryz.prog) w t ty e i z R.und hi hz ⟨g1, 0, none⟩ n c xs (by rw [hsz]; exact hv.1) (fun j u hu => World.ownsRow.cells hv (g := g1) rfl j u hu) ⟨y, 0, none⟩ 1 1 ys (by rw [hsz]; exact hyl) hcell (by omega) (by unfold maxLen at h63; omega) (growslice_fits (by omega) (by rw [hby]; omega))
        rw [hr] at hr2
        simp only [Result.ok.injEq] at hr2
        rw [hr2.2]
        exact (below_alloc w _).drew
  have any : ∀ v n' zs, w.ownsRow B e k v n' zs → (∀ cur cur2 : Array Value, cur.toList.take (n * k) = xs → cur2.toList.take ((n + 1) * k) = xs ++ ys → cur.toList.take (n' * k) = zs → cur2.toList.take (n' * k) = zs) → w'.ownsRow B e k v n' zs := fun v n' zs ho hq => by
    by_cases hne : v.ownBlock = none ∨ v.ownBlock ≠ (Value.slice x n c).ownBlock
    · exact World.ownsRow.kept ho h3 hne
    · cases hvb : v.ownBlock with
      | none => exact absurd (.inl hvb) hne
      | some g0 =>
        have hsame : (Value.slice x n c).ownBlock = some g0 := by
          by_cases h9 : v.ownBlock = (Value.slice x n c).ownBlock
          · rw [← h9]; exact hvb
          · exact absurd (.inr h9) hne
        rcases same g0 hsame with ⟨cur, cur2, c0, -, q1, q2, q3, q4, q5, q6⟩ | hbl
        · refine ⟨ho.1, ?_⟩
          rcases ho.2 with hx | ⟨g1, c1, cur1, rfl, hb1, hg1, hle, hm, hcs, ht⟩
          · exact .inl hx
          · have hgg : g1 = g0 := by simpa [Value.ownBlock] using hvb
            subst hgg
            rw [q1] at hg1
            simp only [Option.some.injEq, Obj.cells.injEq, and_true] at hg1
            subst hg1
            exact .inr ⟨g1, c1, cur2, rfl, hb1, q2, hle, hm, by omega, hq _ _ q5 q6 ht⟩
        · exact row_keep ho hbl
  refine ⟨g, cap, w', hr, h2, fun _ => hB, h3.size, fun v n' hn ho => any v n' _ ho fun cur cur2 _ k2 _ => ?_, fun v ho => any v 1 _ ho fun cur cur2 k1 k2 k3 => ?_⟩
  · rw [← k2, List.take_take, Nat.min_eq_left (Nat.mul_le_mul_right k hn)]
  · have e1 : cur2.toList.take (1 * k) = (xs ++ ys).take (1 * k) := by rw [← k2, List.take_take, Nat.min_eq_left (Nat.mul_le_mul_right k (by omega))]
    rw [e1]
    by_cases h0 : n = 0
    · subst h0
      have : xs = [] := List.eq_nil_of_length_eq_zero (by rw [hv.1, Nat.zero_mul])
      rw [this, List.nil_append, List.take_of_length_le (by omega)]
    · have hxl := hv.1
      have hk : 1 * k ≤ n * k := Nat.mul_le_mul_right k (by omega)
      rw [List.take_append_of_le_length (by omega), ← k1, List.take_take, Nat.min_eq_left hk]
      exact k3
end Go.Proofs.YtklbdhpnbjhgkaaGreatDoor
