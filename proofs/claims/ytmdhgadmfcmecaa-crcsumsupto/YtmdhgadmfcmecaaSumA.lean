
import Derived.Test.YtmdhgadmfcmecaaBurA
import Derived.Test.YtmdhgadmfcmecaaRelt
import Derived.WalkSpells
import Derived.Lib.SmallJoins
namespace Go.Proofs.Ytmdhgadmfcmecaa
open Go.RowKit

theorem IsBB.kept {w w1 : World} {v : Value} {ls : List (List UInt8)} (h : IsBB w v ls) (hb : Below w.heap.size w w1) : IsBB w1 v ls := by
  rcases h with h | ⟨x, c, rfl, hc⟩
  · exact .inl h
  · refine .inr ⟨x, c, rfl, fun i hi => ?_⟩
    obtain ⟨u, h1, h2⟩ := hc i hi
    exact ⟨u, by rw [hb.cell (World.block_lt_of_cell? w _ h1)]; exact h1, h2.kept hb⟩
/-! append(v, b...) to a slice of the call's own -/
theorem run_app_more (w : World) (base : Nat) (v : Value) (l : List UInt8) (x : Option Addr) (c : Nat) (m : List UInt8) (ty : TypeId) (hv : OwnB w base v l) (h : IsB w (.slice x m.length c) m) (hl : l.length + m.length ≤ 140737488355328) (hb : base ≤ w.heap.size) :
    ∃ v' w', (Builtin.append_ #[22, 22] ty #[v, .slice x m.length c]).run Try.prog w = .ok v' w' ∧ OwnB w' base v' (l ++ m) ∧ w.grownBy w' v.ownBlock ∧ (∀ g, v'.ownBlock = some g → v.ownBlock = some g ∨ g = w.heap.size) := by
  obtain ⟨i, hi, hzz⟩ := Option.map_eq_some_iff.1 info5
  simp only [Prod.mk.injEq] at hzz
  obtain ⟨hz, hs, hby⟩ := hzz
  by_cases hm : m = []
  · subst hm
    have hv' := hv
    obtain ⟨_, ⟨rfl, hn⟩ | ⟨g, cap, cur, rfl, hbg, hg, hle, hmx, hsz, ht⟩⟩ := hv
    · refine ⟨_, _, run_app_nil0 w x c ty h, by rw [List.append_nil]; exact hv', World.grownBy.refl w _, fun g hg => .inl hg⟩
    · have hr := run_append_room_src (P := Try.prog) w 22 22 ty 5 i Try.underlying22 hi g 0 l.length cap _ 0 (bytesA []).toList (by rw [hs]; exact src_isB (l := []) h) (by omega) (by simp [bytesA]) (by simp [bytesA])
      simp [bytesA, World.setCells] at hr
      exact ⟨_, _, hr, by rw [List.append_nil]; exact hv', World.grownBy.refl w _, fun g hg => .inl hg⟩
  · have hp : 0 < m.length := List.length_pos_iff.2 hm
    rcases h with ⟨_, h⟩ | ⟨y, d, he, hc⟩
    · exact absurd h hm
    · simp only [Value.slice.injEq, true_and] at he
      obtain ⟨rfl, rfl⟩ := he
      obtain ⟨g, cap, w', hr, h2, h3, h4, h5⟩ := run_append_lies (P := Try.prog) w 22 ty base 5 i _ 1 1 Try.underlying22 hi hz hs hby rfl (by omega) v l.length (bytesA l).toList hv y m.length c (bytesA m).toList (by simp)
        (fun j u hu => by
          have hj : j < m.length := by have := (List.getElem?_eq_some_iff.1 hu).1; simpa using this
          rw [Array.getElem?_toList, bytesA_get m j hj] at hu
          rw [hc j hj]; exact hu) (bytesA_one m) hp (by unfold maxLen; omega) (by omega) hb _ rfl
      refine ⟨_, w', hr, ?_, h3, fun g' hg' => ?_⟩
      · unfold OwnB
        rw [List.length_append]
        have e : (bytesA (l ++ m)).toList = (bytesA l).toList ++ (bytesA m).toList := by simp [bytesA]
        rw [e]; exact h2
      · simp only [Value.ownBlock, Option.some.injEq] at hg'
        subst hg'; exact h4
theorem below_by {w w' : World} {base : Nat} {v : Value} {l : List UInt8} (h : OwnB w base v l) (hg : w.grownBy w' v.ownBlock) (hb : base ≤ w.heap.size) : Below base w w' := below_grown h hg hb
theorem flat_take_le (ls : List (List UInt8)) (k : Nat) : ((ls.take k).flatten).length ≤ ls.flatten.length := by
  have h := congrArg (fun x => (List.flatten x).length) (List.take_append_drop k ls)
  simp only [List.flatten_append, List.length_append] at h
  omega
set_option maxHeartbeats 400000 in
theorem joined_any (v : Value) (ls : List (List UInt8)) (w : World) (hl1 : ls.length ≤ maxLen) (hl2 : ls.flatten.length ≤ 140737488355328) (hv : IsBB w v ls) :
    Calls Try.prog 12 #[v] w fun e w' => ∃ u, e = .returned u ∧ IsB w' u ls.flatten ∧ Below w.heap.size w w' := by
  obtain ⟨x, c, rfl⟩ := hv.len
  unfold maxLen at hl1
  go_enter Try.func12, Try.ntmps12
  go_wp2
  go_loopw [3, 4] (fun u i wr => ∃ k : Nat, k ≤ ls.length ∧ i = .int .i64 k ∧ OwnB wr w.heap.size u (ls.take k).flatten ∧ Below w.heap.size w wr) (fun _ i _ => ls.length - (intOf i).toNat)
  case atStart => exact ⟨0, Nat.zero_le _, rfl, by simp only [List.take_zero, List.flatten_nil]; exact OwnB.nil _ _, Below.refl _ _⟩
  case round =>
    obtain ⟨k, hk, rfl, hO, hB⟩ := hrel
    have hsz : w.heap.size ≤ wr.heap.size := hB.size
    by_cases hlt : k < ls.length
    · obtain ⟨b, o, z, d, rfl, hb, hc, hz⟩ := hv.spot k hlt
      have hc' : wr.cell? ⟨b, o + k, none⟩ = some (.slice z (ls[k]).length d) := by rw [hB.cell hb]; exact hc
      have hz' := hz.kept hB
      have HS : (ls.take (k + 1)).flatten = (ls.take k).flatten ++ ls[k] := flatten_take_succ ls k hlt
      have hle := flat_take_le ls (k + 1)
      rw [HS, List.length_append] at hle
      obtain ⟨v', w', hr, hO', hg', -⟩ := run_app_more wr w.heap.size _ _ z d ls[k] 22 hO hz' (by omega) hsz
      have HO : Hid (OwnB w' w.heap.size v' (ls.take (k + 1)).flatten) := by show OwnB _ _ _ _; rw [HS]; exact hO'
      have HB : Hid (Below w.heap.size w w') := hB.trans (below_by hO hg' hsz)
      generalize ls[k] = l at hc' hr
      clear hO hB hO' hg' hc hz hz' hv HS hle
      have hk0 : (0 : Int) ≤ (k : Int) := by omega
      have hk1 : (k : Int) < (ls.length : Int) := by omega
      go_wp2_with (at_builtin; refine wpL_app rfl _ _ rfl v' w' (by exact hr) ?_)
      go_roundw
      case rel => exact ⟨k + 1, by omega, by go_num, HO.out, HB.out⟩
      case measure => simp [intOf]; omega
    · obtain rfl : k = ls.length := by omega
      rw [List.take_length] at hO
      clear hv
      go_wp2
      go_ret
      exact ⟨_, rfl, hO.isB, hB⟩
/-! A copy of bytes with 165 behind them, of the call's own -/
def Full (B : Nat) (w : World) (u : Value) (l : List UInt8) : Prop := ∃ g c, u = .slice (some ⟨g, 0, none⟩) l.length c ∧ OwnB w B (.slice (some ⟨g, 0, none⟩) (l ++ [165]).length c) (l ++ [165])
theorem Full.lt {B : Nat} {w : World} {u : Value} {l : List UInt8} (h : Full B w u l) : ∃ g, u.ownBlock = some g ∧ B ≤ g ∧ g < w.heap.size := by
  obtain ⟨g, c, rfl, h⟩ := h
  have := World.ownsRow.lt h g rfl
  exact ⟨g, rfl, this.1, this.2⟩
theorem Full.grown {B : Nat} {w w' : World} {u : Value} {l : List UInt8} {row : Option Nat} (h : Full B w u l) (hg : w.grownBy w' row) (hne : u.ownBlock ≠ row) : Full B w' u l := by
  obtain ⟨g, c, rfl, h⟩ := h
  exact ⟨g, c, rfl, World.ownsRow.kept h hg (.inr hne)⟩
theorem Full.kept {B : Nat} {w w' : World} {u : Value} {l : List UInt8} (h : Full B w u l) (hb : Below w.heap.size w w') : Full B w' u l := by
  obtain ⟨g, c, rfl, h⟩ := h
  exact ⟨g, c, rfl, h.keep hb⟩
/-- A row of slices is no row of bytes. -/
theorem rows_ne {w : World} {B B' : Nat} {v u : Value} {us : List Value} {l : List UInt8} (hv : OwnV w B v us) (hu : OwnB w B' u l) (h0 : u.ownBlock ≠ none) : u.ownBlock ≠ v.ownBlock := by
  intro e
  obtain ⟨_, ⟨rfl, _⟩ | ⟨g, cap, cur, rfl, _, hg, _⟩⟩ := hu
  · exact h0 rfl
  · obtain ⟨_, ⟨rfl, _⟩ | ⟨g', cap', cur', rfl, _, hg', _⟩⟩ := hv
    · simp [Value.ownBlock] at e
    · simp only [Value.ownBlock, Option.some.injEq] at e
      subst e
      rw [hg] at hg'
      simp at hg'
theorem Full.isB {B : Nat} {w : World} {u : Value} {l : List UInt8} (h : Full B w u l) : IsB w u l := by
  obtain ⟨g, c, rfl, h⟩ := h
  have hi := h.isB
  rcases hi with ⟨h, _⟩ | ⟨y, d, he, hc⟩
  · cases h
  · simp only [Value.slice.injEq, Option.some.injEq, true_and] at he
    obtain ⟨rfl, rfl⟩ := he
    refine .inr ⟨_, c, rfl, fun i hi => ?_⟩
    have := hc i (by simp; omega)
    rw [List.getElem_append_left hi] at this
    exact this
/-- Behind k rounds: k copies, each in a row of its own. -/
structure Inv1 (X : World) (ls : List (List UInt8)) (k : Nat) (v : Value) (us : List Value) (wr : World) : Prop where
  below : Below X.heap.size X wr
  own : OwnV wr X.heap.size v us
  len : us.length = k
  full : ∀ i, i < k → ∃ u, us[i]? = some u ∧ Full X.heap.size wr u (ls[i]?.getD [])
  apart : us.Pairwise fun a b => a.ownBlock ≠ b.ownBlock
theorem Inv1.start (X : World) (ls : List (List UInt8)) : Inv1 X ls 0 (.slice none 0 0) [] X := ⟨Below.refl _ _, OwnV.nil _ _, rfl, fun i h => by omega, List.Pairwise.nil⟩
theorem Inv1.kept {X : World} {ls : List (List UInt8)} {k : Nat} {v : Value} {us : List Value} {wr w' : World} (h : Inv1 X ls k v us wr) (hb : Below wr.heap.size wr w') : Inv1 X ls k v us w' :=
  ⟨h.below.trans (hb.mono h.below.size), h.own.keep hb, h.len, fun i hi => by obtain ⟨u, h1, h2⟩ := h.full i hi; exact ⟨u, h1, h2.kept hb⟩, h.apart⟩
theorem run_app1V2 (w : World) (base y c : Nat) (v : Value) (vs : List Value) (u : Value) (ty : TypeId) (h : OwnV w base v vs) (hy : w.cell? ⟨y, 0, none⟩ = some u) (hu : u.oneCell' = true) (hl : (vs.length + 1) * 24 ≤ 140737488355328) (hb : base ≤ w.heap.size) :
    ∃ v' w', (Builtin.append_ #[25, 25] ty #[v, .slice (some ⟨y, 0, none⟩) 1 c]).run Try.prog w = .ok v' w' ∧ OwnV w' base v' (vs ++ [u]) ∧ w.grownBy w' v.ownBlock := by
  obtain ⟨i, hi, hzz⟩ := Option.map_eq_some_iff.1 info22
  simp only [Prod.mk.injEq] at hzz
  obtain ⟨hz, hs, hby⟩ := hzz
  obtain ⟨g, cap, w', hr, h2, h3, h4, h5⟩ := run_append_lies (P := Try.prog) w 25 ty base 22 i _ 1 24 Try.underlying25 hi hz hs hby rfl (by omega) v vs.length vs h ⟨y, 0, none⟩ 1 c [u] rfl
    (fun j z hz => by
      rcases j with _ | j
      · simp at hz; subst hz
        rw [addr_add]; exact hy
      · simp at hz) (by simpa using hu) (by omega) (by unfold maxLen; omega) (by omega) hb _ rfl
  refine ⟨_, w', hr, ?_, h3⟩
  unfold OwnV
  rw [List.length_append]
  exact h2
theorem Full.own_ne {B B' : Nat} {w : World} {v u : Value} {us : List Value} {l : List UInt8} (hu : Full B w u l) (hv : OwnV w B' v us) : u.ownBlock ≠ v.ownBlock := by
  obtain ⟨g, c, rfl, h⟩ := hu
  have := rows_ne hv h (by simp [Value.ownBlock])
  exact this
theorem Inv1.step {X : World} {ls : List (List UInt8)} {k : Nat} {v v' u : Value} {us : List Value} {wr w2 w3 w4 : World} (h : Inv1 X ls k v us wr) (hb : Below wr.heap.size wr w2) (hu : Full wr.heap.size w2 u (ls[k]?.getD [])) (hb3 : Below w2.heap.size w2 w3)
    (hg : w3.grownBy w4 v.ownBlock) (hO : OwnV w4 X.heap.size v' (us ++ [u])) : Inv1 X ls (k + 1) v' (us ++ [u]) w4 := by
  have h3 : Inv1 X ls k v us w3 := (h.kept hb).kept hb3
  have hu3 : Full X.heap.size w3 u (ls[k]?.getD []) := by
    obtain ⟨g, c, e, h9⟩ := hu.kept hb3
    exact ⟨g, c, e, Joins.ownsRow_le h9 h.below.size⟩
  refine ⟨h3.below.trans (below_grownV h3.own hg h3.below.size), hO, by simp [h.len], fun i hi => ?_, ?_⟩
  · by_cases hik : i < k
    · obtain ⟨z, h1, h2⟩ := h3.full i hik
      exact ⟨z, by rw [List.getElem?_append_left (by rw [h.len]; exact hik)]; exact h1, h2.grown hg (h2.own_ne h3.own)⟩
    · have e : i = k := by omega
      subst e
      exact ⟨u, by rw [← h.len]; simp, hu3.grown hg (hu3.own_ne h3.own)⟩
  · rw [List.pairwise_append]
    refine ⟨h.apart, List.pairwise_singleton _ _, fun a ha b hb' => ?_⟩
    rw [List.mem_singleton] at hb'
    subst hb'
    obtain ⟨i, hi⟩ := List.mem_iff_getElem?.1 ha
    have hik : i < k := by have := (List.getElem?_eq_some_iff.1 hi).1; rw [h.len] at this; exact this
    obtain ⟨z, h1, h2⟩ := h.full i hik
    rw [hi] at h1; cases h1
    obtain ⟨g1, e1, _, l1⟩ := h2.lt
    obtain ⟨g2, e2, l2, _⟩ := hu.lt
    rw [e1, e2]
    intro e
    simp only [Option.some.injEq] at e
    omega
theorem Inv1.areB {X : World} {ls : List (List UInt8)} {v : Value} {us : List Value} {wr : World} (h : Inv1 X ls ls.length v us wr) : AreB wr us ls :=
  ⟨h.len, fun i hi => by
    obtain ⟨u, h1, h2⟩ := h.full i hi
    have e : ls[i]?.getD [] = ls[i] := by simp [hi]
    rw [e] at h2
    exact ⟨u, h1, h2.isB⟩⟩
theorem ownB_empty (w : World) : OwnB (w.alloc (.cells #[] 5)) w.heap.size (.slice (some ⟨w.heap.size, 0, none⟩) 0 0) [] :=
  ⟨by simp [bytesA], .inr ⟨w.heap.size, 0, #[], rfl, Nat.le_refl _, heap_alloc_last w _, Nat.le_refl _, by simp [maxLen], rfl, by simp [bytesA]⟩⟩
/-- Two appends make a copy with 165 behind it. -/
theorem run_copy (w : World) (x : Option Addr) (c : Nat) (l : List UInt8) (h : IsB w (.slice x l.length c) l) (hl : l.length + 1 ≤ 140737488355328) :
    ∃ v1 w1 g c2 w2, (Builtin.append_ #[22, 22] 22 #[.slice (some ⟨w.heap.size, 0, none⟩) 0 0, .slice x l.length c]).run Try.prog (w.alloc (.cells #[] 5)) = .ok v1 w1 ∧
      (Builtin.append_ #[22, 22] 22 #[v1, .slice (some ⟨w1.heap.size, 0, none⟩) 1 1]).run Try.prog (w1.alloc (.cells #[.int .u8 165] 5)) = .ok (.slice (some ⟨g, 0, none⟩) (l.length + 1) c2) w2 ∧
      Full w.heap.size w2 (.slice (some ⟨g, 0, none⟩) l.length c2) l ∧ l.length + 1 ≤ c2 ∧ c2 ≤ maxLen ∧ Below w.heap.size w w2 := by
  obtain ⟨v1, w1, hr1, hO1, hg1, -⟩ := run_app_more (w.alloc (.cells #[] 5)) w.heap.size (.slice (some ⟨w.heap.size, 0, none⟩) 0 0) [] x c l 22 (ownB_empty w) (h.kept (below_alloc _ _)) (by simp; omega) (by simp)
  rw [List.nil_append] at hO1
  have hB1 : Below w.heap.size w w1 := (below_alloc w _).trans (below_by (ownB_empty w) hg1 (by simp))
  obtain ⟨v2, w2, hr2, hO2, hB2, hs2⟩ := run_app1 (w1.alloc (.cells #[Value.int .u8 165] 5)) w.heap.size w1.heap.size 1 v1 l 165 22 (hO1.keep (below_alloc _ _)) (by go_simp) hl (by have := hB1.size; simp; omega)
  obtain ⟨g, c2, rfl, hg, hle, hm⟩ := hO2.form (by simp)
  refine ⟨v1, w1, g, c2, w2, hr1, ?_, ⟨g, c2, rfl, hO2⟩, by simpa using hle, hm, hB1.trans ((((Below.refl _ w1).alloc hB1.size _)).trans hB2)⟩
  simpa using hr2
end Go.Proofs.Ytmdhgadmfcmecaa
