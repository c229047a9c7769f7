import Derived.Test.YtalnbddkhojjbaaGreatDoorQManM
import Derived.Test.YtalnbddkhojjbaaGreatDoorQStr
import Derived.Test.YtalnbddkhojjbaaGreatDoorQDig2
import Derived.Test.YtalnbddkhojjbaaGreatDoorQRelt
import Derived.Test.YtalnbddkhojjbaaGreatDoorQApp
namespace Go.Proofs.YtalnbddkhojjbaaGreatDoor
open Go.RowKit

theorem dg_fuel : ∀ (f n : Nat), n < 10 ^ f → 0 < f → digF (f + 1) n = digF f n
  | 0, n => fun _ h => by omega
  | f + 1, n => fun h _ => by
    rw [show digF (f + 1 + 1) n = if n < 10 then [u8 (48 + n)] else digF (f + 1) (n / 10) ++ [u8 (48 + n % 10)] from rfl, show digF (f + 1) n = if n < 10 then [u8 (48 + n)] else digF f (n / 10) ++ [u8 (48 + n % 10)] from rfl]
    by_cases h10 : n < 10
    · rw [if_pos h10, if_pos h10]
    · rw [if_neg h10, if_neg h10]
      cases f with
      | zero => simp at h; omega
      | succ f => rw [dg_fuel (f + 1) (n / 10) (by rw [Nat.pow_succ] at h; omega) (by omega)]
theorem dg_lenF : ∀ (f m : Nat), (digF f m).length ≤ f
  | 0, m => by simp [digF]
  | f + 1, m => by
    rw [digF]
    split
    · simp
    · have := dg_lenF f (m / 10)
      rw [List.length_append]; simp; omega
theorem digN_len (z : Int) : (digN z).length ≤ 20 := dg_lenF 20 _
theorem dcT_len (d : Dc) : (dcT d).length ≤ 112 := by
  unfold dcT
  have := digN_len d.size
  have := textL_len d.key
  simp only [List.length_append, List.length_cons, List.length_nil]
  omega
theorem dcsT_len : ∀ (l : List Dc) (b : Bool), (dcsT l b).length ≤ 113 * l.length
  | [], b => by simp [dcsT]
  | d :: r, b => by
    have := dcsT_len r false
    have := dcT_len d
    rw [dcsT]
    cases b <;> simp only [List.length_append, List.length_cons, List.length_nil, cond_true, cond_false] <;> omega
end Go.Proofs.YtalnbddkhojjbaaGreatDoor
namespace Go.Proofs.YtalnbddkhojjbaaGreatDoor
open Go.RowKit

theorem isK_dp {α : Type} {E : EK α} {w : World} {g o n c : Nat} {ds : List α} (h : IsK E w (.slice (some ⟨g, o, none⟩) n c) ds) (k : Nat) (hk : k ≤ n) : IsK E w (.slice (if c = k then some ⟨g, o, none⟩ else some ⟨g, o + k * E.k, none⟩) (n - k) (c - k)) (ds.drop k) := by
  obtain ⟨y, e, he, hc, hd⟩ := h
  simp only [Value.slice.injEq] at he
  obtain ⟨rfl, rfl, rfl⟩ := he
  refine ⟨_, c - k, by rw [List.length_drop], by rw [List.length_drop]; omega, fun i d hi => ?_⟩
  rw [List.getElem?_drop] at hi
  have hlt := (List.getElem?_eq_some_iff.1 hi).1
  rw [if_neg (by omega)]
  obtain ⟨b, p, hb, hl, hr⟩ := hd (k + i) d hi
  cases hb
  exact ⟨g, o + k * E.k, rfl, hl, by rw [Nat.add_assoc, ← Nat.add_mul]; exact hr⟩
end Go.Proofs.YtalnbddkhojjbaaGreatDoor
namespace Go.Proofs.YtalnbddkhojjbaaGreatDoor
open Go.RowKit

def sameD : List Dc → List Dc → Bool
  | [], [] => true
  | a :: r, b :: t => dcEq a b && sameD r t
  | _, _ => false
theorem sameD_refl : ∀ l, sameD l l = true
  | [] => rfl
  | a :: r => by rw [sameD, dcEq_refl, sameD_refl r]; rfl
theorem sameD_len : ∀ (a b : List Dc), a.length ≠ b.length → sameD a b = false
  | [], [], h => by simp at h
  | [], _ :: _, _ => rfl
  | _ :: _, [], _ => rfl
  | a :: r, b :: t, h => by rw [sameD, sameD_len r t (by simpa using h), Bool.and_false]
theorem sameD_drop (a b : List Dc) (i : Nat) (x y : Dc) (hx : a[i]? = some x) (hy : b[i]? = some y) : sameD (a.drop i) (b.drop i) = (dcEq x y && sameD (a.drop (i + 1)) (b.drop (i + 1))) := by
  obtain ⟨h1, rfl⟩ := List.getElem?_eq_some_iff.1 hx
  obtain ⟨h2, rfl⟩ := List.getElem?_eq_some_iff.1 hy
  rw [List.drop_eq_getElem_cons h1, List.drop_eq_getElem_cons h2, sameD]
set_option linter.unusedSimpArgs false in
set_option maxRecDepth 100000 in
set_option maxHeartbeats 8000000 in
theorem same16_any (la lb : List Dc) (xa xb : Option Addr) (na nb ca cb : Nat) (w : World) (hna : la.length = na) (hnb : lb.length = nb) (hA : IsK dcE w (.slice xa na ca) la) (hB : IsK dcE w (.slice xb nb cb) lb) (h63 : na ≤ 4611686018427387904) : Calls Tryz.prog 9 #[.slice xa na ca, .slice xb nb cb] w fun e w' => e = .returned (.bool (sameD la lb)) ∧ Below w.heap.size w w' := by
  obtain ⟨SS, hSS⟩ : ∃ q, sameD la lb = q := ⟨_, rfl⟩
  have HS0 : Hid (sameD la lb = SS) := hSS
  rw [hSS]
  clear hSS
  by_cases hne : na = nb
  · subst hne
    have HH : Hid (la.length = na ∧ lb.length = na ∧ IsK dcE w (.slice xa na ca) la ∧ IsK dcE w (.slice xb na cb) lb) := ⟨hna, hnb, hA, hB⟩
    obtain ⟨n, rfl⟩ : ∃ q, q = na := ⟨_, rfl⟩
    clear hna hnb hA hB
    go_enter Tryz.func9, Tryz.ntmps9
    go_wp2_with fail
    go_loopw [5] (fun iv wr => ∃ k : Nat, k ≤ n ∧ iv = .int .i64 (k : Int) ∧ Hid (sameD (la.drop k) (lb.drop k) = SS) ∧ Below w.heap.size w wr) (fun iv _ => n - (intOf iv).toNat)
    case atStart => exact ⟨0, by omega, rfl, HS0, Below.refl _ _⟩
    case round =>
      obtain ⟨k, hk, rfl, HS, hBw⟩ := hrel
      by_cases hlt : k < n
      · have i0 : (0 : Int) ≤ (k : Int) := by omega
        have i1 : (k : Int) < (n : Int) := by omega
        obtain ⟨da, hda⟩ : ∃ q, la[k]? = some q := ⟨_, List.getElem?_eq_getElem (by have := HH.out.1; omega)⟩
        obtain ⟨db, hdb⟩ : ∃ q, lb[k]? = some q := ⟨_, List.getElem?_eq_getElem (by have := HH.out.2.1; omega)⟩
        obtain ⟨ga, oa, rfl, hga, a1, a2, -⟩ := dcCells (HH.out.2.2.1.kept hBw) k da hda
        obtain ⟨gb, ob, rfl, hgb, b1, b2, -⟩ := dcCells (HH.out.2.2.2.kept hBw) k db hdb
        have HA9 : Hid (∀ x, Below wr.heap.size wr x → rgOk x ga (oa + k * 33) 33 = true ∧ rg x ga (oa + k * 33) 33 = dcA da) := fun x hb => by
          obtain ⟨e1, e2⟩ := rg_later hb hga (oa + k * 33) 33
          exact ⟨by rw [e1]; exact a1, by rw [e2, a2]⟩
        have HB9 : Hid (∀ x, Below wr.heap.size wr x → rgOk x gb (ob + k * 33) 33 = true ∧ rg x gb (ob + k * 33) 33 = dcA db) := fun x hb => by
          obtain ⟨e1, e2⟩ := rg_later hb hgb (ob + k * 33) 33
          exact ⟨by rw [e1]; exact b1, by rw [e2, b2]⟩
        have FK : Hid ((0 : Int) ≤ (k : Int) ∧ (k : Int) < (n : Int)) := ⟨i0, i1⟩
        have HS2 : Hid ((dcEq da db && sameD (la.drop (k + 1)) (lb.drop (k + 1))) = SS) := by show _ = _; rw [← sameD_drop la lb k da db hda hdb]; exact HS.out
        clear a1 a2 b1 b2 hda hdb
        go_upto_region 6 with fail
        refine wp_relies [Fx (.slice (some ⟨ga, oa, none⟩) n ca), Fx (.int .i64 (k : Int)), Fx (.pointer (some ⟨ga, oa + k * 33, none⟩)), Fx (.agg (dcA da)), Fx (.slice (some ⟨gb, ob, none⟩) n cb), Fx (.int .i64 (k : Int)), Fx (.pointer (some ⟨gb, ob + k * 33, none⟩)), Fx (.agg (dcA db)), Fx (.bool (!dcEq da db))] (by kernel_rfl) (by kernel_rfl) ?_ ?_ ?_
        · repeat' (first | exact all_nil | apply all_cons)
          all_goals intro v y y' hv hb
          all_goals first | exact Fx_mono _ _ _ _ hv hb
        · refine ⟨?_, ?_, ?_, ?_, ?_, ?_, ?_, ?_, ?_, trivial⟩
          all_goals
            intro ρ x hp ρc ρg ρf ho hd
            have o0 : ρ (.tmp 0) = .slice (some ⟨ga, oa, none⟩) n ca := ho 0 rfl
            have o1 : ρ (.tmp 1) = .slice (some ⟨gb, ob, none⟩) n cb := ho 1 rfl
            have o5 : ρ (.tmp 5) = .int .i64 (k : Int) := ho 5 rfl
            clear ho
            obtain ⟨k1, k2⟩ := HA9.out x hp
            obtain ⟨k3, k4⟩ := HB9.out x hp
            simp only [depsR, depR, slotR, Fx, List.getElem?_cons_succ, List.getElem?_cons_zero, Region.binds, forall_const] at hd
            simp only [guardR]
            go_split_ands
          · go_simp
          · go_simp
          · obtain ⟨z1, z2⟩ := FK.out
            go_simp
          · go_simp
          · go_simp
          · go_simp
          · obtain ⟨z1, z2⟩ := FK.out
            go_simp
          · go_simp
          · go_simp
        · intro vs x9 hp hw
          simp only [owed, Fx] at hw
          obtain ⟨e0, e1, e2, e3, e4, e5, e6, e7, e8, -⟩ := hw
          simp only [List.length_cons, List.length_nil, List.take_succ_cons, List.take_nil, List.drop_succ_cons, List.drop_nil, asg, List.cons_append, List.nil_append, e0, e1, e2, e3, e4, e5, e6, e7, e8]
          clear e0 e1 e2 e3 e4 e5 e6 e7 e8
          have HB : Hid (Below w.heap.size w x9) := hBw.trans (hp.mono hBw.size)
          clear hp hBw HA9 HB9
          cases hq : dcEq da db with
          | false =>
            have HF : Hid (SS = false) := by show _ = _; rw [← HS2.out, hq]; rfl
            go_wp2
            go_ret
            rw [HF.out]
            exact ⟨rfl, HB.out⟩
          | true =>
            have HS3 : Hid (sameD (la.drop (k + 1)) (lb.drop (k + 1)) = SS) := by show _ = _; rw [← HS2.out, hq]; rfl
            go_wp2
            go_roundw
            case rel => first | exact ⟨k + 1, by have := FK.out; omega, by go_num, HS3, HB.out⟩ | ((repeat apply Exists.intro); refine ⟨⟨k + 1, by have := FK.out; omega, ?_, HS3, HB.out⟩, rfl⟩; go_num)
            case measure => have := FK.out; simp [intOf]; omega
      · obtain rfl : n = k := by omega
        have i1 : ¬ (n : Int) < (n : Int) := by omega
        have HT : Hid (SS = true) := by show _ = _; rw [← HS.out, List.drop_of_length_le (by rw [HH.out.1]; exact Nat.le_refl _), List.drop_of_length_le (by rw [HH.out.2.1]; exact Nat.le_refl _)]; rfl
        go_wp2
        go_ret
        rw [HT.out]
        exact ⟨rfl, hBw⟩
  · have hf : SS = false := by rw [← HS0.out, sameD_len la lb (by omega)]
    rw [hf]
    have i1 : ¬ (na : Int) = (nb : Int) := by omega
    have i2 : ((na : Int) == (nb : Int)) = false := beq_eq_false_iff_ne.2 i1
    clear hf
    go_enter Tryz.func9, Tryz.ntmps9
    go_wp2
    go_ret
    exact ⟨rfl, Below.refl _ _⟩
end Go.Proofs.YtalnbddkhojjbaaGreatDoor
