
import Derived.Test.YtajmlfcbppnpgaaShaR
namespace Go.Proofs.Ytajmlfcbppnpgaa
open Go.RowKit

theorem pad_none (n : Nat) (h : (n + 1) % 64 = 56) : padZ n = 0 := by unfold padZ; omega
/-- The padding under way: j zeros. -/
def padUp (l : List UInt8) (j : Nat) : List UInt8 := l ++ [0x80] ++ List.replicate j 0
theorem padUp_succ (l : List UInt8) (j : Nat) : padUp l (j + 1) = padUp l j ++ [0] := by
  unfold padUp
  rw [List.replicate_succ']; simp
theorem padUp_len (l : List UInt8) (j : Nat) : (padUp l j).length = l.length + 1 + j := by simp [padUp]; omega
def beN (n i : Nat) : List UInt8 := (be8 n).take i
theorem beN_succ (n i : Nat) (h : i < 8) : beN n (i + 1) = beN n i ++ [UInt8.ofNat (n / 256 ^ (7 - i))] := by
  unfold beN
  have hl : i < (be8 n).length := by simp [be8]; omega
  rw [List.take_succ_eq_append_getElem hl]
  simp [be8]
theorem beN_all (n : Nat) : beN n 8 = be8 n := by unfold beN; rw [List.take_of_length_le (by simp [be8])]
theorem beN_len (n i : Nat) (h : i ≤ 8) : (beN n i).length = i := by simp [beN, be8]; omega
def vlen : Value → Nat | .slice _ n _ => n | _ => 0
theorem padL_eq (l : List UInt8) : padL l = padUp l (padZ l.length) ++ beN (8 * l.length) 8 := by rw [beN_all]; rfl
set_option linter.unusedSimpArgs false in
set_option maxHeartbeats 800000 in
theorem refPadded_any (v : Value) (l : List UInt8) (w : World) (hl : l.length ≤ 140737488351232) (hv : IsB w v l) :
    Calls Try.prog 19 #[v] w fun e w' => ∃ u, e = .returned u ∧ OwnB w' w.heap.size u (padL l) ∧ Below w.heap.size w w' := by
  obtain ⟨x, c, rfl⟩ := hv.len
  obtain ⟨v1, w1, hr1, hO1, hg1, -⟩ := run_app_more (w.alloc (.cells #[] 5)) w.heap.size (.slice (some ⟨w.heap.size, 0, none⟩) 0 0) [] x c l 22 (ownB_empty w) (hv.kept (below_alloc _ _)) (by simp; omega) (by simp)
  rw [List.nil_append] at hO1
  have hB1 : Below w.heap.size w w1 := (below_alloc w _).trans (below_by (ownB_empty w) hg1 (by simp))
  obtain ⟨v2, w2, hr2, hO2, hB2, hs2⟩ := run_app1 (w1.alloc (.cells #[Value.int .u8 128] 5)) w.heap.size w1.heap.size 1 v1 l 128 22 (hO1.keep (below_alloc _ _)) (by go_simp) (by omega) (by have := hB1.size; simp; omega)
  have hB : Below w.heap.size w w2 := hB1.trans (((Below.refl _ w1).alloc hB1.size _).trans hB2)
  have hO : OwnB w2 w.heap.size v2 (padUp l 0) := by unfold padUp; simpa using hO2
  clear hO1 hO2 hB1 hB2 hs2 hv hg1
  have tok1 : True := trivial
  go_enter Try.func19, Try.ntmps19
  go_wp2_with (first | (at_builtin; have _t := tok1; refine wpL_app rfl _ _ rfl v1 w1 (by exact hr1) ?_; clear tok1 hr1) | (at_builtin; refine wpL_app rfl _ _ rfl v2 w2 (by exact hr2) ?_))
  go_loopw [3] (fun v wr => ∃ j : Nat, j ≤ padZ l.length ∧ OwnB wr w.heap.size v (padUp l j) ∧ Below w.heap.size w wr) (fun v _ => l.length + 1 + padZ l.length - vlen v)
  case atStart => exact ⟨0, Nat.zero_le _, hO, hB⟩
  case round =>
    clear hO hB
    obtain ⟨j, hj, hO, hB⟩ := hrel
    have hsz := hB.size
    obtain ⟨g, c2, rfl, hg, -, -⟩ := hO.form (by unfold padUp; simp)
    have hz : padZ l.length < 64 := by unfold padZ; omega
    rw [padUp_len] at hO ⊢
    by_cases hlt : j < padZ l.length
    · obtain ⟨v', w', hr, hO', hB', hs'⟩ := run_app1 (wr.alloc (.cells #[Value.int .u8 0] 5)) w.heap.size wr.heap.size 1 (.slice (some ⟨g, 0, none⟩) (l.length + 1 + j) c2) (padUp l j) 0 22 (hO.keep (below_alloc _ _)) (by go_simp) (by rw [padUp_len]; omega) (by simp; omega)
      obtain ⟨g3, c3, rfl, -⟩ := hO'.form (by simp)
      have HO : Hid (OwnB w' w.heap.size (.slice (some ⟨g3, 0, none⟩) (l.length + 1 + (j + 1)) c3) (padUp l (j + 1))) := by show OwnB _ _ _ _; rw [padUp_succ]; simpa [padUp_len, Nat.add_assoc] using hO'
      have HB : Hid (Below w.heap.size w w') := (hB.alloc hsz _).trans hB'
      have hrem : ((l.length + 1 + j : Nat) : Int) % 64 ≠ 56 := by unfold padZ at hlt; omega
      have hlen : (padUp l j ++ [0]).length = l.length + 1 + (j + 1) := by rw [List.length_append, padUp_len]; rfl
      rw [hlen] at hr
      have HM : Hid (l.length + 1 + padZ l.length - (l.length + 1 + (j + 1)) < l.length + 1 + padZ l.length - (l.length + 1 + j)) := by show _ < _; omega
      clear hO hB hO' hB' hlen
      generalize l.length + 1 + (j + 1) = m' at *
      generalize l.length + 1 + j = m at *
      go_wp2_with (at_builtin; refine wpL_app rfl _ _ rfl _ w' (by exact hr) ?_)
      go_roundw
      case rel => exact ⟨j + 1, by omega, HO.out, HB.out⟩
      case measure => simpa [vlen] using HM.out
    · obtain rfl : j = padZ l.length := by omega
      have hrem : ((l.length + 1 + padZ l.length : Nat) : Int) % 64 = 56 := by unfold padZ; omega
      have hlm : l.length + 1 + padZ l.length ≤ 140737488351300 := by omega
      have hpl : (padUp l (padZ l.length)).length = l.length + 1 + padZ l.length := padUp_len _ _
      have HP : Hid (padL l = padUp l (padZ l.length) ++ beN (8 * l.length) 8) := padL_eq l
      generalize padUp l (padZ l.length) = Q at hO HP hpl
      generalize l.length + 1 + padZ l.length = m at *
      go_wp2_with fail
      clear hrem
      go_loopw [3, 5] (fun v i wr => ∃ j : Nat, j ≤ 8 ∧ i = .int .i64 ((7 : Int) - (j : Int)) ∧ OwnB wr w.heap.size v (Q ++ beN (8 * l.length) j) ∧ Below w.heap.size w wr) (fun _ i _ => (intOf i + 1).toNat)
      case atStart => exact ⟨0, by omega, rfl, by rw [show beN (8 * l.length) 0 = [] from rfl, List.append_nil]; exact hO, hB⟩
      case round =>
        clear hO hB
        obtain ⟨j, hj, rfl, hO, hB⟩ := hrel
        have hsz := hB.size
        by_cases hlt : j < 8
        · obtain ⟨p, hp⟩ : ∃ p : Nat, 7 - j = p := ⟨_, rfl⟩
          have hp2 : (7 : Int) - (j : Int) = (p : Int) := by omega
          obtain ⟨b, hb⟩ : ∃ b, UInt8.ofNat (8 * l.length / 256 ^ (7 - j)) = b := ⟨_, rfl⟩
          have hbv : (l.length : Int) * 8 / (2 : Int) ^ (8 * p) % 256 = (b.toNat : Int) := by
            rw [← hb, hp, UInt8.toNat_ofNat', Nat.mul_comm 8 l.length, show (256 : Nat) = 2 ^ 8 from rfl, ← Nat.pow_mul]
            simp
          have hlQ : (Q ++ beN (8 * l.length) j).length = m + j := by rw [List.length_append, hpl, beN_len _ _ hj]
          obtain ⟨v', w', hr, hO', hB', hs'⟩ := run_app1 (wr.alloc (.cells #[Value.int .u8 (b.toNat : Int)] 5)) w.heap.size wr.heap.size 1 u3 (Q ++ beN (8 * l.length) j) b 22 (hO.keep (below_alloc _ _)) (by go_simp) (by omega) (by simp; omega)
          have HO : Hid (OwnB w' w.heap.size v' (Q ++ beN (8 * l.length) (j + 1))) := by show OwnB _ _ _ _; rw [beN_succ _ _ hlt, hb, ← List.append_assoc]; exact hO'
          have HB : Hid (Below w.heap.size w w') := (hB.alloc hsz _).trans hB'
          have hp0 : (p : Int) ≤ 7 := by omega
          have hp1 : (0 : Int) ≤ (p : Int) := by omega
          have HI : Hid ((p : Int) - 1 = 7 - ((j + 1 : Nat) : Int)) := by show _ = _; omega
          rw [hp2]
          clear hO hB hO' hB' hb hp hp2 hlQ
          go_wp2_with (at_builtin; refine wpL_app rfl _ _ rfl v' w' (by exact hr) ?_)
          go_roundw
          case rel => first | exact ⟨j + 1, by omega, by rw [← HI.out], HO.out, HB.out⟩ | ((repeat apply Exists.intro); refine ⟨⟨j + 1, by omega, ?_, HO.out, HB.out⟩, rfl⟩; rw [← HI.out])
          case measure => simp [intOf]
        · obtain rfl : j = 8 := by omega
          rw [← HP.out] at hO
          have hj0 : (7 : Int) - ((8 : Nat) : Int) < 0 := by omega
          generalize (7 : Int) - ((8 : Nat) : Int) = i at hj0 ⊢
          go_wp2
          go_ret
          exact ⟨_, rfl, hO, hB⟩
end Go.Proofs.Ytajmlfcbppnpgaa
