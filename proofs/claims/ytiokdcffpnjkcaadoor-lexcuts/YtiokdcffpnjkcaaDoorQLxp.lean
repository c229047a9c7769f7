import Derived.Test.YtiokdcffpnjkcaaDoorQLxw
import Derived.Test.YtiokdcffpnjkcaaDoorQCvb
import Derived.Test.YtiokdcffpnjkcaaDoorQBow
namespace Go.Proofs.YtiokdcffpnjkcaaDoor
open Go.RowKit

/-! strconv.ParseUint at base 10 and 63 bits, at base 16 and 16 bits -/
theorem nmV_go (l : List UInt8) (k v : Nat) (h : nmV l k = some v) : nmV l (k + 1) = if (lB l k).toNat < 48 ∨ 57 < (lB l k).toNat then none else some (10 * v + (lB l k).toNat - 48) := by rw [nmV, h]
theorem nmV_no9 (l : List UInt8) : ∀ j k, nmV l k = none → nmV l (k + j) = none
  | 0, _, h => h
  | j + 1, k, h => by
    show nmV l (k + j + 1) = none
    rw [nmV, nmV_no9 l j k h]
theorem nmV_up (l : List UInt8) (m : Nat) : ∀ j k v, nmV l k = some v → m < v → nmV l (k + j) = none ∨ ∃ u, nmV l (k + j) = some u ∧ m < u
  | 0, _, v, h, hm => .inr ⟨v, h, hm⟩
  | j + 1, k, v, h, hm => by
    rcases nmV_up l m j k v h hm with h1 | ⟨u, h1, hu⟩
    · exact .inl (nmV_no9 l 1 (k + j) h1)
    · show nmV l (k + j + 1) = none ∨ ∃ u, nmV l (k + j + 1) = some u ∧ m < u
      rw [nmV_go l (k + j) u h1]
      split
      · exact .inl rfl
      · rename_i h9
        exact .inr ⟨_, rfl, by omega⟩
def r10 (l : List UInt8) : Option Nat := if l.length = 0 then none else
  match nmV l l.length with
  | none => none
  | some v => if 9223372036854775807 < v then none else some v
theorem r10_none (l : List UInt8) (k : Nat) (hk : k ≤ l.length) (h : nmV l k = none) : r10 l = none := by
  have := nmV_no9 l (l.length - k) k h
  rw [show k + (l.length - k) = l.length by omega] at this
  unfold r10
  split
  · rfl
  · rw [this]
theorem r10_big (l : List UInt8) (k v : Nat) (hk : k ≤ l.length) (h : nmV l k = some v) (hv : 9223372036854775807 < v) : r10 l = none := by
  have := nmV_up l 9223372036854775807 (l.length - k) k v h hv
  rw [show k + (l.length - k) = l.length by omega] at this
  unfold r10
  split
  · rfl
  · rcases this with h | ⟨u, h, hu⟩
    · rw [h]
    · rw [h]; exact if_pos hu
theorem r10_ok (l : List UInt8) (v : Nat) (h0 : l.length ≠ 0) (h : nmV l l.length = some v) (hv : v ≤ 9223372036854775807) : r10 l = some v := by
  unfold r10
  rw [if_neg h0, h]
  exact if_neg (by omega)
/-- The number of the first k digits of base sixteen. -/
def uH (l : List UInt8) : Nat → Option Nat
  | 0 => some 0
  | k + 1 => match uH l k with
    | none => none
    | some v => if hexV (lB l k) < 0 then none else some (16 * v + (hexV (lB l k)).toNat)
theorem uH_go (l : List UInt8) (k v : Nat) (h : uH l k = some v) : uH l (k + 1) = if hexV (lB l k) < 0 then none else some (16 * v + (hexV (lB l k)).toNat) := by rw [uH, h]
theorem uH_none (l : List UInt8) : ∀ j k, uH l k = none → uH l (k + j) = none
  | 0, _, h => h
  | j + 1, k, h => by
    show uH l (k + j + 1) = none
    rw [uH, uH_none l j k h]
/-- What ParseUint of the library's inner package leaves. -/
def IpP (r : Option Nat) (w : World) (e : Ending) (w' : World) : Prop := Below w.heap.size w w' ∧ ((∃ v : Nat, r = some v ∧ e = .returned (.tuple #[.int .u64 (v : Int), .nilIface])) ∨ (r = none ∧ ((∃ x, e = .returned (.tuple #[.int .u64 x, .iface 87 (.int .i64 1)])) ∨ ∃ x, e = .returned (.tuple #[.int .u64 x, .iface 87 (.int .i64 2)]))))
def orB (c : UInt8) : Int := bits .or .u8 (c.toNat : Int) 32
theorem orB_all : ∀ n : Fin 256, 0 ≤ orB (UInt8.ofNat n.val) ∧ orB (UInt8.ofNat n.val) ≤ 255 ∧ ((48 ≤ n.val ∧ n.val ≤ 57) ∨ (97 ≤ orB (UInt8.ofNat n.val) ∧ orB (UInt8.ofNat n.val) ≤ 102 ∧ hexV (UInt8.ofNat n.val) = orB (UInt8.ofNat n.val) - 87) ∨ (hexV (UInt8.ofNat n.val) = -1 ∧ (orB (UInt8.ofNat n.val) < 97 ∨ 102 < orB (UInt8.ofNat n.val)))) := by decide +kernel
theorem orB_cases (c : UInt8) : 0 ≤ orB c ∧ orB c ≤ 255 ∧ ((48 ≤ c.toNat ∧ c.toNat ≤ 57) ∨ (97 ≤ orB c ∧ orB c ≤ 102 ∧ hexV c = orB c - 87) ∨ (hexV c = -1 ∧ (orB c < 97 ∨ 102 < orB c))) := by
  have h := orB_all ⟨c.toNat, c.toNat_lt⟩
  simpa using h
theorem lower_any (c : UInt8) (w : World) : Calls Tryd.prog 49 #[.int .u8 (c.toNat : Int)] w fun e w' => e = .returned (.int .u8 (orB c)) ∧ w' = w := by
  unfold orB
  go_enter Tryd.func49, Tryd.ntmps49
  go_wp2
  go_ret
  exact ⟨rfl, rfl⟩
set_option linter.unusedSimpArgs false in
set_option maxRecDepth 100000 in
set_option maxHeartbeats 32000000 in
theorem iPU10 (t : ByteArray) (w : World) (hmax : t.size ≤ 140737488355328) : Calls Tryd.prog 45 #[.string t, .int .i64 10, .int .i64 63] w fun e w' => IpP (r10 (lS t)) w e w' := by
  have hls := lS_len t
  by_cases h0 : t.size = 0
  · have ht : t = ⟨#[]⟩ := lS_eq (List.eq_nil_of_length_eq_zero (by rw [hls, h0]))
    subst ht
    have HP : Hid (IpP (r10 (lS ⟨#[]⟩)) w (.returned (.tuple #[.int .u64 0, .iface 87 (.int .i64 2)])) w) := ⟨Below.refl _ _, .inr ⟨rfl, .inr ⟨0, rfl⟩⟩⟩
    clear hmax h0 hls
    go_enter Tryd.func45, Tryd.ntmps45
    go_wp2
    go_ret2
    exact HP.out
  have hemp : t.toList.isEmpty = false := by
    rw [ByteArray.toList_eq]
    cases h : t.data.toList with
    | nil =>
      exfalso
      have h9 : (lS t).length = 0 := by unfold lS; rw [h]; rfl
      omega
    | cons a b => rfl
  obtain ⟨C, W1, hcv, hC, hbW, iW⟩ := conv14 w t
  have hB : ∀ j, j < t.size → W1.cell? ⟨w.heap.size, j, none⟩ = some (.int .u8 ((lB (lS t) j).toNat : Int)) := fun j hj => by
    have h9 := iW.byteB j (by omega)
    rw [Nat.zero_add] at h9
    exact h9
  obtain ⟨l, hl⟩ : ∃ q, lS t = q := ⟨_, rfl⟩
  simp only [hl] at hls hB ⊢
  obtain ⟨n, hn⟩ : ∃ q, t.size = q := ⟨_, rfl⟩
  simp only [hn] at hls hB hmax h0 hcv
  have HW : Hid (Below w.heap.size w W1) := hbW
  have HL : Hid (l.length = n ∧ n ≠ 0) := ⟨hls, h0⟩
  clear hl hbW iW hC hls h0
  have hmv : IntKind.u64.wrap (IntKind.u64.wrap 9223372036854775808 - 1) = 9223372036854775807 := by
    rw [IntKind.wrap_u64, IntKind.wrap_u64]
    decide
  go_enter Tryd.func45, Tryd.ntmps45
  go_wp2
  go_loop [12, 13, 101] (fun vu vn vi => ∃ (k v : Nat) (a : Int), vu = .bool false ∧ vn = .int .u64 a ∧ vi = .int .i64 k ∧ k ≤ n ∧ Hid (a = (v : Int) ∧ v ≤ 9223372036854775807 ∧ nmV l k = some v)) (fun _ _ vi => n - (intOf vi).toNat)
  case atStart => exact ⟨0, 0, 0, rfl, rfl, rfl, by omega, rfl, by omega, rfl⟩
  case round =>
    obtain ⟨k, v, a, rfl, rfl, rfl, hk, hh⟩ := hrel
    obtain ⟨ha, hv, hm⟩ := hh.out
    clear hh
    have a0 : 0 ≤ a := by omega
    have a1 : a ≤ 9223372036854775807 := by omega
    by_cases hlt : k < n
    · have hc := hB k hlt
      have hgo := nmV_go l k v hm
      have hcc := orB_cases (lB l k)
      have hlo := lower_any (lB l k)
      have hlen := HL.out.1
      generalize lB l k = c at hc hgo hcc hlo
      have hc256 : c.toNat < 256 := c.toNat_lt
      clear hB hm
      by_cases hd : 48 ≤ c.toNat ∧ c.toNat ≤ 57
      · obtain ⟨hd0, hd1⟩ := hd
        rw [if_neg (by omega)] at hgo
        clear hcc hlo
        by_cases hbig : 9223372036854775807 < 10 * v + c.toNat - 48
        · have hr := r10_big l (k + 1) _ (by omega) hgo hbig
          have HP : ∀ x, Hid (IpP (r10 l) w (.returned (.tuple #[.int .u64 x, .iface 87 (.int .i64 1)])) W1) := fun x => ⟨HW.out, .inr ⟨hr, .inl ⟨x, rfl⟩⟩⟩
          clear hgo hr hlen
          by_cases hcut : 1844674407370955162 ≤ a
          · clear hbig ha hv
            go_wp2
            go_ret2
            exact (HP _).out
          · by_cases hov : 18446744073709551616 ≤ a * 10 + ((c.toNat : Int) - 48)
            · have hwr : IntKind.u64.wrap (a * 10 + ((c.toNat : Int) - 48)) = a * 10 + ((c.toNat : Int) - 48) - 18446744073709551616 := by
                rw [IntKind.wrap_u64]
                omega
              clear hbig ha hv
              go_wp2
              go_ret2
              exact (HP _).out
            · have hgt : 9223372036854775807 < a * 10 + ((c.toNat : Int) - 48) := by omega
              clear hbig ha hv
              go_wp2
              go_ret2
              exact (HP _).out
        · have HN : Hid (a * 10 + ((c.toNat : Int) - 48) = ((10 * v + c.toNat - 48 : Nat) : Int) ∧ 10 * v + c.toNat - 48 ≤ 9223372036854775807 ∧ nmV l (k + 1) = some (10 * v + c.toNat - 48)) := ⟨by omega, by omega, hgo⟩
          have icut : a < 1844674407370955162 := by omega
          have iov : a * 10 + ((c.toNat : Int) - 48) ≤ 9223372036854775807 := by omega
          clear hgo hlen hbig ha hv
          go_wp2
          refine ⟨⟨k + 1, 10 * v + c.toNat - 48, a * 10 + ((c.toNat : Int) - 48), rfl, (by first | rfl | (congr 1; omega)), (by first | rfl | (congr 1; omega)), by omega, HN⟩, by simp [intOf]; omega⟩
      · rw [if_pos (by omega)] at hgo
        have hr := r10_none l (k + 1) (by omega) hgo
        have HP : Hid (IpP (r10 l) w (.returned (.tuple #[.int .u64 0, .iface 87 (.int .i64 2)])) W1) := ⟨HW.out, .inr ⟨hr, .inr ⟨0, rfl⟩⟩⟩
        clear hgo hr hlen ha hv
        have z0 := hcc.1
        have z1 := hcc.2.1
        clear hcc
        generalize orB c = z at hlo z0 z1
        have hd9 : (¬ (48 : Int) ≤ (c.toNat : Int)) ∨ ((48 : Int) ≤ (c.toNat : Int) ∧ ¬ (c.toNat : Int) ≤ 57) := by omega
        have hy0 : (0 : Int) ≤ (c.toNat : Int) := by omega
        have hy1 : (c.toNat : Int) ≤ 255 := by omega
        clear hd hc256
        generalize (c.toNat : Int) = y at *
        rcases hd9 with d1 | ⟨d1, d2⟩ <;> rcases Bool.eq_false_or_eq_true (y == 95) with h95 | h95
        all_goals go_wp2_with (refine (hlo _).mono ?_; rintro e w' ⟨rfl, rfl⟩)
        all_goals go_ret2
        all_goals exact HP.out
    · obtain rfl : k = n := by omega
      have hr : r10 l = some v := r10_ok l v (by rw [HL.out.1]; exact HL.out.2) (by rw [HL.out.1]; exact hm) hv
      subst ha
      have HP : Hid (IpP (r10 l) w (.returned (.tuple #[.int .u64 (v : Int), .nilIface])) W1) := ⟨HW.out, .inl ⟨v, hr, rfl⟩⟩
      clear hm hr hv hB
      go_wp2
      go_ret2
      exact HP.out
end Go.Proofs.YtiokdcffpnjkcaaDoor
