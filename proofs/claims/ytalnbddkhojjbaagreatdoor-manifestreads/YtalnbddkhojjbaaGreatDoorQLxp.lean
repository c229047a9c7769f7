import Derived.Test.YtalnbddkhojjbaaGreatDoorQLxs
import Derived.Test.YtalnbddkhojjbaaGreatDoorQLex9
import Derived.Test.YtalnbddkhojjbaaGreatDoorQApp
namespace Go.Proofs.YtalnbddkhojjbaaGreatDoor
open Go.RowKit

theorem nmV_go (l : List UInt8) (k v : Nat) (h : nmV l k = some v) : nmV l (k + 1) = if (lB l k).toNat < 48 ∨ 57 < (lB l k).toNat then none else some (10 * v + (lB l k).toNat - 48) := by rw [nmV, h]
theorem nmV_no9 (l : List UInt8) : ∀ j k, nmV l k = none → nmV l (k + j) = none
  | 0, _, h => h
  | j + 1, k, h => by
    show nmV l (k + j + 1) = none
    rw [nmV, nmV_no9 l j k h]
theorem nmV_up (l : List UInt8) (m : Nat) : ∀ j k v, nmV l k = some v → m < v → nmV l (k + j) = none ∨ ∃ u, nmV l (k + j) = some u ∧ m < u
  | 0, _, v, h, hm => .inr ⟨v, h, hm⟩
  | j + 1, k, v, h, hm => by
    rcases nmV_up l m j k v h hm with h1 | ⟨u, h1, hu⟩
    · exact .inl (nmV_no9 l 1 (k + j) h1)
    · show nmV l (k + j + 1) = none ∨ ∃ u, nmV l (k + j + 1) = some u ∧ m < u
      rw [nmV_go l (k + j) u h1]
      split
      · exact .inl rfl
      · rename_i h9
        exact .inr ⟨_, rfl, by omega⟩
def r10 (l : List UInt8) : Option Nat := if l.length = 0 then none else
  match nmV l l.length with
  | none => none
  | some v => if 9223372036854775807 < v then none else some v
theorem r10_none (l : List UInt8) (k : Nat) (hk : k ≤ l.length) (h : nmV l k = none) : r10 l = none := by
  have := nmV_no9 l (l.length - k) k h
  rw [show k + (l.length - k) = l.length by omega] at this
  unfold r10
  split
  · rfl
  · rw [this]
theorem r10_big (l : List UInt8) (k v : Nat) (hk : k ≤ l.length) (h : nmV l k = some v) (hv : 9223372036854775807 < v) : r10 l = none := by
  have := nmV_up l 9223372036854775807 (l.length - k) k v h hv
  rw [show k + (l.length - k) = l.length by omega] at this
  unfold r10
  split
  · rfl
  · rcases this with h | ⟨u, h, hu⟩
    · rw [h]
    · rw [h]; exact if_pos hu
theorem r10_ok (l : List UInt8) (v : Nat) (h0 : l.length ≠ 0) (h : nmV l l.length = some v) (hv : v ≤ 9223372036854775807) : r10 l = some v := by
  unfold r10
  rw [if_neg h0, h]
  exact if_neg (by omega)
def uH (l : List UInt8) : Nat → Option Nat
  | 0 => some 0
  | k + 1 => match uH l k with
    | none => none
    | some v => if hexV (lB l k) < 0 then none else some (16 * v + (hexV (lB l k)).toNat)
theorem uH_go (l : List UInt8) (k v : Nat) (h : uH l k = some v) : uH l (k + 1) = if hexV (lB l k) < 0 then none else some (16 * v + (hexV (lB l k)).toNat) := by rw [uH, h]
theorem uH_none (l : List UInt8) : ∀ j k, uH l k = none → uH l (k + j) = none
  | 0, _, h => h
  | j + 1, k, h => by
    show uH l (k + j + 1) = none
    rw [uH, uH_none l j k h]
def IpP (r : Option Nat) (w : World) (e : Ending) (w' : World) : Prop := Below w.heap.size w w' ∧ ((∃ v : Nat, r = some v ∧ e = .returned (.tuple #[.int .u64 (v : Int), .nilIface])) ∨ (r = none ∧ ((∃ x, e = .returned (.tuple #[.int .u64 x, .iface 213 (.int .i64 1)])) ∨ ∃ x, e = .returned (.tuple #[.int .u64 x, .iface 213 (.int .i64 2)]))))
def orB (c : UInt8) : Int := bits .or .u8 (c.toNat : Int) 32
theorem orB_all : ∀ n : Fin 256, 0 ≤ orB (UInt8.ofNat n.val) ∧ orB (UInt8.ofNat n.val) ≤ 255 ∧ ((48 ≤ n.val ∧ n.val ≤ 57) ∨ (97 ≤ orB (UInt8.ofNat n.val) ∧ orB (UInt8.ofNat n.val) ≤ 102 ∧ hexV (UInt8.ofNat n.val) = orB (UInt8.ofNat n.val) - 87) ∨ (hexV (UInt8.ofNat n.val) = -1 ∧ (orB (UInt8.ofNat n.val) < 97 ∨ 102 < orB (UInt8.ofNat n.val)))) := by decide +kernel
theorem orB_cases (c : UInt8) : 0 ≤ orB c ∧ orB c ≤ 255 ∧ ((48 ≤ c.toNat ∧ c.toNat ≤ 57) ∨ (97 ≤ orB c ∧ orB c ≤ 102 ∧ hexV c = orB c - 87) ∨ (hexV c = -1 ∧ (orB c < 97 ∨ 102 < orB c))) := by
  have h := orB_all ⟨c.toNat, c.toNat_lt⟩
  simpa using h
theorem lower_any (c : UInt8) (w : World) : Calls Tryz.prog 155 #[.int .u8 (c.toNat : Int)] w fun e w' => e = .returned (.int .u8 (orB c)) ∧ w' = w := by
  unfold orB
  go_enter Tryz.func155, Tryz.ntmps155
  go_wp2
  go_ret
  exact ⟨rfl, rfl⟩
set_option linter.unusedSimpArgs false in
set_option maxRecDepth 100000 in
set_option maxHeartbeats 32000000 in
theorem iPU10 (t : ByteArray) (w : World) (hmax : t.size ≤ 140737488355328) : Calls Tryz.prog 139 #[.string t, .int .i64 10, .int .i64 63] w fun e w' => IpP (r10 (lS t)) w e w' := by
  have hls := lS_len t
  by_cases h0 : t.size = 0
  · have ht : t = ⟨#[]⟩ := lS_eq (List.eq_nil_of_length_eq_zero (by rw [hls, h0]))
    subst ht
    have HP : Hid (IpP (r10 (lS ⟨#[]⟩)) w (.returned (.tuple #[.int .u64 0, .iface 213 (.int .i64 2)])) w) := ⟨Below.refl _ _, .inr ⟨rfl, .inr ⟨0, rfl⟩⟩⟩
    clear hmax h0 hls
    go_enter Tryz.func139, Tryz.ntmps139
    go_wp2
    go_ret2
    exact HP.out
  have hemp : t.toList.isEmpty = false := by
    rw [ByteArray.toList_eq]
    cases h : t.data.toList with
    | nil =>
      exfalso
      have h9 : (lS t).length = 0 := by unfold lS; rw [h]; rfl
      omega
    | cons a b => rfl
  obtain ⟨C, W1, hcv, hC, hbW, iW⟩ := conv14 w t
  have hB : ∀ j, j < t.size → W1.cell? ⟨w.heap.size, j, none⟩ = some (.int .u8 ((lB (lS t) j).toNat : Int)) := fun j hj => by
    have h9 := iW.byteB j (by omega)
    rw [Nat.zero_add] at h9
    exact h9
  obtain ⟨l, hl⟩ : ∃ q, lS t = q := ⟨_, rfl⟩
  simp only [hl] at hls hB ⊢
  obtain ⟨n, hn⟩ : ∃ q, t.size = q := ⟨_, rfl⟩
  simp only [hn] at hls hB hmax h0 hcv
  have HW : Hid (Below w.heap.size w W1) := hbW
  have HL : Hid (l.length = n ∧ n ≠ 0) := ⟨hls, h0⟩
  clear hl hbW iW hC hls h0
  have hmv : IntKind.u64.wrap (IntKind.u64.wrap 9223372036854775808 - 1) = 9223372036854775807 := by
    rw [IntKind.wrap_u64, IntKind.wrap_u64]
    decide
  go_enter Tryz.func139, Tryz.ntmps139
  go_wp2
  go_loop [12, 13, 101] (fun vu vn vi => ∃ (k v : Nat) (a : Int), vu = .bool false ∧ vn = .int .u64 a ∧ vi = .int .i64 k ∧ k ≤ n ∧ Hid (a = (v : Int) ∧ v ≤ 9223372036854775807 ∧ nmV l k = some v)) (fun _ _ vi => n - (intOf vi).toNat)
  case atStart => exact ⟨0, 0, 0, rfl, rfl, rfl, by omega, rfl, by omega, rfl⟩
  case round =>
    obtain ⟨k, v, a, rfl, rfl, rfl, hk, hh⟩ := hrel
    obtain ⟨ha, hv, hm⟩ := hh.out
    clear hh
    have a0 : 0 ≤ a := by omega
    have a1 : a ≤ 9223372036854775807 := by omega
    by_cases hlt : k < n
    · have hc := hB k hlt
      have hgo := nmV_go l k v hm
      have hcc := orB_cases (lB l k)
      have hlo := lower_any (lB l k)
      have hlen := HL.out.1
      generalize lB l k = c at hc hgo hcc hlo
      have hc256 : c.toNat < 256 := c.toNat_lt
      clear hB hm
      by_cases hd : 48 ≤ c.toNat ∧ c.toNat ≤ 57
      · obtain ⟨hd0, hd1⟩ := hd
        rw [if_neg (by omega)] at hgo
        clear hcc hlo
        by_cases hbig : 9223372036854775807 < 10 * v + c.toNat - 48
        · have hr := r10_big l (k + 1) _ (by omega) hgo hbig
          have HP : ∀ x, Hid (IpP (r10 l) w (.returned (.tuple #[.int .u64 x, .iface 213 (.int .i64 1)])) W1) := fun x => ⟨HW.out, .inr ⟨hr, .inl ⟨x, rfl⟩⟩⟩
          clear hgo hr hlen
          by_cases hcut : 1844674407370955162 ≤ a
          · clear hbig ha hv
            go_wp2
            go_ret2
            exact (HP _).out
          · by_cases hov : 18446744073709551616 ≤ a * 10 + ((c.toNat : Int) - 48)
            · have hwr : IntKind.u64.wrap (a * 10 + ((c.toNat : Int) - 48)) = a * 10 + ((c.toNat : Int) - 48) - 18446744073709551616 := by
                rw [IntKind.wrap_u64]
                omega
              clear hbig ha hv
              go_wp2
              go_ret2
              exact (HP _).out
            · have hgt : 9223372036854775807 < a * 10 + ((c.toNat : Int) - 48) := by omega
              clear hbig ha hv
              go_wp2
              go_ret2
              exact (HP _).out
        · have HN : Hid (a * 10 + ((c.toNat : Int) - 48) = ((10 * v + c.toNat - 48 : Nat) : Int) ∧ 10 * v + c.toNat - 48 ≤ 9223372036854775807 ∧ nmV l (k + 1) = some (10 * v + c.toNat - 48)) := ⟨by omega, by omega, hgo⟩
          have icut : a < 1844674407370955162 := by omega
          have iov : a * 10 + ((c.toNat : Int) - 48) ≤ 9223372036854775807 := by omega
          clear hgo hlen hbig ha hv
          go_wp2
          refine ⟨⟨k + 1, 10 * v + c.toNat - 48, a * 10 + ((c.toNat : Int) - 48), rfl, (by first | rfl | (congr 1; omega)), (by first | rfl | (congr 1; omega)), by omega, HN⟩, by simp [intOf]; omega⟩
      · rw [if_pos (by omega)] at hgo
        have hr := r10_none l (k + 1) (by omega) hgo
        have HP : Hid (IpP (r10 l) w (.returned (.tuple #[.int .u64 0, .iface 213 (.int .i64 2)])) W1) := ⟨HW.out, .inr ⟨hr, .inr ⟨0, rfl⟩⟩⟩
        clear hgo hr hlen ha hv
        have z0 := hcc.1
        have z1 := hcc.2.1
        clear hcc
        generalize orB c = z at hlo z0 z1
        have hd9 : (¬ (48 : Int) ≤ (c.toNat : Int)) ∨ ((48 : Int) ≤ (c.toNat : Int) ∧ ¬ (c.toNat : Int) ≤ 57) := by omega
        have hy0 : (0 : Int) ≤ (c.toNat : Int) := by omega
        have hy1 : (c.toNat : Int) ≤ 255 := by omega
        clear hd hc256
        generalize (c.toNat : Int) = y at *
        rcases hd9 with d1 | ⟨d1, d2⟩ <;> rcases Bool.eq_false_or_eq_true (y == 95) with h95 | h95
        all_goals go_wp2_with (refine (hlo _).mono ?_; rintro e w' ⟨rfl, rfl⟩)
        all_goals go_ret2
        all_goals exact HP.out
    · obtain rfl : k = n := by omega
      have hr : r10 l = some v := r10_ok l v (by rw [HL.out.1]; exact HL.out.2) (by rw [HL.out.1]; exact hm) hv
      subst ha
      have HP : Hid (IpP (r10 l) w (.returned (.tuple #[.int .u64 (v : Int), .nilIface])) W1) := ⟨HW.out, .inl ⟨v, hr, rfl⟩⟩
      clear hm hr hv hB
      go_wp2
      go_ret2
      exact HP.out
end Go.Proofs.YtalnbddkhojjbaaGreatDoor
namespace Go.Proofs.YtalnbddkhojjbaaGreatDoor
open Go.RowKit

set_option linter.unusedSimpArgs false in
set_option maxRecDepth 100000 in
set_option maxHeartbeats 32000000 in
theorem iPU16 (t : ByteArray) (w : World) (h4 : t.size = 4) : Calls Tryz.prog 139 #[.string t, .int .i64 16, .int .i64 16] w fun e w' => IpP (uH (lS t) 4) w e w' := by
  have hls := lS_len t
  have h0 : ¬ t.size = 0 := by omega
  have hemp : t.toList.isEmpty = false := by
    rw [ByteArray.toList_eq]
    cases h : t.data.toList with
    | nil =>
      exfalso
      have h9 : (lS t).length = 0 := by unfold lS; rw [h]; rfl
      omega
    | cons a b => rfl
  obtain ⟨C, W1, hcv, hC, hbW, iW⟩ := conv14 w t
  have hB : ∀ j, j < t.size → W1.cell? ⟨w.heap.size, j, none⟩ = some (.int .u8 ((lB (lS t) j).toNat : Int)) := fun j hj => by
    have h9 := iW.byteB j (by omega)
    rw [Nat.zero_add] at h9
    exact h9
  obtain ⟨l, hl⟩ : ∃ q, lS t = q := ⟨_, rfl⟩
  simp only [hl] at hls hB ⊢
  obtain ⟨n, hn⟩ : ∃ q, t.size = q := ⟨_, rfl⟩
  simp only [hn] at hls hB h4 h0 hcv
  have HW : Hid (Below w.heap.size w W1) := hbW
  have HL : Hid (l.length = n ∧ n ≠ 0) := ⟨hls, h0⟩
  clear hl hbW iW hC hls h0
  have H4 : Hid (n = 4) := h4
  have hmax : n ≤ 4 := by omega
  clear h4
  go_enter Tryz.func139, Tryz.ntmps139
  go_wp2
  go_loop [12, 13, 101] (fun vu vn vi => ∃ (k v : Nat) (a : Int), vu = .bool false ∧ vn = .int .u64 a ∧ vi = .int .i64 k ∧ k ≤ n ∧ Hid (a = (v : Int) ∧ ((k = 0 ∧ v < 1) ∨ (k = 1 ∧ v < 16) ∨ (k = 2 ∧ v < 256) ∨ (k = 3 ∧ v < 4096) ∨ (k = 4 ∧ v < 65536)) ∧ uH l k = some v)) (fun _ _ vi => n - (intOf vi).toNat)
  case atStart => exact ⟨0, 0, 0, rfl, rfl, rfl, by omega, rfl, .inl ⟨rfl, by omega⟩, rfl⟩
  case round =>
    obtain ⟨k, v, a, rfl, rfl, rfl, hk, hh⟩ := hrel
    obtain ⟨ha, hv, hm⟩ := hh.out
    clear hh
    have a0 : 0 ≤ a := by omega
    have a1 : a ≤ 65535 := by omega
    by_cases hlt : k < n
    · have hc := hB k hlt
      have hgo := uH_go l k v hm
      have hcc := orB_cases (lB l k)
      have hlo := lower_any (lB l k)
      have hn4 := H4.out
      have a4 : a ≤ 4095 := by omega
      generalize lB l k = c at hc hgo hcc hlo
      have hc256 : c.toNat < 256 := c.toNat_lt
      clear hB hm
      by_cases hd : 48 ≤ c.toNat ∧ c.toNat ≤ 57
      · have hx : hexV c = (c.toNat : Int) - 48 := by unfold hexV; rw [if_pos hd]
        obtain ⟨hd0, hd1⟩ := hd
        rw [hx, if_neg (by omega)] at hgo
        clear hcc hlo hx
        have HN : Hid (a * 16 + ((c.toNat : Int) - 48) = ((16 * v + ((c.toNat : Int) - 48).toNat : Nat) : Int) ∧ ((k + 1 = 0 ∧ 16 * v + ((c.toNat : Int) - 48).toNat < 1) ∨ (k + 1 = 1 ∧ 16 * v + ((c.toNat : Int) - 48).toNat < 16) ∨ (k + 1 = 2 ∧ 16 * v + ((c.toNat : Int) - 48).toNat < 256) ∨ (k + 1 = 3 ∧ 16 * v + ((c.toNat : Int) - 48).toNat < 4096) ∨ (k + 1 = 4 ∧ 16 * v + ((c.toNat : Int) - 48).toNat < 65536)) ∧ uH l (k + 1) = some (16 * v + ((c.toNat : Int) - 48).toNat)) := ⟨by omega, by omega, hgo⟩
        clear hgo hv ha hn4
        go_wp2
        refine ⟨⟨k + 1, 16 * v + ((c.toNat : Int) - 48).toNat, a * 16 + ((c.toNat : Int) - 48), rfl, (by first | rfl | (congr 1; omega)), (by first | rfl | (congr 1; omega)), by omega, HN⟩, by simp [intOf]; omega⟩
      · have hd9 : (¬ (48 : Int) ≤ (c.toNat : Int)) ∨ ((48 : Int) ≤ (c.toNat : Int) ∧ ¬ (c.toNat : Int) ≤ 57) := by omega
        have hy0 : (0 : Int) ≤ (c.toNat : Int) := by omega
        have hy1 : (c.toNat : Int) ≤ 255 := by omega
        rcases hcc with ⟨z0, z1, h | ⟨z2, z3, hx⟩ | ⟨hx, hz⟩⟩
        · exact absurd h hd
        · rw [hx, if_neg (by omega)] at hgo
          clear hd hc256 hx
          generalize orB c = z at *
          have HN : Hid (a * 16 + (z - 97 + 10) = ((16 * v + (z - 87).toNat : Nat) : Int) ∧ ((k + 1 = 0 ∧ 16 * v + (z - 87).toNat < 1) ∨ (k + 1 = 1 ∧ 16 * v + (z - 87).toNat < 16) ∨ (k + 1 = 2 ∧ 16 * v + (z - 87).toNat < 256) ∨ (k + 1 = 3 ∧ 16 * v + (z - 87).toNat < 4096) ∨ (k + 1 = 4 ∧ 16 * v + (z - 87).toNat < 65536)) ∧ uH l (k + 1) = some (16 * v + (z - 87).toNat)) := ⟨by omega, by omega, hgo⟩
          clear hgo hv ha hn4
          generalize (c.toNat : Int) = y at *
          rcases hd9 with d1 | ⟨d1, d2⟩ <;> rcases Bool.eq_false_or_eq_true (y == 95) with h95 | h95
          all_goals go_wp2_with (refine (hlo _).mono ?_; rintro e w' ⟨rfl, rfl⟩)
          all_goals refine ⟨⟨k + 1, 16 * v + (z - 87).toNat, a * 16 + (z - 97 + 10), rfl, (by first | rfl | (congr 1; omega)), (by first | rfl | (congr 1; omega)), by omega, HN⟩, by simp [intOf]; omega⟩
        · rw [hx, if_pos (by omega)] at hgo
          have hr : uH l 4 = none := by
            have h9 := uH_none l (4 - (k + 1)) (k + 1) hgo
            rwa [show k + 1 + (4 - (k + 1)) = 4 by omega] at h9
          have HP : Hid (IpP (uH l 4) w (.returned (.tuple #[.int .u64 0, .iface 213 (.int .i64 2)])) W1) := ⟨HW.out, .inr ⟨hr, .inr ⟨0, rfl⟩⟩⟩
          clear hgo hr hv ha hn4 hd hc256 hx
          generalize orB c = z at *
          generalize (c.toNat : Int) = y at *
          rcases hd9 with d1 | ⟨d1, d2⟩ <;> rcases Bool.eq_false_or_eq_true (y == 95) with h95 | h95 <;> rcases hz with hz | hz
          all_goals go_wp2_with (refine (hlo _).mono ?_; rintro e w' ⟨rfl, rfl⟩)
          all_goals go_ret2
          all_goals exact HP.out
    · obtain rfl : k = n := by omega
      obtain rfl : k = 4 := H4.out
      subst ha
      have HP : Hid (IpP (uH l 4) w (.returned (.tuple #[.int .u64 (v : Int), .nilIface])) W1) := ⟨HW.out, .inl ⟨v, hm, rfl⟩⟩
      clear hm hv hB
      go_wp2
      go_ret2
      exact HP.out
end Go.Proofs.YtalnbddkhojjbaaGreatDoor
namespace Go.Proofs.YtalnbddkhojjbaaGreatDoor
open Go.RowKit

def PuP (r : Option Nat) (w : World) (e : Ending) (w' : World) : Prop := Below w.heap.size w w' ∧ ((∃ v : Nat, r = some v ∧ e = .returned (.tuple #[.int .u64 (v : Int), .nilIface])) ∨ (r = none ∧ ∃ x t p, e = .returned (.tuple #[.int .u64 x, .iface t p])))
theorem toErr1 (fn t : ByteArray) (a b : Int) (W : World) (hW : Vx W) (hmax : t.size ≤ 140737488355328) : Calls Tryz.prog 140 #[.string fn, .string t, .int .i64 a, .int .i64 b, .iface 213 (.int .i64 1)] W fun e w' => (∃ t p, e = .returned (.iface t p)) ∧ Below W.heap.size W w' := by
  obtain ⟨-, ⟨tp, p, h1⟩⟩ := hW
  exact (AnyPu.strconv_toError_range layTE fn t a b _ W (by omega) h1 (.inr ⟨tp, p, rfl⟩)).mono fun e w' ⟨N, h1, _, _, h4⟩ => ⟨⟨_, _, h1⟩, h4⟩
theorem toErr2 (fn t : ByteArray) (a b : Int) (W : World) (hW : Vx W) (hmax : t.size ≤ 140737488355328) : Calls Tryz.prog 140 #[.string fn, .string t, .int .i64 a, .int .i64 b, .iface 213 (.int .i64 2)] W fun e w' => (∃ t p, e = .returned (.iface t p)) ∧ Below W.heap.size W w' := by
  obtain ⟨⟨tp, p, h1⟩, -⟩ := hW
  exact (AnyPu.strconv_toError_syntax layTE fn t a b _ W (by omega) h1 (.inr ⟨tp, p, rfl⟩)).mono fun e w' ⟨N, h1, _, _, h4⟩ => ⟨⟨_, _, h1⟩, h4⟩
set_option linter.unusedSimpArgs false in
set_option maxRecDepth 100000 in
set_option maxHeartbeats 4000000 in
theorem pU_of (t : ByteArray) (a b : Int) (r : Option Nat) (w : World) (hV : Vx w) (hmax : t.size ≤ 140737488355328) (h : Calls Tryz.prog 139 #[.string t, .int .i64 a, .int .i64 b] w fun e w' => IpP r w e w') : Calls Tryz.prog 116 #[.string t, .int .i64 a, .int .i64 b] w fun e w' => PuP r w e w' := by
  go_enter Tryz.func116, Tryz.ntmps116
  go_wp2_with fail
  refine h.mono ?_
  rintro e w1 ⟨hb, ⟨v, hr, rfl⟩ | ⟨hr, ⟨x, rfl⟩ | ⟨x, rfl⟩⟩⟩
  · have HP : Hid (PuP r w (.returned (.tuple #[.int .u64 (v : Int), .nilIface])) w1) := ⟨hb, .inl ⟨v, hr, rfl⟩⟩
    clear h hr hb
    go_wp2
    go_ret2
    exact HP.out
  · have k := toErr1 ⟨#[80, 97, 114, 115, 101, 85, 105, 110, 116]⟩ t a b w1 (hV.below hb) hmax
    clear h
    go_wp2_with fail
    refine k.mono ?_
    rintro e w2 ⟨⟨t9, p9, rfl⟩, hb2⟩
    have HP : Hid (PuP r w (.returned (.tuple #[.int .u64 x, .iface t9 p9])) w2) := ⟨hb.trans (hb2.mono hb.size), .inr ⟨hr, x, t9, p9, rfl⟩⟩
    clear hr hb hb2 k
    go_wp2
    go_ret2
    exact HP.out
  · have k := toErr2 ⟨#[80, 97, 114, 115, 101, 85, 105, 110, 116]⟩ t a b w1 (hV.below hb) hmax
    clear h
    go_wp2_with fail
    refine k.mono ?_
    rintro e w2 ⟨⟨t9, p9, rfl⟩, hb2⟩
    have HP : Hid (PuP r w (.returned (.tuple #[.int .u64 x, .iface t9 p9])) w2) := ⟨hb.trans (hb2.mono hb.size), .inr ⟨hr, x, t9, p9, rfl⟩⟩
    clear hr hb hb2 k
    go_wp2
    go_ret2
    exact HP.out
theorem pU10 (t : ByteArray) (w : World) (hV : Vx w) (hmax : t.size ≤ 140737488355328) : Calls Tryz.prog 116 #[.string t, .int .i64 10, .int .i64 63] w fun e w' => PuP (r10 (lS t)) w e w' := pU_of t 10 63 _ w hV hmax (iPU10 t w hmax)
theorem pU16 (t : ByteArray) (w : World) (hV : Vx w) (h4 : t.size = 4) : Calls Tryz.prog 116 #[.string t, .int .i64 16, .int .i64 16] w fun e w' => PuP (uH (lS t) 4) w e w' := pU_of t 16 16 _ w hV (by omega) (iPU16 t w h4)
end Go.Proofs.YtalnbddkhojjbaaGreatDoor
namespace Go.Proofs.YtalnbddkhojjbaaGreatDoor
set_option linter.unusedSimpArgs false
open Go.RowKit

set_option maxRecDepth 100000 in
set_option maxHeartbeats 4000000 in
theorem validRune_any (v : Nat) (hv : v < 65536) (w : World) : Calls Tryz.prog 153 #[.int .i32 (v : Int)] w fun e w' => e = .returned (.bool (!decide (55296 ≤ v ∧ v ≤ 57343))) ∧ w' = w := by
  rcases (by omega : v < 55296 ∨ (55296 ≤ v ∧ v ≤ 57343) ∨ 57343 < v) with h | h | h
  · rw [decide_eq_false (by omega)]
    have c1 : (0 : Int) ≤ (v : Int) := by omega
    have c2 : (v : Int) < 55296 := by omega
    clear h hv
    go_enter Tryz.func153, Tryz.ntmps153
    go_wp2
    go_ret
    exact ⟨rfl, rfl⟩
  · rw [decide_eq_true h]
    have c1 : (0 : Int) ≤ (v : Int) := by omega
    have c2 : ¬ (v : Int) < 55296 := by omega
    have c3 : ¬ (57343 : Int) < (v : Int) := by omega
    clear h hv
    go_enter Tryz.func153, Tryz.ntmps153
    go_wp2
    go_ret
    exact ⟨rfl, rfl⟩
  · rw [decide_eq_false (by omega)]
    have c1 : (0 : Int) ≤ (v : Int) := by omega
    have c2 : ¬ (v : Int) < 55296 := by omega
    have c3 : (57343 : Int) < (v : Int) := by omega
    have c4 : (v : Int) ≤ 1114111 := by omega
    clear h hv
    go_enter Tryz.func153, Tryz.ntmps153
    go_wp2
    go_ret
    exact ⟨rfl, rfl⟩
theorem uH_lt (l : List UInt8) : ∀ k v, uH l k = some v → v < 16 ^ k
  | 0, v, h => by
    simp only [uH, Option.some.injEq] at h
    omega
  | k + 1, v, h => by
    cases h1 : uH l k with
    | none => rw [uH, h1] at h; cases h
    | some u =>
      rw [uH_go l k u h1] at h
      have hu := uH_lt l k u h1
      have hr := hexV_range (lB l k)
      split at h
      · cases h
      · simp only [Option.some.injEq] at h
        rw [Nat.pow_succ]
        omega
theorem hx_uH (l x : List UInt8) : ∀ k, (∀ j, j < k → lB x j = lB l (2 + j)) → hx l k = uH x k
  | 0, _ => rfl
  | k + 1, h => by
    rw [hx, uH, hx_uH l x k (fun j hj => h j (by omega)), h k (by omega)]
    rfl
def hx_ (l : List UInt8) : Option Nat := hx l 4
def EsxP (r : List UInt8 × Nat) (w : World) (e : Ending) (w' : World) : Prop := (∃ v n : Nat, e = .returned (.tuple #[.int .i32 (v : Int), .int .i64 (n : Int)]) ∧ r.2 = n ∧ (n ≠ 0 → vR v ∧ r.1 = enc v)) ∧ Below w.heap.size w w'
theorem EsxP.no {l : List UInt8} {w w' : World} (h : (escS l).2 = 0) (hb : Below w.heap.size w w') : EsxP (escS l) w (.returned (.tuple #[.int .i32 0, .int .i64 0])) w' := ⟨⟨0, 0, rfl, h, fun h => absurd rfl h⟩, hb⟩
set_option maxRecDepth 100000 in
set_option maxHeartbeats 4000000 in
theorem numbered_any (s : ByteArray) (w : World) (hV : Vx w) (hmax : s.size ≤ 140737488355328) (h117 : lB (lS s) 1 = 117) : Calls Tryz.prog 137 #[.string s] w fun e w' => EsxP (escU (lS s)) w e w' := by
  have hls := lS_len s
  by_cases h6 : s.size < 6
  · have i6 : (s.size : Int) < 6 := by omega
    have HP : Hid (EsxP (escU (lS s)) w (.returned (.tuple #[.int .i32 0, .int .i64 0])) w) := ⟨⟨0, 0, rfl, by unfold escU; rw [if_pos (.inl (by omega))], fun h => absurd rfl h⟩, Below.refl _ _⟩
    go_enter Tryz.func137, Tryz.ntmps137
    go_wp2
    go_ret2
    exact HP.out
  have i6 : ¬ (s.size : Int) < 6 := by omega
  have hq : ∀ W, (sCut (.string s) (.int .i64 2) (.int .i64 6)).run Tryz.prog W = .ok (.value (.string (s.extract 2 6))) W := fun W => run_sCut W s 2 6 (by omega) (by omega)
  have hx : lS (s.extract 2 6) = ((lS s).drop 2).take 4 := by rw [lS_cut]
  have hz : (s.extract 2 6).size = 4 := by rw [← lS_len, hx, List.length_take, List.length_drop]; omega
  have kp := pU16 (s.extract 2 6) w hV hz
  have hu : uH (lS (s.extract 2 6)) 4 = hx_ (lS s) := by
    unfold hx_
    refine (hx_uH _ _ 4 fun j hj => ?_).symm
    rw [hx]
    unfold lB
    rw [List.getElem?_take, if_pos hj, List.getElem?_drop]
  rw [hu] at kp
  have hE : escU (lS s) = match hx_ (lS s) with | none => ([], 0) | some v => if 55296 ≤ v ∧ v ≤ 57343 then ([], 0) else (enc v, 6) := by
    unfold escU hx_
    rw [if_neg (by rintro (h | h); omega; exact h h117)]
    rfl
  have hlt : ∀ v, hx_ (lS s) = some v → v < 65536 := fun v h => by
    rw [← hu] at h
    have := uH_lt _ 4 v h
    omega
  generalize hx_ (lS s) = r at kp hE hlt
  clear hu hx hz
  generalize s.extract 2 6 = S6 at hq kp
  go_enter Tryz.func137, Tryz.ntmps137
  go_wp2_with fail
  refine kp.mono ?_
  rintro e w1 ⟨hb, ⟨v, rfl, rfl⟩ | ⟨rfl, x, t, p, rfl⟩⟩
  · have hv := hlt v rfl
    have kv := fun W => validRune_any v hv W
    simp only at hE
    clear hlt kp
    by_cases hs : 55296 ≤ v ∧ v ≤ 57343
    · rw [if_pos hs] at hE
      rw [decide_eq_true hs] at kv
      have HP : Hid (EsxP (escU (lS s)) w (.returned (.tuple #[.int .i32 0, .int .i64 0])) w1) := by
        rw [hE]
        exact ⟨⟨0, 0, rfl, rfl, fun h => absurd rfl h⟩, hb⟩
      clear hE hs hb
      go_wp2_with fail
      refine (kv _).mono ?_
      rintro e w' ⟨rfl, rfl⟩
      go_wp2
      go_ret2
      exact HP.out
    · rw [if_neg hs] at hE
      rw [decide_eq_false hs] at kv
      have HP : Hid (EsxP (escU (lS s)) w (.returned (.tuple #[.int .i32 (v : Int), .int .i64 6])) w1) := by
        rw [hE]
        exact ⟨⟨v, 6, rfl, rfl, fun _ => ⟨⟨by omega, hs⟩, rfl⟩⟩, hb⟩
      clear hE hs hb
      go_wp2_with fail
      refine (kv _).mono ?_
      rintro e w' ⟨rfl, rfl⟩
      go_wp2
      go_ret2
      exact HP.out
  · have HP : Hid (EsxP (escU (lS s)) w (.returned (.tuple #[.int .i32 0, .int .i64 0])) w1) := by
      rw [hE]
      exact ⟨⟨0, 0, rfl, rfl, fun h => absurd rfl h⟩, hb⟩
    clear hE hlt kp hb
    go_wp2
    go_ret2
    exact HP.out
set_option maxRecDepth 100000 in
set_option maxHeartbeats 4000000 in
theorem escaped_any (s : ByteArray) (w : World) (hV : Vx w) (hmax : s.size ≤ 140737488355328) : Calls Tryz.prog 113 #[.string s] w fun e w' => EsxP (escS (lS s)) w e w' := by
  have hls := lS_len s
  by_cases h2 : s.size < 2
  · have i2 : (s.size : Int) < 2 := by omega
    have HP : Hid (EsxP (escS (lS s)) w (.returned (.tuple #[.int .i32 0, .int .i64 0])) w) := EsxP.no (by unfold escS escU; rw [if_neg (by omega), if_pos (.inl (by omega))]) (Below.refl _ _)
    go_enter Tryz.func113, Tryz.ntmps113
    go_wp2
    go_ret2
    exact HP.out
  have i2 : ¬ (s.size : Int) < 2 := by omega
  have hat : ∀ W, (sAt (.string s) (.int .i64 1)).run Tryz.prog W = .ok (.value (.int .u8 ((lB (lS s) 1).toNat : Int))) W := fun W => run_sAt W s 1 (by omega)
  have hE : escS (lS s) = match escAt (lB (lS s) 1) 8 0 with | some i => ([lB escMeans i], 2) | none => escU (lS s) := by
    unfold escS
    rw [if_pos (by omega)]
    rfl
  have kn := fun h => numbered_any s w hV hmax h
  have hU : lB (lS s) 1 ≠ 117 → escU (lS s) = ([], 0) := fun h => by unfold escU; rw [if_pos (.inr h)]
  generalize escU (lS s) = U at hE kn hU
  generalize escS (lS s) = R at hE ⊢
  generalize lB (lS s) 1 = c at hat hE kn hU
  clear hls h2
  by_cases hc : c = 34
  · have c0 : ((c.toNat : Int) == 34) = true := by rw [hc]; rfl
    have c1 : ((c.toNat : Int) == 92) = false := by rw [hc]; rfl
    have c2 : ((c.toNat : Int) == 47) = false := by rw [hc]; rfl
    have c3 : ((c.toNat : Int) == 98) = false := by rw [hc]; rfl
    have c4 : ((c.toNat : Int) == 102) = false := by rw [hc]; rfl
    have c5 : ((c.toNat : Int) == 110) = false := by rw [hc]; rfl
    have c6 : ((c.toNat : Int) == 114) = false := by rw [hc]; rfl
    have c7 : ((c.toNat : Int) == 116) = false := by rw [hc]; rfl
    have c8 : ((c.toNat : Int) == 117) = false := by rw [hc]; rfl
    have HP : Hid (EsxP R w (.returned (.tuple #[.int .i32 (c.toNat : Int), .int .i64 2])) w) := by
      rw [hE, hc]
      exact ⟨⟨34, 2, rfl, rfl, fun _ => ⟨⟨by omega, by omega⟩, rfl⟩⟩, Below.refl _ _⟩
    clear hE kn hU hc
    have hc8 : c.toNat < 256 := c.toNat_lt
    go_enter Tryz.func113, Tryz.ntmps113
    go_wp2
    go_ret2
    exact HP.out
  have n34 := hc
  clear hc
  by_cases hc : c = 92
  · have c0 : ((c.toNat : Int) == 34) = false := by rw [hc]; rfl
    have c1 : ((c.toNat : Int) == 92) = true := by rw [hc]; rfl
    have c2 : ((c.toNat : Int) == 47) = false := by rw [hc]; rfl
    have c3 : ((c.toNat : Int) == 98) = false := by rw [hc]; rfl
    have c4 : ((c.toNat : Int) == 102) = false := by rw [hc]; rfl
    have c5 : ((c.toNat : Int) == 110) = false := by rw [hc]; rfl
    have c6 : ((c.toNat : Int) == 114) = false := by rw [hc]; rfl
    have c7 : ((c.toNat : Int) == 116) = false := by rw [hc]; rfl
    have c8 : ((c.toNat : Int) == 117) = false := by rw [hc]; rfl
    have HP : Hid (EsxP R w (.returned (.tuple #[.int .i32 (c.toNat : Int), .int .i64 2])) w) := by
      rw [hE, hc]
      exact ⟨⟨92, 2, rfl, rfl, fun _ => ⟨⟨by omega, by omega⟩, rfl⟩⟩, Below.refl _ _⟩
    clear hE kn hU hc
    have hc8 : c.toNat < 256 := c.toNat_lt
    go_enter Tryz.func113, Tryz.ntmps113
    go_wp2
    go_ret2
    exact HP.out
  have n92 := hc
  clear hc
  by_cases hc : c = 47
  · have c0 : ((c.toNat : Int) == 34) = false := by rw [hc]; rfl
    have c1 : ((c.toNat : Int) == 92) = false := by rw [hc]; rfl
    have c2 : ((c.toNat : Int) == 47) = true := by rw [hc]; rfl
    have c3 : ((c.toNat : Int) == 98) = false := by rw [hc]; rfl
    have c4 : ((c.toNat : Int) == 102) = false := by rw [hc]; rfl
    have c5 : ((c.toNat : Int) == 110) = false := by rw [hc]; rfl
    have c6 : ((c.toNat : Int) == 114) = false := by rw [hc]; rfl
    have c7 : ((c.toNat : Int) == 116) = false := by rw [hc]; rfl
    have c8 : ((c.toNat : Int) == 117) = false := by rw [hc]; rfl
    have HP : Hid (EsxP R w (.returned (.tuple #[.int .i32 (c.toNat : Int), .int .i64 2])) w) := by
      rw [hE, hc]
      exact ⟨⟨47, 2, rfl, rfl, fun _ => ⟨⟨by omega, by omega⟩, rfl⟩⟩, Below.refl _ _⟩
    clear hE kn hU hc
    have hc8 : c.toNat < 256 := c.toNat_lt
    go_enter Tryz.func113, Tryz.ntmps113
    go_wp2
    go_ret2
    exact HP.out
  have n47 := hc
  clear hc
  by_cases hc : c = 98
  · have c0 : ((c.toNat : Int) == 34) = false := by rw [hc]; rfl
    have c1 : ((c.toNat : Int) == 92) = false := by rw [hc]; rfl
    have c2 : ((c.toNat : Int) == 47) = false := by rw [hc]; rfl
    have c3 : ((c.toNat : Int) == 98) = true := by rw [hc]; rfl
    have c4 : ((c.toNat : Int) == 102) = false := by rw [hc]; rfl
    have c5 : ((c.toNat : Int) == 110) = false := by rw [hc]; rfl
    have c6 : ((c.toNat : Int) == 114) = false := by rw [hc]; rfl
    have c7 : ((c.toNat : Int) == 116) = false := by rw [hc]; rfl
    have c8 : ((c.toNat : Int) == 117) = false := by rw [hc]; rfl
    have HP : Hid (EsxP R w (.returned (.tuple #[.int .i32 8, .int .i64 2])) w) := by
      rw [hE, hc]
      exact ⟨⟨8, 2, rfl, rfl, fun _ => ⟨⟨by omega, by omega⟩, rfl⟩⟩, Below.refl _ _⟩
    clear hE kn hU hc
    have hc8 : c.toNat < 256 := c.toNat_lt
    go_enter Tryz.func113, Tryz.ntmps113
    go_wp2
    go_ret2
    exact HP.out
  have n98 := hc
  clear hc
  by_cases hc : c = 102
  · have c0 : ((c.toNat : Int) == 34) = false := by rw [hc]; rfl
    have c1 : ((c.toNat : Int) == 92) = false := by rw [hc]; rfl
    have c2 : ((c.toNat : Int) == 47) = false := by rw [hc]; rfl
    have c3 : ((c.toNat : Int) == 98) = false := by rw [hc]; rfl
    have c4 : ((c.toNat : Int) == 102) = true := by rw [hc]; rfl
    have c5 : ((c.toNat : Int) == 110) = false := by rw [hc]; rfl
    have c6 : ((c.toNat : Int) == 114) = false := by rw [hc]; rfl
    have c7 : ((c.toNat : Int) == 116) = false := by rw [hc]; rfl
    have c8 : ((c.toNat : Int) == 117) = false := by rw [hc]; rfl
    have HP : Hid (EsxP R w (.returned (.tuple #[.int .i32 12, .int .i64 2])) w) := by
      rw [hE, hc]
      exact ⟨⟨12, 2, rfl, rfl, fun _ => ⟨⟨by omega, by omega⟩, rfl⟩⟩, Below.refl _ _⟩
    clear hE kn hU hc
    have hc8 : c.toNat < 256 := c.toNat_lt
    go_enter Tryz.func113, Tryz.ntmps113
    go_wp2
    go_ret2
    exact HP.out
  have n102 := hc
  clear hc
  by_cases hc : c = 110
  · have c0 : ((c.toNat : Int) == 34) = false := by rw [hc]; rfl
    have c1 : ((c.toNat : Int) == 92) = false := by rw [hc]; rfl
    have c2 : ((c.toNat : Int) == 47) = false := by rw [hc]; rfl
    have c3 : ((c.toNat : Int) == 98) = false := by rw [hc]; rfl
    have c4 : ((c.toNat : Int) == 102) = false := by rw [hc]; rfl
    have c5 : ((c.toNat : Int) == 110) = true := by rw [hc]; rfl
    have c6 : ((c.toNat : Int) == 114) = false := by rw [hc]; rfl
    have c7 : ((c.toNat : Int) == 116) = false := by rw [hc]; rfl
    have c8 : ((c.toNat : Int) == 117) = false := by rw [hc]; rfl
    have HP : Hid (EsxP R w (.returned (.tuple #[.int .i32 10, .int .i64 2])) w) := by
      rw [hE, hc]
      exact ⟨⟨10, 2, rfl, rfl, fun _ => ⟨⟨by omega, by omega⟩, rfl⟩⟩, Below.refl _ _⟩
    clear hE kn hU hc
    have hc8 : c.toNat < 256 := c.toNat_lt
    go_enter Tryz.func113, Tryz.ntmps113
    go_wp2
    go_ret2
    exact HP.out
  have n110 := hc
  clear hc
  by_cases hc : c = 114
  · have c0 : ((c.toNat : Int) == 34) = false := by rw [hc]; rfl
    have c1 : ((c.toNat : Int) == 92) = false := by rw [hc]; rfl
    have c2 : ((c.toNat : Int) == 47) = false := by rw [hc]; rfl
    have c3 : ((c.toNat : Int) == 98) = false := by rw [hc]; rfl
    have c4 : ((c.toNat : Int) == 102) = false := by rw [hc]; rfl
    have c5 : ((c.toNat : Int) == 110) = false := by rw [hc]; rfl
    have c6 : ((c.toNat : Int) == 114) = true := by rw [hc]; rfl
    have c7 : ((c.toNat : Int) == 116) = false := by rw [hc]; rfl
    have c8 : ((c.toNat : Int) == 117) = false := by rw [hc]; rfl
    have HP : Hid (EsxP R w (.returned (.tuple #[.int .i32 13, .int .i64 2])) w) := by
      rw [hE, hc]
      exact ⟨⟨13, 2, rfl, rfl, fun _ => ⟨⟨by omega, by omega⟩, rfl⟩⟩, Below.refl _ _⟩
    clear hE kn hU hc
    have hc8 : c.toNat < 256 := c.toNat_lt
    go_enter Tryz.func113, Tryz.ntmps113
    go_wp2
    go_ret2
    exact HP.out
  have n114 := hc
  clear hc
  by_cases hc : c = 116
  · have c0 : ((c.toNat : Int) == 34) = false := by rw [hc]; rfl
    have c1 : ((c.toNat : Int) == 92) = false := by rw [hc]; rfl
    have c2 : ((c.toNat : Int) == 47) = false := by rw [hc]; rfl
    have c3 : ((c.toNat : Int) == 98) = false := by rw [hc]; rfl
    have c4 : ((c.toNat : Int) == 102) = false := by rw [hc]; rfl
    have c5 : ((c.toNat : Int) == 110) = false := by rw [hc]; rfl
    have c6 : ((c.toNat : Int) == 114) = false := by rw [hc]; rfl
    have c7 : ((c.toNat : Int) == 116) = true := by rw [hc]; rfl
    have c8 : ((c.toNat : Int) == 117) = false := by rw [hc]; rfl
    have HP : Hid (EsxP R w (.returned (.tuple #[.int .i32 9, .int .i64 2])) w) := by
      rw [hE, hc]
      exact ⟨⟨9, 2, rfl, rfl, fun _ => ⟨⟨by omega, by omega⟩, rfl⟩⟩, Below.refl _ _⟩
    clear hE kn hU hc
    have hc8 : c.toNat < 256 := c.toNat_lt
    go_enter Tryz.func113, Tryz.ntmps113
    go_wp2
    go_ret2
    exact HP.out
  have n116 := hc
  clear hc
  have hA : escAt c 8 0 = none := by
    simp [escAt, escSigns, lB, n34, n92, n47, n98, n102, n110, n114, n116]
  rw [hA] at hE
  simp only at hE
  by_cases hc : c = 117
  · have c0 : ((c.toNat : Int) == 34) = false := by rw [hc]; rfl
    have c1 : ((c.toNat : Int) == 92) = false := by rw [hc]; rfl
    have c2 : ((c.toNat : Int) == 47) = false := by rw [hc]; rfl
    have c3 : ((c.toNat : Int) == 98) = false := by rw [hc]; rfl
    have c4 : ((c.toNat : Int) == 102) = false := by rw [hc]; rfl
    have c5 : ((c.toNat : Int) == 110) = false := by rw [hc]; rfl
    have c6 : ((c.toNat : Int) == 114) = false := by rw [hc]; rfl
    have c7 : ((c.toNat : Int) == 116) = false := by rw [hc]; rfl
    have c8 : ((c.toNat : Int) == 117) = true := by rw [hc]; rfl
    have k := kn hc
    rw [← hE] at k
    clear hE kn hU hc hA
    go_enter Tryz.func113, Tryz.ntmps113
    go_wp2_with fail
    refine k.mono ?_
    rintro e w1 ⟨⟨v, n, rfl, h1, h2⟩, hb⟩
    have HP : Hid (EsxP R w (.returned (.tuple #[.int .i32 (v : Int), .int .i64 (n : Int)])) w1) := ⟨⟨v, n, rfl, h1, h2⟩, hb⟩
    clear h1 h2 hb k
    go_wp2
    go_ret2
    exact HP.out
  have n117 := hc
  have c0 : ((c.toNat : Int) == 34) = false := beq_eq_false_iff_ne.2 fun e => n34 (UInt8.toNat_inj.1 (by show c.toNat = 34; omega))
  have c1 : ((c.toNat : Int) == 92) = false := beq_eq_false_iff_ne.2 fun e => n92 (UInt8.toNat_inj.1 (by show c.toNat = 92; omega))
  have c2 : ((c.toNat : Int) == 47) = false := beq_eq_false_iff_ne.2 fun e => n47 (UInt8.toNat_inj.1 (by show c.toNat = 47; omega))
  have c3 : ((c.toNat : Int) == 98) = false := beq_eq_false_iff_ne.2 fun e => n98 (UInt8.toNat_inj.1 (by show c.toNat = 98; omega))
  have c4 : ((c.toNat : Int) == 102) = false := beq_eq_false_iff_ne.2 fun e => n102 (UInt8.toNat_inj.1 (by show c.toNat = 102; omega))
  have c5 : ((c.toNat : Int) == 110) = false := beq_eq_false_iff_ne.2 fun e => n110 (UInt8.toNat_inj.1 (by show c.toNat = 110; omega))
  have c6 : ((c.toNat : Int) == 114) = false := beq_eq_false_iff_ne.2 fun e => n114 (UInt8.toNat_inj.1 (by show c.toNat = 114; omega))
  have c7 : ((c.toNat : Int) == 116) = false := beq_eq_false_iff_ne.2 fun e => n116 (UInt8.toNat_inj.1 (by show c.toNat = 116; omega))
  have c8 : ((c.toNat : Int) == 117) = false := beq_eq_false_iff_ne.2 fun e => n117 (UInt8.toNat_inj.1 (by show c.toNat = 117; omega))
  have HP : Hid (EsxP R w (.returned (.tuple #[.int .i32 0, .int .i64 0])) w) := by
    rw [hE, hU n117]
    exact ⟨⟨0, 0, rfl, rfl, fun h => absurd rfl h⟩, Below.refl _ _⟩
  clear hE kn hU hc hA n34 n92 n47 n98 n102 n110 n114 n116 n117
  go_enter Tryz.func113, Tryz.ntmps113
  go_wp2
  go_ret2
  exact HP.out
end Go.Proofs.YtalnbddkhojjbaaGreatDoor
