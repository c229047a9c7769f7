
import Derived.Test.YtiokdcffpnjkcaaDoorLxp
namespace Go.Proofs.YtiokdcffpnjkcaaDoor
open Go.RowKit

/-! strconv.ParseUint at base 16 and 16 bits -/
set_option linter.unusedSimpArgs false in
set_option maxRecDepth 100000 in
set_option maxHeartbeats 32000000 in
theorem iPU16 (t : ByteArray) (w : World) (h4 : t.size = 4) : Calls Tryd.prog 45 #[.string t, .int .i64 16, .int .i64 16] w fun e w' => IpP (uH (lS t) 4) w e w' := by
  have hls := lS_len t
  have h0 : ¬ t.size = 0 := by omega
  have hemp : t.toList.isEmpty = false := by
    rw [ByteArray.toList_eq]
    cases h : t.data.toList with
    | nil =>
      exfalso
      have h9 : (lS t).length = 0 := by unfold lS; rw [h]; rfl
      omega
    | cons a b => rfl
  obtain ⟨C, W1, hcv, hC, hbW, iW⟩ := conv14 w t
  have hB : ∀ j, j < t.size → W1.cell? ⟨w.heap.size, j, none⟩ = some (.int .u8 ((lB (lS t) j).toNat : Int)) := fun j hj => by
    have h9 := iW.byteB j (by omega)
    rw [Nat.zero_add] at h9
    exact h9
  obtain ⟨l, hl⟩ : ∃ q, lS t = q := ⟨_, rfl⟩
  simp only [hl] at hls hB ⊢
  obtain ⟨n, hn⟩ : ∃ q, t.size = q := ⟨_, rfl⟩
  simp only [hn] at hls hB h4 h0 hcv
  have HW : Hid (Below w.heap.size w W1) := hbW
  have HL : Hid (l.length = n ∧ n ≠ 0) := ⟨hls, h0⟩
  clear hl hbW iW hC hls h0
  have H4 : Hid (n = 4) := h4
  have hmax : n ≤ 4 := by omega
  clear h4
  go_enter Tryd.func45, Tryd.ntmps45
  go_wp2
  go_loop [12, 13, 101] (fun vu vn vi => ∃ (k v : Nat) (a : Int), vu = .bool false ∧ vn = .int .u64 a ∧ vi = .int .i64 k ∧ k ≤ n ∧ Hid (a = (v : Int) ∧ ((k = 0 ∧ v < 1) ∨ (k = 1 ∧ v < 16) ∨ (k = 2 ∧ v < 256) ∨ (k = 3 ∧ v < 4096) ∨ (k = 4 ∧ v < 65536)) ∧ uH l k = some v)) (fun _ _ vi => n - (intOf vi).toNat)
  case atStart => exact ⟨0, 0, 0, rfl, rfl, rfl, by omega, rfl, .inl ⟨rfl, by omega⟩, rfl⟩
  case round =>
    obtain ⟨k, v, a, rfl, rfl, rfl, hk, hh⟩ := hrel
    obtain ⟨ha, hv, hm⟩ := hh.out
    clear hh
    have a0 : 0 ≤ a := by omega
    have a1 : a ≤ 65535 := by omega
    by_cases hlt : k < n
    · have hc := hB k hlt
      have hgo := uH_go l k v hm
      have hcc := orB_cases (lB l k)
      have hlo := lower_any (lB l k)
      have hn4 := H4.out
      have a4 : a ≤ 4095 := by omega
      generalize lB l k = c at hc hgo hcc hlo
      have hc256 : c.toNat < 256 := c.toNat_lt
      clear hB hm
      by_cases hd : 48 ≤ c.toNat ∧ c.toNat ≤ 57
      · have hx : hexV c = (c.toNat : Int) - 48 := by unfold hexV; rw [if_pos hd]
        obtain ⟨hd0, hd1⟩ := hd
        rw [hx, if_neg (by omega)] at hgo
        clear hcc hlo hx
        have HN : Hid (a * 16 + ((c.toNat : Int) - 48) = ((16 * v + ((c.toNat : Int) - 48).toNat : Nat) : Int) ∧ ((k + 1 = 0 ∧ 16 * v + ((c.toNat : Int) - 48).toNat < 1) ∨ (k + 1 = 1 ∧ 16 * v + ((c.toNat : Int) - 48).toNat < 16) ∨ (k + 1 = 2 ∧ 16 * v + ((c.toNat : Int) - 48).toNat < 256) ∨ (k + 1 = 3 ∧ 16 * v + ((c.toNat : Int) - 48).toNat < 4096) ∨ (k + 1 = 4 ∧ 16 * v + ((c.toNat : Int) - 48).toNat < 65536)) ∧ uH l (k + 1) = some (16 * v + ((c.toNat : Int) - 48).toNat)) := ⟨by omega, by omega, hgo⟩
        clear hgo hv ha hn4
        go_wp2
        refine ⟨⟨k + 1, 16 * v + ((c.toNat : Int) - 48).toNat, a * 16 + ((c.toNat : Int) - 48), rfl, (by first | rfl | (congr 1; omega)), (by first | rfl | (congr 1; omega)), by omega, HN⟩, by simp [intOf]; omega⟩
      · have hd9 : (¬ (48 : Int) ≤ (c.toNat : Int)) ∨ ((48 : Int) ≤ (c.toNat : Int) ∧ ¬ (c.toNat : Int) ≤ 57) := by omega
        have hy0 : (0 : Int) ≤ (c.toNat : Int) := by omega
        have hy1 : (c.toNat : Int) ≤ 255 := by omega
        rcases hcc with ⟨z0, z1, h | ⟨z2, z3, hx⟩ | ⟨hx, hz⟩⟩
        · exact absurd h hd
        · rw [hx, if_neg (by omega)] at hgo
          clear hd hc256 hx
          generalize orB c = z at *
          have HN : Hid (a * 16 + (z - 97 + 10) = ((16 * v + (z - 87).toNat : Nat) : Int) ∧ ((k + 1 = 0 ∧ 16 * v + (z - 87).toNat < 1) ∨ (k + 1 = 1 ∧ 16 * v + (z - 87).toNat < 16) ∨ (k + 1 = 2 ∧ 16 * v + (z - 87).toNat < 256) ∨ (k + 1 = 3 ∧ 16 * v + (z - 87).toNat < 4096) ∨ (k + 1 = 4 ∧ 16 * v + (z - 87).toNat < 65536)) ∧ uH l (k + 1) = some (16 * v + (z - 87).toNat)) := ⟨by omega, by omega, hgo⟩
          clear hgo hv ha hn4
          generalize (c.toNat : Int) = y at *
          rcases hd9 with d1 | ⟨d1, d2⟩ <;> rcases Bool.eq_false_or_eq_true (y == 95) with h95 | h95
          all_goals go_wp2_with (refine (hlo _).mono ?_; rintro e w' ⟨rfl, rfl⟩)
          all_goals refine ⟨⟨k + 1, 16 * v + (z - 87).toNat, a * 16 + (z - 97 + 10), rfl, (by first | rfl | (congr 1; omega)), (by first | rfl | (congr 1; omega)), by omega, HN⟩, by simp [intOf]; omega⟩
        · rw [hx, if_pos (by omega)] at hgo
          have hr : uH l 4 = none := by
            have h9 := uH_none l (4 - (k + 1)) (k + 1) hgo
            rwa [show k + 1 + (4 - (k + 1)) = 4 by omega] at h9
          have HP : Hid (IpP (uH l 4) w (.returned (.tuple #[.int .u64 0, .iface 87 (.int .i64 2)])) W1) := ⟨HW.out, .inr ⟨hr, .inr ⟨0, rfl⟩⟩⟩
          clear hgo hr hv ha hn4 hd hc256 hx
          generalize orB c = z at *
          generalize (c.toNat : Int) = y at *
          rcases hd9 with d1 | ⟨d1, d2⟩ <;> rcases Bool.eq_false_or_eq_true (y == 95) with h95 | h95 <;> rcases hz with hz | hz
          all_goals go_wp2_with (refine (hlo _).mono ?_; rintro e w' ⟨rfl, rfl⟩)
          all_goals go_ret2
          all_goals exact HP.out
    · obtain rfl : k = n := by omega
      obtain rfl : k = 4 := H4.out
      subst ha
      have HP : Hid (IpP (uH l 4) w (.returned (.tuple #[.int .u64 (v : Int), .nilIface])) W1) := ⟨HW.out, .inl ⟨v, hm, rfl⟩⟩
      clear hm hv hB
      go_wp2
      go_ret2
      exact HP.out
end Go.Proofs.YtiokdcffpnjkcaaDoor
