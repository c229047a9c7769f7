
import Derived.Test.YthkjfgncbmpllaaLawDigSays
import Derived.Sort.Grow
namespace Go.Proofs.Ythkjfgncbmpllaa
open Go.RowKit Go.Sort

/-! digest.Compare -/
theorem drewN_two (w : World) (n m : Nat) : (w.drewN n).drewN m = w.drewN (n + m) := by simp
theorem below_grow (w : World) (q : Nat) (os : Array Obj) : Below w.heap.size w (grow (w.drewN q) os) := by
  refine ⟨rfl, rfl, rfl, by simp, fun k hk => ?_⟩
  simp only [grow]
  rw [Array.getElem?_append_left (by simpa using hk)]
  rfl
set_option linter.unusedSimpArgs false in
set_option maxHeartbeats 400000 in
theorem compare_grow (a b : Nat → UInt8) (w : World) : Calls Try.prog 10 #[.agg (dg_secA a), .agg (dg_secA b)] w fun e w' => e = .returned (.int .i64 (dcmp a b)) ∧ ∃ q os, w' = grow (w.drewN q) os := by
  obtain ⟨r, hr⟩ : ∃ r, dcmp a b = r := ⟨_, rfl⟩
  have HR : Hid _ := hr
  rw [hr]
  clear hr
  have HG : Hid (∀ n, ∃ q os, ((w.alloc (.cells (dg_secA a) 23)).alloc (.cells (dg_secA b) 23)).drewN n = grow (w.drewN q) os) := fun n => ⟨n, _, by rw [alloc_eq_grow, alloc_eq_grow, grow_grow]; rfl⟩
  have hRa : DgR ((w.alloc (.cells (dg_secA a) 23)).alloc (.cells (dg_secA b) 23)) w.heap.size a := (DgR.new w a _).kept (below_alloc _ _)
  have hRb : DgR ((w.alloc (.cells (dg_secA a) 23)).alloc (.cells (dg_secA b) 23)) (w.heap.size + 1) b := by
    have := DgR.new (w.alloc (.cells (dg_secA a) 23)) b 23
    rw [World.size_alloc] at this
    exact this
  go_enter Try.func10, Try.ntmps10
  go_wp2_with fail
  obtain ⟨gb, hgb⟩ : ∃ g, w.heap.size + 1 = g := ⟨_, rfl⟩
  rw [hgb] at hRb
  simp only [hgb]
  clear hgb
  generalize (w.alloc (.cells (dg_secA a) 23)).alloc (.cells (dg_secA b) 23) = X at HG hRa hRb ⊢
  go_loopw [6] (fun i wr => ∃ k : Nat, k ≤ 32 ∧ i = .int .i64 k ∧ (∀ j, j < k → a j = b j) ∧ ∃ m, wr = X.drewN m) (fun i _ => 32 - (intOf i).toNat)
  case atStart => exact ⟨0, by omega, rfl, fun j hj => by omega, 0, rfl⟩
  case round =>
    obtain ⟨k, hk, rfl, hno, m, hm⟩ := hrel
    have HM : Hid (wr = X.drewN m) := hm
    have hBk : Below X.heap.size X wr := by rw [hm]; exact below_drew4 (Below.refl _ _) m
    clear hm
    by_cases hlt : k < 32
    · have ca := (hRa.kept hBk).cell k hlt
      have cb := (hRb.kept hBk).cell k hlt
      have hk0 : (0 : Int) ≤ (k : Int) := by omega
      have hk1 : (k : Int) < 32 := by omega
      clear hBk
      rcases (by omega : (a k).toNat < (b k).toNat ∨ (b k).toNat < (a k).toNat ∨ (a k).toNat = (b k).toNat) with h | h | h
      · have HV : Hid (r = -1) := by show _ = _; rw [← HR.out]; exact dcmp_lt hno h hlt
        clear hno
        generalize (a k).toNat = x at ca h
        generalize (b k).toNat = y at cb h
        go_upto_region 4 with fail
        go_quiet (fail)
        go_wp2
        go_ret
        refine ⟨by rw [HV.out]; rfl, ?_⟩
        rw [HM.out, drewN_two]; exact HG.out _
      · have HV : Hid (r = 1) := by show _ = _; rw [← HR.out]; exact dcmp_gt hno h hlt
        have h' : ¬ (a k).toNat < (b k).toNat := by omega
        clear hno
        generalize (a k).toNat = x at ca h h'
        generalize (b k).toNat = y at cb h h'
        go_upto_region 4 with fail
        go_quiet (fail)
        go_upto_region 6 with fail
        go_quiet (fail)
        go_wp2
        go_ret
        refine ⟨by rw [HV.out]; rfl, ?_⟩
        rw [HM.out, drewN_two, drewN_two]; exact HG.out _
      · have HN : Hid (∀ j, j < k + 1 → a j = b j) := fun j hj => by
          rcases Nat.lt_or_ge j k with h1 | h1
          · exact hno j h1
          · obtain rfl : j = k := by omega
            exact UInt8.toNat_inj.1 h
        clear hno
        rw [h] at ca
        generalize (b k).toNat = y at ca cb
        go_upto_region 4 with fail
        go_quiet (fail)
        go_upto_region 6 with fail
        go_quiet (fail)
        have HB2 : Hid (∀ n q, ∃ m, ((wr.drewN n).drewN q) = X.drewN m) := fun n q => ⟨m + (n + q), by rw [HM.out, drewN_two, drewN_two]⟩
        have HB3 : Hid (∀ n, ∃ m, (wr.drewN n) = X.drewN m) := fun n => ⟨m + n, by rw [HM.out, drewN_two]⟩
        clear ca cb
        go_wp2
        go_roundw
        case rel => first | exact ⟨k + 1, by omega, by go_num, HN.out, by first | exact HB2.out _ _ | exact HB3.out _⟩ | ((repeat apply Exists.intro); refine ⟨⟨k + 1, by omega, ?_, HN.out, by first | exact HB2.out _ _ | exact HB3.out _⟩, rfl⟩; go_num)
        case measure => simp [intOf]; omega
    · obtain rfl : k = 32 := by omega
      have HV : Hid (r = 0) := by show _ = _; rw [← HR.out]; exact dcmp_eq hno
      clear hno
      go_wp2
      go_ret
      refine ⟨by rw [HV.out]; rfl, ?_⟩
      rw [HM.out]; exact HG.out _
theorem compareOk : CompareOk := fun a b w => (compare_grow a b w).mono fun _ _ ⟨h1, q, os, h2⟩ => ⟨h1, by rw [h2]; exact below_grow w q os⟩
end Go.Proofs.Ythkjfgncbmpllaa
