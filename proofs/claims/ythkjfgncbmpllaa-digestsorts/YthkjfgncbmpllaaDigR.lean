
import Derived.Test.YthkjfgncbmpllaaDig2
namespace Go.Proofs.Ythkjfgncbmpllaa
open Go.RowKit

/-! The document's own answers of chapter 4 -/
theorem str_snoc2 (l : List UInt8) (a b : UInt8) : (ByteArray.mk l.toArray ++ ByteArray.mk #[a]) ++ ByteArray.mk #[b] = ByteArray.mk (l ++ [a, b]).toArray := by
  apply ByteArray.ext
  simp
set_option linter.unusedSimpArgs false in
set_option maxHeartbeats 400000 in
theorem refText_any (s : Nat → UInt8) (w : World) : Calls Try.prog 15 #[.agg (dg_secA s)] w fun e w' => e = .returned (.string ⟨(textL s).toArray⟩) ∧ Below w.heap.size w w' := by
  have hR := DgR.new w s 23
  have hB := below_alloc w (.cells (dg_secA s) 23)
  have HT : Hid (textL s = frontS ++ hexL s 32) := rfl
  have H0 : Hid (ByteArray.mk #[115, 104, 97, 50, 53, 54, 58] = ByteArray.mk (frontS ++ hexL s 0).toArray) := rfl
  rw [HT.out]
  go_enter Try.func15, Try.ntmps15
  go_wp2_with fail
  generalize w.heap.size = g at hR ⊢
  generalize w.alloc (.cells (dg_secA s) 23) = X at hR hB ⊢
  go_loopw [3, 4] (fun v i wr => ∃ k : Nat, k ≤ 32 ∧ i = .int .i64 k ∧ v = .string ⟨(frontS ++ hexL s k).toArray⟩ ∧ Below X.heap.size X wr) (fun _ i _ => 32 - (intOf i).toNat)
  case atStart => exact ⟨0, by omega, rfl, by rw [H0.out], Below.refl _ _⟩
  case round =>
    obtain ⟨k, hk, rfl, rfl, hBk⟩ := hrel
    by_cases hlt : k < 32
    · have hc : wr.cell? ⟨g, k, none⟩ = some (.int .u8 ((s k).toNat : Int)) := (hR.kept hBk).cell k hlt
      have hb := (s k).toNat_lt
      obtain ⟨h, hh⟩ : ∃ h, (s k).toNat / 16 = h := ⟨_, rfl⟩
      obtain ⟨m, hm⟩ : ∃ m, (s k).toNat % 16 = m := ⟨_, rfl⟩
      have n1 : ((s k).toNat : Int) / 16 = (h : Int) := by omega
      have n2 : ((s k).toNat : Int) % 16 = (m : Int) := by omega
      have c1 := digits_cut h (by omega)
      have c2 := digits_cut m (by omega)
      have hs := str_snoc2 (frontS ++ hexL s k) (digC h) (digC m)
      have HS : Hid ((frontS ++ hexL s k) ++ [digC h, digC m] = frontS ++ hexL s (k + 1)) := by show _ = _; rw [hexL, hh, hm, List.append_assoc]
      rw [HS.out] at hs
      have hk0 : (0 : Int) ≤ (k : Int) := by omega
      have hk1 : (k : Int) < 32 := by omega
      obtain ⟨h', hh'⟩ : ∃ h', h + 1 = h' := ⟨_, rfl⟩
      obtain ⟨m', hm'⟩ : ∃ m', m + 1 = m' := ⟨_, rfl⟩
      rw [hh'] at c1
      rw [hm'] at c2
      have a1 : (h : Int) + 1 = (h' : Int) := by omega
      have a2 : (m : Int) + 1 = (m' : Int) := by omega
      have w1 : IntKind.i64.wrap (h' : Int) = (h' : Int) := by rw [IntKind.wrap_i64]; omega
      have w2 : IntKind.i64.wrap (m' : Int) = (m' : Int) := by rw [IntKind.wrap_i64]; omega
      have h0 : (h : Int) ≤ (h' : Int) := by omega
      have h1 : (h' : Int) ≤ 16 := by omega
      have m0 : (m : Int) ≤ (m' : Int) := by omega
      have m1 : (m' : Int) ≤ 16 := by omega
      have z0 : (ByteArray.mk (frontS ++ hexL s k).toArray).size = 7 + 2 * k := by
        have h9 := hexL_len s k
        show (frontS ++ hexL s k).toArray.size = _
        rw [List.size_toArray, List.length_append, h9]; rfl
      have z1 : (ByteArray.mk (frontS ++ hexL s k).toArray ++ ByteArray.mk #[digC h]).size = 8 + 2 * k := by
        rw [ByteArray.size_append, z0]; show 7 + 2 * k + 1 = _; omega
      have z2 : (ByteArray.mk #[digC h]).size = 1 := rfl
      have z3 : (ByteArray.mk #[digC m]).size = 1 := rfl
      generalize (s k).toNat = b at *
      generalize ByteArray.mk (frontS ++ hexL s k).toArray = T0 at *
      have hsz : (ByteArray.mk #[48, 49, 50, 51, 52, 53, 54, 55, 56, 57, 97, 98, 99, 100, 101, 102]).size = 16 := rfl
      clear hh hm hh' hm'
      go_upto_region 7 with fail
      go_quiet (fail)
      have HB : Hid (Below X.heap.size X (wr.drewN nq)) := below_drew4 hBk nq
      clear hBk hc
      go_wp2
      go_roundw
      case rel => first | exact ⟨k + 1, by omega, by go_num, by first | rfl | rw [hs], HB.out⟩ | ((repeat apply Exists.intro); refine ⟨⟨k + 1, by omega, ?_, ?_, HB.out⟩, rfl⟩; go_num; first | rfl | rw [hs])
      case measure => simp [intOf]; omega
    · obtain rfl : k = 32 := by omega
      have HB : Hid _ := hB.trans (hBk.mono hB.size)
      go_wp2
      go_ret
      exact ⟨rfl, HB.out⟩
set_option linter.unusedSimpArgs false in
set_option maxHeartbeats 400000 in
theorem refDigit_any (c : UInt8) (w : World) : Calls Try.prog 25 #[.int .u8 (c.toNat : Int)] w fun e w' => e = .returned (.int .i64 (digV c)) ∧ Below w.heap.size w w' := by
  obtain ⟨r, hr⟩ : ∃ r, digV c = r := ⟨_, rfl⟩
  have HR : Hid _ := hr
  rw [hr]
  clear hr
  go_enter Try.func25, Try.ntmps25
  go_wp2_with fail
  go_loopw [3] (fun i wr => ∃ k : Nat, k ≤ 16 ∧ i = .int .i64 k ∧ (∀ j, j < k → digC j ≠ c) ∧ Below w.heap.size w wr) (fun i _ => 16 - (intOf i).toNat)
  case atStart => exact ⟨0, by omega, rfl, fun j hj => by omega, Below.refl _ _⟩
  case round =>
    obtain ⟨k, hk, rfl, hno, hB⟩ := hrel
    by_cases hlt : k < 16
    · have hd := strB_digits k hlt
      have hsz : (ByteArray.mk #[48, 49, 50, 51, 52, 53, 54, 55, 56, 57, 97, 98, 99, 100, 101, 102]).size = 16 := rfl
      have hk0 : (0 : Int) ≤ (k : Int) := by omega
      have hk1 : (k : Int) < 16 := by omega
      by_cases he : digC k = c
      · have HV : Hid (r = (k : Int)) := by show _ = _; rw [← HR.out]; exact digV_at c k hlt hno he
        rw [he] at hd
        go_wp2
        go_ret
        exact ⟨by rw [HV.out]; rfl, hB⟩
      · have hne : ¬ (digC k).toNat = c.toNat := fun e => he (UInt8.toNat_inj.1 e)
        have HN : Hid (∀ j, j < k + 1 → digC j ≠ c) := fun j hj => by
          rcases Nat.lt_or_ge j k with h | h
          · exact hno j h
          · obtain rfl : j = k := by omega
            exact he
        clear hno he
        have hne' : ¬ ((digC k).toNat : Int) = (c.toNat : Int) := by omega
        generalize digC k = b at hd hne hne'
        go_wp2
        go_roundw
        case rel => first | exact ⟨k + 1, by omega, by go_num, HN.out, hB⟩ | ((repeat apply Exists.intro); refine ⟨⟨k + 1, by omega, ?_, HN.out, hB⟩, rfl⟩; go_num)
        case measure => simp [intOf]; omega
    · obtain rfl : k = 16 := by omega
      have HV : Hid (r = -1) := by show _ = _; rw [← HR.out]; exact digV_none c hno
      clear hno
      go_wp2
      go_ret
      exact ⟨by rw [HV.out]; rfl, hB⟩
set_option linter.unusedSimpArgs false in
set_option maxHeartbeats 400000 in
theorem refCompare_any (a b : Nat → UInt8) (w : World) : Calls Try.prog 16 #[.agg (dg_secA a), .agg (dg_secA b)] w fun e w' => e = .returned (.int .i64 (dcmp a b)) ∧ Below w.heap.size w w' := by
  obtain ⟨r, hr⟩ : ∃ r, dcmp a b = r := ⟨_, rfl⟩
  have HR : Hid _ := hr
  rw [hr]
  clear hr
  have hB : Below w.heap.size w ((w.alloc (.cells (dg_secA a) 23)).alloc (.cells (dg_secA b) 23)) := (below_alloc w _).alloc (by simp) _
  have hRa : DgR ((w.alloc (.cells (dg_secA a) 23)).alloc (.cells (dg_secA b) 23)) w.heap.size a := (DgR.new w a _).kept (below_alloc _ _)
  have hRb : DgR ((w.alloc (.cells (dg_secA a) 23)).alloc (.cells (dg_secA b) 23)) (w.heap.size + 1) b := by
    have := DgR.new (w.alloc (.cells (dg_secA a) 23)) b 23
    rw [World.size_alloc] at this
    exact this
  go_enter Try.func16, Try.ntmps16
  go_wp2_with fail
  obtain ⟨gb, hgb⟩ : ∃ g, w.heap.size + 1 = g := ⟨_, rfl⟩
  rw [hgb] at hRb
  simp only [hgb]
  clear hgb
  generalize (w.alloc (.cells (dg_secA a) 23)).alloc (.cells (dg_secA b) 23) = X at hB hRa hRb ⊢
  go_loopw [5] (fun i wr => ∃ k : Nat, k ≤ 32 ∧ i = .int .i64 k ∧ (∀ j, j < k → a j = b j) ∧ Below X.heap.size X wr) (fun i _ => 32 - (intOf i).toNat)
  case atStart => exact ⟨0, by omega, rfl, fun j hj => by omega, Below.refl _ _⟩
  case round =>
    obtain ⟨k, hk, rfl, hno, hBk⟩ := hrel
    by_cases hlt : k < 32
    · have ca := (hRa.kept hBk).cell k hlt
      have cb := (hRb.kept hBk).cell k hlt
      have hk0 : (0 : Int) ≤ (k : Int) := by omega
      have hk1 : (k : Int) < 32 := by omega
      have HB : Hid (Below w.heap.size w wr) := hB.trans (hBk.mono hB.size)
      rcases (by omega : (a k).toNat < (b k).toNat ∨ (b k).toNat < (a k).toNat ∨ (a k).toNat = (b k).toNat) with h | h | h
      · have HV : Hid (r = -1) := by show _ = _; rw [← HR.out]; exact dcmp_lt hno h hlt
        clear hno
        generalize (a k).toNat = x at ca h
        generalize (b k).toNat = y at cb h
        go_upto_region 4 with fail
        go_quiet (fail)
        go_wp2
        go_ret
        exact ⟨by rw [HV.out]; rfl, below_drew4 HB.out _⟩
      · have HV : Hid (r = 1) := by show _ = _; rw [← HR.out]; exact dcmp_gt hno h hlt
        have h' : ¬ (a k).toNat < (b k).toNat := by omega
        clear hno
        generalize (a k).toNat = x at ca h h'
        generalize (b k).toNat = y at cb h h'
        go_upto_region 4 with fail
        go_quiet (fail)
        go_upto_region 6 with fail
        go_quiet (fail)
        go_wp2
        go_ret
        exact ⟨by rw [HV.out]; rfl, below_drew4 (below_drew4 HB.out _) _⟩
      · have HN : Hid (∀ j, j < k + 1 → a j = b j) := fun j hj => by
          rcases Nat.lt_or_ge j k with h1 | h1
          · exact hno j h1
          · obtain rfl : j = k := by omega
            exact UInt8.toNat_inj.1 h
        clear hno
        rw [h] at ca
        generalize (b k).toNat = y at ca cb
        go_upto_region 4 with fail
        go_quiet (fail)
        go_upto_region 6 with fail
        go_quiet (fail)
        have HB2 : Hid (∀ n m, Below X.heap.size X ((wr.drewN n).drewN m)) := fun n m => below_drew4 (below_drew4 hBk n) m
        have HB3 : Hid (∀ n, Below X.heap.size X (wr.drewN n)) := fun n => below_drew4 hBk n
        clear hBk ca cb
        go_wp2
        go_roundw
        case rel => first | exact ⟨k + 1, by omega, by go_num, HN.out, by first | exact HB2.out _ _ | exact HB3.out _⟩ | ((repeat apply Exists.intro); refine ⟨⟨k + 1, by omega, ?_, HN.out, by first | exact HB2.out _ _ | exact HB3.out _⟩, rfl⟩; go_num)
        case measure => simp [intOf]; omega
    · obtain rfl : k = 32 := by omega
      have HV : Hid (r = 0) := by show _ = _; rw [← HR.out]; exact dcmp_eq hno
      have HB : Hid (Below w.heap.size w wr) := hB.trans (hBk.mono hB.size)
      clear hno
      go_wp2
      go_ret
      exact ⟨by rw [HV.out]; rfl, HB.out⟩
end Go.Proofs.Ythkjfgncbmpllaa
