import Derived.Test.YtfihpfaljjljhaaAsks1
namespace Go.Proofs.Ytfihpfaljjljhaa
open Go.RowKit

theorem add_at (g i : Nat) : (⟨g, 0, none⟩ : Addr).add i = ⟨g, i, none⟩ := by unfold Addr.add; split <;> simp_all
theorem secEq_refl (s : Nat → UInt8) : secEq s s = true := (secEq_iff s s).2 fun _ _ => rfl
theorem isB_short {w : World} {g c : Nat} {l : List UInt8} {b : UInt8} (h : IsB w (.slice (some ⟨g, 0, none⟩) (l.length + 1) c) (l ++ [b])) : IsB w (.slice (some ⟨g, 0, none⟩) l.length c) l := by
  rcases h with ⟨h, _⟩ | ⟨x, d, he, hc⟩
  · cases h
  · simp only [Value.slice.injEq, Option.some.injEq] at he
    obtain ⟨rfl, _, rfl⟩ := he
    refine .inr ⟨_, _, rfl, fun i hi => ?_⟩
    have := hc i (by simp; omega)
    rw [List.getElem_append_left hi] at this
    exact this
theorem isB_last {w : World} {g c : Nat} {l : List UInt8} (h : IsB w (.slice (some ⟨g, 0, none⟩) (l.length + 1) c) (l ++ [195])) : w.cell? ⟨g, l.length, none⟩ = some (.int .u8 195) := by
  rcases h with ⟨h, _⟩ | ⟨x, d, he, hc⟩
  · cases h
  · simp only [Value.slice.injEq, Option.some.injEq] at he
    obtain ⟨rfl, _, rfl⟩ := he
    have := hc l.length (by simp)
    rw [add_at] at this
    rw [this]; simp
theorem run_slice_hi (x : World) (g n c : Nat) (h : n + 1 ≤ c) : (Instr.slice 28 (.slice (some ⟨g, 0, none⟩) n c) none (some (.int .i64 ((n : Int) + 1))) none).run Try.prog x = .ok (.slice (some ⟨g, 0, none⟩) (n + 1) c) x := by
  have h1 : (n : Int) + 1 ≤ (c : Int) := by omega
  have h2 : (0 : Int) ≤ (n : Int) + 1 := by omega
  have e : ((n : Int) + 1).toNat = n + 1 := by omega
  simp [Instr.slice, run_underlying Try.underlying28, Instr.sliceBounds, run_sliceBound, h1, h2, e]
  intro _; unfold Addr.add; split <;> simp_all
set_option linter.unusedSimpArgs false in
set_option maxRecDepth 100000 in
set_option maxHeartbeats 3200000 in
theorem lawAsks_no (s : Nat → UInt8) (At An To Av : Int) (sl : Value) (l : List UInt8) (w : World) (h0 : -9223372036854775808 ≤ At) (h1 : At ≤ 9223372036854775807) (h2 : -9223372036854775808 ≤ An) (h3 : An ≤ 9223372036854775807) (hv0 : 0 ≤ Av) (hv1 : Av < 4294967296) (hl : l.length + 1 ≤ 140737488355328) (hs : IsB w sl l) (hin : inB At An = false) :
    Calls Try.prog 5 #[.agg (secA s), .agg #[.int .i64 At, .int .i64 An, .int .i64 To, .int .u32 Av, sl]] w fun e w' => e = .returned (.bool true) ∧ Below w.heap.size w w' := by
  obtain ⟨sx, sc, rfl⟩ := hs.len
  have hlm : l.length ≤ maxLen := by unfold maxLen; omega
  obtain ⟨V16, hV⟩ : ∃ x, IntKind.u16.wrap Av = x := ⟨_, rfl⟩
  have hV0 : 0 ≤ V16 := by rw [← hV, IntKind.wrap_u16]; omega
  have hV1 : V16 < 65536 := by rw [← hV, IntKind.wrap_u16]; omega
  go_enter Try.func5, Try.ntmps5
  go_upto_region 1 with fail
  have KX := Below.refl (w.heap.size + 2) ((w.alloc (.cells (secA s) 23)).alloc (.cells #[.int .i64 At, .int .i64 An, .int .i64 To, .int .u32 Av, .slice sx l.length sc] 30))
  have kn : w.heap.size + 2 ≤ ((w.alloc (.cells (secA s) 23)).alloc (.cells #[.int .i64 At, .int .i64 An, .int .i64 To, .int .u32 Av, .slice sx l.length sc] 30)).heap.size := by simp
  refine wp_relies [Fx (.bool true), Fx (.bool false), Fx (.bool false), Fx (.agg (secA s)), Fx (.pointer (some ⟨w.heap.size + 1, 0, none⟩)), Fx (.int .i64 At), Fx (.int .u16 (numI s At 2 : Nat)), Fx (.agg (secA s)), Fx (.pointer (some ⟨w.heap.size + 1, 0, none⟩)), Fx (.int .i64 At), Fx (.int .u16 (numI s At 2 : Nat)), Fx (.bool false), Fx (.bool false), Fx (.bool false), Fx (.agg (secA s)), Fx (.pointer (some ⟨w.heap.size + 1, 0, none⟩)), Fx (.int .i64 At), Fx (.int .u32 (numI s At 4 : Nat)), Fx (.agg (secA s)), Fx (.pointer (some ⟨w.heap.size + 1, 0, none⟩)), Fx (.int .i64 At), Fx (.int .u32 (numI s At 4 : Nat)), Fx (.bool false), Fx (.bool false)] (by kernel_rfl) (by kernel_rfl) ?_ ?_ ?_
  · repeat' (first | exact all_nil | apply all_cons)
    all_goals intro v y y' hv hb
    all_goals first | exact Fx_mono _ _ _ _ hv hb
  · refine ⟨?_, ?_, ?_, ?_, ?_, ?_, ?_, ?_, ?_, ?_, ?_, ?_, ?_, ?_, ?_, ?_, ?_, ?_, ?_, ?_, ?_, ?_, ?_, ?_, trivial⟩
    all_goals
      intro ρ x hp ρc ρg ρf ho hd
      have o2 : ρ (.tmp 2) = .pointer (some ⟨w.heap.size, 0, none⟩) := ho 2 rfl
      have o3 : ρ (.tmp 3) = .pointer (some ⟨w.heap.size + 1, 0, none⟩) := ho 3 rfl
      clear ho
      have kk := BW.of hs (k_of KX kn hp)
      obtain ⟨c0, c1, c2, c3, c4⟩ := kk.cell
      have r1 := kk.ok
      have r2 := kk.row
      simp only [depsR, depR, slotR, Fx, List.getElem?_cons_succ, List.getElem?_cons_zero, Region.binds, forall_const] at hd
      simp only [guardR]
      go_split_ands
    · go_simp
      refine (taken_any _).mono ?_
      rintro e x' ⟨rfl, hb⟩
      exact ⟨_, rfl, rfl, hb⟩
    · go_simp
    · go_simp
    · refine ⟨fun _ => ?_, fun hy => absurd (by simp [yieldR, slotR, *]) hy⟩
      go_simp
    · refine ⟨fun _ => ?_, fun hy => absurd (by simp [yieldR, slotR, *]) hy⟩
      go_simp
    · refine ⟨fun _ => ?_, fun hy => absurd (by simp [yieldR, slotR, *]) hy⟩
      go_simp
    · refine ⟨fun _ => ?_, fun hy => absurd (by simp [yieldR, slotR, *]) hy⟩
      go_simp
      refine (u16_any _ _ _ h0 h1).mono ?_
      rintro e x' ⟨rfl, hb⟩
      exact ⟨_, rfl, rfl, hb⟩
    · refine ⟨fun _ => ?_, fun hy => absurd (by simp [yieldR, slotR, *]) hy⟩
      go_simp
    · refine ⟨fun _ => ?_, fun hy => absurd (by simp [yieldR, slotR, *]) hy⟩
      go_simp
    · refine ⟨fun _ => ?_, fun hy => absurd (by simp [yieldR, slotR, *]) hy⟩
      go_simp
    · refine ⟨fun _ => ?_, fun hy => absurd (by simp [yieldR, slotR, *]) hy⟩
      go_simp
      refine (ru16_any _ _ _ h0 h1).mono ?_
      rintro e x' ⟨rfl, hb⟩
      exact ⟨_, rfl, rfl, hb⟩
    · refine ⟨fun _ => ?_, fun hy => absurd (by simp [yieldR, slotR, *]) hy⟩
      go_simp
    · go_simp
    · go_simp
    · refine ⟨fun _ => ?_, fun hy => absurd (by simp [yieldR, slotR, *]) hy⟩
      go_simp
    · refine ⟨fun _ => ?_, fun hy => absurd (by simp [yieldR, slotR, *]) hy⟩
      go_simp
    · refine ⟨fun _ => ?_, fun hy => absurd (by simp [yieldR, slotR, *]) hy⟩
      go_simp
    · refine ⟨fun _ => ?_, fun hy => absurd (by simp [yieldR, slotR, *]) hy⟩
      go_simp
      refine (u32_any _ _ _ h0 h1).mono ?_
      rintro e x' ⟨rfl, hb⟩
      exact ⟨_, rfl, rfl, hb⟩
    · refine ⟨fun _ => ?_, fun hy => absurd (by simp [yieldR, slotR, *]) hy⟩
      go_simp
    · refine ⟨fun _ => ?_, fun hy => absurd (by simp [yieldR, slotR, *]) hy⟩
      go_simp
    · refine ⟨fun _ => ?_, fun hy => absurd (by simp [yieldR, slotR, *]) hy⟩
      go_simp
    · refine ⟨fun _ => ?_, fun hy => absurd (by simp [yieldR, slotR, *]) hy⟩
      go_simp
      refine (ru32_any _ _ _ h0 h1).mono ?_
      rintro e x' ⟨rfl, hb⟩
      exact ⟨_, rfl, rfl, hb⟩
    · refine ⟨fun _ => ?_, fun hy => absurd (by simp [yieldR, slotR, *]) hy⟩
      go_simp
    · go_simp
  · intro vs x hp hw
    simp only [owed, Fx] at hw
    obtain ⟨e0, e1, e2, e3, e4, e5, e6, e7, e8, e9, e10, e11, e12, e13, e14, e15, e16, e17, e18, e19, e20, e21, e22, e23, -⟩ := hw
    simp only [List.length_cons, List.length_nil, List.take_succ_cons, List.take_nil, List.drop_succ_cons, List.drop_nil, asg, List.cons_append, List.nil_append, e0, e1, e2, e3, e4, e5, e6, e7, e8, e9, e10, e11, e12, e13, e14, e15, e16, e17, e18, e19, e20, e21, e22, e23]
    clear e0 e1 e2 e3 e4 e5 e6 e7 e8 e9 e10 e11 e12 e13 e14 e15 e16 e17 e18 e19 e20 e21 e22 e23
    replace KX := k_of KX kn hp
    replace kn := Nat.le_trans kn hp.size
    obtain ⟨c0, c1, c2, c3, c4⟩ := (BW.of hs KX).cell
    have r1 := (BW.of hs KX).ok
    have r2 := (BW.of hs KX).row
    go_wp2_with fail
    refine (rbytes_no _ _ _ _ h0 h1 h2 h3 hin).mono ?_
    rintro e x1 ⟨rfl, hb⟩
    replace KX := k_of KX kn hb
    replace kn := Nat.le_trans kn hb.size
    clear c0 c1 c2 c3 c4 r1 r2
    obtain ⟨c0, c1, c2, c3, c4⟩ := (BW.of hs KX).cell
    have r1 := (BW.of hs KX).ok
    have r2 := (BW.of hs KX).row
    go_wp2_with fail
    refine (bytes_no _ _ _ _ h0 h1 h2 h3 hin).mono ?_
    rintro e x1 ⟨rfl, hb⟩
    replace KX := k_of KX kn hb
    replace kn := Nat.le_trans kn hb.size
    clear c0 c1 c2 c3 c4 r1 r2
    obtain ⟨c0, c1, c2, c3, c4⟩ := (BW.of hs KX).cell
    have r1 := (BW.of hs KX).ok
    have r2 := (BW.of hs KX).row
    go_wp2_with fail
    refine (bytes_no _ _ _ _ h0 h1 h2 h3 hin).mono ?_
    rintro e x1 ⟨rfl, hb⟩
    replace KX := k_of KX kn hb
    replace kn := Nat.le_trans kn hb.size
    clear c0 c1 c2 c3 c4 r1 r2
    have hstr := (IsB.str (w := x1) (.inl ⟨rfl, rfl⟩ : IsB x1 (.slice none 0 0) []))
    go_wp2_with fail
    clear hstr
    go_loopw [8] (fun i w' => i = .int .i64 0 ∧ x1 = w') (fun _ _ => 0)
    case atStart => exact ⟨rfl, rfl⟩
    case round =>
      obtain ⟨rfl, rfl⟩ := hrel
      go_wp2_with fail
      go_loopw [9, 11] (fun p i w' => ∃ k : Nat, k ≤ 70 ∧ i = .int .i64 k ∧ OwnB w' x1.heap.size p (List.replicate k 161) ∧ Below x1.heap.size x1 w') (fun _ i _ => 70 - (intOf i).toNat)
      case atStart => exact ⟨0, by omega, rfl, OwnB.nil _ _, Below.refl _ _⟩
      case round =>
        obtain ⟨k, hk, rfl, hO, hB⟩ := hrel
        have hsz := hB.size
        by_cases hlt : k < 70
        · obtain ⟨v', w', hr, hO', hB', hs'⟩ := run_app1 (wr.alloc (.cells #[Value.int .u8 161] 5)) x1.heap.size wr.heap.size 1 _ (List.replicate k 161) 161 28 (hO.keep (below_alloc _ _)) (by go_simp) (by simp; omega) (by simp; omega)
          have HO : Hid (OwnB w' x1.heap.size v' (List.replicate (k + 1) 161)) := by show OwnB _ _ _ _; rw [← rep_succ]; exact hO'
          have HB : Hid (Below x1.heap.size x1 w') := (hB.alloc hsz _).trans hB'
          clear hO hB hO' hB'
          go_wp2_with (at_builtin; refine wpL_app rfl _ _ rfl v' w' (by exact hr) ?_)
          go_roundw
          case rel => first | exact ⟨k + 1, by omega, by go_num, HO.out, HB.out⟩ | ((repeat apply Exists.intro); refine ⟨⟨k + 1, by omega, ?_, HO.out, HB.out⟩, rfl⟩; go_num)
          case measure => simp [intOf]; omega
        · obtain rfl : k = 70 := by omega
          replace KX := k_mid KX kn hB
          replace kn := Nat.le_trans kn hsz
          clear hB hsz hlt hk
          go_wp2_with fail
          generalize wr = X2 at KX kn hO ⊢
          clear hO
          go_loopw [10, 12] (fun p i w' => ∃ k : Nat, k ≤ 70 ∧ i = .int .i64 k ∧ OwnB w' X2.heap.size p (List.replicate k 178) ∧ Below X2.heap.size X2 w') (fun _ i _ => 70 - (intOf i).toNat)
          case atStart => exact ⟨0, by omega, rfl, OwnB.nil _ _, Below.refl _ _⟩
          case round =>
            obtain ⟨k, hk, rfl, hO, hB⟩ := hrel
            have hsz := hB.size
            by_cases hlt : k < 70
            · obtain ⟨v', w', hr, hO', hB', hs'⟩ := run_app1 (wr.alloc (.cells #[Value.int .u8 178] 5)) X2.heap.size wr.heap.size 1 _ (List.replicate k 178) 178 28 (hO.keep (below_alloc _ _)) (by go_simp) (by simp; omega) (by simp; omega)
              have HO : Hid (OwnB w' X2.heap.size v' (List.replicate (k + 1) 178)) := by show OwnB _ _ _ _; rw [← rep_succ]; exact hO'
              have HB : Hid (Below X2.heap.size X2 w') := (hB.alloc hsz _).trans hB'
              clear hO hB hO' hB'
              go_wp2_with (at_builtin; refine wpL_app rfl _ _ rfl v' w' (by exact hr) ?_)
              go_roundw
              case rel => first | exact ⟨k + 1, by omega, by go_num, HO.out, HB.out⟩ | ((repeat apply Exists.intro); refine ⟨⟨k + 1, by omega, ?_, HO.out, HB.out⟩, rfl⟩; go_num)
              case measure => simp [intOf]; omega
            · obtain rfl : k = 70 := by omega
              replace KX := k_mid KX kn hB
              replace kn := Nat.le_trans kn hsz
              clear hB hsz hlt hk
              go_wp2_with fail
              generalize wr = X3 at KX kn hO ⊢
              clear hO
              go_loopw [13] (fun i w' => i = .int .i64 0 ∧ X3 = w') (fun _ _ => 0)
              case atStart => exact ⟨rfl, rfl⟩
              case round =>
                obtain ⟨rfl, rfl⟩ := hrel
                go_wp2_with fail
                go_upto_region 28 with fail
                refine wp_relies [Fx (.agg (secA s)), Fx (.pointer (some ⟨w.heap.size + 1, 0, none⟩)), Fx (.int .i64 At), Fx (.pointer (some ⟨w.heap.size + 1, 3, none⟩)), Fx (.int .u32 Av), Fx (.int .u16 V16), Fx (.agg (secA (putI s At V16.toNat 2))), Fx (.agg (secA s)), Fx (.pointer (some ⟨w.heap.size + 1, 0, none⟩)), Fx (.int .i64 At), Fx (.pointer (some ⟨w.heap.size + 1, 3, none⟩)), Fx (.int .u32 Av), Fx (.int .u16 V16), Fx (.agg (secA (putI s At V16.toNat 2))), Fx (.bool false), Fx (.bool false), Fx (.agg (secA s)), Fx (.pointer (some ⟨w.heap.size + 1, 0, none⟩)), Fx (.int .i64 At), Fx (.pointer (some ⟨w.heap.size + 1, 3, none⟩)), Fx (.int .u32 Av), Fx (.agg (secA (putI s At Av.toNat 4))), Fx (.agg (secA s)), Fx (.pointer (some ⟨w.heap.size + 1, 0, none⟩)), Fx (.int .i64 At), Fx (.pointer (some ⟨w.heap.size + 1, 3, none⟩)), Fx (.int .u32 Av), Fx (.agg (secA (putI s At Av.toNat 4))), Fx (.bool false), Fx (.bool false)] (by kernel_rfl) (by kernel_rfl) ?_ ?_ ?_
                · repeat' (first | exact all_nil | apply all_cons)
                  all_goals intro v y y' hv hb
                  all_goals first | exact Fx_mono _ _ _ _ hv hb
                · refine ⟨?_, ?_, ?_, ?_, ?_, ?_, ?_, ?_, ?_, ?_, ?_, ?_, ?_, ?_, ?_, ?_, ?_, ?_, ?_, ?_, ?_, ?_, ?_, ?_, ?_, ?_, ?_, ?_, ?_, ?_, trivial⟩
                  all_goals
                    intro ρ x hp ρc ρg ρf ho hd
                    have o2 : ρ (.tmp 2) = .pointer (some ⟨w.heap.size, 0, none⟩) := ho 2 rfl
                    have o3 : ρ (.tmp 3) = .pointer (some ⟨w.heap.size + 1, 0, none⟩) := ho 3 rfl
                    clear ho
                    have kk := BW.of hs (k_of KX kn hp)
                    obtain ⟨c0, c1, c2, c3, c4⟩ := kk.cell
                    have r1 := kk.ok
                    have r2 := kk.row
                    simp only [depsR, depR, slotR, Fx, List.getElem?_cons_succ, List.getElem?_cons_zero, Region.binds, forall_const] at hd
                    simp only [guardR]
                    go_split_ands
                  · go_simp
                  · go_simp
                  · go_simp
                  · go_simp
                  · go_simp
                  · go_simp
                  · go_simp
                    refine (putU16_any _ _ _ _ h0 h1 hV0 hV1).mono ?_
                    rintro e x' ⟨rfl, hb⟩
                    exact ⟨_, rfl, rfl, hb⟩
                  · go_simp
                  · go_simp
                  · go_simp
                  · go_simp
                  · go_simp
                  · go_simp
                  · go_simp
                    refine (rputU16_any _ _ _ _ h0 h1 hV0 hV1).mono ?_
                    rintro e x' ⟨rfl, hb⟩
                    exact ⟨_, rfl, rfl, hb⟩
                  · have hvv := secEq_refl (putI s At V16.toNat 2)
                    go_simp
                  · go_simp
                  · refine ⟨fun _ => ?_, fun hy => absurd (by simp [yieldR, slotR, *]) hy⟩
                    go_simp
                  · refine ⟨fun _ => ?_, fun hy => absurd (by simp [yieldR, slotR, *]) hy⟩
                    go_simp
                  · refine ⟨fun _ => ?_, fun hy => absurd (by simp [yieldR, slotR, *]) hy⟩
                    go_simp
                  · refine ⟨fun _ => ?_, fun hy => absurd (by simp [yieldR, slotR, *]) hy⟩
                    go_simp
                  · refine ⟨fun _ => ?_, fun hy => absurd (by simp [yieldR, slotR, *]) hy⟩
                    go_simp
                  · refine ⟨fun _ => ?_, fun hy => absurd (by simp [yieldR, slotR, *]) hy⟩
                    go_simp
                    refine (putU32_any _ _ _ _ h0 h1 hv0 hv1).mono ?_
                    rintro e x' ⟨rfl, hb⟩
                    exact ⟨_, rfl, rfl, hb⟩
                  · refine ⟨fun _ => ?_, fun hy => absurd (by simp [yieldR, slotR, *]) hy⟩
                    go_simp
                  · refine ⟨fun _ => ?_, fun hy => absurd (by simp [yieldR, slotR, *]) hy⟩
                    go_simp
                  · refine ⟨fun _ => ?_, fun hy => absurd (by simp [yieldR, slotR, *]) hy⟩
                    go_simp
                  · refine ⟨fun _ => ?_, fun hy => absurd (by simp [yieldR, slotR, *]) hy⟩
                    go_simp
                  · refine ⟨fun _ => ?_, fun hy => absurd (by simp [yieldR, slotR, *]) hy⟩
                    go_simp
                  · refine ⟨fun _ => ?_, fun hy => absurd (by simp [yieldR, slotR, *]) hy⟩
                    go_simp
                    refine (rputU32_any _ _ _ _ h0 h1 hv0 hv1).mono ?_
                    rintro e x' ⟨rfl, hb⟩
                    exact ⟨_, rfl, rfl, hb⟩
                  · refine ⟨fun _ => ?_, fun hy => absurd (by simp [yieldR, slotR, *]) hy⟩
                    have hvv := secEq_refl (putI s At Av.toNat 4)
                    go_simp
                  · go_simp
                · intro vs x hp hw
                  simp only [owed, Fx] at hw
                  obtain ⟨e0, e1, e2, e3, e4, e5, e6, e7, e8, e9, e10, e11, e12, e13, e14, e15, e16, e17, e18, e19, e20, e21, e22, e23, e24, e25, e26, e27, e28, e29, -⟩ := hw
                  simp only [List.length_cons, List.length_nil, List.take_succ_cons, List.take_nil, List.drop_succ_cons, List.drop_nil, asg, List.cons_append, List.nil_append, e0, e1, e2, e3, e4, e5, e6, e7, e8, e9, e10, e11, e12, e13, e14, e15, e16, e17, e18, e19, e20, e21, e22, e23, e24, e25, e26, e27, e28, e29]
                  clear e0 e1 e2 e3 e4 e5 e6 e7 e8 e9 e10 e11 e12 e13 e14 e15 e16 e17 e18 e19 e20 e21 e22 e23 e24 e25 e26 e27 e28 e29
                  replace KX := k_of KX kn hp
                  replace kn := Nat.le_trans kn hp.size
                  obtain ⟨c0, c1, c2, c3, c4⟩ := (BW.of hs KX).cell
                  have r1 := (BW.of hs KX).ok
                  have r2 := (BW.of hs KX).row
                  go_wp2_with fail
                  refine (lent_any _ l _ hl (BW.of hs KX).isb).mono ?_
                  rintro e x2 ⟨g14, c14, rfl, hc14, hcm, I14, hb⟩
                  replace KX := k_of KX kn hb
                  replace kn := Nat.le_trans kn hb.size
                  clear c0 c1 c2 c3 c4 r1 r2
                  unfold maxLen at hcm
                  go_upto_region 31 with fail
                  refine wp_relies [Fx (.agg (secA s)), Fx (.pointer (some ⟨w.heap.size + 1, 0, none⟩)), Fx (.int .i64 At), Fx (.slice (some ⟨g14, 0, none⟩) l.length c14), Fx (.agg (secA (layI s At l))), Fx (.agg (secA s)), Fx (.pointer (some ⟨w.heap.size + 1, 0, none⟩)), Fx (.int .i64 At), Fx (.pointer (some ⟨w.heap.size + 1, 4, none⟩)), Fx (.slice sx l.length sc), Fx (.agg (secA (layI s At l))), Fx (.bool false), Fx (.bool false), Fx (.slice (some ⟨g14, 0, none⟩) l.length c14), Fx (.string ⟨l.toArray⟩), Fx (.pointer (some ⟨w.heap.size + 1, 4, none⟩)), Fx (.slice sx l.length sc), Fx (.string ⟨l.toArray⟩), Fx (.bool false), Fx (.bool false), Fx (.bool false), Fx (.slice (some ⟨g14, 0, none⟩) l.length c14), Fx (.pointer (some ⟨w.heap.size + 1, 4, none⟩)), Fx (.slice sx l.length sc), Fx (.int .i64 (l.length : Nat)), Fx (.int .i64 ((l.length : Nat) + 1)), Fx (.slice (some ⟨g14, 0, none⟩) (l.length + 1) c14), Fx (.pointer (some ⟨w.heap.size + 1, 4, none⟩)), Fx (.slice sx l.length sc), Fx (.int .i64 (l.length : Nat)), Fx (.pointer (some ⟨g14, l.length, none⟩)), Fx (.int .u8 195), Fx (.bool false), Fx (.bool false)] (by kernel_rfl) (by kernel_rfl) ?_ ?_ ?_
                  · repeat' (first | exact all_nil | apply all_cons)
                    all_goals intro v y y' hv hb
                    all_goals first | exact Fx_mono _ _ _ _ hv hb
                  · refine ⟨?_, ?_, ?_, ?_, ?_, ?_, ?_, ?_, ?_, ?_, ?_, ?_, ?_, ?_, ?_, ?_, ?_, ?_, ?_, ?_, ?_, ?_, ?_, ?_, ?_, ?_, ?_, ?_, ?_, ?_, ?_, ?_, ?_, ?_, trivial⟩
                    all_goals
                      intro ρ x hp ρc ρg ρf ho hd
                      have o2 : ρ (.tmp 2) = .pointer (some ⟨w.heap.size, 0, none⟩) := ho 2 rfl
                      have o3 : ρ (.tmp 3) = .pointer (some ⟨w.heap.size + 1, 0, none⟩) := ho 3 rfl
                      have o14 : ρ (.tmp 14) = .slice (some ⟨g14, 0, none⟩) l.length c14 := ho 14 rfl
                      clear ho
                      have kk := BW.of hs (k_of KX kn hp)
                      obtain ⟨c0, c1, c2, c3, c4⟩ := kk.cell
                      have r1 := kk.ok
                      have r2 := kk.row
                      simp only [depsR, depR, slotR, Fx, List.getElem?_cons_succ, List.getElem?_cons_zero, Region.binds, forall_const] at hd
                      simp only [guardR]
                      go_split_ands
                    · go_simp
                    · go_simp
                    · go_simp
                    · go_simp
                    · go_simp
                      refine (putBytes_any s At _ l _ h0 h1 hlm (isB_short (I14.kept hp))).mono ?_
                      rintro e x' ⟨rfl, hb⟩
                      exact ⟨_, rfl, rfl, hb⟩
                    · go_simp
                    · go_simp
                    · go_simp
                    · go_simp
                    · go_simp
                    · go_simp
                      refine (rputBytes_any s At _ l _ h0 h1 hlm kk.isb).mono ?_
                      rintro e x' ⟨rfl, hb⟩
                      exact ⟨_, rfl, rfl, hb⟩
                    · have hvv := secEq_refl (layI s At l)
                      go_simp
                    · go_simp
                    · refine ⟨fun _ => ?_, fun hy => absurd (by simp [yieldR, slotR, *]) hy⟩
                      go_simp
                    · refine ⟨fun _ => ?_, fun hy => absurd (by simp [yieldR, slotR, *]) hy⟩
                      have hz := (isB_short (I14.kept hp)).str
                      go_simp
                    · refine ⟨fun _ => ?_, fun hy => absurd (by simp [yieldR, slotR, *]) hy⟩
                      go_simp
                    · refine ⟨fun _ => ?_, fun hy => absurd (by simp [yieldR, slotR, *]) hy⟩
                      go_simp
                    · refine ⟨fun _ => ?_, fun hy => absurd (by simp [yieldR, slotR, *]) hy⟩
                      have hz := kk.isb.str
                      go_simp
                    · refine ⟨fun _ => ?_, fun hy => absurd (by simp [yieldR, slotR, *]) hy⟩
                      go_simp
                    · go_simp
                    · go_simp
                    · refine ⟨fun _ => ?_, fun hy => absurd (by simp [yieldR, slotR, *]) hy⟩
                      go_simp
                    · refine ⟨fun _ => ?_, fun hy => absurd (by simp [yieldR, slotR, *]) hy⟩
                      go_simp
                    · refine ⟨fun _ => ?_, fun hy => absurd (by simp [yieldR, slotR, *]) hy⟩
                      go_simp
                    · refine ⟨fun _ => ?_, fun hy => absurd (by simp [yieldR, slotR, *]) hy⟩
                      go_simp
                    · refine ⟨fun _ => ?_, fun hy => absurd (by simp [yieldR, slotR, *]) hy⟩
                      have hw1 : IntKind.i64.wrap ((l.length : Int) + 1) = (l.length : Int) + 1 := by rw [IntKind.wrap_i64]; omega
                      go_simp
                    · refine ⟨fun _ => ?_, fun hy => absurd (by simp [yieldR, slotR, *]) hy⟩
                      have hx := run_slice_hi x g14 l.length c14 hc14
                      go_simp
                    · refine ⟨fun _ => ?_, fun hy => absurd (by simp [yieldR, slotR, *]) hy⟩
                      go_simp
                    · refine ⟨fun _ => ?_, fun hy => absurd (by simp [yieldR, slotR, *]) hy⟩
                      go_simp
                    · refine ⟨fun _ => ?_, fun hy => absurd (by simp [yieldR, slotR, *]) hy⟩
                      go_simp
                    · refine ⟨fun _ => ?_, fun hy => absurd (by simp [yieldR, slotR, *]) hy⟩
                      have hx1 : (0 : Int) ≤ (l.length : Int) := by omega
                      have hx2 : (l.length : Int) < (l.length : Int) + 1 := by omega
                      go_simp
                    · refine ⟨fun _ => ?_, fun hy => absurd (by simp [yieldR, slotR, *]) hy⟩
                      have hx := isB_last (I14.kept hp)
                      go_simp
                    · refine ⟨fun _ => ?_, fun hy => absurd (by simp [yieldR, slotR, *]) hy⟩
                      go_simp
                    · go_simp
                  · intro vs x hp hw
                    simp only [owed, Fx] at hw
                    obtain ⟨e0, e1, e2, e3, e4, e5, e6, e7, e8, e9, e10, e11, e12, e13, e14, e15, e16, e17, e18, e19, e20, e21, e22, e23, e24, e25, e26, e27, e28, e29, e30, e31, e32, e33, -⟩ := hw
                    simp only [List.length_cons, List.length_nil, List.take_succ_cons, List.take_nil, List.drop_succ_cons, List.drop_nil, asg, List.cons_append, List.nil_append, e0, e1, e2, e3, e4, e5, e6, e7, e8, e9, e10, e11, e12, e13, e14, e15, e16, e17, e18, e19, e20, e21, e22, e23, e24, e25, e26, e27, e28, e29, e30, e31, e32, e33]
                    clear e0 e1 e2 e3 e4 e5 e6 e7 e8 e9 e10 e11 e12 e13 e14 e15 e16 e17 e18 e19 e20 e21 e22 e23 e24 e25 e26 e27 e28 e29 e30 e31 e32 e33
                    replace KX := k_of KX kn hp
                    replace kn := Nat.le_trans kn hp.size
                    go_upto_region 33 with fail
                    refine wp_relies [Fx (.agg (secA s)), Fx (.bool (secEq s secZ)), Fx (.agg (secA s)), Fx (.agg (secA secZ)), Fx (.bool (secEq s secZ)), Fx (.bool true), Fx (.bool true), Fx (.agg (secA s)), Fx (.pointer (some ⟨w.heap.size + 1, 0, none⟩)), Fx (.int .i64 At), Fx (.pointer (some ⟨w.heap.size + 1, 2, none⟩)), Fx (.int .i64 To), Fx (.bool (zfB s At To)), Fx (.agg (secA s)), Fx (.pointer (some ⟨w.heap.size + 1, 0, none⟩)), Fx (.int .i64 At), Fx (.pointer (some ⟨w.heap.size + 1, 2, none⟩)), Fx (.int .i64 To), Fx (.bool (zfB s At To)), Fx (.bool true), Fx (.bool true)] (by kernel_rfl) (by kernel_rfl) ?_ ?_ ?_
                    · repeat' (first | exact all_nil | apply all_cons)
                      all_goals intro v y y' hv hb
                      all_goals first | exact Fx_mono _ _ _ _ hv hb
                    · refine ⟨?_, ?_, ?_, ?_, ?_, ?_, ?_, ?_, ?_, ?_, ?_, ?_, ?_, ?_, ?_, ?_, ?_, ?_, ?_, ?_, ?_, trivial⟩
                      all_goals
                        intro ρ x hp ρc ρg ρf ho hd
                        have o2 : ρ (.tmp 2) = .pointer (some ⟨w.heap.size, 0, none⟩) := ho 2 rfl
                        have o3 : ρ (.tmp 3) = .pointer (some ⟨w.heap.size + 1, 0, none⟩) := ho 3 rfl
                        clear ho
                        have kk := BW.of hs (k_of KX kn hp)
                        obtain ⟨c0, c1, c2, c3, c4⟩ := kk.cell
                        have r1 := kk.ok
                        have r2 := kk.row
                        simp only [depsR, depR, slotR, Fx, List.getElem?_cons_succ, List.getElem?_cons_zero, Region.binds, forall_const] at hd
                        simp only [guardR]
                        go_split_ands
                      · go_simp
                      · go_simp
                        refine (zero_any _ _).mono ?_
                        rintro e x' ⟨rfl, hb⟩
                        exact ⟨_, rfl, rfl, hb⟩
                      · go_simp
                      · go_simp
                      · go_simp
                      · go_simp
                      · go_simp
                      · refine ⟨fun _ => ?_, fun hy => absurd (by simp [yieldR, slotR, *]) hy⟩
                        go_simp
                      · refine ⟨fun _ => ?_, fun hy => absurd (by simp [yieldR, slotR, *]) hy⟩
                        go_simp
                      · refine ⟨fun _ => ?_, fun hy => absurd (by simp [yieldR, slotR, *]) hy⟩
                        go_simp
                      · refine ⟨fun _ => ?_, fun hy => absurd (by simp [yieldR, slotR, *]) hy⟩
                        go_simp
                      · refine ⟨fun _ => ?_, fun hy => absurd (by simp [yieldR, slotR, *]) hy⟩
                        go_simp
                      · refine ⟨fun _ => ?_, fun hy => absurd (by simp [yieldR, slotR, *]) hy⟩
                        go_simp
                        refine (zeroFrom_any _ _ _ _).mono ?_
                        rintro e x' ⟨rfl, hb⟩
                        exact ⟨_, rfl, rfl, hb⟩
                      · refine ⟨fun _ => ?_, fun hy => absurd (by simp [yieldR, slotR, *]) hy⟩
                        go_simp
                      · refine ⟨fun _ => ?_, fun hy => absurd (by simp [yieldR, slotR, *]) hy⟩
                        go_simp
                      · refine ⟨fun _ => ?_, fun hy => absurd (by simp [yieldR, slotR, *]) hy⟩
                        go_simp
                      · refine ⟨fun _ => ?_, fun hy => absurd (by simp [yieldR, slotR, *]) hy⟩
                        go_simp
                      · refine ⟨fun _ => ?_, fun hy => absurd (by simp [yieldR, slotR, *]) hy⟩
                        go_simp
                      · refine ⟨fun _ => ?_, fun hy => absurd (by simp [yieldR, slotR, *]) hy⟩
                        go_simp
                        refine (rzeroFrom_any _ _ _ _).mono ?_
                        rintro e x' ⟨rfl, hb⟩
                        exact ⟨_, rfl, rfl, hb⟩
                      · refine ⟨fun _ => ?_, fun hy => absurd (by simp [yieldR, slotR, *]) hy⟩
                        go_simp
                      · go_simp
                    · intro vs x hp hw
                      simp only [owed, Fx] at hw
                      obtain ⟨e0, e1, e2, e3, e4, e5, e6, e7, e8, e9, e10, e11, e12, e13, e14, e15, e16, e17, e18, e19, e20, -⟩ := hw
                      simp only [List.length_cons, List.length_nil, List.take_succ_cons, List.take_zero, List.drop_succ_cons, List.drop_zero, asg, List.cons_append, List.nil_append, e0, e1, e2, e3, e4, e5, e6, e7, e8, e9, e10, e11, e12, e13, e14, e15, e16, e17, e18, e19, e20]
                      clear e0 e1 e2 e3 e4 e5 e6 e7 e8 e9 e10 e11 e12 e13 e14 e15 e16 e17 e18 e19 e20
                      replace KX := k_of KX kn hp
                      replace kn := Nat.le_trans kn hp.size
                      go_wp2
                      go_ret
                      exact ⟨rfl, (BW.of hs KX).below⟩
end Go.Proofs.Ytfihpfaljjljhaa
