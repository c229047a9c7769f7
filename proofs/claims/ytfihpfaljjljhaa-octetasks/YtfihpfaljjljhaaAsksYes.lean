import Derived.Test.YtfihpfaljjljhaaAsksNo
namespace Go.Proofs.Ytfihpfaljjljhaa
open Go.RowKit

theorem bytes_at (s : Nat → UInt8) (a n : Int) (w : World) {L : List UInt8} (h : inB a n = true) (hn : n.toNat = L.length) (hL : subL s a.toNat n.toNat = L) :
    Calls Try.prog 14 #[.agg (secA s), .int .i64 a, .int .i64 n] w fun e w' => ∃ g, e = .returned (.slice (some ⟨g, 0, none⟩) L.length L.length) ∧ w.heap.size ≤ g ∧ rowB w' g L ∧ Below w.heap.size w w' := by
  have := bytes_in s a n w h
  rw [hL, hn] at this
  exact this
theorem rbytes_at (s : Nat → UInt8) (a n : Int) (w : World) {L : List UInt8} (h : inB a n = true) (hL : subL s a.toNat n.toNat = L) :
    Calls Try.prog 17 #[.agg (secA s), .int .i64 a, .int .i64 n] w fun e w' => ∃ v, e = .returned v ∧ IsB w' v L ∧ Below w.heap.size w w' := by
  rw [inB_iff] at h
  obtain ⟨a', rfl⟩ := Int.eq_ofNat_of_zero_le h.1
  obtain ⟨n', rfl⟩ := Int.eq_ofNat_of_zero_le h.2.1
  rw [← hL]
  exact rbytes_yes s a' n' w (by omega)
theorem run_growN (w : World) (g y c n : Nat) (b d : UInt8) (ty : TypeId) (h : rowB w g (List.replicate n d)) (hy : w.cell? ⟨y, 0, none⟩ = some (Value.int .u8 (b.toNat : Int))) (hl : n ≤ 64) :
    ∃ v' w', (Builtin.append_ #[28, 28] ty #[.slice (some ⟨g, 0, none⟩) n n, .slice (some ⟨y, 0, none⟩) 1 c]).run Try.prog w = .ok v' w' ∧ OwnB w' w.heap.size v' (List.replicate n d ++ [b]) ∧ Below w.heap.size w w' := by
  have := run_grow1 w g y c (List.replicate n d) b ty h hy (by simpa using hl)
  rw [List.length_replicate] at this
  exact this
theorem OwnB.weaken {w : World} {b b' : Nat} {v : Value} {l : List UInt8} (h : OwnB w b v l) (hb : b' ≤ b) : OwnB w b' v l := by
  obtain ⟨h3, ⟨h4, h5⟩ | ⟨g', cap, cur, h4, hb', hg, hle, hm, hsz, ht⟩⟩ := h
  · exact ⟨h3, .inl ⟨h4, h5⟩⟩
  · exact ⟨h3, .inr ⟨g', cap, cur, h4, Nat.le_trans hb hb', hg, hle, hm, hsz, ht⟩⟩
theorem rep_cell {w : World} {g n k : Nat} {b : UInt8} (h : rowB w g (List.replicate n b)) (hk : k < n) : w.cell? ⟨g, k, none⟩ = some (Value.int .u8 (b.toNat : Int)) := by
  have := h.cell k (by simpa using hk)
  rw [this]; simp
theorem own_cell {w : World} {base g n m c k : Nat} {b : UInt8} (h : OwnB w base (.slice (some ⟨g, 0, none⟩) m c) (List.replicate n b)) (hk : k < n) : w.cell? ⟨g, k, none⟩ = some (Value.int .u8 (b.toNat : Int)) := by
  have := h.cell k (by simpa using hk)
  rw [this]; simp
theorem mix_cell {w : World} {g k : Nat} {b : UInt8} {L : List UInt8} (h : rowB w g (mixL k b L)) (hk : k < L.length) : ∃ z : Int, w.cell? ⟨g, k, none⟩ = some (Value.int .u8 z) :=
  ⟨_, h.cell k (by rw [mixL_length k b L (by omega)]; exact hk)⟩
theorem mix_set {w : World} {g k : Nat} {b : UInt8} {L : List UInt8} (h : rowB w g (mixL k b L)) (hk : k < L.length) : rowB (w.setCell ⟨g, k, none⟩ (Value.int .u8 (b.toNat : Int))) g (mixL (k + 1) b L) := by
  have := h.setCell (b := b) (i := k) (by rw [mixL_length k b L (by omega)]; exact hk)
  rw [mixL_succ k b L hk] at this
  exact this
set_option linter.unusedSimpArgs false in
set_option maxRecDepth 100000 in
set_option maxHeartbeats 3200000 in
theorem lawAsks_yes (s : Nat → UInt8) (At An To Av : Int) (sl : Value) (l : List UInt8) (w : World) (h0 : -9223372036854775808 ≤ At) (h1 : At ≤ 9223372036854775807) (h2 : -9223372036854775808 ≤ An) (h3 : An ≤ 9223372036854775807) (hv0 : 0 ≤ Av) (hv1 : Av < 4294967296) (hl : l.length + 1 ≤ 140737488355328) (hs : IsB w sl l) (hin : inB At An = true) :
    Calls Try.prog 5 #[.agg (secA s), .agg #[.int .i64 At, .int .i64 An, .int .i64 To, .int .u32 Av, sl]] w fun e w' => e = .returned (.bool true) ∧ Below w.heap.size w w' := by
  obtain ⟨sx, sc, rfl⟩ := hs.len
  have hlm : l.length ≤ maxLen := by unfold maxLen; omega
  obtain ⟨L, hL⟩ : ∃ L, subL s At.toNat An.toNat = L := ⟨_, rfl⟩
  have hLn : An.toNat = L.length := by rw [← hL]; simp
  have hL64 : L.length ≤ 64 := by have := (inB_iff _ _).1 hin; omega
  have HL : Hid (subL s At.toNat An.toNat = L) := hL
  clear hL
  have HLn : Hid (An.toNat = L.length) := hLn
  clear hLn
  obtain ⟨V16, hV⟩ : ∃ x, IntKind.u16.wrap Av = x := ⟨_, rfl⟩
  have hV0 : 0 ≤ V16 := by rw [← hV, IntKind.wrap_u16]; omega
  have hV1 : V16 < 65536 := by rw [← hV, IntKind.wrap_u16]; omega
  go_enter Try.func5, Try.ntmps5
  go_upto_region 1 with fail
  have KX := Below.refl (w.heap.size + 2) ((w.alloc (.cells (secA s) 23)).alloc (.cells #[.int .i64 At, .int .i64 An, .int .i64 To, .int .u32 Av, .slice sx l.length sc] 30))
  have kn : w.heap.size + 2 ≤ ((w.alloc (.cells (secA s) 23)).alloc (.cells #[.int .i64 At, .int .i64 An, .int .i64 To, .int .u32 Av, .slice sx l.length sc] 30)).heap.size := by simp
  refine wp_relies [Fx (.bool true), Fx (.bool false), Fx (.bool false), Fx (.agg (secA s)), Fx (.pointer (some ⟨w.heap.size + 1, 0, none⟩)), Fx (.int .i64 At), Fx (.int .u16 (numI s At 2 : Nat)), Fx (.agg (secA s)), Fx (.pointer (some ⟨w.heap.size + 1, 0, none⟩)), Fx (.int .i64 At), Fx (.int .u16 (numI s At 2 : Nat)), Fx (.bool false), Fx (.bool false), Fx (.bool false), Fx (.agg (secA s)), Fx (.pointer (some ⟨w.heap.size + 1, 0, none⟩)), Fx (.int .i64 At), Fx (.int .u32 (numI s At 4 : Nat)), Fx (.agg (secA s)), Fx (.pointer (some ⟨w.heap.size + 1, 0, none⟩)), Fx (.int .i64 At), Fx (.int .u32 (numI s At 4 : Nat)), Fx (.bool false), Fx (.bool false)] (by kernel_rfl) (by kernel_rfl) ?_ ?_ ?_
  · repeat' (first | exact all_nil | apply all_cons)
    all_goals intro v y y' hv hb
    all_goals first | exact Fx_mono _ _ _ _ hv hb
  · refine ⟨?_, ?_, ?_, ?_, ?_, ?_, ?_, ?_, ?_, ?_, ?_, ?_, ?_, ?_, ?_, ?_, ?_, ?_, ?_, ?_, ?_, ?_, ?_, ?_, trivial⟩
    all_goals
      intro ρ x hp ρc ρg ρf ho hd
      have o2 : ρ (.tmp 2) = .pointer (some ⟨w.heap.size, 0, none⟩) := ho 2 rfl
      have o3 : ρ (.tmp 3) = .pointer (some ⟨w.heap.size + 1, 0, none⟩) := ho 3 rfl
      clear ho
      have kk := BW.of hs (k_of KX kn hp)
      obtain ⟨c0, c1, c2, c3, c4⟩ := kk.cell
      have r1 := kk.ok
      have r2 := kk.row
      simp only [depsR, depR, slotR, Fx, List.getElem?_cons_succ, List.getElem?_cons_zero, Region.binds, forall_const] at hd
      simp only [guardR]
      go_split_ands
    · go_simp
      refine (taken_any _).mono ?_
      rintro e x' ⟨rfl, hb⟩
      exact ⟨_, rfl, rfl, hb⟩
    · go_simp
    · go_simp
    · refine ⟨fun _ => ?_, fun hy => absurd (by simp [yieldR, slotR, *]) hy⟩
      go_simp
    · refine ⟨fun _ => ?_, fun hy => absurd (by simp [yieldR, slotR, *]) hy⟩
      go_simp
    · refine ⟨fun _ => ?_, fun hy => absurd (by simp [yieldR, slotR, *]) hy⟩
      go_simp
    · refine ⟨fun _ => ?_, fun hy => absurd (by simp [yieldR, slotR, *]) hy⟩
      go_simp
      refine (u16_any _ _ _ h0 h1).mono ?_
      rintro e x' ⟨rfl, hb⟩
      exact ⟨_, rfl, rfl, hb⟩
    · refine ⟨fun _ => ?_, fun hy => absurd (by simp [yieldR, slotR, *]) hy⟩
      go_simp
    · refine ⟨fun _ => ?_, fun hy => absurd (by simp [yieldR, slotR, *]) hy⟩
      go_simp
    · refine ⟨fun _ => ?_, fun hy => absurd (by simp [yieldR, slotR, *]) hy⟩
      go_simp
    · refine ⟨fun _ => ?_, fun hy => absurd (by simp [yieldR, slotR, *]) hy⟩
      go_simp
      refine (ru16_any _ _ _ h0 h1).mono ?_
      rintro e x' ⟨rfl, hb⟩
      exact ⟨_, rfl, rfl, hb⟩
    · refine ⟨fun _ => ?_, fun hy => absurd (by simp [yieldR, slotR, *]) hy⟩
      go_simp
    · go_simp
    · go_simp
    · refine ⟨fun _ => ?_, fun hy => absurd (by simp [yieldR, slotR, *]) hy⟩
      go_simp
    · refine ⟨fun _ => ?_, fun hy => absurd (by simp [yieldR, slotR, *]) hy⟩
      go_simp
    · refine ⟨fun _ => ?_, fun hy => absurd (by simp [yieldR, slotR, *]) hy⟩
      go_simp
    · refine ⟨fun _ => ?_, fun hy => absurd (by simp [yieldR, slotR, *]) hy⟩
      go_simp
      refine (u32_any _ _ _ h0 h1).mono ?_
      rintro e x' ⟨rfl, hb⟩
      exact ⟨_, rfl, rfl, hb⟩
    · refine ⟨fun _ => ?_, fun hy => absurd (by simp [yieldR, slotR, *]) hy⟩
      go_simp
    · refine ⟨fun _ => ?_, fun hy => absurd (by simp [yieldR, slotR, *]) hy⟩
      go_simp
    · refine ⟨fun _ => ?_, fun hy => absurd (by simp [yieldR, slotR, *]) hy⟩
      go_simp
    · refine ⟨fun _ => ?_, fun hy => absurd (by simp [yieldR, slotR, *]) hy⟩
      go_simp
      refine (ru32_any _ _ _ h0 h1).mono ?_
      rintro e x' ⟨rfl, hb⟩
      exact ⟨_, rfl, rfl, hb⟩
    · refine ⟨fun _ => ?_, fun hy => absurd (by simp [yieldR, slotR, *]) hy⟩
      go_simp
    · go_simp
  · intro vs x hp hw
    simp only [owed, Fx] at hw
    obtain ⟨e0, e1, e2, e3, e4, e5, e6, e7, e8, e9, e10, e11, e12, e13, e14, e15, e16, e17, e18, e19, e20, e21, e22, e23, -⟩ := hw
    simp only [List.length_cons, List.length_nil, List.take_succ_cons, List.take_nil, List.drop_succ_cons, List.drop_nil, asg, List.cons_append, List.nil_append, e0, e1, e2, e3, e4, e5, e6, e7, e8, e9, e10, e11, e12, e13, e14, e15, e16, e17, e18, e19, e20, e21, e22, e23]
    clear e0 e1 e2 e3 e4 e5 e6 e7 e8 e9 e10 e11 e12 e13 e14 e15 e16 e17 e18 e19 e20 e21 e22 e23
    replace KX := k_of KX kn hp
    replace kn := Nat.le_trans kn hp.size
    obtain ⟨c0, c1, c2, c3, c4⟩ := (BW.of hs KX).cell
    have r1 := (BW.of hs KX).ok
    have r2 := (BW.of hs KX).row
    go_wp2_with fail
    refine (rbytes_at _ _ _ _ hin HL.out).mono ?_
    rintro e x1 ⟨v5, rfl, i5, hb⟩
    replace KX := k_of KX kn hb
    replace kn := Nat.le_trans kn hb.size
    clear c0 c1 c2 c3 c4 r1 r2 hb
    obtain ⟨x5, c5, rfl⟩ := i5.len
    obtain ⟨c0, c1, c2, c3, c4⟩ := (BW.of hs KX).cell
    have r1 := (BW.of hs KX).ok
    have r2 := (BW.of hs KX).row
    go_wp2_with fail
    refine (bytes_at _ _ _ _ hin HLn.out HL.out).mono ?_
    rintro e x1 ⟨gx, rfl, hgx, rgx, hb⟩
    replace i5 := i5.kept hb
    have hgx2 : w.heap.size + 2 ≤ gx := Nat.le_trans kn hgx
    replace KX := k_of KX kn hb
    replace kn := Nat.le_trans kn hb.size
    clear c0 c1 c2 c3 c4 r1 r2 hb hgx
    obtain ⟨c0, c1, c2, c3, c4⟩ := (BW.of hs KX).cell
    have r1 := (BW.of hs KX).ok
    have r2 := (BW.of hs KX).row
    go_wp2_with fail
    refine (bytes_at _ _ _ _ hin HLn.out HL.out).mono ?_
    rintro e X0 ⟨gy, rfl, hgy, rgy, hb⟩
    replace i5 := i5.kept hb
    have hxy : gx < gy := Nat.lt_of_lt_of_le rgx.lt hgy
    have hgy2 : w.heap.size + 2 ≤ gy := Nat.le_trans kn hgy
    replace rgx := rgx.kept hb
    replace KX := k_of KX kn hb
    replace kn := Nat.le_trans kn hb.size
    clear c0 c1 c2 c3 c4 r1 r2 hb hgy
    have hs5 := i5.str
    have hs6 := (rgx.isB L.length).str
    have hs7 := (rgy.isB L.length).str
    go_wp2_with fail
    clear hs5 hs6 hs7 i5
    have hne : ¬ gx = gy := by omega
    have hne2 : ¬ gy = gx := by omega
    go_loopw [8] (fun i w' => ∃ k : Nat, k ≤ L.length ∧ i = .int .i64 k ∧ rowB w' gx (mixL k 161 L) ∧ rowB w' gy (mixL k 178 L) ∧ Below (w.heap.size + 2) X0 w') (fun i _ => L.length - (intOf i).toNat)
    case atStart => exact ⟨0, by omega, rfl, by rw [mixL_zero]; exact rgx, by rw [mixL_zero]; exact rgy, Below.refl _ _⟩
    case round =>
      obtain ⟨k, hk, rfl, ax, ay, hB⟩ := hrel
      by_cases hlt : k < L.length
      · have hk0 : (0 : Int) ≤ (k : Int) := by omega
        have hk1 : (k : Int) < (L.length : Int) := by omega
        obtain ⟨zx, cx⟩ := mix_cell ax hlt
        obtain ⟨zy, cy⟩ := mix_cell ay hlt
        have fx := ax.frozen (i := k)
        have fy := ay.frozen (i := k)
        have HX : Hid (rowB ((wr.setCell ⟨gx, k, none⟩ (Value.int .u8 161)).setCell ⟨gy, k, none⟩ (Value.int .u8 178)) gx (mixL (k + 1) 161 L)) := (mix_set ax hlt).setOther hne
        have HY : Hid (rowB ((wr.setCell ⟨gx, k, none⟩ (Value.int .u8 161)).setCell ⟨gy, k, none⟩ (Value.int .u8 178)) gy (mixL (k + 1) 178 L)) := mix_set (ay.setOther hne2) hlt
        have HK : Hid (Below (w.heap.size + 2) X0 ((wr.setCell ⟨gx, k, none⟩ (Value.int .u8 161)).setCell ⟨gy, k, none⟩ (Value.int .u8 178))) := (hB.setCell (p := ⟨gx, k, none⟩) hgx2 _).setCell (p := ⟨gy, k, none⟩) hgy2 _
        clear ax ay hB
        go_wp2
        go_roundw
        case rel => exact ⟨k + 1, by omega, by go_num, HX.out, HY.out, HK.out⟩
        case measure => simp [intOf]; omega
      · obtain rfl : k = L.length := by omega
        rw [mixL_all] at ax ay
        replace KX := k_mid KX (Nat.le_refl _) hB
        replace kn := Nat.le_trans kn hB.size
        clear rgx rgy hk hlt hB
        go_wp2_with fail
        generalize wr = X1 at KX kn ax ay ⊢
        have rgx := ax
        have rgy := ay
        have lx := rgx.lt
        have ly := rgy.lt
        clear ax ay
        go_loopw [9, 11] (fun p i w' => ∃ k : Nat, k ≤ 70 ∧ i = .int .i64 k ∧ ((k = 0 ∧ p = .slice (some ⟨gx, 0, none⟩) L.length L.length) ∨ OwnB w' X1.heap.size p (List.replicate (L.length + k) 161)) ∧ Below X1.heap.size X1 w') (fun _ i _ => 70 - (intOf i).toNat)
        case atStart => exact ⟨0, by omega, rfl, .inl ⟨rfl, rfl⟩, Below.refl _ _⟩
        case round =>
          obtain ⟨k, hk, rfl, hO, hB⟩ := hrel
          have hsz := hB.size
          by_cases hlt : k < 70
          · rcases hO with ⟨rfl, rfl⟩ | hO
            · have rz := (rgx.mid hB (by omega)).kept (below_alloc wr (.cells #[Value.int .u8 161] 5))
              obtain ⟨v', w', hr, hO', hB'⟩ := run_growN (wr.alloc (.cells #[Value.int .u8 161] 5)) gx wr.heap.size 1 L.length 161 161 28 rz (by go_simp) hL64
              have HO : Hid (OwnB w' X1.heap.size v' (List.replicate (L.length + (0 + 1)) 161)) := by show OwnB _ _ _ _; rw [Nat.zero_add, ← rep_succ]; exact hO'.weaken (by simp; omega)
              have HB : Hid (Below X1.heap.size X1 w') := (hB.alloc hsz _).trans (hB'.mono (by simp; omega))
              clear hB hO' hB' rz
              go_wp2_with (at_builtin; refine wpL_app rfl _ _ rfl v' w' (by exact hr) ?_)
              go_roundw
              case rel => first | exact ⟨0 + 1, by omega, by go_num, .inr HO.out, HB.out⟩ | ((repeat apply Exists.intro); refine ⟨⟨0 + 1, by omega, ?_, .inr HO.out, HB.out⟩, rfl⟩; go_num)
              case measure => simp [intOf]
            · obtain ⟨v', w', hr, hO', hB', hs'⟩ := run_app1 (wr.alloc (.cells #[Value.int .u8 161] 5)) X1.heap.size wr.heap.size 1 _ (List.replicate (L.length + k) 161) 161 28 (hO.keep (below_alloc _ _)) (by go_simp) (by simp; omega) (by simp; omega)
              have HO : Hid (OwnB w' X1.heap.size v' (List.replicate (L.length + (k + 1)) 161)) := by show OwnB _ _ _ _; rw [← Nat.add_assoc, ← rep_succ]; exact hO'
              have HB : Hid (Below X1.heap.size X1 w') := (hB.alloc hsz _).trans hB'
              clear hO hB hO' hB'
              go_wp2_with (at_builtin; refine wpL_app rfl _ _ rfl v' w' (by exact hr) ?_)
              go_roundw
              case rel => first | exact ⟨k + 1, by omega, by go_num, .inr HO.out, HB.out⟩ | ((repeat apply Exists.intro); refine ⟨⟨k + 1, by omega, ?_, .inr HO.out, HB.out⟩, rfl⟩; go_num)
              case measure => simp [intOf]; omega
          · obtain rfl : k = 70 := by omega
            replace hO := hO.resolve_left (fun h => absurd h.1 (by omega))
            obtain ⟨gp, cp, rfl, hgp, hlp, hmp⟩ := hO.form (by simp)
            simp only [List.length_replicate] at hO hlp
            rw [List.length_replicate]
            replace rgx := rgx.mid hB lx
            replace rgy := rgy.mid hB ly
            replace KX := k_mid KX kn hB
            replace kn := Nat.le_trans kn hsz
            clear hB hsz hlt hk lx ly
            go_wp2_with fail
            generalize wr = X2 at KX kn rgx rgy hO ⊢
            have hP := hO
            have lp := hO.lt gp rfl
            have lx := rgx.lt
            have ly := rgy.lt
            clear hO
            go_loopw [10, 12] (fun p i w' => ∃ k : Nat, k ≤ 70 ∧ i = .int .i64 k ∧ ((k = 0 ∧ p = .slice (some ⟨gy, 0, none⟩) L.length L.length) ∨ OwnB w' X2.heap.size p (List.replicate (L.length + k) 178)) ∧ Below X2.heap.size X2 w') (fun _ i _ => 70 - (intOf i).toNat)
            case atStart => exact ⟨0, by omega, rfl, .inl ⟨rfl, rfl⟩, Below.refl _ _⟩
            case round =>
              obtain ⟨k, hk, rfl, hO, hB⟩ := hrel
              have hsz := hB.size
              by_cases hlt : k < 70
              · rcases hO with ⟨rfl, rfl⟩ | hO
                · have rz := (rgy.mid hB (by omega)).kept (below_alloc wr (.cells #[Value.int .u8 178] 5))
                  obtain ⟨v', w', hr, hO', hB'⟩ := run_growN (wr.alloc (.cells #[Value.int .u8 178] 5)) gy wr.heap.size 1 L.length 178 178 28 rz (by go_simp) hL64
                  have HO : Hid (OwnB w' X2.heap.size v' (List.replicate (L.length + (0 + 1)) 178)) := by show OwnB _ _ _ _; rw [Nat.zero_add, ← rep_succ]; exact hO'.weaken (by simp; omega)
                  have HB : Hid (Below X2.heap.size X2 w') := (hB.alloc hsz _).trans (hB'.mono (by simp; omega))
                  clear hB hO' hB' rz
                  go_wp2_with (at_builtin; refine wpL_app rfl _ _ rfl v' w' (by exact hr) ?_)
                  go_roundw
                  case rel => first | exact ⟨0 + 1, by omega, by go_num, .inr HO.out, HB.out⟩ | ((repeat apply Exists.intro); refine ⟨⟨0 + 1, by omega, ?_, .inr HO.out, HB.out⟩, rfl⟩; go_num)
                  case measure => simp [intOf]
                · obtain ⟨v', w', hr, hO', hB', hs'⟩ := run_app1 (wr.alloc (.cells #[Value.int .u8 178] 5)) X2.heap.size wr.heap.size 1 _ (List.replicate (L.length + k) 178) 178 28 (hO.keep (below_alloc _ _)) (by go_simp) (by simp; omega) (by simp; omega)
                  have HO : Hid (OwnB w' X2.heap.size v' (List.replicate (L.length + (k + 1)) 178)) := by show OwnB _ _ _ _; rw [← Nat.add_assoc, ← rep_succ]; exact hO'
                  have HB : Hid (Below X2.heap.size X2 w') := (hB.alloc hsz _).trans hB'
                  clear hO hB hO' hB'
                  go_wp2_with (at_builtin; refine wpL_app rfl _ _ rfl v' w' (by exact hr) ?_)
                  go_roundw
                  case rel => first | exact ⟨k + 1, by omega, by go_num, .inr HO.out, HB.out⟩ | ((repeat apply Exists.intro); refine ⟨⟨k + 1, by omega, ?_, .inr HO.out, HB.out⟩, rfl⟩; go_num)
                  case measure => simp [intOf]; omega
              · obtain rfl : k = 70 := by omega
                replace hO := hO.resolve_left (fun h => absurd h.1 (by omega))
                obtain ⟨gq, cq, rfl, hgq, hlq, hmq⟩ := hO.form (by simp)
                simp only [List.length_replicate] at hO hlq
                rw [List.length_replicate]
                replace rgx := rgx.mid hB lx
                replace rgy := rgy.mid hB ly
                replace hP := hP.mid hB (fun j hj => by cases hj; exact lp)
                replace KX := k_mid KX kn hB
                replace kn := Nat.le_trans kn hsz
                clear hB hsz hlt hk lx ly lp
                go_wp2_with fail
                generalize wr = X3 at KX kn rgx rgy hP hO ⊢
                unfold maxLen at hmp hmq
                go_loop [13] (fun i => ∃ k : Nat, k ≤ L.length ∧ i = .int .i64 k) (fun i => L.length - (intOf i).toNat)
                case atStart => exact ⟨0, by omega, rfl⟩
                case round =>
                  obtain ⟨k, hk, rfl⟩ := hrel
                  by_cases hlt : k < L.length
                  · have hk0 : (0 : Int) ≤ (k : Int) := by omega
                    have hk1 : (k : Int) < (L.length : Int) := by omega
                    have hk2 : (k : Int) < ((L.length + 70 : Nat) : Int) := by omega
                    have cx := rep_cell rgx hlt
                    have cy := rep_cell rgy hlt
                    have cpp := own_cell hP (k := k) (by omega)
                    have cq' := own_cell hO (k := k) (by omega)
                    go_wp2
                    go_round
                    case rel => exact ⟨k + 1, by omega, by go_num⟩
                    case measure => simp [intOf]; omega
                  · clear rgx rgy hP hO
                    go_upto_region 28 with fail
                    refine wp_relies [Fx (.agg (secA s)), Fx (.pointer (some ⟨w.heap.size + 1, 0, none⟩)), Fx (.int .i64 At), Fx (.pointer (some ⟨w.heap.size + 1, 3, none⟩)), Fx (.int .u32 Av), Fx (.int .u16 V16), Fx (.agg (secA (putI s At V16.toNat 2))), Fx (.agg (secA s)), Fx (.pointer (some ⟨w.heap.size + 1, 0, none⟩)), Fx (.int .i64 At), Fx (.pointer (some ⟨w.heap.size + 1, 3, none⟩)), Fx (.int .u32 Av), Fx (.int .u16 V16), Fx (.agg (secA (putI s At V16.toNat 2))), Fx (.bool false), Fx (.bool false), Fx (.agg (secA s)), Fx (.pointer (some ⟨w.heap.size + 1, 0, none⟩)), Fx (.int .i64 At), Fx (.pointer (some ⟨w.heap.size + 1, 3, none⟩)), Fx (.int .u32 Av), Fx (.agg (secA (putI s At Av.toNat 4))), Fx (.agg (secA s)), Fx (.pointer (some ⟨w.heap.size + 1, 0, none⟩)), Fx (.int .i64 At), Fx (.pointer (some ⟨w.heap.size + 1, 3, none⟩)), Fx (.int .u32 Av), Fx (.agg (secA (putI s At Av.toNat 4))), Fx (.bool false), Fx (.bool false)] (by kernel_rfl) (by kernel_rfl) ?_ ?_ ?_
                    · repeat' (first | exact all_nil | apply all_cons)
                      all_goals intro v y y' hv hb
                      all_goals first | exact Fx_mono _ _ _ _ hv hb
                    · refine ⟨?_, ?_, ?_, ?_, ?_, ?_, ?_, ?_, ?_, ?_, ?_, ?_, ?_, ?_, ?_, ?_, ?_, ?_, ?_, ?_, ?_, ?_, ?_, ?_, ?_, ?_, ?_, ?_, ?_, ?_, trivial⟩
                      all_goals
                        intro ρ x hp ρc ρg ρf ho hd
                        have o2 : ρ (.tmp 2) = .pointer (some ⟨w.heap.size, 0, none⟩) := ho 2 rfl
                        have o3 : ρ (.tmp 3) = .pointer (some ⟨w.heap.size + 1, 0, none⟩) := ho 3 rfl
                        clear ho
                        have kk := BW.of hs (k_of KX kn hp)
                        obtain ⟨c0, c1, c2, c3, c4⟩ := kk.cell
                        have r1 := kk.ok
                        have r2 := kk.row
                        simp only [depsR, depR, slotR, Fx, List.getElem?_cons_succ, List.getElem?_cons_zero, Region.binds, forall_const] at hd
                        simp only [guardR]
                        go_split_ands
                      · go_simp
                      · go_simp
                      · go_simp
                      · go_simp
                      · go_simp
                      · go_simp
                      · go_simp
                        refine (putU16_any _ _ _ _ h0 h1 hV0 hV1).mono ?_
                        rintro e x' ⟨rfl, hb⟩
                        exact ⟨_, rfl, rfl, hb⟩
                      · go_simp
                      · go_simp
                      · go_simp
                      · go_simp
                      · go_simp
                      · go_simp
                      · go_simp
                        refine (rputU16_any _ _ _ _ h0 h1 hV0 hV1).mono ?_
                        rintro e x' ⟨rfl, hb⟩
                        exact ⟨_, rfl, rfl, hb⟩
                      · have hvv := secEq_refl (putI s At V16.toNat 2)
                        go_simp
                      · go_simp
                      · refine ⟨fun _ => ?_, fun hy => absurd (by simp [yieldR, slotR, *]) hy⟩
                        go_simp
                      · refine ⟨fun _ => ?_, fun hy => absurd (by simp [yieldR, slotR, *]) hy⟩
                        go_simp
                      · refine ⟨fun _ => ?_, fun hy => absurd (by simp [yieldR, slotR, *]) hy⟩
                        go_simp
                      · refine ⟨fun _ => ?_, fun hy => absurd (by simp [yieldR, slotR, *]) hy⟩
                        go_simp
                      · refine ⟨fun _ => ?_, fun hy => absurd (by simp [yieldR, slotR, *]) hy⟩
                        go_simp
                      · refine ⟨fun _ => ?_, fun hy => absurd (by simp [yieldR, slotR, *]) hy⟩
                        go_simp
                        refine (putU32_any _ _ _ _ h0 h1 hv0 hv1).mono ?_
                        rintro e x' ⟨rfl, hb⟩
                        exact ⟨_, rfl, rfl, hb⟩
                      · refine ⟨fun _ => ?_, fun hy => absurd (by simp [yieldR, slotR, *]) hy⟩
                        go_simp
                      · refine ⟨fun _ => ?_, fun hy => absurd (by simp [yieldR, slotR, *]) hy⟩
                        go_simp
                      · refine ⟨fun _ => ?_, fun hy => absurd (by simp [yieldR, slotR, *]) hy⟩
                        go_simp
                      · refine ⟨fun _ => ?_, fun hy => absurd (by simp [yieldR, slotR, *]) hy⟩
                        go_simp
                      · refine ⟨fun _ => ?_, fun hy => absurd (by simp [yieldR, slotR, *]) hy⟩
                        go_simp
                      · refine ⟨fun _ => ?_, fun hy => absurd (by simp [yieldR, slotR, *]) hy⟩
                        go_simp
                        refine (rputU32_any _ _ _ _ h0 h1 hv0 hv1).mono ?_
                        rintro e x' ⟨rfl, hb⟩
                        exact ⟨_, rfl, rfl, hb⟩
                      · refine ⟨fun _ => ?_, fun hy => absurd (by simp [yieldR, slotR, *]) hy⟩
                        have hvv := secEq_refl (putI s At Av.toNat 4)
                        go_simp
                      · go_simp
                    · intro vs x hp hw
                      simp only [owed, Fx] at hw
                      obtain ⟨e0, e1, e2, e3, e4, e5, e6, e7, e8, e9, e10, e11, e12, e13, e14, e15, e16, e17, e18, e19, e20, e21, e22, e23, e24, e25, e26, e27, e28, e29, -⟩ := hw
                      simp only [List.length_cons, List.length_nil, List.take_succ_cons, List.take_nil, List.drop_succ_cons, List.drop_nil, asg, List.cons_append, List.nil_append, e0, e1, e2, e3, e4, e5, e6, e7, e8, e9, e10, e11, e12, e13, e14, e15, e16, e17, e18, e19, e20, e21, e22, e23, e24, e25, e26, e27, e28, e29]
                      clear e0 e1 e2 e3 e4 e5 e6 e7 e8 e9 e10 e11 e12 e13 e14 e15 e16 e17 e18 e19 e20 e21 e22 e23 e24 e25 e26 e27 e28 e29
                      replace KX := k_of KX kn hp
                      replace kn := Nat.le_trans kn hp.size
                      obtain ⟨c0, c1, c2, c3, c4⟩ := (BW.of hs KX).cell
                      have r1 := (BW.of hs KX).ok
                      have r2 := (BW.of hs KX).row
                      go_wp2_with fail
                      refine (lent_any _ l _ hl (BW.of hs KX).isb).mono ?_
                      rintro e x2 ⟨g14, c14, rfl, hc14, hcm, I14, hb⟩
                      replace KX := k_of KX kn hb
                      replace kn := Nat.le_trans kn hb.size
                      clear c0 c1 c2 c3 c4 r1 r2
                      unfold maxLen at hcm
                      go_upto_region 31 with fail
                      refine wp_relies [Fx (.agg (secA s)), Fx (.pointer (some ⟨w.heap.size + 1, 0, none⟩)), Fx (.int .i64 At), Fx (.slice (some ⟨g14, 0, none⟩) l.length c14), Fx (.agg (secA (layI s At l))), Fx (.agg (secA s)), Fx (.pointer (some ⟨w.heap.size + 1, 0, none⟩)), Fx (.int .i64 At), Fx (.pointer (some ⟨w.heap.size + 1, 4, none⟩)), Fx (.slice sx l.length sc), Fx (.agg (secA (layI s At l))), Fx (.bool false), Fx (.bool false), Fx (.slice (some ⟨g14, 0, none⟩) l.length c14), Fx (.string ⟨l.toArray⟩), Fx (.pointer (some ⟨w.heap.size + 1, 4, none⟩)), Fx (.slice sx l.length sc), Fx (.string ⟨l.toArray⟩), Fx (.bool false), Fx (.bool false), Fx (.bool false), Fx (.slice (some ⟨g14, 0, none⟩) l.length c14), Fx (.pointer (some ⟨w.heap.size + 1, 4, none⟩)), Fx (.slice sx l.length sc), Fx (.int .i64 (l.length : Nat)), Fx (.int .i64 ((l.length : Nat) + 1)), Fx (.slice (some ⟨g14, 0, none⟩) (l.length + 1) c14), Fx (.pointer (some ⟨w.heap.size + 1, 4, none⟩)), Fx (.slice sx l.length sc), Fx (.int .i64 (l.length : Nat)), Fx (.pointer (some ⟨g14, l.length, none⟩)), Fx (.int .u8 195), Fx (.bool false), Fx (.bool false)] (by kernel_rfl) (by kernel_rfl) ?_ ?_ ?_
                      · repeat' (first | exact all_nil | apply all_cons)
                        all_goals intro v y y' hv hb
                        all_goals first | exact Fx_mono _ _ _ _ hv hb
                      · refine ⟨?_, ?_, ?_, ?_, ?_, ?_, ?_, ?_, ?_, ?_, ?_, ?_, ?_, ?_, ?_, ?_, ?_, ?_, ?_, ?_, ?_, ?_, ?_, ?_, ?_, ?_, ?_, ?_, ?_, ?_, ?_, ?_, ?_, ?_, trivial⟩
                        all_goals
                          intro ρ x hp ρc ρg ρf ho hd
                          have o2 : ρ (.tmp 2) = .pointer (some ⟨w.heap.size, 0, none⟩) := ho 2 rfl
                          have o3 : ρ (.tmp 3) = .pointer (some ⟨w.heap.size + 1, 0, none⟩) := ho 3 rfl
                          have o14 : ρ (.tmp 14) = .slice (some ⟨g14, 0, none⟩) l.length c14 := ho 14 rfl
                          clear ho
                          have kk := BW.of hs (k_of KX kn hp)
                          obtain ⟨c0, c1, c2, c3, c4⟩ := kk.cell
                          have r1 := kk.ok
                          have r2 := kk.row
                          simp only [depsR, depR, slotR, Fx, List.getElem?_cons_succ, List.getElem?_cons_zero, Region.binds, forall_const] at hd
                          simp only [guardR]
                          go_split_ands
                        · go_simp
                        · go_simp
                        · go_simp
                        · go_simp
                        · go_simp
                          refine (putBytes_any s At _ l _ h0 h1 hlm (isB_short (I14.kept hp))).mono ?_
                          rintro e x' ⟨rfl, hb⟩
                          exact ⟨_, rfl, rfl, hb⟩
                        · go_simp
                        · go_simp
                        · go_simp
                        · go_simp
                        · go_simp
                        · go_simp
                          refine (rputBytes_any s At _ l _ h0 h1 hlm kk.isb).mono ?_
                          rintro e x' ⟨rfl, hb⟩
                          exact ⟨_, rfl, rfl, hb⟩
                        · have hvv := secEq_refl (layI s At l)
                          go_simp
                        · go_simp
                        · refine ⟨fun _ => ?_, fun hy => absurd (by simp [yieldR, slotR, *]) hy⟩
                          go_simp
                        · refine ⟨fun _ => ?_, fun hy => absurd (by simp [yieldR, slotR, *]) hy⟩
                          have hz := (isB_short (I14.kept hp)).str
                          go_simp
                        · refine ⟨fun _ => ?_, fun hy => absurd (by simp [yieldR, slotR, *]) hy⟩
                          go_simp
                        · refine ⟨fun _ => ?_, fun hy => absurd (by simp [yieldR, slotR, *]) hy⟩
                          go_simp
                        · refine ⟨fun _ => ?_, fun hy => absurd (by simp [yieldR, slotR, *]) hy⟩
                          have hz := kk.isb.str
                          go_simp
                        · refine ⟨fun _ => ?_, fun hy => absurd (by simp [yieldR, slotR, *]) hy⟩
                          go_simp
                        · go_simp
                        · go_simp
                        · refine ⟨fun _ => ?_, fun hy => absurd (by simp [yieldR, slotR, *]) hy⟩
                          go_simp
                        · refine ⟨fun _ => ?_, fun hy => absurd (by simp [yieldR, slotR, *]) hy⟩
                          go_simp
                        · refine ⟨fun _ => ?_, fun hy => absurd (by simp [yieldR, slotR, *]) hy⟩
                          go_simp
                        · refine ⟨fun _ => ?_, fun hy => absurd (by simp [yieldR, slotR, *]) hy⟩
                          go_simp
                        · refine ⟨fun _ => ?_, fun hy => absurd (by simp [yieldR, slotR, *]) hy⟩
                          have hw1 : IntKind.i64.wrap ((l.length : Int) + 1) = (l.length : Int) + 1 := by rw [IntKind.wrap_i64]; omega
                          go_simp
                        · refine ⟨fun _ => ?_, fun hy => absurd (by simp [yieldR, slotR, *]) hy⟩
                          have hx := run_slice_hi x g14 l.length c14 hc14
                          go_simp
                        · refine ⟨fun _ => ?_, fun hy => absurd (by simp [yieldR, slotR, *]) hy⟩
                          go_simp
                        · refine ⟨fun _ => ?_, fun hy => absurd (by simp [yieldR, slotR, *]) hy⟩
                          go_simp
                        · refine ⟨fun _ => ?_, fun hy => absurd (by simp [yieldR, slotR, *]) hy⟩
                          go_simp
                        · refine ⟨fun _ => ?_, fun hy => absurd (by simp [yieldR, slotR, *]) hy⟩
                          have hx1 : (0 : Int) ≤ (l.length : Int) := by omega
                          have hx2 : (l.length : Int) < (l.length : Int) + 1 := by omega
                          go_simp
                        · refine ⟨fun _ => ?_, fun hy => absurd (by simp [yieldR, slotR, *]) hy⟩
                          have hx := isB_last (I14.kept hp)
                          go_simp
                        · refine ⟨fun _ => ?_, fun hy => absurd (by simp [yieldR, slotR, *]) hy⟩
                          go_simp
                        · go_simp
                      · intro vs x hp hw
                        simp only [owed, Fx] at hw
                        obtain ⟨e0, e1, e2, e3, e4, e5, e6, e7, e8, e9, e10, e11, e12, e13, e14, e15, e16, e17, e18, e19, e20, e21, e22, e23, e24, e25, e26, e27, e28, e29, e30, e31, e32, e33, -⟩ := hw
                        simp only [List.length_cons, List.length_nil, List.take_succ_cons, List.take_nil, List.drop_succ_cons, List.drop_nil, asg, List.cons_append, List.nil_append, e0, e1, e2, e3, e4, e5, e6, e7, e8, e9, e10, e11, e12, e13, e14, e15, e16, e17, e18, e19, e20, e21, e22, e23, e24, e25, e26, e27, e28, e29, e30, e31, e32, e33]
                        clear e0 e1 e2 e3 e4 e5 e6 e7 e8 e9 e10 e11 e12 e13 e14 e15 e16 e17 e18 e19 e20 e21 e22 e23 e24 e25 e26 e27 e28 e29 e30 e31 e32 e33
                        replace KX := k_of KX kn hp
                        replace kn := Nat.le_trans kn hp.size
                        go_upto_region 33 with fail
                        refine wp_relies [Fx (.agg (secA s)), Fx (.bool (secEq s secZ)), Fx (.agg (secA s)), Fx (.agg (secA secZ)), Fx (.bool (secEq s secZ)), Fx (.bool true), Fx (.bool true), Fx (.agg (secA s)), Fx (.pointer (some ⟨w.heap.size + 1, 0, none⟩)), Fx (.int .i64 At), Fx (.pointer (some ⟨w.heap.size + 1, 2, none⟩)), Fx (.int .i64 To), Fx (.bool (zfB s At To)), Fx (.agg (secA s)), Fx (.pointer (some ⟨w.heap.size + 1, 0, none⟩)), Fx (.int .i64 At), Fx (.pointer (some ⟨w.heap.size + 1, 2, none⟩)), Fx (.int .i64 To), Fx (.bool (zfB s At To)), Fx (.bool true), Fx (.bool true)] (by kernel_rfl) (by kernel_rfl) ?_ ?_ ?_
                        · repeat' (first | exact all_nil | apply all_cons)
                          all_goals intro v y y' hv hb
                          all_goals first | exact Fx_mono _ _ _ _ hv hb
                        · refine ⟨?_, ?_, ?_, ?_, ?_, ?_, ?_, ?_, ?_, ?_, ?_, ?_, ?_, ?_, ?_, ?_, ?_, ?_, ?_, ?_, ?_, trivial⟩
                          all_goals
                            intro ρ x hp ρc ρg ρf ho hd
                            have o2 : ρ (.tmp 2) = .pointer (some ⟨w.heap.size, 0, none⟩) := ho 2 rfl
                            have o3 : ρ (.tmp 3) = .pointer (some ⟨w.heap.size + 1, 0, none⟩) := ho 3 rfl
                            clear ho
                            have kk := BW.of hs (k_of KX kn hp)
                            obtain ⟨c0, c1, c2, c3, c4⟩ := kk.cell
                            have r1 := kk.ok
                            have r2 := kk.row
                            simp only [depsR, depR, slotR, Fx, List.getElem?_cons_succ, List.getElem?_cons_zero, Region.binds, forall_const] at hd
                            simp only [guardR]
                            go_split_ands
                          · go_simp
                          · go_simp
                            refine (zero_any _ _).mono ?_
                            rintro e x' ⟨rfl, hb⟩
                            exact ⟨_, rfl, rfl, hb⟩
                          · go_simp
                          · go_simp
                          · go_simp
                          · go_simp
                          · go_simp
                          · refine ⟨fun _ => ?_, fun hy => absurd (by simp [yieldR, slotR, *]) hy⟩
                            go_simp
                          · refine ⟨fun _ => ?_, fun hy => absurd (by simp [yieldR, slotR, *]) hy⟩
                            go_simp
                          · refine ⟨fun _ => ?_, fun hy => absurd (by simp [yieldR, slotR, *]) hy⟩
                            go_simp
                          · refine ⟨fun _ => ?_, fun hy => absurd (by simp [yieldR, slotR, *]) hy⟩
                            go_simp
                          · refine ⟨fun _ => ?_, fun hy => absurd (by simp [yieldR, slotR, *]) hy⟩
                            go_simp
                          · refine ⟨fun _ => ?_, fun hy => absurd (by simp [yieldR, slotR, *]) hy⟩
                            go_simp
                            refine (zeroFrom_any _ _ _ _).mono ?_
                            rintro e x' ⟨rfl, hb⟩
                            exact ⟨_, rfl, rfl, hb⟩
                          · refine ⟨fun _ => ?_, fun hy => absurd (by simp [yieldR, slotR, *]) hy⟩
                            go_simp
                          · refine ⟨fun _ => ?_, fun hy => absurd (by simp [yieldR, slotR, *]) hy⟩
                            go_simp
                          · refine ⟨fun _ => ?_, fun hy => absurd (by simp [yieldR, slotR, *]) hy⟩
                            go_simp
                          · refine ⟨fun _ => ?_, fun hy => absurd (by simp [yieldR, slotR, *]) hy⟩
                            go_simp
                          · refine ⟨fun _ => ?_, fun hy => absurd (by simp [yieldR, slotR, *]) hy⟩
                            go_simp
                          · refine ⟨fun _ => ?_, fun hy => absurd (by simp [yieldR, slotR, *]) hy⟩
                            go_simp
                            refine (rzeroFrom_any _ _ _ _).mono ?_
                            rintro e x' ⟨rfl, hb⟩
                            exact ⟨_, rfl, rfl, hb⟩
                          · refine ⟨fun _ => ?_, fun hy => absurd (by simp [yieldR, slotR, *]) hy⟩
                            go_simp
                          · go_simp
                        · intro vs x hp hw
                          simp only [owed, Fx] at hw
                          obtain ⟨e0, e1, e2, e3, e4, e5, e6, e7, e8, e9, e10, e11, e12, e13, e14, e15, e16, e17, e18, e19, e20, -⟩ := hw
                          simp only [List.length_cons, List.length_nil, List.take_succ_cons, List.take_zero, List.drop_succ_cons, List.drop_zero, asg, List.cons_append, List.nil_append, e0, e1, e2, e3, e4, e5, e6, e7, e8, e9, e10, e11, e12, e13, e14, e15, e16, e17, e18, e19, e20]
                          clear e0 e1 e2 e3 e4 e5 e6 e7 e8 e9 e10 e11 e12 e13 e14 e15 e16 e17 e18 e19 e20
                          replace KX := k_of KX kn hp
                          replace kn := Nat.le_trans kn hp.size
                          go_wp2
                          go_ret
                          exact ⟨rfl, (BW.of hs KX).below⟩
end Go.Proofs.Ytfihpfaljjljhaa
