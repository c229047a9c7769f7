import Derived.Test.YtfihpfaljjljhaaAsk
namespace Go.Proofs.Ytfihpfaljjljhaa
open Go.RowKit

theorem secEq_self (s : Nat → UInt8) : secEq s s = true := (secEq_iff s s).2 fun _ _ => rfl
theorem putI_ne {s : Nat → UInt8} {At V : Int} {n k : Nat} (h : putI s At V.toNat n k ≠ s k) : inB At n = true ∧ At ≤ (k : Int) ∧ (k : Int) < At + n := by
  unfold putI at h
  split at h
  · rename_i hi
    have h2 := (inB_iff _ _).1 hi
    refine ⟨hi, ?_⟩
    unfold putN at h
    split at h
    · omega
    · exact absurd rfl h
  · exact absurd rfl h
theorem layI_ne {s : Nat → UInt8} {At : Int} {l : List UInt8} {k : Nat} (h : layI s At l k ≠ s k) : inB At l.length = true ∧ At ≤ (k : Int) ∧ (k : Int) < At + l.length := by
  unfold layI at h
  split at h
  · rename_i hi
    have h2 := (inB_iff _ _).1 hi
    refine ⟨hi, ?_⟩
    unfold layL at h
    split at h
    · omega
    · exact absurd rfl h
  · exact absurd rfl h
theorem ne_of_bne {a b : UInt8} (h : (((a.toNat : Nat) : Int) != ((b.toNat : Nat) : Int)) = true) : a ≠ b := by
  rintro rfl; simp at h
theorem put_two (s : Nat → UInt8) (At V : Int) (h : inB At 4 = true) (h0 : 0 ≤ V) (h1 : V < 4294967296) :
    secA (putI (putI s At (V % 65536).toNat 2) (At + 2) (V / 65536 % 65536).toNat 2) = secA (putI s At V.toNat 4) := by
  have h2 := (inB_iff _ _).1 h
  rw [secA_inj]
  intro i hi
  have a1 : inB At ((2 : Nat) : Int) = true := (inB_iff _ _).2 (by omega)
  have a2 : inB (At + 2) ((2 : Nat) : Int) = true := (inB_iff _ _).2 (by omega)
  have a3 : inB At ((4 : Nat) : Int) = true := h
  unfold putI
  rw [if_pos a1, if_pos a2, if_pos a3]
  obtain ⟨a, rfl⟩ := Int.eq_ofNat_of_zero_le h2.1
  obtain ⟨v, rfl⟩ := Int.eq_ofNat_of_zero_le h0
  have e1 : ((a : Int) + 2).toNat = a + 2 := by omega
  have e2 : ((v : Int) % 65536).toNat = v % 65536 := by omega
  have e3 : ((v : Int) / 65536 % 65536).toNat = v / 65536 % 65536 := by omega
  rw [e1, e2, e3, Int.toNat_natCast, Int.toNat_natCast]
  unfold putN
  by_cases c2 : a + 2 ≤ i ∧ i < a + 2 + 2
  · rw [if_pos c2, if_pos (by omega)]
    apply UInt8.toNat_inj.1
    rcases (by omega : i = a + 2 ∨ i = a + 3) with rfl | rfl
    · rw [show a + 2 - (a + 2) = 0 by omega, show a + 2 - a = 2 by omega]; simp <;> omega
    · rw [show a + 3 - (a + 2) = 1 by omega, show a + 3 - a = 3 by omega]; simp <;> omega
  · rw [if_neg c2]
    by_cases c1 : a ≤ i ∧ i < a + 2
    · rw [if_pos c1, if_pos (by omega)]
      apply UInt8.toNat_inj.1
      rcases (by omega : i = a ∨ i = a + 1) with rfl | rfl
      · rw [show i - i = 0 by omega]; simp
      · rw [show a + 1 - a = 1 by omega]; simp <;> omega
    · rw [if_neg c1, if_neg (by omega)]
theorem num_back (s : Nat → UInt8) (At V : Int) (n : Nat) (h : inB At n = true) (h0 : 0 ≤ V) (h1 : V < ((256 ^ n : Nat) : Int)) : ((numI (putI s At V.toNat n) At n : Nat) : Int) = V := by
  rw [numI, putI, if_pos h, if_pos h, Int.toNat_natCast, numN_putN s At.toNat V.toNat n n (Nat.le_refl _), Nat.mod_eq_of_lt (by omega)]
  omega
set_option linter.unusedSimpArgs false in
set_option maxRecDepth 100000 in
set_option maxHeartbeats 1600000 in
theorem lawBack_any (s : Nat → UInt8) (At An To Av : Int) (sl : Value) (l : List UInt8) (w : World) (h0 : -9223372036854775808 ≤ At) (h1 : At ≤ 9223372036854775807) (hv0 : 0 ≤ Av) (hv1 : Av < 4294967296) (hl : l.length ≤ 140737488355328) (hs : IsB w sl l) :
    Calls Try.prog 4 #[.agg (secA s), .agg #[.int .i64 At, .int .i64 An, .int .i64 To, .int .u32 Av, sl]] w fun e w' => e = .returned (.bool true) ∧ Below w.heap.size w w' := by
  obtain ⟨sx, sc, rfl⟩ := hs.len
  obtain ⟨V16, hV⟩ : ∃ x, IntKind.u16.wrap Av = x := ⟨_, rfl⟩
  have hV0 : 0 ≤ V16 := by rw [← hV, IntKind.wrap_u16]; omega
  have hV1 : V16 < 65536 := by rw [← hV, IntKind.wrap_u16]; omega
  go_enter Try.func4, Try.ntmps4
  go_wp2_with fail
  refine (taken_any _).mono ?_
  rintro e w1 ⟨rfl, hb1⟩
  have F1 := (BW.start w s At An To Av (.slice sx l.length sc) l hs).kept hb1
  obtain ⟨c0, -, -, c3, c4⟩ := F1.cell
  have r1 := F1.ok
  have r2 := F1.row
  clear hb1
  go_wp2_with fail
  refine (putU16_any _ _ _ _ (by omega) (by omega) (by omega) (by omega)).mono ?_
  rintro e w2 ⟨rfl, hb2⟩
  generalize hu : putI s At V16.toNat 2 = u
  have Hu : Hid (putI s At V16.toNat 2 = u) := hu
  have F2 := F1.kept hb2
  clear c0 c3 c4 r1 r2 hu F1 hb2
  have F3 := F2.kept (below_alloc w2 (.cells (secA u) 23))
  have R5 := Row.new w2 u 23
  obtain ⟨c0, -, -, c3, c4⟩ := F3.cell
  have r1 := F3.ok
  have r2 := F3.row
  go_wp2_with fail
  refine (putU32_any _ _ _ _ (by omega) (by omega) (by omega) (by omega)).mono ?_
  rintro e w4 ⟨rfl, hb4⟩
  generalize hv : putI s At Av.toNat 4 = v
  have Hv : Hid (putI s At Av.toNat 4 = v) := hv
  have F4 := F3.kept hb4
  have R5' := R5.kept hb4
  clear c0 c3 c4 r1 r2 hv F3 F2 R5 hb4
  generalize w2.heap.size = g5 at R5' ⊢
  have F5 := F4.kept (below_alloc w4 (.cells (secA v) 23))
  have R6 := Row.new w4 v 23
  have R5 := R5'.kept (below_alloc w4 (.cells (secA v) 23))
  clear F4 R5'
  go_upto_region 5 with fail
  generalize w4.alloc (Obj.cells (secA v) 23) = W5 at F5 R5 R6 ⊢
  generalize w4.heap.size = g6 at R6 ⊢
  have hlm : l.length ≤ maxLen := by unfold maxLen; omega
  refine wp_relies [Fx (.agg (secA s)), Fx (.pointer (some ⟨w.heap.size + 1, 0, none⟩)), Fx (.int .i64 At), fun v _ => ∃ g, v = .slice (some ⟨g, 0, none⟩) 0 0,
    Fx (.pointer (some ⟨w.heap.size + 1, 4, none⟩)), Fx (.slice sx l.length sc), fun v x => IsB x v l, Fx (.agg (secA (layI s At l))), fun v x => ∃ g, v = .pointer (some ⟨g, 0, none⟩) ∧ W5.heap.size ≤ g ∧ Row x g secZ] (by kernel_rfl) (by kernel_rfl) ?_ ?_ ?_
  · repeat' (first | exact all_nil | apply all_cons)
    all_goals intro v y y' hv hb
    all_goals first | exact Fx_mono _ _ _ _ hv hb | exact hv | exact IsB.kept hv hb | (obtain ⟨g, h1, h2, h3⟩ := hv; exact ⟨g, h1, h2, h3.kept hb⟩)
  · refine ⟨?_, ?_, ?_, ?_, ?_, ?_, ?_, ?_, ?_, trivial⟩
    all_goals
      intro ρ x hp ρc ρg ρf ho hd
      have o2 : ρ (.tmp 2) = .pointer (some ⟨w.heap.size, 0, none⟩) := ho 2 rfl
      have o3 : ρ (.tmp 3) = .pointer (some ⟨w.heap.size + 1, 0, none⟩) := ho 3 rfl
      clear ho
      have k := F5.kept hp
      obtain ⟨c0, -, -, c3, c4⟩ := k.cell
      have r1 := k.ok
      have r2 := k.row
      simp only [depsR, depR, slotR, Fx, List.getElem?_cons_succ, List.getElem?_cons_zero, Region.binds, forall_const] at hd
      simp only [guardR]
      go_split_ands
    · go_simp
    · go_simp
    · go_simp
    · go_simp
      exact below_alloc _ _
    · go_simp
    · go_simp
    · obtain ⟨g, hg⟩ := ‹∃ g, ρ (.tmp 31) = .slice (some ⟨g, 0, none⟩) 0 0›
      obtain ⟨y, x', hr, hy, hb⟩ := run_app_any x g sx sc l 28 k.isb hl
      rw [BigFrame.execOp_builtin, BigFrame.builtin_append]
      simp only [List.map_toArray, List.map_cons, List.map_nil, hg, ‹ρ (.tmp 33) = _›, Sem.run_bind, hr, Result.andThen_ok, Sem.run_pure, okUpon_value]
      exact ⟨hy, hb⟩
    · go_simp
      refine (putBytes_any s At _ l _ h0 h1 hlm (by assumption)).mono ?_
      rintro e x' ⟨rfl, hb⟩
      exact ⟨_, rfl, rfl, hb⟩
    · go_simp
      exact ⟨⟨hp.size, Row.new _ _ _⟩, below_alloc _ _⟩
  · intro vs x hp hw
    simp only [owed, Fx] at hw
    obtain ⟨e0, e1, e2, ⟨g3, e3⟩, e4, e5, e6, e7, ⟨g7, e8, hg7, R7⟩, -⟩ := hw
    generalize vs (0 + 1 + 1 + 1 + 1 + 1 + 1) = y6 at e6 ⊢
    simp only [List.length_cons, List.length_nil, List.take_succ_cons, List.take_zero, List.drop_succ_cons, List.drop_zero, asg, List.cons_append, List.nil_append, e0, e1, e2, e3, e4, e5, e7, e8]
    have k7 := R7.1
    generalize hwl : layI s At l = wl
    have Hw : Hid (layI s At l = wl) := hwl
    have hb6 := grow_row hp g7 hg7 (secA wl)
    have F6 := F5.kept hb6
    have R5' := R5.kept hb6
    have R6' := R6.kept hb6
    have R7' : Row (x.setRow g7 (secA wl)) g7 wl := ⟨rowOk_setRow_same _ _ _ R7.1 (secA_size _), rowAt_setRow_same _ _ _ R7.1⟩
    clear hwl e6 R7 F5 R5 R6 hb6 hp
    go_upto_region 6 with fail
    generalize x.setRow g7 (secA wl) = W6 at F6 R5' R6' R7' ⊢
    clear k7 hg7 x
    obtain ⟨g0, hg0⟩ : ∃ b, decide (0 ≤ At) = b := ⟨_, rfl⟩
    obtain ⟨q2, hq2⟩ : ∃ b, decide (At ≤ 62) = b := ⟨_, rfl⟩
    obtain ⟨q3, hq3⟩ : ∃ b, decide (At ≤ 60) = b := ⟨_, rfl⟩
    obtain ⟨q4, hq4⟩ : ∃ b, decide (At ≤ 64) = b := ⟨_, rfl⟩
    obtain ⟨q5, hq5⟩ : ∃ b, decide ((l.length : Int) ≤ 64 - At) = b := ⟨_, rfl⟩
    obtain ⟨two, htwo⟩ : ∃ b, (g0 && q2) = b := ⟨_, rfl⟩
    obtain ⟨four, hfour⟩ : ∃ b, (g0 && q3) = b := ⟨_, rfl⟩
    obtain ⟨b8, hb8⟩ : ∃ b, (g0 && q4) = b := ⟨_, rfl⟩
    obtain ⟨all, hall⟩ : ∃ b, (b8 && q5) = b := ⟨_, rfl⟩
    have Htwo : Hid ((g0 && q2) = two) := htwo
    have Hfour : Hid ((g0 && q3) = four) := hfour
    have Hb8 : Hid ((g0 && q4) = b8) := hb8
    have Hall : Hid ((b8 && q5) = all) := hall
    have H2 : Hid (two = true → 0 ≤ At ∧ At ≤ 62) := by
      intro h; rw [← htwo, ← hg0, ← hq2] at h; simpa using h
    have H4 : Hid (four = true → 0 ≤ At ∧ At ≤ 60) := by
      intro h; rw [← hfour, ← hg0, ← hq3] at h; simpa using h
    have HB8 : Hid (b8 = true → 0 ≤ At ∧ At ≤ 64 ∧ IntKind.i64.wrap (64 - At) = 64 - At) := by
      intro h; rw [← hb8, ← hg0, ← hq4] at h
      have h9 : 0 ≤ At ∧ At ≤ 64 := by simpa using h
      exact ⟨h9.1, h9.2, by rw [IntKind.wrap_i64]; omega⟩
    have HA8 : Hid (all = true → 0 ≤ At ∧ At ≤ 64 ∧ (l.length : Int) ≤ 64 - At) := by
      intro h; rw [← hall, ← hb8, ← hg0, ← hq4, ← hq5] at h
      have h9 : (0 ≤ At ∧ At ≤ 64) ∧ (l.length : Int) ≤ 64 - At := by simpa using h
      exact ⟨h9.1.1, h9.1.2, h9.2⟩
    clear htwo hfour hb8 hall
    refine wp_plains [Fx (.pointer (some ⟨w.heap.size + 1, 0, none⟩)), Fx (.int .i64 At), Fx (.bool g0), Fx (.bool g0), Fx (bif g0 then .pointer (some ⟨w.heap.size + 1, 0, none⟩) else undef), Fx (bif g0 then .int .i64 At else undef), Fx (bif g0 then .bool q2 else undef), Fx (.bool two)] (by kernel_rfl) (by kernel_rfl) ?_ ?_ ?_
    · repeat' (first | exact all_nil | apply all_cons)
      all_goals intro v y y' hv hb
      all_goals first | exact Fx_mono _ _ _ _ hv hb
    · refine ⟨?_, ?_, ?_, ?_, ?_, ?_, ?_, ?_, trivial⟩
      all_goals
        intro ρ x hp ρc ρg ρf ho hd
        have o2 : ρ (.tmp 2) = .pointer (some ⟨w.heap.size, 0, none⟩) := ho 2 rfl
        have o3 : ρ (.tmp 3) = .pointer (some ⟨w.heap.size + 1, 0, none⟩) := ho 3 rfl
        clear ho
        have kk := F6.kept hp
        obtain ⟨c0, -, -, c3, c4⟩ := kk.cell
        have r1 := kk.ok
        have r2 := kk.row
        simp only [depsR, depR, slotR, Fx, List.getElem?_cons_succ, List.getElem?_cons_zero, Region.binds, forall_const] at hd
        simp only [guardR]
        go_split_ands
      · go_simp
      · go_simp
      · go_simp
      · go_simp
      · refine ⟨fun hy => ?_, fun hy => ?_⟩
        · obtain rfl : g0 = true := by cases g0 <;> first | rfl | (exfalso; simp [yieldR, slotR, undef, *] at hy)
          go_simp
        · obtain rfl : g0 = false := by cases g0 <;> first | rfl | (exfalso; simp [yieldR, slotR, undef, *] at hy)
          rfl
      · refine ⟨fun hy => ?_, fun hy => ?_⟩
        · obtain rfl : g0 = true := by cases g0 <;> first | rfl | (exfalso; simp [yieldR, slotR, undef, *] at hy)
          go_simp
        · obtain rfl : g0 = false := by cases g0 <;> first | rfl | (exfalso; simp [yieldR, slotR, undef, *] at hy)
          rfl
      · refine ⟨fun hy => ?_, fun hy => ?_⟩
        · obtain rfl : g0 = true := by cases g0 <;> first | rfl | (exfalso; simp [yieldR, slotR, undef, *] at hy)
          go_simp
        · obtain rfl : g0 = false := by cases g0 <;> first | rfl | (exfalso; simp [yieldR, slotR, undef, *] at hy)
          rfl
      · rw [← Htwo.out]
        cases g0 <;> go_simp
    · intro vs x hp hw
      simp only [owed, Fx] at hw
      obtain ⟨e0, e1, e2, e3, e4, e5, e6, e7, -⟩ := hw
      simp only [List.length_cons, List.length_nil, List.take_succ_cons, List.take_zero, List.drop_succ_cons, List.drop_zero, asg, List.cons_append, List.nil_append, e0, e1, e2, e3, e4, e5, e6, e7]
      clear e0 e1 e2 e3 e4 e5 e6 e7
      have F6a := F6.kept hp
      have R5a := R5'.kept hp
      have R6a := R6'.kept hp
      have R7a := R7'.kept hp
      clear F6 R5' R6' R7' hp
      go_upto_region 7 with fail
      refine wp_plains [Fx (.pointer (some ⟨w.heap.size + 1, 0, none⟩)), Fx (.int .i64 At), Fx (.bool g0), Fx (.bool g0), Fx (bif g0 then .pointer (some ⟨w.heap.size + 1, 0, none⟩) else undef), Fx (bif g0 then .int .i64 At else undef), Fx (bif g0 then .bool q3 else undef), Fx (.bool four)] (by kernel_rfl) (by kernel_rfl) ?_ ?_ ?_
      · repeat' (first | exact all_nil | apply all_cons)
        all_goals intro v y y' hv hb
        all_goals first | exact Fx_mono _ _ _ _ hv hb
      · refine ⟨?_, ?_, ?_, ?_, ?_, ?_, ?_, ?_, trivial⟩
        all_goals
          intro ρ x hp ρc ρg ρf ho hd
          have o2 : ρ (.tmp 2) = .pointer (some ⟨w.heap.size, 0, none⟩) := ho 2 rfl
          have o3 : ρ (.tmp 3) = .pointer (some ⟨w.heap.size + 1, 0, none⟩) := ho 3 rfl
          clear ho
          have kk := F6a.kept hp
          obtain ⟨c0, -, -, c3, c4⟩ := kk.cell
          have r1 := kk.ok
          have r2 := kk.row
          simp only [depsR, depR, slotR, Fx, List.getElem?_cons_succ, List.getElem?_cons_zero, Region.binds, forall_const] at hd
          simp only [guardR]
          go_split_ands
        · go_simp
        · go_simp
        · go_simp
        · go_simp
        · refine ⟨fun hy => ?_, fun hy => ?_⟩
          · obtain rfl : g0 = true := by cases g0 <;> first | rfl | (exfalso; simp [yieldR, slotR, undef, *] at hy)
            go_simp
          · obtain rfl : g0 = false := by cases g0 <;> first | rfl | (exfalso; simp [yieldR, slotR, undef, *] at hy)
            rfl
        · refine ⟨fun hy => ?_, fun hy => ?_⟩
          · obtain rfl : g0 = true := by cases g0 <;> first | rfl | (exfalso; simp [yieldR, slotR, undef, *] at hy)
            go_simp
          · obtain rfl : g0 = false := by cases g0 <;> first | rfl | (exfalso; simp [yieldR, slotR, undef, *] at hy)
            rfl
        · refine ⟨fun hy => ?_, fun hy => ?_⟩
          · obtain rfl : g0 = true := by cases g0 <;> first | rfl | (exfalso; simp [yieldR, slotR, undef, *] at hy)
            go_simp
          · obtain rfl : g0 = false := by cases g0 <;> first | rfl | (exfalso; simp [yieldR, slotR, undef, *] at hy)
            rfl
        · rw [← Hfour.out]
          cases g0 <;> go_simp
      · intro vs x hp hw
        simp only [owed, Fx] at hw
        obtain ⟨e0, e1, e2, e3, e4, e5, e6, e7, -⟩ := hw
        simp only [List.length_cons, List.length_nil, List.take_succ_cons, List.take_zero, List.drop_succ_cons, List.drop_zero, asg, List.cons_append, List.nil_append, e0, e1, e2, e3, e4, e5, e6, e7]
        clear e0 e1 e2 e3 e4 e5 e6 e7
        have F6b := F6a.kept hp
        have R5b := R5a.kept hp
        have R6b := R6a.kept hp
        have R7b := R7a.kept hp
        clear F6a R5a R6a R7a hp
        go_upto_region 8 with fail
        refine wp_plains [Fx (.pointer (some ⟨w.heap.size + 1, 0, none⟩)), Fx (.int .i64 At), Fx (.bool g0), Fx (.bool g0), Fx (bif g0 then .pointer (some ⟨w.heap.size + 1, 0, none⟩) else undef), Fx (bif g0 then .int .i64 At else undef), Fx (bif g0 then .bool q4 else undef), Fx (.bool b8), Fx (.bool b8), Fx (bif b8 then .pointer (some ⟨w.heap.size + 1, 4, none⟩) else undef), Fx (bif b8 then .slice sx l.length sc else undef), Fx (bif b8 then .int .i64 (l.length : Nat) else undef), Fx (bif b8 then .pointer (some ⟨w.heap.size + 1, 0, none⟩) else undef), Fx (bif b8 then .int .i64 At else undef), Fx (bif b8 then .int .i64 (64 - At) else undef), Fx (bif b8 then .bool q5 else undef), Fx (.bool all)] (by kernel_rfl) (by kernel_rfl) ?_ ?_ ?_
        · repeat' (first | exact all_nil | apply all_cons)
          all_goals intro v y y' hv hb
          all_goals first | exact Fx_mono _ _ _ _ hv hb
        · refine ⟨?_, ?_, ?_, ?_, ?_, ?_, ?_, ?_, ?_, ?_, ?_, ?_, ?_, ?_, ?_, ?_, ?_, trivial⟩
          all_goals
            intro ρ x hp ρc ρg ρf ho hd
            have o2 : ρ (.tmp 2) = .pointer (some ⟨w.heap.size, 0, none⟩) := ho 2 rfl
            have o3 : ρ (.tmp 3) = .pointer (some ⟨w.heap.size + 1, 0, none⟩) := ho 3 rfl
            clear ho
            have kk := F6b.kept hp
            obtain ⟨c0, -, -, c3, c4⟩ := kk.cell
            have r1 := kk.ok
            have r2 := kk.row
            simp only [depsR, depR, slotR, Fx, List.getElem?_cons_succ, List.getElem?_cons_zero, Region.binds, forall_const] at hd
            simp only [guardR]
            go_split_ands
          · go_simp
          · go_simp
          · go_simp
          · go_simp
          · refine ⟨fun hy => ?_, fun hy => ?_⟩
            · obtain rfl : g0 = true := by cases g0 <;> first | rfl | (exfalso; simp [yieldR, slotR, undef, *] at hy)
              go_simp
            · obtain rfl : g0 = false := by cases g0 <;> first | rfl | (exfalso; simp [yieldR, slotR, undef, *] at hy)
              rfl
          · refine ⟨fun hy => ?_, fun hy => ?_⟩
            · obtain rfl : g0 = true := by cases g0 <;> first | rfl | (exfalso; simp [yieldR, slotR, undef, *] at hy)
              go_simp
            · obtain rfl : g0 = false := by cases g0 <;> first | rfl | (exfalso; simp [yieldR, slotR, undef, *] at hy)
              rfl
          · refine ⟨fun hy => ?_, fun hy => ?_⟩
            · obtain rfl : g0 = true := by cases g0 <;> first | rfl | (exfalso; simp [yieldR, slotR, undef, *] at hy)
              go_simp
            · obtain rfl : g0 = false := by cases g0 <;> first | rfl | (exfalso; simp [yieldR, slotR, undef, *] at hy)
              rfl
          · rw [← Hb8.out]
            cases g0 <;> go_simp
          · go_simp
          · refine ⟨fun hy => ?_, fun hy => ?_⟩
            · obtain rfl : b8 = true := by cases b8 <;> first | rfl | (exfalso; simp [yieldR, slotR, undef, *] at hy)
              go_simp
            · obtain rfl : b8 = false := by cases b8 <;> first | rfl | (exfalso; simp [yieldR, slotR, undef, *] at hy)
              rfl
          · refine ⟨fun hy => ?_, fun hy => ?_⟩
            · obtain rfl : b8 = true := by cases b8 <;> first | rfl | (exfalso; simp [yieldR, slotR, undef, *] at hy)
              go_simp
            · obtain rfl : b8 = false := by cases b8 <;> first | rfl | (exfalso; simp [yieldR, slotR, undef, *] at hy)
              rfl
          · refine ⟨fun hy => ?_, fun hy => ?_⟩
            · obtain rfl : b8 = true := by cases b8 <;> first | rfl | (exfalso; simp [yieldR, slotR, undef, *] at hy)
              go_simp
            · obtain rfl : b8 = false := by cases b8 <;> first | rfl | (exfalso; simp [yieldR, slotR, undef, *] at hy)
              rfl
          · refine ⟨fun hy => ?_, fun hy => ?_⟩
            · obtain rfl : b8 = true := by cases b8 <;> first | rfl | (exfalso; simp [yieldR, slotR, undef, *] at hy)
              go_simp
            · obtain rfl : b8 = false := by cases b8 <;> first | rfl | (exfalso; simp [yieldR, slotR, undef, *] at hy)
              rfl
          · refine ⟨fun hy => ?_, fun hy => ?_⟩
            · obtain rfl : b8 = true := by cases b8 <;> first | rfl | (exfalso; simp [yieldR, slotR, undef, *] at hy)
              go_simp
            · obtain rfl : b8 = false := by cases b8 <;> first | rfl | (exfalso; simp [yieldR, slotR, undef, *] at hy)
              rfl
          · refine ⟨fun hy => ?_, fun hy => ?_⟩
            · obtain rfl : b8 = true := by cases b8 <;> first | rfl | (exfalso; simp [yieldR, slotR, undef, *] at hy)
              obtain ⟨hx1, hx2, hx3⟩ := HB8.out rfl
              go_simp
            · obtain rfl : b8 = false := by cases b8 <;> first | rfl | (exfalso; simp [yieldR, slotR, undef, *] at hy)
              rfl
          · refine ⟨fun hy => ?_, fun hy => ?_⟩
            · obtain rfl : b8 = true := by cases b8 <;> first | rfl | (exfalso; simp [yieldR, slotR, undef, *] at hy)
              go_simp
            · obtain rfl : b8 = false := by cases b8 <;> first | rfl | (exfalso; simp [yieldR, slotR, undef, *] at hy)
              rfl
          · rw [← Hall.out]
            cases b8 <;> go_simp
        · intro vs x hp hw
          simp only [owed, Fx] at hw
          obtain ⟨e0, e1, e2, e3, e4, e5, e6, e7, e8, e9, e10, e11, e12, e13, e14, e15, e16, -⟩ := hw
          simp only [List.length_cons, List.length_nil, List.take_succ_cons, List.take_zero, List.drop_succ_cons, List.drop_zero, asg, List.cons_append, List.nil_append, e0, e1, e2, e3, e4, e5, e6, e7, e8, e9, e10, e11, e12, e13, e14, e15, e16]
          clear e0 e1 e2 e3 e4 e5 e6 e7 e8 e9 e10 e11 e12 e13 e14 e15 e16
          have F8 := F6b.kept hp
          have R5 := R5b.kept hp
          have R6 := R6b.kept hp
          have R7 := R7b.kept hp
          clear F6b R5b R6b R7b hp
          have HU : Hid (two = true → ((numI u At 2 : Nat) : Int) = V16) := by
            intro h2
            have h3 := H2.out h2
            rw [← Hu.out]
            have e : (256 : Nat) ^ 2 = 65536 := by decide
            exact num_back s At V16 2 ((inB_iff _ _).2 (by omega)) hV0 (by rw [e]; omega)
          have HV : Hid (four = true → ((numI v At 4 : Nat) : Int) = Av) := by
            intro h2
            have h3 := H4.out h2
            rw [← Hv.out]
            have e : (256 : Nat) ^ 4 = 4294967296 := by decide
            exact num_back s At Av 4 ((inB_iff _ _).2 (by omega)) hv0 (by rw [e]; omega)
          have HA : Hid (all = true → inB At (l.length : Int) = true ∧ subL wl At.toNat l.length = l) := by
            intro h2
            have h3 := HA8.out h2
            have hi : inB At (l.length : Int) = true := (inB_iff _ _).2 (by omega)
            refine ⟨hi, ?_⟩
            rw [← Hw.out, layI, if_pos hi]
            exact subL_lay s At.toNat l
          go_upto_region 9 with fail
          refine wp_relies [Fx (.bool two), Fx (.bool two), Fx (bif two then .agg (secA u) else undef), Fx (bif two then .pointer (some ⟨w.heap.size + 1, 0, none⟩) else undef), Fx (bif two then .int .i64 At else undef), Fx (bif two then .int .u16 (numI u At 2 : Nat) else undef), Fx (bif two then .pointer (some ⟨w.heap.size + 1, 3, none⟩) else undef), Fx (bif two then .int .u32 Av else undef), Fx (bif two then .int .u16 V16 else undef), Fx (bif two then .bool false else undef), Fx (.bool false), Fx (.bool false), Fx (.bool four), Fx (.bool four), Fx (bif four then .agg (secA v) else undef), Fx (bif four then .pointer (some ⟨w.heap.size + 1, 0, none⟩) else undef), Fx (bif four then .int .i64 At else undef), Fx (bif four then .int .u32 (numI v At 4 : Nat) else undef), Fx (bif four then .pointer (some ⟨w.heap.size + 1, 3, none⟩) else undef), Fx (bif four then .int .u32 Av else undef), Fx (bif four then .bool false else undef), Fx (.bool false), Fx (.bool false), Fx (.bool false), Fx (.bool all), Fx (.bool all), Fx (bif all then .agg (secA wl) else undef), Fx (bif all then .pointer (some ⟨w.heap.size + 1, 0, none⟩) else undef), Fx (bif all then .int .i64 At else undef), Fx (bif all then .pointer (some ⟨w.heap.size + 1, 4, none⟩) else undef), Fx (bif all then .slice sx l.length sc else undef), Fx (bif all then .int .i64 (l.length : Nat) else undef), fun v x => all = true → IsB x v l, Fx (bif all then .string ⟨l.toArray⟩ else undef), Fx (bif all then .pointer (some ⟨w.heap.size + 1, 4, none⟩) else undef), Fx (bif all then .slice sx l.length sc else undef), Fx (bif all then .string ⟨l.toArray⟩ else undef), Fx (bif all then .bool false else undef), Fx (.bool false), Fx (.bool false)] (by kernel_rfl) (by kernel_rfl) ?_ ?_ ?_
          · repeat' (first | exact all_nil | apply all_cons)
            all_goals intro v y y' hv hb
            all_goals first | exact Fx_mono _ _ _ _ hv hb | exact fun h => (hv h).kept hb
          · refine ⟨?_, ?_, ?_, ?_, ?_, ?_, ?_, ?_, ?_, ?_, ?_, ?_, ?_, ?_, ?_, ?_, ?_, ?_, ?_, ?_, ?_, ?_, ?_, ?_, ?_, ?_, ?_, ?_, ?_, ?_, ?_, ?_, ?_, ?_, ?_, ?_, ?_, ?_, ?_, ?_, trivial⟩
            all_goals
              intro ρ x hp ρc ρg ρf ho hd
              have o2 : ρ (.tmp 2) = .pointer (some ⟨w.heap.size, 0, none⟩) := ho 2 rfl
              have o3 : ρ (.tmp 3) = .pointer (some ⟨w.heap.size + 1, 0, none⟩) := ho 3 rfl
              have o5 : ρ (.tmp 5) = .pointer (some ⟨g5, 0, none⟩) := ho 5 rfl
              have o6 : ρ (.tmp 6) = .pointer (some ⟨g6, 0, none⟩) := ho 6 rfl
              have o7 : ρ (.tmp 7) = .pointer (some ⟨g7, 0, none⟩) := ho 7 rfl
              have o8 : ρ (.tmp 8) = .bool two := ho 8 rfl
              have o9 : ρ (.tmp 9) = .bool four := ho 9 rfl
              have o10 : ρ (.tmp 10) = .bool all := ho 10 rfl
              clear ho
              have kk := F8.kept hp
              obtain ⟨c0, -, -, c3, c4⟩ := kk.cell
              have r1 := kk.ok
              have r2 := kk.row
              obtain ⟨r5, q5⟩ := R5.kept hp
              obtain ⟨r6, q6⟩ := R6.kept hp
              obtain ⟨r7, q7⟩ := R7.kept hp
              simp only [depsR, depR, slotR, Fx, List.getElem?_cons_succ, List.getElem?_cons_zero, Region.binds, forall_const] at hd
              simp only [guardR]
              go_split_ands
            · go_simp
            · go_simp
            · refine ⟨fun hy => ?_, fun hy => ?_⟩
              · obtain rfl : two = true := by cases two <;> first | rfl | (exfalso; simp [yieldR, slotR, undef, *] at hy)
                go_simp
              · obtain rfl : two = false := by cases two <;> first | rfl | (exfalso; simp [yieldR, slotR, undef, *] at hy)
                rfl
            · refine ⟨fun hy => ?_, fun hy => ?_⟩
              · obtain rfl : two = true := by cases two <;> first | rfl | (exfalso; simp [yieldR, slotR, undef, *] at hy)
                go_simp
              · obtain rfl : two = false := by cases two <;> first | rfl | (exfalso; simp [yieldR, slotR, undef, *] at hy)
                rfl
            · refine ⟨fun hy => ?_, fun hy => ?_⟩
              · obtain rfl : two = true := by cases two <;> first | rfl | (exfalso; simp [yieldR, slotR, undef, *] at hy)
                go_simp
              · obtain rfl : two = false := by cases two <;> first | rfl | (exfalso; simp [yieldR, slotR, undef, *] at hy)
                rfl
            · refine ⟨fun hy => ?_, fun hy => ?_⟩
              · obtain rfl : two = true := by cases two <;> first | rfl | (exfalso; simp [yieldR, slotR, undef, *] at hy)
                go_simp
                refine (u16_any _ _ _ h0 h1).mono ?_
                rintro e x' ⟨rfl, hb⟩
                exact ⟨_, rfl, rfl, hb⟩
              · obtain rfl : two = false := by cases two <;> first | rfl | (exfalso; simp [yieldR, slotR, undef, *] at hy)
                rfl
            · refine ⟨fun hy => ?_, fun hy => ?_⟩
              · obtain rfl : two = true := by cases two <;> first | rfl | (exfalso; simp [yieldR, slotR, undef, *] at hy)
                go_simp
              · obtain rfl : two = false := by cases two <;> first | rfl | (exfalso; simp [yieldR, slotR, undef, *] at hy)
                rfl
            · refine ⟨fun hy => ?_, fun hy => ?_⟩
              · obtain rfl : two = true := by cases two <;> first | rfl | (exfalso; simp [yieldR, slotR, undef, *] at hy)
                go_simp
              · obtain rfl : two = false := by cases two <;> first | rfl | (exfalso; simp [yieldR, slotR, undef, *] at hy)
                rfl
            · refine ⟨fun hy => ?_, fun hy => ?_⟩
              · obtain rfl : two = true := by cases two <;> first | rfl | (exfalso; simp [yieldR, slotR, undef, *] at hy)
                go_simp
              · obtain rfl : two = false := by cases two <;> first | rfl | (exfalso; simp [yieldR, slotR, undef, *] at hy)
                rfl
            · refine ⟨fun hy => ?_, fun hy => ?_⟩
              · obtain rfl : two = true := by cases two <;> first | rfl | (exfalso; simp [yieldR, slotR, undef, *] at hy)
                have hn := HU.out rfl
                go_simp
              · obtain rfl : two = false := by cases two <;> first | rfl | (exfalso; simp [yieldR, slotR, undef, *] at hy)
                rfl
            · cases two <;> go_simp
            · go_simp
            · refine ⟨fun _ => ?_, fun hy => absurd (by simp [yieldR, slotR, *]) hy⟩
              go_simp
            · refine ⟨fun _ => ?_, fun hy => absurd (by simp [yieldR, slotR, *]) hy⟩
              go_simp
            · refine ⟨fun hy => ?_, fun hy => ?_⟩
              · obtain rfl : four = true := by cases four <;> first | rfl | (exfalso; simp [yieldR, slotR, undef, *] at hy)
                go_simp
              · obtain rfl : four = false := by cases four <;> first | rfl | (exfalso; simp [yieldR, slotR, undef, *] at hy)
                rfl
            · refine ⟨fun hy => ?_, fun hy => ?_⟩
              · obtain rfl : four = true := by cases four <;> first | rfl | (exfalso; simp [yieldR, slotR, undef, *] at hy)
                go_simp
              · obtain rfl : four = false := by cases four <;> first | rfl | (exfalso; simp [yieldR, slotR, undef, *] at hy)
                rfl
            · refine ⟨fun hy => ?_, fun hy => ?_⟩
              · obtain rfl : four = true := by cases four <;> first | rfl | (exfalso; simp [yieldR, slotR, undef, *] at hy)
                go_simp
              · obtain rfl : four = false := by cases four <;> first | rfl | (exfalso; simp [yieldR, slotR, undef, *] at hy)
                rfl
            · refine ⟨fun hy => ?_, fun hy => ?_⟩
              · obtain rfl : four = true := by cases four <;> first | rfl | (exfalso; simp [yieldR, slotR, undef, *] at hy)
                go_simp
                refine (u32_any _ _ _ h0 h1).mono ?_
                rintro e x' ⟨rfl, hb⟩
                exact ⟨_, rfl, rfl, hb⟩
              · obtain rfl : four = false := by cases four <;> first | rfl | (exfalso; simp [yieldR, slotR, undef, *] at hy)
                rfl
            · refine ⟨fun hy => ?_, fun hy => ?_⟩
              · obtain rfl : four = true := by cases four <;> first | rfl | (exfalso; simp [yieldR, slotR, undef, *] at hy)
                go_simp
              · obtain rfl : four = false := by cases four <;> first | rfl | (exfalso; simp [yieldR, slotR, undef, *] at hy)
                rfl
            · refine ⟨fun hy => ?_, fun hy => ?_⟩
              · obtain rfl : four = true := by cases four <;> first | rfl | (exfalso; simp [yieldR, slotR, undef, *] at hy)
                go_simp
              · obtain rfl : four = false := by cases four <;> first | rfl | (exfalso; simp [yieldR, slotR, undef, *] at hy)
                rfl
            · refine ⟨fun hy => ?_, fun hy => ?_⟩
              · obtain rfl : four = true := by cases four <;> first | rfl | (exfalso; simp [yieldR, slotR, undef, *] at hy)
                have hn := HV.out rfl
                go_simp
              · obtain rfl : four = false := by cases four <;> first | rfl | (exfalso; simp [yieldR, slotR, undef, *] at hy)
                rfl
            · refine ⟨fun _ => ?_, fun hy => absurd (by simp [yieldR, slotR, *]) hy⟩
              cases four <;> go_simp
            · go_simp
            · go_simp
            · refine ⟨fun _ => ?_, fun hy => absurd (by simp [yieldR, slotR, *]) hy⟩
              go_simp
            · refine ⟨fun _ => ?_, fun hy => absurd (by simp [yieldR, slotR, *]) hy⟩
              go_simp
            · refine ⟨fun hy => ?_, fun hy => ?_⟩
              · obtain rfl : all = true := by cases all <;> first | rfl | (exfalso; simp [yieldR, slotR, undef, *] at hy)
                go_simp
              · obtain rfl : all = false := by cases all <;> first | rfl | (exfalso; simp [yieldR, slotR, undef, *] at hy)
                rfl
            · refine ⟨fun hy => ?_, fun hy => ?_⟩
              · obtain rfl : all = true := by cases all <;> first | rfl | (exfalso; simp [yieldR, slotR, undef, *] at hy)
                go_simp
              · obtain rfl : all = false := by cases all <;> first | rfl | (exfalso; simp [yieldR, slotR, undef, *] at hy)
                rfl
            · refine ⟨fun hy => ?_, fun hy => ?_⟩
              · obtain rfl : all = true := by cases all <;> first | rfl | (exfalso; simp [yieldR, slotR, undef, *] at hy)
                go_simp
              · obtain rfl : all = false := by cases all <;> first | rfl | (exfalso; simp [yieldR, slotR, undef, *] at hy)
                rfl
            · refine ⟨fun hy => ?_, fun hy => ?_⟩
              · obtain rfl : all = true := by cases all <;> first | rfl | (exfalso; simp [yieldR, slotR, undef, *] at hy)
                go_simp
              · obtain rfl : all = false := by cases all <;> first | rfl | (exfalso; simp [yieldR, slotR, undef, *] at hy)
                rfl
            · refine ⟨fun hy => ?_, fun hy => ?_⟩
              · obtain rfl : all = true := by cases all <;> first | rfl | (exfalso; simp [yieldR, slotR, undef, *] at hy)
                go_simp
              · obtain rfl : all = false := by cases all <;> first | rfl | (exfalso; simp [yieldR, slotR, undef, *] at hy)
                rfl
            · refine ⟨fun hy => ?_, fun hy => ?_⟩
              · obtain rfl : all = true := by cases all <;> first | rfl | (exfalso; simp [yieldR, slotR, undef, *] at hy)
                go_simp
              · obtain rfl : all = false := by cases all <;> first | rfl | (exfalso; simp [yieldR, slotR, undef, *] at hy)
                rfl
            · refine ⟨fun hy => ?_, fun hy => ?_⟩
              · obtain rfl : all = true := by cases all <;> first | rfl | (exfalso; simp [yieldR, slotR, undef, *] at hy)
                go_simp
                obtain ⟨hi, hsub⟩ := HA.out rfl
                refine (bytes_in _ _ _ _ hi).mono ?_
                rintro e x' ⟨g, rfl, hg, hr, hb⟩
                refine ⟨_, rfl, ?_, hb⟩
                have hz := hr.isB l.length
                rw [Int.toNat_natCast, hsub] at hz
                rw [Int.toNat_natCast]
                exact hz
              · obtain rfl : all = false := by cases all <;> first | rfl | (exfalso; simp [yieldR, slotR, undef, *] at hy)
                exact fun h => by cases h
            · refine ⟨fun hy => ?_, fun hy => ?_⟩
              · obtain rfl : all = true := by cases all <;> first | rfl | (exfalso; simp [yieldR, slotR, undef, *] at hy)
                have hz := (‹true = true → IsB x (ρ (.tmp 101)) l› rfl).str
                go_simp
              · obtain rfl : all = false := by cases all <;> first | rfl | (exfalso; simp [yieldR, slotR, undef, *] at hy)
                rfl
            · refine ⟨fun hy => ?_, fun hy => ?_⟩
              · obtain rfl : all = true := by cases all <;> first | rfl | (exfalso; simp [yieldR, slotR, undef, *] at hy)
                go_simp
              · obtain rfl : all = false := by cases all <;> first | rfl | (exfalso; simp [yieldR, slotR, undef, *] at hy)
                rfl
            · refine ⟨fun hy => ?_, fun hy => ?_⟩
              · obtain rfl : all = true := by cases all <;> first | rfl | (exfalso; simp [yieldR, slotR, undef, *] at hy)
                go_simp
              · obtain rfl : all = false := by cases all <;> first | rfl | (exfalso; simp [yieldR, slotR, undef, *] at hy)
                rfl
            · refine ⟨fun hy => ?_, fun hy => ?_⟩
              · obtain rfl : all = true := by cases all <;> first | rfl | (exfalso; simp [yieldR, slotR, undef, *] at hy)
                have hz := kk.isb.str
                go_simp
              · obtain rfl : all = false := by cases all <;> first | rfl | (exfalso; simp [yieldR, slotR, undef, *] at hy)
                rfl
            · refine ⟨fun hy => ?_, fun hy => ?_⟩
              · obtain rfl : all = true := by cases all <;> first | rfl | (exfalso; simp [yieldR, slotR, undef, *] at hy)
                go_simp
              · obtain rfl : all = false := by cases all <;> first | rfl | (exfalso; simp [yieldR, slotR, undef, *] at hy)
                rfl
            · refine ⟨fun _ => ?_, fun hy => absurd (by simp [yieldR, slotR, *]) hy⟩
              cases all <;> go_simp
            · go_simp
          · intro vs x hp hw
            simp only [owed, Fx] at hw
            obtain ⟨e0, e1, e2, e3, e4, e5, e6, e7, e8, e9, e10, e11, e12, e13, e14, e15, e16, e17, e18, e19, e20, e21, e22, e23, e24, e25, e26, e27, e28, e29, e30, e31, e32, e33, e34, e35, e36, e37, e38, e39, -⟩ := hw
            simp only [List.length_cons, List.length_nil, List.take_succ_cons, List.take_nil, List.drop_succ_cons, List.drop_nil, asg, List.cons_append, List.nil_append, e0, e1, e2, e3, e4, e5, e6, e7, e8, e9, e10, e11, e12, e13, e14, e15, e16, e17, e18, e19, e20, e21, e22, e23, e24, e25, e26, e27, e28, e29, e30, e31, e33, e34, e35, e36, e37, e38, e39]
            clear e0 e1 e2 e3 e4 e5 e6 e7 e8 e9 e10 e11 e12 e13 e14 e15 e16 e17 e18 e19 e20 e21 e22 e23 e24 e25 e26 e27 e28 e29 e30 e31 e33 e34 e35 e36 e37 e38 e39 e32
            have F9 := F8.kept hp
            have R5c := R5.kept hp
            have R6c := R6.kept hp
            have R7c := R7.kept hp
            clear F8 R5 R6 R7 hp
            go_wp2_with fail
            generalize x = X9 at F9 R5c R6c R7c ⊢
            go_loopw [11] (fun i w' => ∃ k : Nat, k ≤ 64 ∧ i = .int .i64 k ∧ Below X9.heap.size X9 w') (fun i _ => 64 - (intOf i).toNat)
            case atStart => exact ⟨0, by omega, rfl, Below.refl _ _⟩
            case round =>
              obtain ⟨k, hk64, rfl, hb9⟩ := hrel
              have FA := F9.kept hb9
              have RA5 := R5c.kept hb9
              have RA6 := R6c.kept hb9
              have RA7 := R7c.kept hb9
              by_cases hk : k < 64
              · have hk0 : (0 : Int) ≤ (k : Int) := by omega
                have hk1 : (k : Int) < 64 := by omega
                obtain ⟨d, hd⟩ : ∃ d, (((u k).toNat : Int) != ((s k).toNat : Int)) = d := ⟨_, rfl⟩
                have Hd : Hid ((((u k).toNat : Int) != ((s k).toNat : Int)) = d) := hd
                have HD : Hid (d = true → two = true ∧ ¬ (k : Int) < At ∧ ¬ At + 1 < (k : Int) ∧ IntKind.i64.wrap (At + 1) = At + 1) := by
                  intro h
                  have h3 := ne_of_bne (hd.trans h)
                  rw [← Hu.out] at h3
                  obtain ⟨h4, h5, h6⟩ := putI_ne h3
                  have h7 := (inB_iff _ _).1 h4
                  refine ⟨?_, by omega, by omega, by rw [IntKind.wrap_i64]; omega⟩
                  rw [← Htwo.out, ← hg0, ← hq2]; simp; omega
                clear hd
                go_upto_region 14 with fail
                refine wp_relies [Fx (.int .i64 (k : Nat)), Fx (.pointer (some ⟨g5, k, none⟩)), Fx (.int .u8 ((u k).toNat : Int)), Fx (.int .i64 (k : Nat)), Fx (.pointer (some ⟨w.heap.size, k, none⟩)), Fx (.int .u8 ((s k).toNat : Int)), Fx (.bool d), Fx (.bool d), Fx (bif d then .bool two else undef), Fx (bif d then .bool false else undef), Fx (bif d then .bool false else undef), Fx (bif d then .int .i64 (k : Nat) else undef), Fx (bif d then .pointer (some ⟨w.heap.size + 1, 0, none⟩) else undef), Fx (bif d then .int .i64 At else undef), Fx (bif d then .bool false else undef), Fx (bif d then .bool false else undef), Fx (bif d then .bool false else undef), Fx (bif d then .int .i64 (k : Nat) else undef), Fx (bif d then .pointer (some ⟨w.heap.size + 1, 0, none⟩) else undef), Fx (bif d then .int .i64 At else undef), Fx (bif d then .int .i64 (At + 1) else undef), Fx (bif d then .bool false else undef), Fx (bif d then .bool false else undef), Fx (.bool false)] (by kernel_rfl) (by kernel_rfl) ?_ ?_ ?_
                · repeat' (first | exact all_nil | apply all_cons)
                  all_goals intro v y y' hv hb
                  all_goals first | exact Fx_mono _ _ _ _ hv hb
                · refine ⟨?_, ?_, ?_, ?_, ?_, ?_, ?_, ?_, ?_, ?_, ?_, ?_, ?_, ?_, ?_, ?_, ?_, ?_, ?_, ?_, ?_, ?_, ?_, ?_, trivial⟩
                  all_goals
                    intro ρ x hp ρc ρg ρf ho hd
                    have o2 : ρ (.tmp 2) = .pointer (some ⟨w.heap.size, 0, none⟩) := ho 2 rfl
                    have o3 : ρ (.tmp 3) = .pointer (some ⟨w.heap.size + 1, 0, none⟩) := ho 3 rfl
                    have o5 : ρ (.tmp 5) = .pointer (some ⟨g5, 0, none⟩) := ho 5 rfl
                    have o8 : ρ (.tmp 8) = .bool two := ho 8 rfl
                    have o11 : ρ (.tmp 11) = .int .i64 (k : Nat) := ho 11 rfl
                    clear ho
                    have kk := FA.kept hp
                    obtain ⟨c0, -, -, c3, c4⟩ := kk.cell
                    have cs := kk.byte k hk
                    have cr := (RA5.kept hp).cell k hk
                    simp only [depsR, depR, slotR, Fx, List.getElem?_cons_succ, List.getElem?_cons_zero, Region.binds, forall_const] at hd
                    simp only [guardR]
                    go_split_ands
                  · go_simp
                  · go_simp
                  · go_simp
                  · go_simp
                  · go_simp
                  · go_simp
                  · have hdd := Hd.out
                    go_simp
                  · go_simp
                  · refine ⟨fun hy => ?_, fun hy => ?_⟩
                    · obtain rfl : d = true := by cases d <;> first | rfl | (exfalso; simp [yieldR, slotR, undef, *] at hy)
                      go_simp
                    · obtain rfl : d = false := by cases d <;> first | rfl | (exfalso; simp [yieldR, slotR, undef, *] at hy)
                      rfl
                  · refine ⟨fun hy => ?_, fun hy => ?_⟩
                    · obtain rfl : d = true := by cases d <;> first | rfl | (exfalso; simp [yieldR, slotR, undef, *] at hy)
                      obtain ⟨rfl, hx1, hx2, hx3⟩ := HD.out rfl
                      go_simp
                    · obtain rfl : d = false := by cases d <;> first | rfl | (exfalso; simp [yieldR, slotR, undef, *] at hy)
                      rfl
                  · refine ⟨fun hy => ?_, fun hy => ?_⟩
                    · obtain rfl : d = true := by cases d <;> first | rfl | (exfalso; simp [yieldR, slotR, undef, *] at hy)
                      go_simp
                    · obtain rfl : d = false := by cases d <;> first | rfl | (exfalso; simp [yieldR, slotR, undef, *] at hy)
                      rfl
                  · refine ⟨fun hy => ?_, fun hy => ?_⟩
                    · obtain rfl : d = true := by cases d <;> first | rfl | (exfalso; simp [yieldR, slotR, undef, *] at hy)
                      go_simp
                    · obtain rfl : d = false := by cases d <;> first | rfl | (exfalso; simp [yieldR, slotR, undef, *] at hy)
                      rfl
                  · refine ⟨fun hy => ?_, fun hy => ?_⟩
                    · obtain rfl : d = true := by cases d <;> first | rfl | (exfalso; simp [yieldR, slotR, undef, *] at hy)
                      go_simp
                    · obtain rfl : d = false := by cases d <;> first | rfl | (exfalso; simp [yieldR, slotR, undef, *] at hy)
                      rfl
                  · refine ⟨fun hy => ?_, fun hy => ?_⟩
                    · obtain rfl : d = true := by cases d <;> first | rfl | (exfalso; simp [yieldR, slotR, undef, *] at hy)
                      go_simp
                    · obtain rfl : d = false := by cases d <;> first | rfl | (exfalso; simp [yieldR, slotR, undef, *] at hy)
                      rfl
                  · refine ⟨fun hy => ?_, fun hy => ?_⟩
                    · obtain rfl : d = true := by cases d <;> first | rfl | (exfalso; simp [yieldR, slotR, undef, *] at hy)
                      obtain ⟨rfl, hx1, hx2, hx3⟩ := HD.out rfl
                      go_simp
                    · obtain rfl : d = false := by cases d <;> first | rfl | (exfalso; simp [yieldR, slotR, undef, *] at hy)
                      rfl
                  · refine ⟨fun hy => ?_, fun hy => ?_⟩
                    · obtain rfl : d = true := by cases d <;> first | rfl | (exfalso; simp [yieldR, slotR, undef, *] at hy)
                      go_simp
                    · obtain rfl : d = false := by cases d <;> first | rfl | (exfalso; simp [yieldR, slotR, undef, *] at hy)
                      rfl
                  · refine ⟨fun hy => ?_, fun hy => ?_⟩
                    · obtain rfl : d = true := by cases d <;> first | rfl | (exfalso; simp [yieldR, slotR, undef, *] at hy)
                      go_simp
                    · obtain rfl : d = false := by cases d <;> first | rfl | (exfalso; simp [yieldR, slotR, undef, *] at hy)
                      rfl
                  · refine ⟨fun hy => ?_, fun hy => ?_⟩
                    · obtain rfl : d = true := by cases d <;> first | rfl | (exfalso; simp [yieldR, slotR, undef, *] at hy)
                      go_simp
                    · obtain rfl : d = false := by cases d <;> first | rfl | (exfalso; simp [yieldR, slotR, undef, *] at hy)
                      rfl
                  · refine ⟨fun hy => ?_, fun hy => ?_⟩
                    · obtain rfl : d = true := by cases d <;> first | rfl | (exfalso; simp [yieldR, slotR, undef, *] at hy)
                      go_simp
                    · obtain rfl : d = false := by cases d <;> first | rfl | (exfalso; simp [yieldR, slotR, undef, *] at hy)
                      rfl
                  · refine ⟨fun hy => ?_, fun hy => ?_⟩
                    · obtain rfl : d = true := by cases d <;> first | rfl | (exfalso; simp [yieldR, slotR, undef, *] at hy)
                      go_simp
                    · obtain rfl : d = false := by cases d <;> first | rfl | (exfalso; simp [yieldR, slotR, undef, *] at hy)
                      rfl
                  · refine ⟨fun hy => ?_, fun hy => ?_⟩
                    · obtain rfl : d = true := by cases d <;> first | rfl | (exfalso; simp [yieldR, slotR, undef, *] at hy)
                      obtain ⟨rfl, hx1, hx2, hx3⟩ := HD.out rfl
                      go_simp
                    · obtain rfl : d = false := by cases d <;> first | rfl | (exfalso; simp [yieldR, slotR, undef, *] at hy)
                      rfl
                  · refine ⟨fun hy => ?_, fun hy => ?_⟩
                    · obtain rfl : d = true := by cases d <;> first | rfl | (exfalso; simp [yieldR, slotR, undef, *] at hy)
                      obtain ⟨rfl, hx1, hx2, hx3⟩ := HD.out rfl
                      go_simp
                    · obtain rfl : d = false := by cases d <;> first | rfl | (exfalso; simp [yieldR, slotR, undef, *] at hy)
                      rfl
                  · refine ⟨fun hy => ?_, fun hy => ?_⟩
                    · obtain rfl : d = true := by cases d <;> first | rfl | (exfalso; simp [yieldR, slotR, undef, *] at hy)
                      go_simp
                    · obtain rfl : d = false := by cases d <;> first | rfl | (exfalso; simp [yieldR, slotR, undef, *] at hy)
                      rfl
                  · cases d <;> go_simp
                · intro vs x hp hw
                  simp only [owed, Fx] at hw
                  obtain ⟨e0, e1, e2, e3, e4, e5, e6, e7, e8, e9, e10, e11, e12, e13, e14, e15, e16, e17, e18, e19, e20, e21, e22, e23, -⟩ := hw
                  simp only [List.length_cons, List.length_nil, List.take_succ_cons, List.take_nil, List.drop_succ_cons, List.drop_nil, asg, List.cons_append, List.nil_append, e0, e1, e2, e3, e4, e5, e6, e7, e8, e9, e10, e11, e12, e13, e14, e15, e16, e17, e18, e19, e20, e21, e22, e23]
                  clear e0 e1 e2 e3 e4 e5 e6 e7 e8 e9 e10 e11 e12 e13 e14 e15 e16 e17 e18 e19 e20 e21 e22 e23
                  have FB := FA.kept hp
                  have RB5 := RA5.kept hp
                  have RB6 := RA6.kept hp
                  have RB7 := RA7.kept hp
                  have hb10 := grow_call hb9 hp
                  clear FA RA5 RA6 RA7 hp Hd HD hb9
                  obtain ⟨d, hd⟩ : ∃ d, (((v k).toNat : Int) != ((s k).toNat : Int)) = d := ⟨_, rfl⟩
                  have Hd : Hid ((((v k).toNat : Int) != ((s k).toNat : Int)) = d) := hd
                  have HD : Hid (d = true → four = true ∧ ¬ (k : Int) < At ∧ ¬ At + 3 < (k : Int) ∧ IntKind.i64.wrap (At + 3) = At + 3) := by
                    intro h
                    have h3 := ne_of_bne (hd.trans h)
                    rw [← Hv.out] at h3
                    obtain ⟨h4, h5, h6⟩ := putI_ne h3
                    have h7 := (inB_iff _ _).1 h4
                    refine ⟨?_, by omega, by omega, by rw [IntKind.wrap_i64]; omega⟩
                    rw [← Hfour.out, ← hg0, ← hq3]; simp; omega
                  clear hd
                  go_upto_region 16 with fail
                  refine wp_relies [Fx (.int .i64 (k : Nat)), Fx (.pointer (some ⟨g6, k, none⟩)), Fx (.int .u8 ((v k).toNat : Int)), Fx (.int .i64 (k : Nat)), Fx (.pointer (some ⟨w.heap.size, k, none⟩)), Fx (.int .u8 ((s k).toNat : Int)), Fx (.bool d), Fx (.bool d), Fx (bif d then .bool four else undef), Fx (bif d then .bool false else undef), Fx (bif d then .bool false else undef), Fx (bif d then .int .i64 (k : Nat) else undef), Fx (bif d then .pointer (some ⟨w.heap.size + 1, 0, none⟩) else undef), Fx (bif d then .int .i64 At else undef), Fx (bif d then .bool false else undef), Fx (bif d then .bool false else undef), Fx (bif d then .bool false else undef), Fx (bif d then .int .i64 (k : Nat) else undef), Fx (bif d then .pointer (some ⟨w.heap.size + 1, 0, none⟩) else undef), Fx (bif d then .int .i64 At else undef), Fx (bif d then .int .i64 (At + 3) else undef), Fx (bif d then .bool false else undef), Fx (bif d then .bool false else undef), Fx (.bool false)] (by kernel_rfl) (by kernel_rfl) ?_ ?_ ?_
                  · repeat' (first | exact all_nil | apply all_cons)
                    all_goals intro v y y' hv hb
                    all_goals first | exact Fx_mono _ _ _ _ hv hb
                  · refine ⟨?_, ?_, ?_, ?_, ?_, ?_, ?_, ?_, ?_, ?_, ?_, ?_, ?_, ?_, ?_, ?_, ?_, ?_, ?_, ?_, ?_, ?_, ?_, ?_, trivial⟩
                    all_goals
                      intro ρ x hp ρc ρg ρf ho hd
                      have o2 : ρ (.tmp 2) = .pointer (some ⟨w.heap.size, 0, none⟩) := ho 2 rfl
                      have o3 : ρ (.tmp 3) = .pointer (some ⟨w.heap.size + 1, 0, none⟩) := ho 3 rfl
                      have o6 : ρ (.tmp 6) = .pointer (some ⟨g6, 0, none⟩) := ho 6 rfl
                      have o9 : ρ (.tmp 9) = .bool four := ho 9 rfl
                      have o11 : ρ (.tmp 11) = .int .i64 (k : Nat) := ho 11 rfl
                      clear ho
                      have kk := FB.kept hp
                      obtain ⟨c0, -, -, c3, c4⟩ := kk.cell
                      have cs := kk.byte k hk
                      have cr := (RB6.kept hp).cell k hk
                      simp only [depsR, depR, slotR, Fx, List.getElem?_cons_succ, List.getElem?_cons_zero, Region.binds, forall_const] at hd
                      simp only [guardR]
                      go_split_ands
                    · go_simp
                    · go_simp
                    · go_simp
                    · go_simp
                    · go_simp
                    · go_simp
                    · have hdd := Hd.out
                      go_simp
                    · go_simp
                    · refine ⟨fun hy => ?_, fun hy => ?_⟩
                      · obtain rfl : d = true := by cases d <;> first | rfl | (exfalso; simp [yieldR, slotR, undef, *] at hy)
                        go_simp
                      · obtain rfl : d = false := by cases d <;> first | rfl | (exfalso; simp [yieldR, slotR, undef, *] at hy)
                        rfl
                    · refine ⟨fun hy => ?_, fun hy => ?_⟩
                      · obtain rfl : d = true := by cases d <;> first | rfl | (exfalso; simp [yieldR, slotR, undef, *] at hy)
                        obtain ⟨rfl, hx1, hx2, hx3⟩ := HD.out rfl
                        go_simp
                      · obtain rfl : d = false := by cases d <;> first | rfl | (exfalso; simp [yieldR, slotR, undef, *] at hy)
                        rfl
                    · refine ⟨fun hy => ?_, fun hy => ?_⟩
                      · obtain rfl : d = true := by cases d <;> first | rfl | (exfalso; simp [yieldR, slotR, undef, *] at hy)
                        go_simp
                      · obtain rfl : d = false := by cases d <;> first | rfl | (exfalso; simp [yieldR, slotR, undef, *] at hy)
                        rfl
                    · refine ⟨fun hy => ?_, fun hy => ?_⟩
                      · obtain rfl : d = true := by cases d <;> first | rfl | (exfalso; simp [yieldR, slotR, undef, *] at hy)
                        go_simp
                      · obtain rfl : d = false := by cases d <;> first | rfl | (exfalso; simp [yieldR, slotR, undef, *] at hy)
                        rfl
                    · refine ⟨fun hy => ?_, fun hy => ?_⟩
                      · obtain rfl : d = true := by cases d <;> first | rfl | (exfalso; simp [yieldR, slotR, undef, *] at hy)
                        go_simp
                      · obtain rfl : d = false := by cases d <;> first | rfl | (exfalso; simp [yieldR, slotR, undef, *] at hy)
                        rfl
                    · refine ⟨fun hy => ?_, fun hy => ?_⟩
                      · obtain rfl : d = true := by cases d <;> first | rfl | (exfalso; simp [yieldR, slotR, undef, *] at hy)
                        go_simp
                      · obtain rfl : d = false := by cases d <;> first | rfl | (exfalso; simp [yieldR, slotR, undef, *] at hy)
                        rfl
                    · refine ⟨fun hy => ?_, fun hy => ?_⟩
                      · obtain rfl : d = true := by cases d <;> first | rfl | (exfalso; simp [yieldR, slotR, undef, *] at hy)
                        obtain ⟨rfl, hx1, hx2, hx3⟩ := HD.out rfl
                        go_simp
                      · obtain rfl : d = false := by cases d <;> first | rfl | (exfalso; simp [yieldR, slotR, undef, *] at hy)
                        rfl
                    · refine ⟨fun hy => ?_, fun hy => ?_⟩
                      · obtain rfl : d = true := by cases d <;> first | rfl | (exfalso; simp [yieldR, slotR, undef, *] at hy)
                        go_simp
                      · obtain rfl : d = false := by cases d <;> first | rfl | (exfalso; simp [yieldR, slotR, undef, *] at hy)
                        rfl
                    · refine ⟨fun hy => ?_, fun hy => ?_⟩
                      · obtain rfl : d = true := by cases d <;> first | rfl | (exfalso; simp [yieldR, slotR, undef, *] at hy)
                        go_simp
                      · obtain rfl : d = false := by cases d <;> first | rfl | (exfalso; simp [yieldR, slotR, undef, *] at hy)
                        rfl
                    · refine ⟨fun hy => ?_, fun hy => ?_⟩
                      · obtain rfl : d = true := by cases d <;> first | rfl | (exfalso; simp [yieldR, slotR, undef, *] at hy)
                        go_simp
                      · obtain rfl : d = false := by cases d <;> first | rfl | (exfalso; simp [yieldR, slotR, undef, *] at hy)
                        rfl
                    · refine ⟨fun hy => ?_, fun hy => ?_⟩
                      · obtain rfl : d = true := by cases d <;> first | rfl | (exfalso; simp [yieldR, slotR, undef, *] at hy)
                        go_simp
                      · obtain rfl : d = false := by cases d <;> first | rfl | (exfalso; simp [yieldR, slotR, undef, *] at hy)
                        rfl
                    · refine ⟨fun hy => ?_, fun hy => ?_⟩
                      · obtain rfl : d = true := by cases d <;> first | rfl | (exfalso; simp [yieldR, slotR, undef, *] at hy)
                        go_simp
                      · obtain rfl : d = false := by cases d <;> first | rfl | (exfalso; simp [yieldR, slotR, undef, *] at hy)
                        rfl
                    · refine ⟨fun hy => ?_, fun hy => ?_⟩
                      · obtain rfl : d = true := by cases d <;> first | rfl | (exfalso; simp [yieldR, slotR, undef, *] at hy)
                        obtain ⟨rfl, hx1, hx2, hx3⟩ := HD.out rfl
                        go_simp
                      · obtain rfl : d = false := by cases d <;> first | rfl | (exfalso; simp [yieldR, slotR, undef, *] at hy)
                        rfl
                    · refine ⟨fun hy => ?_, fun hy => ?_⟩
                      · obtain rfl : d = true := by cases d <;> first | rfl | (exfalso; simp [yieldR, slotR, undef, *] at hy)
                        obtain ⟨rfl, hx1, hx2, hx3⟩ := HD.out rfl
                        go_simp
                      · obtain rfl : d = false := by cases d <;> first | rfl | (exfalso; simp [yieldR, slotR, undef, *] at hy)
                        rfl
                    · refine ⟨fun hy => ?_, fun hy => ?_⟩
                      · obtain rfl : d = true := by cases d <;> first | rfl | (exfalso; simp [yieldR, slotR, undef, *] at hy)
                        go_simp
                      · obtain rfl : d = false := by cases d <;> first | rfl | (exfalso; simp [yieldR, slotR, undef, *] at hy)
                        rfl
                    · cases d <;> go_simp
                  · intro vs x hp hw
                    simp only [owed, Fx] at hw
                    obtain ⟨e0, e1, e2, e3, e4, e5, e6, e7, e8, e9, e10, e11, e12, e13, e14, e15, e16, e17, e18, e19, e20, e21, e22, e23, -⟩ := hw
                    simp only [List.length_cons, List.length_nil, List.take_succ_cons, List.take_nil, List.drop_succ_cons, List.drop_nil, asg, List.cons_append, List.nil_append, e0, e1, e2, e3, e4, e5, e6, e7, e8, e9, e10, e11, e12, e13, e14, e15, e16, e17, e18, e19, e20, e21, e22, e23]
                    clear e0 e1 e2 e3 e4 e5 e6 e7 e8 e9 e10 e11 e12 e13 e14 e15 e16 e17 e18 e19 e20 e21 e22 e23
                    have FC := FB.kept hp
                    have RC7 := RB7.kept hp
                    have hb11 := grow_call hb10 hp
                    clear FB RB5 RB6 RB7 hp Hd HD hb10
                    obtain ⟨d, hd⟩ : ∃ d, (((wl k).toNat : Int) != ((s k).toNat : Int)) = d := ⟨_, rfl⟩
                    have Hd : Hid ((((wl k).toNat : Int) != ((s k).toNat : Int)) = d) := hd
                    have HD : Hid (d = true → all = true ∧ ¬ (k : Int) < At ∧ ¬ At + (l.length : Int) ≤ (k : Int) ∧ IntKind.i64.wrap (At + (l.length : Int)) = At + (l.length : Int)) := by
                      intro h
                      have h3 := ne_of_bne (hd.trans h)
                      rw [← Hw.out] at h3
                      obtain ⟨h4, h5, h6⟩ := layI_ne h3
                      have h7 := (inB_iff _ _).1 h4
                      refine ⟨?_, by omega, by omega, by rw [IntKind.wrap_i64]; omega⟩
                      rw [← Hall.out, ← Hb8.out, ← hg0, ← hq4, ← hq5]; simp; omega
                    clear hd
                    go_upto_region 18 with fail
                    refine wp_relies [Fx (.int .i64 (k : Nat)), Fx (.pointer (some ⟨g7, k, none⟩)), Fx (.int .u8 ((wl k).toNat : Int)), Fx (.int .i64 (k : Nat)), Fx (.pointer (some ⟨w.heap.size, k, none⟩)), Fx (.int .u8 ((s k).toNat : Int)), Fx (.bool d), Fx (.bool d), Fx (bif d then .bool all else undef), Fx (bif d then .bool false else undef), Fx (bif d then .bool false else undef), Fx (bif d then .int .i64 (k : Nat) else undef), Fx (bif d then .pointer (some ⟨w.heap.size + 1, 0, none⟩) else undef), Fx (bif d then .int .i64 At else undef), Fx (bif d then .bool false else undef), Fx (bif d then .bool false else undef), Fx (bif d then .bool false else undef), Fx (bif d then .int .i64 (k : Nat) else undef), Fx (bif d then .pointer (some ⟨w.heap.size + 1, 0, none⟩) else undef), Fx (bif d then .int .i64 At else undef), Fx (bif d then .pointer (some ⟨w.heap.size + 1, 4, none⟩) else undef), Fx (bif d then .slice sx l.length sc else undef), Fx (bif d then .int .i64 (l.length : Nat) else undef), Fx (bif d then .int .i64 (At + (l.length : Nat)) else undef), Fx (bif d then .bool false else undef), Fx (bif d then .bool false else undef), Fx (.bool false)] (by kernel_rfl) (by kernel_rfl) ?_ ?_ ?_
                    · repeat' (first | exact all_nil | apply all_cons)
                      all_goals intro v y y' hv hb
                      all_goals first | exact Fx_mono _ _ _ _ hv hb
                    · refine ⟨?_, ?_, ?_, ?_, ?_, ?_, ?_, ?_, ?_, ?_, ?_, ?_, ?_, ?_, ?_, ?_, ?_, ?_, ?_, ?_, ?_, ?_, ?_, ?_, ?_, ?_, ?_, trivial⟩
                      all_goals
                        intro ρ x hp ρc ρg ρf ho hd
                        have o2 : ρ (.tmp 2) = .pointer (some ⟨w.heap.size, 0, none⟩) := ho 2 rfl
                        have o3 : ρ (.tmp 3) = .pointer (some ⟨w.heap.size + 1, 0, none⟩) := ho 3 rfl
                        have o7 : ρ (.tmp 7) = .pointer (some ⟨g7, 0, none⟩) := ho 7 rfl
                        have o10 : ρ (.tmp 10) = .bool all := ho 10 rfl
                        have o11 : ρ (.tmp 11) = .int .i64 (k : Nat) := ho 11 rfl
                        clear ho
                        have kk := FC.kept hp
                        obtain ⟨c0, -, -, c3, c4⟩ := kk.cell
                        have cs := kk.byte k hk
                        have cr := (RC7.kept hp).cell k hk
                        simp only [depsR, depR, slotR, Fx, List.getElem?_cons_succ, List.getElem?_cons_zero, Region.binds, forall_const] at hd
                        simp only [guardR]
                        go_split_ands
                      · go_simp
                      · go_simp
                      · go_simp
                      · go_simp
                      · go_simp
                      · go_simp
                      · have hdd := Hd.out
                        go_simp
                      · go_simp
                      · refine ⟨fun hy => ?_, fun hy => ?_⟩
                        · obtain rfl : d = true := by cases d <;> first | rfl | (exfalso; simp [yieldR, slotR, undef, *] at hy)
                          go_simp
                        · obtain rfl : d = false := by cases d <;> first | rfl | (exfalso; simp [yieldR, slotR, undef, *] at hy)
                          rfl
                      · refine ⟨fun hy => ?_, fun hy => ?_⟩
                        · obtain rfl : d = true := by cases d <;> first | rfl | (exfalso; simp [yieldR, slotR, undef, *] at hy)
                          obtain ⟨rfl, hx1, hx2, hx3⟩ := HD.out rfl
                          go_simp
                        · obtain rfl : d = false := by cases d <;> first | rfl | (exfalso; simp [yieldR, slotR, undef, *] at hy)
                          rfl
                      · refine ⟨fun hy => ?_, fun hy => ?_⟩
                        · obtain rfl : d = true := by cases d <;> first | rfl | (exfalso; simp [yieldR, slotR, undef, *] at hy)
                          go_simp
                        · obtain rfl : d = false := by cases d <;> first | rfl | (exfalso; simp [yieldR, slotR, undef, *] at hy)
                          rfl
                      · refine ⟨fun hy => ?_, fun hy => ?_⟩
                        · obtain rfl : d = true := by cases d <;> first | rfl | (exfalso; simp [yieldR, slotR, undef, *] at hy)
                          go_simp
                        · obtain rfl : d = false := by cases d <;> first | rfl | (exfalso; simp [yieldR, slotR, undef, *] at hy)
                          rfl
                      · refine ⟨fun hy => ?_, fun hy => ?_⟩
                        · obtain rfl : d = true := by cases d <;> first | rfl | (exfalso; simp [yieldR, slotR, undef, *] at hy)
                          go_simp
                        · obtain rfl : d = false := by cases d <;> first | rfl | (exfalso; simp [yieldR, slotR, undef, *] at hy)
                          rfl
                      · refine ⟨fun hy => ?_, fun hy => ?_⟩
                        · obtain rfl : d = true := by cases d <;> first | rfl | (exfalso; simp [yieldR, slotR, undef, *] at hy)
                          go_simp
                        · obtain rfl : d = false := by cases d <;> first | rfl | (exfalso; simp [yieldR, slotR, undef, *] at hy)
                          rfl
                      · refine ⟨fun hy => ?_, fun hy => ?_⟩
                        · obtain rfl : d = true := by cases d <;> first | rfl | (exfalso; simp [yieldR, slotR, undef, *] at hy)
                          obtain ⟨rfl, hx1, hx2, hx3⟩ := HD.out rfl
                          go_simp
                        · obtain rfl : d = false := by cases d <;> first | rfl | (exfalso; simp [yieldR, slotR, undef, *] at hy)
                          rfl
                      · refine ⟨fun hy => ?_, fun hy => ?_⟩
                        · obtain rfl : d = true := by cases d <;> first | rfl | (exfalso; simp [yieldR, slotR, undef, *] at hy)
                          go_simp
                        · obtain rfl : d = false := by cases d <;> first | rfl | (exfalso; simp [yieldR, slotR, undef, *] at hy)
                          rfl
                      · refine ⟨fun hy => ?_, fun hy => ?_⟩
                        · obtain rfl : d = true := by cases d <;> first | rfl | (exfalso; simp [yieldR, slotR, undef, *] at hy)
                          go_simp
                        · obtain rfl : d = false := by cases d <;> first | rfl | (exfalso; simp [yieldR, slotR, undef, *] at hy)
                          rfl
                      · refine ⟨fun hy => ?_, fun hy => ?_⟩
                        · obtain rfl : d = true := by cases d <;> first | rfl | (exfalso; simp [yieldR, slotR, undef, *] at hy)
                          go_simp
                        · obtain rfl : d = false := by cases d <;> first | rfl | (exfalso; simp [yieldR, slotR, undef, *] at hy)
                          rfl
                      · refine ⟨fun hy => ?_, fun hy => ?_⟩
                        · obtain rfl : d = true := by cases d <;> first | rfl | (exfalso; simp [yieldR, slotR, undef, *] at hy)
                          go_simp
                        · obtain rfl : d = false := by cases d <;> first | rfl | (exfalso; simp [yieldR, slotR, undef, *] at hy)
                          rfl
                      · refine ⟨fun hy => ?_, fun hy => ?_⟩
                        · obtain rfl : d = true := by cases d <;> first | rfl | (exfalso; simp [yieldR, slotR, undef, *] at hy)
                          go_simp
                        · obtain rfl : d = false := by cases d <;> first | rfl | (exfalso; simp [yieldR, slotR, undef, *] at hy)
                          rfl
                      · refine ⟨fun hy => ?_, fun hy => ?_⟩
                        · obtain rfl : d = true := by cases d <;> first | rfl | (exfalso; simp [yieldR, slotR, undef, *] at hy)
                          go_simp
                        · obtain rfl : d = false := by cases d <;> first | rfl | (exfalso; simp [yieldR, slotR, undef, *] at hy)
                          rfl
                      · refine ⟨fun hy => ?_, fun hy => ?_⟩
                        · obtain rfl : d = true := by cases d <;> first | rfl | (exfalso; simp [yieldR, slotR, undef, *] at hy)
                          go_simp
                        · obtain rfl : d = false := by cases d <;> first | rfl | (exfalso; simp [yieldR, slotR, undef, *] at hy)
                          rfl
                      · refine ⟨fun hy => ?_, fun hy => ?_⟩
                        · obtain rfl : d = true := by cases d <;> first | rfl | (exfalso; simp [yieldR, slotR, undef, *] at hy)
                          go_simp
                        · obtain rfl : d = false := by cases d <;> first | rfl | (exfalso; simp [yieldR, slotR, undef, *] at hy)
                          rfl
                      · refine ⟨fun hy => ?_, fun hy => ?_⟩
                        · obtain rfl : d = true := by cases d <;> first | rfl | (exfalso; simp [yieldR, slotR, undef, *] at hy)
                          obtain ⟨rfl, hx1, hx2, hx3⟩ := HD.out rfl
                          go_simp
                        · obtain rfl : d = false := by cases d <;> first | rfl | (exfalso; simp [yieldR, slotR, undef, *] at hy)
                          rfl
                      · refine ⟨fun hy => ?_, fun hy => ?_⟩
                        · obtain rfl : d = true := by cases d <;> first | rfl | (exfalso; simp [yieldR, slotR, undef, *] at hy)
                          obtain ⟨rfl, hx1, hx2, hx3⟩ := HD.out rfl
                          go_simp
                        · obtain rfl : d = false := by cases d <;> first | rfl | (exfalso; simp [yieldR, slotR, undef, *] at hy)
                          rfl
                      · refine ⟨fun hy => ?_, fun hy => ?_⟩
                        · obtain rfl : d = true := by cases d <;> first | rfl | (exfalso; simp [yieldR, slotR, undef, *] at hy)
                          go_simp
                        · obtain rfl : d = false := by cases d <;> first | rfl | (exfalso; simp [yieldR, slotR, undef, *] at hy)
                          rfl
                      · cases d <;> go_simp
                    · intro vs x hp hw
                      simp only [owed, Fx] at hw
                      obtain ⟨e0, e1, e2, e3, e4, e5, e6, e7, e8, e9, e10, e11, e12, e13, e14, e15, e16, e17, e18, e19, e20, e21, e22, e23, e24, e25, e26, -⟩ := hw
                      simp only [List.length_cons, List.length_nil, List.take_succ_cons, List.take_nil, List.drop_succ_cons, List.drop_nil, asg, List.cons_append, List.nil_append, e0, e1, e2, e3, e4, e5, e6, e7, e8, e9, e10, e11, e12, e13, e14, e15, e16, e17, e18, e19, e20, e21, e22, e23, e24, e25, e26]
                      clear e0 e1 e2 e3 e4 e5 e6 e7 e8 e9 e10 e11 e12 e13 e14 e15 e16 e17 e18 e19 e20 e21 e22 e23 e24 e25 e26
                      have hb12 := grow_call hb11 hp
                      clear FC RC7 hp Hd HD hb11
                      go_wp2
                      go_roundw
                      case rel => exact ⟨k + 1, by omega, by go_num, hb12⟩
                      case measure => simp [intOf]; omega
              · obtain rfl : k = 64 := by omega
                clear hk hk64
                cases four
                · go_wp2
                  go_ret
                  exact ⟨rfl, F9.below.trans (hb9.mono F9.below.size)⟩
                · obtain ⟨Vh, hVh⟩ : ∃ x, IntKind.u16.wrap (Av / 65536) = x := ⟨_, rfl⟩
                  have hVh0 : 0 ≤ Vh := by rw [← hVh, IntKind.wrap_u16]; omega
                  have hVh1 : Vh < 65536 := by rw [← hVh, IntKind.wrap_u16]; omega
                  have h44 := H4.out rfl
                  have hw2 : IntKind.i64.wrap (At + 2) = At + 2 := by rw [IntKind.wrap_i64]; omega
                  have HX : Hid (secA (putI u (At + 2) Vh.toNat 2) = secA v) := by
                    show _ = _
                    rw [← Hu.out, ← Hv.out, ← put_two s At Av ((inB_iff _ _).2 (by omega)) hv0 hv1, ← hVh, ← hV, IntKind.wrap_u16, IntKind.wrap_u16]
                  go_upto_region 21 with fail
                  generalize wr = X10 at FA RA6 hb9 ⊢
                  refine wp_relies [Fx (.agg (secA s)), Fx (.pointer (some ⟨w.heap.size + 1, 0, none⟩)), Fx (.int .i64 At), Fx (.pointer (some ⟨w.heap.size + 1, 3, none⟩)), Fx (.int .u32 Av), Fx (.int .u16 V16), Fx (.agg (secA u)), Fx (.pointer (some ⟨w.heap.size + 1, 0, none⟩)), Fx (.int .i64 At), Fx (.int .i64 (At + 2)), Fx (.pointer (some ⟨w.heap.size + 1, 3, none⟩)), Fx (.int .u32 Av), Fx (.int .u32 (Av / 65536)), Fx (.int .u16 Vh), Fx (.agg (secA v)), fun y x => ∃ g, y = .pointer (some ⟨g, 0, none⟩) ∧ X10.heap.size ≤ g ∧ Row x g secZ] (by kernel_rfl) (by kernel_rfl) ?_ ?_ ?_
                  · repeat' (first | exact all_nil | apply all_cons)
                    all_goals intro v y y' hv hb
                    all_goals first | exact Fx_mono _ _ _ _ hv hb | (obtain ⟨g, h1, h2, h3⟩ := hv; exact ⟨g, h1, h2, h3.kept hb⟩)
                  · refine ⟨?_, ?_, ?_, ?_, ?_, ?_, ?_, ?_, ?_, ?_, ?_, ?_, ?_, ?_, ?_, ?_, trivial⟩
                    all_goals
                      intro ρ x hp ρc ρg ρf ho hd
                      have o2 : ρ (.tmp 2) = .pointer (some ⟨w.heap.size, 0, none⟩) := ho 2 rfl
                      have o3 : ρ (.tmp 3) = .pointer (some ⟨w.heap.size + 1, 0, none⟩) := ho 3 rfl
                      clear ho
                      have kk := FA.kept hp
                      obtain ⟨c0, -, -, c3, c4⟩ := kk.cell
                      have r1 := kk.ok
                      have r2 := kk.row
                      simp only [depsR, depR, slotR, Fx, List.getElem?_cons_succ, List.getElem?_cons_zero, Region.binds, forall_const] at hd
                      simp only [guardR]
                      go_split_ands
                    · go_simp
                    · go_simp
                    · go_simp
                    · go_simp
                    · go_simp
                    · go_simp
                    · go_simp
                      refine (putU16_any _ _ _ _ h0 h1 hV0 hV1).mono ?_
                      rintro e x' ⟨rfl, hb⟩
                      rw [Hu.out]
                      exact ⟨_, rfl, rfl, hb⟩
                    · go_simp
                    · go_simp
                    · go_simp
                    · go_simp
                    · go_simp
                    · go_simp
                    · go_simp
                    · go_simp
                      refine (putU16_any _ _ _ _ (by omega) (by omega) hVh0 hVh1).mono ?_
                      rintro e x' ⟨rfl, hb⟩
                      rw [HX.out]
                      exact ⟨_, rfl, rfl, hb⟩
                    · go_simp
                      exact ⟨⟨hp.size, Row.new _ _ _⟩, below_alloc _ _⟩
                  · intro vs x hp hw
                    simp only [owed, Fx] at hw
                    obtain ⟨e0, e1, e2, e3, e4, e5, e6, e7, e8, e9, e10, e11, e12, e13, e14, ⟨g12, e15, hg12, R12⟩, -⟩ := hw
                    simp only [List.length_cons, List.length_nil, List.take_succ_cons, List.take_zero, List.drop_succ_cons, List.drop_zero, asg, List.cons_append, List.nil_append, e0, e1, e2, e3, e4, e5, e6, e7, e8, e9, e10, e11, e12, e13, e14, e15]
                    clear e0 e1 e2 e3 e4 e5 e6 e7 e8 e9 e10 e11 e12 e13 e14 e15
                    have hb13 := grow_row (grow_call hb9 hp) g12 (by have := hb9.size; omega) (secA v)
                    have k12 := R12.1
                    have FD := F9.kept hb13
                    have RD6 := R6c.kept hb13
                    have RD12 : Row (x.setRow g12 (secA v)) g12 v := ⟨rowOk_setRow_same _ _ _ R12.1 (secA_size _), rowAt_setRow_same _ _ _ R12.1⟩
                    clear hp hb9 hg12 R12
                    go_upto_region 22 with fail
                    clear k12
                    generalize x.setRow g12 (secA v) = X11 at FD RD6 RD12 hb13 ⊢
                    refine wp_relies [Fx (.agg (secA v)), Fx (.agg (secA v)), Fx (.bool true), Fx (.bool true), Fx (.agg (secA v)), Fx (.pointer (some ⟨w.heap.size + 1, 0, none⟩)), Fx (.int .i64 At), Fx (.int .u32 Av), Fx (.pointer (some ⟨w.heap.size + 1, 3, none⟩)), Fx (.int .u32 Av), Fx (.bool true), Fx (.bool true)] (by kernel_rfl) (by kernel_rfl) ?_ ?_ ?_
                    · repeat' (first | exact all_nil | apply all_cons)
                      all_goals intro v y y' hv hb
                      all_goals first | exact Fx_mono _ _ _ _ hv hb
                    · refine ⟨?_, ?_, ?_, ?_, ?_, ?_, ?_, ?_, ?_, ?_, ?_, ?_, trivial⟩
                      all_goals
                        intro ρ x hp ρc ρg ρf ho hd
                        have o3 : ρ (.tmp 3) = .pointer (some ⟨w.heap.size + 1, 0, none⟩) := ho 3 rfl
                        have o6 : ρ (.tmp 6) = .pointer (some ⟨g6, 0, none⟩) := ho 6 rfl
                        have o12 : ρ (.tmp 12) = .pointer (some ⟨g12, 0, none⟩) := ho 12 rfl
                        clear ho
                        have kk := FD.kept hp
                        obtain ⟨c0, -, -, c3, c4⟩ := kk.cell
                        have r1 := kk.ok
                        have r2 := kk.row
                        obtain ⟨r6, q6⟩ := RD6.kept hp
                        obtain ⟨r12, q12⟩ := RD12.kept hp
                        simp only [depsR, depR, slotR, Fx, List.getElem?_cons_succ, List.getElem?_cons_zero, Region.binds, forall_const] at hd
                        simp only [guardR]
                        go_split_ands
                      · go_simp
                      · go_simp
                      · have hvv := secEq_self v
                        go_simp
                      · go_simp
                      · refine ⟨fun _ => ?_, fun hy => absurd (by simp [yieldR, slotR, *]) hy⟩
                        go_simp
                      · refine ⟨fun _ => ?_, fun hy => absurd (by simp [yieldR, slotR, *]) hy⟩
                        go_simp
                      · refine ⟨fun _ => ?_, fun hy => absurd (by simp [yieldR, slotR, *]) hy⟩
                        go_simp
                      · refine ⟨fun _ => ?_, fun hy => absurd (by simp [yieldR, slotR, *]) hy⟩
                        go_simp
                        refine (u32_any _ _ _ h0 h1).mono ?_
                        rintro e x' ⟨rfl, hb⟩
                        rw [HV.out rfl]
                        exact ⟨_, rfl, rfl, hb⟩
                      · refine ⟨fun _ => ?_, fun hy => absurd (by simp [yieldR, slotR, *]) hy⟩
                        go_simp
                      · refine ⟨fun _ => ?_, fun hy => absurd (by simp [yieldR, slotR, *]) hy⟩
                        go_simp
                      · refine ⟨fun _ => ?_, fun hy => absurd (by simp [yieldR, slotR, *]) hy⟩
                        go_simp
                      · go_simp
                    · intro vs x hp hw
                      simp only [owed, Fx] at hw
                      obtain ⟨e0, e1, e2, e3, e4, e5, e6, e7, e8, e9, e10, e11, -⟩ := hw
                      simp only [List.length_cons, List.length_nil, List.take_succ_cons, List.take_zero, List.drop_succ_cons, List.drop_zero, asg, List.cons_append, List.nil_append, e0, e1, e2, e3, e4, e5, e6, e7, e8, e9, e10, e11]
                      clear e0 e1 e2 e3 e4 e5 e6 e7 e8 e9 e10 e11
                      go_wp2
                      go_ret
                      exact ⟨rfl, F9.below.trans ((grow_call hb13 hp).mono F9.below.size)⟩
end Go.Proofs.Ytfihpfaljjljhaa
