import Derived.Test.YtklbdhpnbjhgkaaGreatDoorQDig2
import Derived.Test.YtklbdhpnbjhgkaaGreatDoorQCrcR
import Derived.Test.YtklbdhpnbjhgkaaGreatDoorQFi2
import Derived.Test.YtklbdhpnbjhgkaaGreatDoorQFin2
namespace Go.Proofs.YtklbdhpnbjhgkaaGreatDoor
open Go.RowKit Go.Sort

/-! The document's own sums and comparisons -/
theorem low_bit22 (y : BitVec 32) : (y.toNat : Int) % 2 = bif y.getLsbD 0 then 1 else 0 := by
  have h : y.getLsbD 0 = decide (y.toNat % 2 = 1) := by
    rw [BitVec.getLsbD, Nat.testBit_zero]
  rw [h]
  rcases Nat.mod_two_eq_zero_or_one y.toNat with h2 | h2
  · simp [h2]; omega
  · simp [h2]; omega
theorem not_ones22 (n : BitVec 32) : (4294967295 : Int) - (n.toNat : Int) = ((n ^^^ ones).toNat : Int) := by
  have e : n ^^^ ones = ~~~ n := by rw [show ones = BitVec.allOnes 32 by decide, BitVec.xor_allOnes]
  rw [e, BitVec.toNat_not]
  have := n.isLt
  omega
set_option linter.unusedSimpArgs false in
set_option maxHeartbeats 400000 in
theorem refCrc22 (v : Value) (l : List UInt8) (w : World) (hl : l.length ≤ maxLen) (hv : IsB w v l) :
    Calls Tryz.prog 35 #[v] w fun e w' => e = .returned (.int .u32 ((sumL l).toNat : Nat)) ∧ w' = w := by
  obtain ⟨x, c, rfl⟩ := hv.len
  have hcells := fun k hk => hv.spot k hk
  clear hv
  unfold maxLen at hl
  go_enter Tryz.func35, Tryz.ntmps35
  go_wp2
  go_loop [3, 4] (fun n i => ∃ k : Nat, k ≤ l.length ∧ i = .int .i64 k ∧ n = .int .u32 ((crcL ones (l.take k)).toNat : Nat)) (fun _ i => l.length - (intOf i).toNat)
  case atStart => exact ⟨0, Nat.zero_le _, rfl, by simp only [List.take_zero]; rfl⟩
  case round =>
    obtain ⟨k, hk, rfl, rfl⟩ := hrel
    by_cases hlt : k < l.length
    · obtain ⟨b, o, rfl, hb, hc⟩ := hcells k hlt
      clear hcells
      have HS : Hid (crcL ones (l.take (k + 1)) = byt (crcL ones (l.take k)) (l[k]?.getD 0)) := crcL_take_succ ones l k hlt
      generalize crcL ones (l.take k) = n at HS ⊢
      generalize l[k]?.getD 0 = d at hc HS
      have hd := d.toNat_lt
      obtain ⟨m, hm⟩ : ∃ m, n ^^^ BitVec.ofNat 32 d.toNat = m := ⟨_, rfl⟩
      have hx : bits .xor .u32 (n.toNat : Int) (d.toNat : Int) = (m.toNat : Int) := by rw [← hm]; exact xor_byte n d
      have HM : Hid (crcL ones (l.take (k + 1)) = stN 8 m) := by show _ = _; rw [HS.out, byt, hm]
      clear hm HS
      have hk0 : (0 : Int) ≤ (k : Int) := by omega
      have hk1 : (k : Int) < (l.length : Int) := by omega
      go_wp2
      go_loop [3, 5] (fun y i => ∃ j : Nat, j ≤ 8 ∧ i = .int .i64 j ∧ y = .int .u32 ((stN j m).toNat : Nat)) (fun _ i => 8 - (intOf i).toNat)
      case atStart => exact ⟨0, by omega, rfl, rfl⟩
      case round =>
        obtain ⟨j, hj, rfl, rfl⟩ := hrel
        by_cases hj8 : j < 8
        · have HJ : Hid (stN (j + 1) m = st (stN j m)) := stN_succ' j m
          generalize stN j m = y at HJ ⊢
          have hy := y.isLt
          have ha := low_bit22 y
          have ht : (y.toNat : Int).tmod 2 = (y.toNat : Int) % 2 := Int.tmod_eq_emod_of_nonneg (by omega)
          cases hb0 : y.getLsbD 0
          · rw [hb0] at ha
            simp only [cond_false] at ha
            rw [ha] at ht
            have HZ : Hid ((y.toNat : Int) / (2 : Int) = (((stN (j + 1) m).toNat : Nat) : Int)) := by show _ = _; rw [HJ.out]; exact st_even y hb0
            clear hb0
            go_wp2
            go_round
            case rel => exact ⟨j + 1, by omega, by go_num, by rw [HZ.out]⟩
            case measure => simp [intOf]; omega
          · rw [hb0] at ha
            simp only [cond_true] at ha
            rw [ha] at ht
            have HZ : Hid (bits .xor .u32 ((y.toNat : Int) / (2 : Int)) 3988292384 = (((stN (j + 1) m).toNat : Nat) : Int)) := by show _ = _; rw [HJ.out]; exact st_odd y hb0
            clear hb0
            go_wp2
            go_round
            case rel => exact ⟨j + 1, by omega, by go_num, by rw [HZ.out]⟩
            case measure => simp [intOf]; omega
        · obtain rfl : j = 8 := by omega
          go_wp2
          go_round
          case rel => exact ⟨k + 1, by omega, by go_num, by rw [HM.out]⟩
          case measure => simp [intOf]; omega
    · obtain rfl : k = l.length := by omega
      have hx := not_ones22 (crcL ones l)
      have hlt2 := (crcL ones l).isLt
      rw [List.take_length]
      have HX : Hid (_ = _) := hx
      clear hx
      go_wp2
      go_ret
      exact ⟨ret_int HX.out, rfl⟩
set_option linter.unusedSimpArgs false in
set_option maxHeartbeats 400000 in
theorem refCompare22 (a b : Nat → UInt8) (w : World) : Calls Tryz.prog 70 #[.agg (dg_secA a), .agg (dg_secA b)] w fun e w' => e = .returned (.int .i64 (dcmp a b)) ∧ Below w.heap.size w w' := by
  obtain ⟨r, hr⟩ : ∃ r, dcmp a b = r := ⟨_, rfl⟩
  have HR : Hid _ := hr
  rw [hr]
  clear hr
  have hB : Below w.heap.size w ((w.alloc (.cells (dg_secA a) 50)).alloc (.cells (dg_secA b) 50)) := (below_alloc w _).alloc (by simp) _
  have hRa : DgR ((w.alloc (.cells (dg_secA a) 50)).alloc (.cells (dg_secA b) 50)) w.heap.size a := (DgR.new w a _).kept (below_alloc _ _)
  have hRb : DgR ((w.alloc (.cells (dg_secA a) 50)).alloc (.cells (dg_secA b) 50)) (w.heap.size + 1) b := by
    have := DgR.new (w.alloc (.cells (dg_secA a) 50)) b 50
    rw [World.size_alloc] at this
    exact this
  go_enter Tryz.func70, Tryz.ntmps70
  go_wp2_with fail
  obtain ⟨gb, hgb⟩ : ∃ g, w.heap.size + 1 = g := ⟨_, rfl⟩
  rw [hgb] at hRb
  simp only [hgb]
  clear hgb
  generalize (w.alloc (.cells (dg_secA a) 50)).alloc (.cells (dg_secA b) 50) = X at hB hRa hRb ⊢
  go_loopw [5] (fun i wr => ∃ k : Nat, k ≤ 32 ∧ i = .int .i64 k ∧ (∀ j, j < k → a j = b j) ∧ Below X.heap.size X wr) (fun i _ => 32 - (intOf i).toNat)
  case atStart => exact ⟨0, by omega, rfl, fun j hj => by omega, Below.refl _ _⟩
  case round =>
    obtain ⟨k, hk, rfl, hno, hBk⟩ := hrel
    by_cases hlt : k < 32
    · have ca := (hRa.kept hBk).cell k hlt
      have cb := (hRb.kept hBk).cell k hlt
      have hk0 : (0 : Int) ≤ (k : Int) := by omega
      have hk1 : (k : Int) < 32 := by omega
      have HB : Hid (Below w.heap.size w wr) := hB.trans (hBk.mono hB.size)
      rcases (by omega : (a k).toNat < (b k).toNat ∨ (b k).toNat < (a k).toNat ∨ (a k).toNat = (b k).toNat) with h | h | h
      · have HV : Hid (r = -1) := by show _ = _; rw [← HR.out]; exact dcmp_lt hno h hlt
        clear hno
        generalize (a k).toNat = x at ca h
        generalize (b k).toNat = y at cb h
        go_upto_region 4 with fail
        go_quiet (fail)
        go_wp2
        go_ret
        exact ⟨by rw [HV.out]; rfl, below_drew4 HB.out _⟩
      · have HV : Hid (r = 1) := by show _ = _; rw [← HR.out]; exact dcmp_gt hno h hlt
        have h' : ¬ (a k).toNat < (b k).toNat := by omega
        clear hno
        generalize (a k).toNat = x at ca h h'
        generalize (b k).toNat = y at cb h h'
        go_upto_region 4 with fail
        go_quiet (fail)
        go_upto_region 6 with fail
        go_quiet (fail)
        go_wp2
        go_ret
        exact ⟨by rw [HV.out]; rfl, below_drew4 (below_drew4 HB.out _) _⟩
      · have HN : Hid (∀ j, j < k + 1 → a j = b j) := fun j hj => by
          rcases Nat.lt_or_ge j k with h1 | h1
          · exact hno j h1
          · obtain rfl : j = k := by omega
            exact UInt8.toNat_inj.1 h
        clear hno
        rw [h] at ca
        generalize (b k).toNat = y at ca cb
        go_upto_region 4 with fail
        go_quiet (fail)
        go_upto_region 6 with fail
        go_quiet (fail)
        have HB2 : Hid (∀ n m, Below X.heap.size X ((wr.drewN n).drewN m)) := fun n m => below_drew4 (below_drew4 hBk n) m
        have HB3 : Hid (∀ n, Below X.heap.size X (wr.drewN n)) := fun n => below_drew4 hBk n
        clear hBk ca cb
        go_wp2
        go_roundw
        case rel => first | exact ⟨k + 1, by omega, by go_num, HN.out, by first | exact HB2.out _ _ | exact HB3.out _⟩ | ((repeat apply Exists.intro); refine ⟨⟨k + 1, by omega, ?_, HN.out, by first | exact HB2.out _ _ | exact HB3.out _⟩, rfl⟩; go_num)
        case measure => simp [intOf]; omega
    · obtain rfl : k = 32 := by omega
      have HV : Hid (r = 0) := by show _ = _; rw [← HR.out]; exact dcmp_eq hno
      have HB : Hid (Below w.heap.size w wr) := hB.trans (hBk.mono hB.size)
      clear hno
      go_wp2
      go_ret
      exact ⟨by rw [HV.out]; rfl, HB.out⟩
def fndM {α : Type} (ok : α → Bool) (lt : α → α → Bool) (p : Option α) (v : α) : Nat := bif ok v then (bif behO lt p v then 0 else 11) else 13
def prv {α : Type} (l : List α) (i : Nat) : Option α := if i = 0 then none else l[i - 1]?
theorem chk_step {α : Type} (ok : α → Bool) (lt : α → α → Bool) (l : List α) (i : Nat) (v : α) (h : l[i]? = some v) :
    chkL ok lt (prv l i) (l.drop i) = if fndM ok lt (prv l i) v = 0 then chkL ok lt (prv l (i + 1)) (l.drop (i + 1)) else fndM ok lt (prv l i) v := by
  obtain ⟨hl, rfl⟩ := List.getElem?_eq_some_iff.1 h
  rw [List.drop_eq_getElem_cons hl]
  have e : prv l (i + 1) = some l[i] := by unfold prv; simp [hl]
  rw [e]
  unfold fndM
  conv => lhs; unfold chkL
  cases ok l[i]
  · rfl
  · cases behO lt (prv l i) l[i] <;> rfl
theorem chk_end {α : Type} (ok : α → Bool) (lt : α → α → Bool) (l : List α) (i : Nat) (h : l.length ≤ i) : chkL ok lt (prv l i) (l.drop i) = 0 := by
  rw [List.drop_of_length_le h]; rfl
theorem refTwo22 (v : Nat) (hv : v < 65536) (w : World) : Calls Tryz.prog 34 #[.int .i64 (v : Int)] w fun e w' => ∃ g, e = .returned (.slice (some ⟨g, 0, none⟩) 2 2) ∧ w.heap.size ≤ g ∧ rowB w' g (two v) ∧ Below w.heap.size w w' := by
  go_enter Tryz.func34, Tryz.ntmps34
  go_wp2
  go_ret
  refine ⟨w.heap.size, rfl, Nat.le_refl _, ?_, below_alloc _ _⟩
  have e : bytesA (two v) = #[Value.int .u8 ((v : Int) % 256), Value.int .u8 ((v : Int) / 256)] := by
    have h1 : ((UInt8.ofNat v).toNat : Int) = (v : Int) % 256 := by rw [UInt8.toNat_ofNat']; omega
    have h2 : ((UInt8.ofNat (v / 256)).toNat : Int) = (v : Int) / 256 := by rw [UInt8.toNat_ofNat']; omega
    unfold bytesA two
    simp only [List.map_cons, List.map_nil, h1, h2]
  unfold rowB
  rw [e]
  exact heap_alloc_last w _
set_option linter.unusedSimpArgs false in
set_option maxRecDepth 100000 in
set_option maxHeartbeats 4000000 in
theorem refFound22 (w : World) (xl : Option Addr) (n c : Nat) (l : List Fd) (i : Nat) (v : Fd) (hl : IsK fdE w (.slice xl n c) l) (hn : l.length = n) (hv : l[i]? = some v) (hs : n ≤ 65535) :
    Calls Tryz.prog 69 #[.slice xl n c, .int .i64 (i : Int)] w fun e w' => e = .returned (.int .i64 ((fndM okF ltF (prv l i) v : Nat) : Int)) ∧ Below w.heap.size w w' := by
  have hi : i < n := by rw [← hn]; exact (List.getElem?_eq_some_iff.1 hv).1
  obtain ⟨gl, o, rfl, hgl, -, -, k1, k2⟩ := fd_at hl i v hv
  have ld := run_fd_mid w _ _ k1
  rw [k2] at ld
  have b1 := below_alloc w (.cells (fdA v) 25)
  have r1 := RowC.new w (fdA v) 25
  have st := run_store_fd (w.alloc (.cells (fdA fdZ) 25)) w.heap.size (fdA v) (RowC.new w _ _).1 (by rw [(RowC.new w _ _).2]; rfl) rfl (fdA_one v)
  obtain ⟨RES, hres⟩ : ∃ r, fndM okF ltF (prv l i) v = r := ⟨_, rfl⟩
  rw [hres]
  have HRES : Hid _ := hres
  clear hres
  have i0 : (0 : Int) ≤ (i : Int) := by omega
  have i1 : (i : Int) < (n : Int) := by omega
  go_enter Tryz.func69, Tryz.ntmps69
  go_upto_region 2 with fail
  obtain ⟨z, hz⟩ : ∃ z, w.heap.size = z := ⟨_, rfl⟩
  have c0 : (w.alloc (.cells (fdA v) 25)).cell? ⟨z, 0, none⟩ = some (.int .i64 v.1) := by rw [← hz, r1.cell]; rfl
  have c1 : (w.alloc (.cells (fdA v) 25)).cell? ⟨z, 1, none⟩ = some (.int .i64 v.2) := by rw [← hz, r1.cell]; rfl
  have hl1 := hl.kept b1
  try simp only [hz]
  rw [hz] at r1
  have HB : Hid (Below w.heap.size w (w.alloc (.cells (fdA v) 25))) := b1
  generalize w.alloc (.cells (fdA v) 25) = W at HB r1 c0 c1 hl1 ⊢
  clear hz b1 st ld k1 k2 hgl hl
  cases hok : okF v
  · have HE : Hid (RES = 13) := by show _ = _; rw [← HRES.out]; unfold fndM; rw [hok]; rfl
    have HK : Hid (¬ (1 ≤ v.1 ∧ v.1 ≤ 19 ∧ 0 ≤ v.2 ∧ v.2 ≤ 1023)) := by show ¬ _; unfold okF at hok; simpa using hok
    clear hok hl1 r1
    go_wp2_with fail
    all_goals first
      | (exfalso; have := HK.out; omega)
      | (go_ret; exact ⟨by rw [HE.out]; rfl, HB.out⟩)
  · have HK : 1 ≤ v.1 ∧ v.1 ≤ 19 ∧ 0 ≤ v.2 ∧ v.2 ≤ 1023 := by unfold okF at hok; simpa using hok
    obtain ⟨q1, q2, q3, q4⟩ := HK
    have HOK : Hid (okF v = true) := hok
    clear hok
    have CV : Hid (∀ y, Below W.heap.size W y → (bigLoad 25 (.pointer (some ⟨z, 0, none⟩))).run Tryz.prog y = .ok (.value (.agg (fdA v))) y) := fun y hy => by
      have h9 := run_load_fd y z (r1.kept hy).1 (by rw [(r1.kept hy).2]; rfl)
      rw [(r1.kept hy).2] at h9
      exact h9
    by_cases h0 : i = 0
    · subst h0
      have HE : Hid (RES = 0) := by show _ = _; rw [← HRES.out]; unfold fndM prv; rw [HOK.out]; rfl
      clear hl1 r1 hv
      go_upto_region 4 with fail
      refine wp_reliesT [Fx (.int .i64 (((0 : Nat)) : Int)), Fx (.bool false), Fx (.bool false), Fx (undef), Fx (undef), Fx (undef), Fx (undef), Fx (undef), Fx (undef), Fx (undef), Fx (undef)] (by kernel_rfl) (by kernel_rfl) ?_ ?_ ?_
      · repeat' (first | exact all_nil | apply all_cons)
        all_goals intro v y y' hv hb
        all_goals first | exact Fx_mono _ _ _ _ hv hb
      · refine ⟨?_, ?_, ?_, ?_, ?_, ?_, ?_, ?_, ?_, ?_, ?_, trivial⟩
        all_goals
          intro ρ y9 hp ρc ρg ρf ho hd
          have o1 : ρ (.tmp 1) = .int .i64 (((0 : Nat)) : Int) := ho 1 rfl
          clear ho
          simp only [depsR, depR, slotR, Fx, List.getElem?_cons_succ, List.getElem?_cons_zero, Region.binds, forall_const] at hd
          simp only [guardR]
          go_split_ands
        · go_simp
        · go_simp
          try (unfold Fx; simp)
        · go_simp
        · refine ⟨fun hy => ?_, fun _ => rfl⟩
          exfalso; simp [yieldR, slotR, undef, *] at hy
        · refine ⟨fun hy => ?_, fun _ => rfl⟩
          exfalso; simp [yieldR, slotR, undef, *] at hy
        · refine ⟨fun hy => ?_, fun _ => rfl⟩
          exfalso; simp [yieldR, slotR, undef, *] at hy
        · refine ⟨fun hy => ?_, fun _ => rfl⟩
          exfalso; simp [yieldR, slotR, undef, *] at hy
        · refine ⟨fun hy => ?_, fun _ => rfl⟩
          exfalso; simp [yieldR, slotR, undef, *] at hy
        · refine ⟨fun hy => ?_, fun _ => rfl⟩
          exfalso; simp [yieldR, slotR, undef, *] at hy
        · refine ⟨fun hy => ?_, fun _ => rfl⟩
          exfalso; simp [yieldR, slotR, undef, *] at hy
        · refine ⟨fun hy => ?_, fun _ => rfl⟩
          exfalso; simp [yieldR, slotR, undef, *] at hy
      · intro us x1 hp1 hw
        simp only [owed, Fx] at hw
        obtain ⟨e0, e1, e2, e3, e4, e5, e6, e7, e8, e9, e10, -⟩ := hw
        simp only [List.length_cons, List.length_nil, List.take_succ_cons, List.take_zero, List.drop_succ_cons, List.drop_zero, asg, List.cons_append, List.nil_append, e0, e1, e2, e3, e4, e5, e6, e7, e8, e9, e10]
        clear e0 e1 e2 e3 e4 e5 e6 e7 e8 e9 e10
        go_wp2
        go_ret
        exact ⟨by rw [HE.out]; rfl, HB.out.trans (hp1.mono HB.out.size)⟩
    · obtain ⟨u, hu⟩ : ∃ u, l[i - 1]? = some u := ⟨_, List.getElem?_eq_getElem (by omega)⟩
      have CU : Hid (∀ y, Below W.heap.size W y → (bigLoad 25 (.pointer (some ⟨gl, o + (i - 1) * 2, none⟩))).run Tryz.prog y = .ok (.value (.agg (fdA u))) y) := fun y hy => by
        obtain ⟨b', o', he, -, -, -, k1, k2⟩ := fd_at (hl1.kept hy) (i - 1) u hu
        cases he
        have h9 := run_fd_mid y _ _ k1
        rw [k2] at h9
        exact h9
      have HE : Hid (RES = bif ltF u v then 0 else 11) := by
        show _ = _; rw [← HRES.out]; unfold fndM prv; rw [HOK.out, if_neg h0, hu]; rfl
      have wk1 : IntKind.i64.wrap ((i : Int) - 1) = ((i - 1 : Nat) : Int) := by rw [IntKind.wrap_i64]; omega
      have j0 : (0 : Int) ≤ ((i - 1 : Nat) : Int) := by omega
      have j1 : ((i - 1 : Nat) : Int) < (n : Int) := by omega
      have i2 : (0 : Int) < (i : Int) := by omega
      clear hl1 r1 hv hu
      go_upto_region 4 with fail
      refine wp_reliesT [Fx (.int .i64 (i : Int)), Fx (.bool true), Fx (.bool true), Fx (.slice (some ⟨gl, o, none⟩) n c), Fx (.int .i64 (i : Int)), Fx (.int .i64 (((i - 1 : Nat)) : Int)), Fx (.pointer (some ⟨gl, o + (i - 1) * 2, none⟩)), Fx (.agg (fdA u)), Fx (.agg (fdA v)), Fx (.bool (ltF u v)), Fx (.bool (!ltF u v))] (by kernel_rfl) (by kernel_rfl) ?_ ?_ ?_
      · repeat' (first | exact all_nil | apply all_cons)
        all_goals intro v y y' hv hb
        all_goals first | exact Fx_mono _ _ _ _ hv hb
      · refine ⟨?_, ?_, ?_, ?_, ?_, ?_, ?_, ?_, ?_, ?_, ?_, trivial⟩
        all_goals
          intro ρ y9 hp ρc ρg ρf ho hd
          have o0 : ρ (.tmp 0) = .slice (some ⟨gl, o, none⟩) n c := ho 0 rfl
          have o1 : ρ (.tmp 1) = .int .i64 (i : Int) := ho 1 rfl
          have o5 : ρ (.tmp 5) = .pointer (some ⟨z, 0, none⟩) := ho 5 rfl
          clear ho
          have z9 := CV.out y9 hp
          simp only [depsR, depR, slotR, Fx, List.getElem?_cons_succ, List.getElem?_cons_zero, Region.binds, forall_const] at hd
          simp only [guardR]
          go_split_ands
        · go_simp
        · go_simp
          try (unfold Fx; simp; omega)
        · go_simp
        · refine ⟨fun _ => ?_, fun hy => absurd (by simp [yieldR, slotR, *]) hy⟩
          go_simp
        · refine ⟨fun _ => ?_, fun hy => absurd (by simp [yieldR, slotR, *]) hy⟩
          go_simp
        · refine ⟨fun _ => ?_, fun hy => absurd (by simp [yieldR, slotR, *]) hy⟩
          go_simp
          try exact wk1
        · refine ⟨fun _ => ?_, fun hy => absurd (by simp [yieldR, slotR, *]) hy⟩
          go_simp
        · refine ⟨fun _ => ?_, fun hy => absurd (by simp [yieldR, slotR, *]) hy⟩
          have z1 := CU.out y9 hp
          go_simp
        · refine ⟨fun _ => ?_, fun hy => absurd (by simp [yieldR, slotR, *]) hy⟩
          go_simp
        · refine ⟨fun _ => ?_, fun hy => absurd (by simp [yieldR, slotR, *]) hy⟩
          go_simp
          exact (refAhead22 _ _ _).mono fun e w' ⟨q1, q2⟩ => ⟨_, q1, rfl, q2⟩
        · refine ⟨fun _ => ?_, fun hy => absurd (by simp [yieldR, slotR, *]) hy⟩
          go_simp
      · intro us x1 hp1 hw
        simp only [owed, Fx] at hw
        obtain ⟨e0, e1, e2, e3, e4, e5, e6, e7, e8, e9, e10, -⟩ := hw
        simp only [List.length_cons, List.length_nil, List.take_succ_cons, List.take_zero, List.drop_succ_cons, List.drop_zero, asg, List.cons_append, List.nil_append, e0, e1, e2, e3, e4, e5, e6, e7, e8, e9, e10]
        clear e0 e1 e2 e3 e4 e5 e6 e7 e8 e9 e10
        cases hlt : ltF u v
        · rw [hlt] at HE
          go_wp2
          go_ret
          exact ⟨by rw [HE.out]; rfl, HB.out.trans (hp1.mono HB.out.size)⟩
        · rw [hlt] at HE
          go_wp2
          go_ret
          exact ⟨by rw [HE.out]; rfl, HB.out.trans (hp1.mono HB.out.size)⟩
end Go.Proofs.YtklbdhpnbjhgkaaGreatDoor
