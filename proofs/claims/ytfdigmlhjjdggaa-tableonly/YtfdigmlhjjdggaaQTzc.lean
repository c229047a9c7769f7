import Derived.Test.YtfdigmlhjjdggaaQTzb
namespace Go.Proofs.Ytfdigmlhjjdggaa
open Go.RowKit

/-! table: the codecs' lay -/
@[go_sem] theorem run_dgt_mid (w : World) (b o : Nat) (h : rgOk w b o 32 = true) : (dg_secLoad (.pointer (some ⟨b, o, none⟩))).run Try.prog w = .ok (.value (.agg (rg w b o 32))) w := by
  simp only [dg_secLoad, Sem.run_bind]
  rw [run_loadAt_mid w b o 23 _ _ (rangeAt_rg h) Try.underlying23 rfl (by rw [size23, Array.length_toList, rg_size])]
  rfl
theorem tg_rg {w : World} {g : Nat} {x : Tg} (h : RowC w g (tgA x)) : rgOk w g 1 32 = true ∧ rg w g 1 32 = dg_secA x.key := by
  have hr : w.rangeAt g 1 (dg_secA x.key).toList := fun j v hv => by
    rw [Array.getElem?_toList] at hv
    have hj : j < 32 := by
      have := (Array.getElem?_eq_some_iff.1 hv).1
      simpa using this
    rw [dg_secA_get x.key j hj] at hv
    rw [h.cell, tgA_key x j hj]; exact hv
  have h2 := rg_of hr (by rw [Array.length_toList]; simp : (dg_secA x.key).toList.length = 32)
  exact ⟨h2.1, by rw [h2.2, Array.toArray_toList]⟩
theorem sn_rg {w : World} {g : Nat} {x : Sn} (h : RowC w g (snA x)) : rgOk w g 2 32 = true ∧ rg w g 2 32 = dg_secA x.key := by
  have hr : w.rangeAt g 2 (dg_secA x.key).toList := fun j v hv => by
    rw [Array.getElem?_toList] at hv
    have hj : j < 32 := by
      have := (Array.getElem?_eq_some_iff.1 hv).1
      simpa using this
    rw [dg_secA_get x.key j hj] at hv
    rw [h.cell, snA_key x j hj]; exact hv
  have h2 := rg_of hr (by rw [Array.length_toList]; simp : (dg_secA x.key).toList.length = 32)
  exact ⟨h2.1, by rw [h2.2, Array.toArray_toList]⟩
theorem IsB.keep1 {w w' : World} {gn n c g : Nat} {l : List UInt8} (h : IsB w (.slice (some ⟨gn, 0, none⟩) n c) l) (hK : Keep [g] w w') (hn : gn ≠ g) : IsB w' (.slice (some ⟨gn, 0, none⟩) n c) l := by
  rcases h with h | ⟨x, d, he, hc⟩
  · exact .inl h
  · refine .inr ⟨x, d, he, fun i hi => ?_⟩
    cases he
    have h9 := World.block_lt_of_cell? w _ (hc i hi)
    rw [World.cell?_of_block (w := w) (hK.block _ h9 (by rw [Addr.add_block]; simpa using hn))]
    exact hc i hi
theorem OwnB.new_block {w : World} {B gn n c : Nat} {l : List UInt8} (h : OwnB w B (.slice (some ⟨gn, 0, none⟩) n c) l) : B ≤ gn := by
  rcases h.2 with h9 | ⟨q, cap, cur, h9, h8, -⟩
  · cases h9.1
  · simp only [Value.slice.injEq, Option.some.injEq, Addr.mk.injEq] at h9
    omega
/-- What lay leaves: an error, or the sector. -/
def LyQ (g : Nat) (T : Sc) (c : Int) (w : World) (e : Ending) (w' : World) : Prop := e = .returned (.int .i64 c) ∧ (∃ U, ScR w' g U ∧ (c = 0 → U = T)) ∧ Keep [g] w w'
theorem tag_laid (l : List UInt8) (k : Nat → UInt8) (h : l.length ≤ 24) : layL (layL (upd (upd secZ 0 84) 1 (UInt8.ofNat l.length)) 2 (padN l)) 26 (subL k 0 32) = tagB l k := by
  have hp : (padN l).length = 24 := by unfold padN; simp; omega
  funext j
  unfold layL tagB
  by_cases h1 : 26 ≤ j ∧ j < 58
  · rw [dif_pos (by rw [subL_length]; omega), subL_get, if_neg (by omega), if_neg (by omega), if_neg (by omega), if_pos (by omega), Nat.zero_add]
  · rw [dif_neg (by rw [subL_length]; omega)]
    by_cases h2 : 2 ≤ j ∧ j < 26
    · rw [dif_pos (by omega), if_neg (by omega), if_neg (by omega), if_pos (by omega)]
      have e1 : (padN l)[j - 2]? = some (lB l (j - 2)) := by
        unfold padN lB
        by_cases h3 : j - 2 < l.length
        · rw [List.getElem?_append_left h3, List.getElem?_eq_getElem h3]; rfl
        · rw [List.getElem?_append_right (by omega), List.getElem?_replicate, if_pos (by omega), List.getElem?_eq_none (by omega)]; rfl
      have e2 := List.getElem?_eq_getElem (show j - 2 < (padN l).length by omega)
      rw [e1] at e2
      exact (Option.some.inj e2).symm
    · rw [dif_neg (by omega)]
      unfold upd secZ
      by_cases h0 : j = 0
      · subst h0; simp
      · by_cases h3 : j = 1
        · subst h3; simp
        · rw [if_neg h3, if_neg h0, if_neg h0, if_neg h3, if_neg (by omega), if_neg (by omega)]
theorem snap_laid (a b : Nat) (k : Nat → UInt8) : layL (putN (putN (upd secZ 0 83) 4 a 4) 8 b 4) 12 (subL k 0 32) = snB a b k := by
  rw [← sn2_full]
  funext j
  unfold layL sn2 sn1
  by_cases h1 : 12 ≤ j ∧ j < 44
  · rw [dif_pos (by rw [subL_length]; omega), subL_get, if_pos (by omega), Nat.zero_add]
  · rw [dif_neg (by rw [subL_length]; omega), if_neg (by omega)]
set_option linter.unusedSimpArgs false in
set_option maxRecDepth 100000 in
set_option maxHeartbeats 3200000 in
theorem layTag_no (nm : ByteArray) (key : Nat → UInt8) (g : Nat) (s T : Sc) (w : World) (h63 : nm.size ≤ 9223372036854775807) (hN : isN (lS nm) = false) (hs : ScR w g s) :
    Calls Try.prog 23 #[.pointer (some ⟨g, 0, none⟩), .agg (tgA ⟨nm, key⟩)] w fun e w' => LyQ g T 36 w e w' := by
  have kP := fun W => nPutOk nm W h63
  have hB := below_alloc w (.cells (tgA ⟨nm, key⟩) 25)
  have hR := RowC.new w (tgA ⟨nm, key⟩) 25
  have hS := hs.kept hB
  go_enter Try.func23, Try.ntmps23
  go_upto_region 1 with fail
  obtain ⟨g1, hg1⟩ : ∃ g, w.heap.size = g := ⟨_, rfl⟩
  rw [hg1] at hR
  simp only [hg1]
  generalize w.alloc (.cells (tgA ⟨nm, key⟩) 25) = X at hB hR hS ⊢
  clear hg1
  have c0 := hR.cell 0
  rw [tgA_0] at c0
  go_wp2_with fail
  refine (kP _).mono ?_
  rintro e w1 ⟨(⟨h, -⟩ | ⟨-, x9, c9, rfl, -⟩), hb⟩
  · rw [hN] at h; cases h
  have HS : Hid _ := hS.kept hb
  have HK : Hid _ := Keep.of_below (F := [g]) (hB.trans (hb.mono hB.size))
  clear kP hB hR hS hb c0 hs
  go_wp2
  go_ret
  exact ⟨rfl, ⟨s, HS.out, fun h => by cases h⟩, HK.out⟩
set_option linter.unusedSimpArgs false in
set_option maxRecDepth 100000 in
set_option maxHeartbeats 3200000 in
theorem layTag_yes (nm : ByteArray) (key : Nat → UInt8) (g : Nat) (w : World) (l : List UInt8) (hl : lS nm = l) (h24 : l.length ≤ 24) (hN : isN l = true) (hs : ScR w g secZ) (T : Sc) (hT : tagB l key = T) :
    Calls Try.prog 23 #[.pointer (some ⟨g, 0, none⟩), .agg (tgA ⟨nm, key⟩)] w fun e w' => LyQ g T 0 w e w' := by
  have hls : nm.size = l.length := by rw [← lS_len, hl]
  have kP := fun W => nPutOk nm W (by omega)
  simp only [hl, PutPost] at kP
  have hpl : (padN l).length = 24 := padN_len l hN
  obtain ⟨n, hn⟩ : ∃ q, l.length = q := ⟨_, rfl⟩
  obtain ⟨b, hb9⟩ : ∃ q, UInt8.ofNat l.length = q := ⟨_, rfl⟩
  have hbn : b.toNat = n := by rw [← hb9, UInt8.toNat_ofNat', hn]; omega
  have FB : Hid (IntKind.u8.wrap (n : Int) = (b.toNat : Int)) := by
    have h1 : (n : Int) % 256 = (b.toNat : Int) := by omega
    have h2 : IntKind.u8.wrap (n : Int) = (n : Int) % 256 := by simp [IntKind.wrap, IntKind.signed, IntKind.bits]
    exact h2.trans h1
  have HT := tag_laid l key h24
  rw [hT, hb9] at HT
  have HTT : Hid (layL (layL (upd (upd secZ 0 84) 1 b) 2 (padN l)) 26 (subL key 0 32) = T) := HT
  rw [hn] at hls
  have HSZ : Hid (nm.size = n) := hls
  generalize padN l = pl at kP hpl HTT
  clear HT hb9 hT hl hbn h24 hn hls
  have hB := below_alloc w (.cells (tgA ⟨nm, key⟩) 25)
  have hR := RowC.new w (tgA ⟨nm, key⟩) 25
  have hS := hs.kept hB
  have hg1g : w.heap.size ≠ g := by have := hs.lt; omega
  go_enter Try.func23, Try.ntmps23
  go_upto_region 1 with fail
  obtain ⟨g1, hg1⟩ : ∃ g, w.heap.size = g := ⟨_, rfl⟩
  rw [hg1] at hR hg1g
  simp only [hg1]
  generalize w.alloc (.cells (tgA ⟨nm, key⟩) 25) = X at hB hR hS ⊢
  clear hg1
  have c0 := hR.cell 0
  rw [tgA_0] at c0
  go_wp2_with fail
  refine (kP _).mono ?_
  rintro e w1 ⟨(⟨-, gn, cn, rfl, hO⟩ | ⟨h, -⟩), hb⟩
  case inr => rw [hN] at h; cases h
  have hS1 := hS.kept hb
  have hR1 := hR.kept hb
  have hIn : gn ≠ g := by have h8 := hO.new_block; have h9 := hS.lt; omega
  have hI := hO.isB
  have hK := Keep.of_below (F := [g]) (hB.trans (hb.mono hB.size))
  clear kP hB hR hS hb c0 hs hO
  have kb := begin17 secZ g 84 w1 hS1
  rw [show (((84 : UInt8).toNat : Nat) : Int) = 84 from rfl] at kb
  go_wp2_with fail
  refine kb.mono ?_
  clear kb
  rintro e w2 ⟨rfl, hS2, k2⟩
  have hR2 := hR1.keep1 k2 hg1g
  have hI2 := hI.keep1 k2 hIn
  have hK2 := hK.trans k2
  clear hS1 hR1 hI hK k2
  obtain ⟨U0, hU0⟩ : ∃ q, upd secZ 0 84 = q := ⟨_, rfl⟩
  rw [hU0] at hS2
  have HTU : Hid (layL (layL (upd U0 1 b) 2 pl) 26 (subL key 0 32) = T) := by rw [← hU0]; exact HTT.out
  clear HTT hU0
  have c0 := hR2.cell 0
  rw [tgA_0] at c0
  go_upto_region 5 with fail
  refine wp_reliesT [Fx (.pointer (some ⟨g, 0, none⟩)), Fx (.pointer (some ⟨g1, 0, none⟩)), Fx (.string nm), Fx (.int .i64 (n : Int)), Fx (.int .u8 (b.toNat : Int)), Fx (.pointer (some ⟨g, 0, none⟩)), Fx (.pointer (some ⟨g, 0, none⟩)), Fx (.pointer (some ⟨g, 0, none⟩)), Fx (.pointer (some ⟨g, 1, none⟩))] (by kernel_rfl) (by kernel_rfl) ?_ ?_ ?_
  · repeat' (first | exact all_nil | apply all_cons)
    all_goals intro v y y' hv hb
    all_goals first | exact Fx_mono _ _ _ _ hv hb
  · refine ⟨?_, ?_, ?_, ?_, ?_, ?_, ?_, ?_, ?_, trivial⟩
    all_goals
      intro ρ x hp ρc ρg ρf ho hd
      have o0 : ρ (.tmp 0) = .pointer (some ⟨g, 0, none⟩) := ho 0 rfl
      have o3 : ρ (.tmp 3) = .pointer (some ⟨g1, 0, none⟩) := ho 3 rfl
      clear ho
      have c0' := cell_later hp c0
      simp only [depsR, depR, slotR, Fx, List.getElem?_cons_succ, List.getElem?_cons_zero, Region.binds, forall_const] at hd
      simp only [guardR]
      go_split_ands
    · go_simp
    · go_simp
    · go_simp
    · have z := HSZ.out
      go_simp
    · have z := FB.out
      go_simp
    · go_simp
    · go_simp
    · go_simp
    · go_simp
  · intro vs x1 hp hw
    simp only [owed, Fx] at hw
    obtain ⟨e0, e1, e2, e3, e4, e5, e6, e7, e8, -⟩ := hw
    simp only [List.length_cons, List.length_nil, List.take_succ_cons, List.take_zero, List.drop_succ_cons, List.drop_zero, asg, List.cons_append, List.nil_append, e0, e1, e2, e3, e4, e5, e6, e7, e8]
    clear e0 e1 e2 e3 e4 e5 e6 e7 e8
    have hS3 := hS2.kept hp
    have hR3 := hR2.kept hp
    have hI3 := hI2.kept hp
    have hK3 := hK2.trans (Keep.of_below (F := [g]) hp)
    clear hS2 hR2 hI2 hK2 hp c0 HSZ FB
    have c1 := hS3.cell 1 (by omega)
    have f1 := hS3.frozen 1
    have kc := keep_cell x1 g 1 (.int .u8 (b.toNat : Int))
    have hS4 := hS3.set 1 b (by omega)
    have hR4 := hR3.keep1 kc hg1g
    have hI4 := hI3.keep1 kc hIn
    have hK4 := hK3.trans kc
    clear hS3 hR3 hI3 hK3 kc
    go_upto_region 6 with fail
    generalize x1.setCell ⟨g, 1, none⟩ (.int .u8 (b.toNat : Int)) = Y at hS4 hR4 hI4 hK4 ⊢
    obtain ⟨U1, hU1⟩ : ∃ q, upd U0 1 b = q := ⟨_, rfl⟩
    rw [hU1] at hS4
    have HTV : Hid (layL (layL U1 2 pl) 26 (subL key 0 32) = T) := by rw [← hU1]; exact HTU.out
    clear HTU hU1 c1 f1
    have kB := putBytes_any U1 (2 : Int) _ pl Y (by omega) (by omega) (by rw [hpl]; decide) hI4
    have e2 : layI U1 (2 : Int) pl = layL U1 2 pl := by
      unfold layI
      rw [if_pos (by rw [hpl]; rfl)]; rfl
    rw [e2] at kB
    obtain ⟨U2, hU2⟩ : ∃ q, layL U1 2 pl = q := ⟨_, rfl⟩
    have HTW : Hid (layL U2 26 (subL key 0 32) = T) := by rw [← hU2]; exact HTV.out
    rw [hU2] at kB
    clear HTV hU2 e2 hpl
    have hS4' := hS4
    obtain ⟨r4, q4⟩ := hS4'
    go_wp2_with fail
    refine kB.mono ?_
    clear kB
    rintro e w5 ⟨rfl, hb⟩
    have hS5 := hS4.kept hb
    have hR5 := hR4.kept hb
    have hK5 := hK4.trans (Keep.of_below (F := [g]) hb)
    clear hS4 hR4 hK4 hI4 hb r4 q4
    have kr := keep_row w5 g (secA U2)
    have hS6 := hS5.rsame U2
    have hR6 := hR5.keep1 kr hg1g
    have hK6 := hK5.trans kr
    obtain ⟨r5, q5⟩ := hS5
    clear hR5 hK5 kr
    go_upto_region 7 with fail
    generalize w5.setRow g (secA U2) = Z at hS6 hR6 hK6 ⊢
    clear r5 q5
    refine wp_reliesT [Fx (.pointer (some ⟨g, 0, none⟩)), Fx (.pointer (some ⟨g, 0, none⟩)), Fx (.pointer (some ⟨g, 0, none⟩)), Fx (.pointer (some ⟨g1, 1, none⟩)), Fx (.agg (dg_secA key))] (by kernel_rfl) (by kernel_rfl) ?_ ?_ ?_
    · repeat' (first | exact all_nil | apply all_cons)
      all_goals intro v y y' hv hb
      all_goals first | exact Fx_mono _ _ _ _ hv hb
    · refine ⟨?_, ?_, ?_, ?_, ?_, trivial⟩
      all_goals
        intro ρ x hp ρc ρg ρf ho hd
        have o0 : ρ (.tmp 0) = .pointer (some ⟨g, 0, none⟩) := ho 0 rfl
        have o3 : ρ (.tmp 3) = .pointer (some ⟨g1, 0, none⟩) := ho 3 rfl
        clear ho
        obtain ⟨y1, y2⟩ := tg_rg (hR6.kept hp)
        simp only [depsR, depR, slotR, Fx, List.getElem?_cons_succ, List.getElem?_cons_zero, Region.binds, forall_const] at hd
        simp only [guardR]
        go_split_ands
      · go_simp
      · go_simp
      · go_simp
      · go_simp
      · go_simp
    · intro vs x2 hp hw
      simp only [owed, Fx] at hw
      obtain ⟨e0, e1, e2, e3, e4, -⟩ := hw
      simp only [List.length_cons, List.length_nil, List.take_succ_cons, List.take_zero, List.drop_succ_cons, List.drop_zero, asg, List.cons_append, List.nil_append, e0, e1, e2, e3, e4]
      clear e0 e1 e2 e3 e4
      have hS7 := hS6.kept hp
      have hK7 := hK6.trans (Keep.of_below (F := [g]) hp)
      clear hS6 hR6 hK6 hp
      have kD := putDigest17 U2 g 26 key (by omega) x2 hS7
      rw [HTW.out, show ((26 : Nat) : Int) = 26 from rfl] at kD
      go_wp2_with fail
      refine kD.mono ?_
      clear kD
      rintro e w8 ⟨rfl, hS8, k8⟩
      have HS : Hid _ := hS8
      have HK : Hid _ := hK7.trans k8
      clear hS8 k8 hK7 hS7
      go_wp2
      go_ret
      exact ⟨rfl, ⟨T, HS.out, fun _ => rfl⟩, HK.out⟩
set_option linter.unusedSimpArgs false in
set_option maxRecDepth 100000 in
set_option maxHeartbeats 3200000 in
theorem laySnap_no (b : Int) (key : Nat → UInt8) (g : Nat) (s T : Sc) (w : World) (hs : ScR w g s) :
    Calls Try.prog 25 #[.pointer (some ⟨g, 0, none⟩), .agg (snA ⟨0, b, key⟩)] w fun e w' => LyQ g T 1 w e w' := by
  have hB := below_alloc w (.cells (snA ⟨0, b, key⟩) 28)
  have hR := RowC.new w (snA ⟨0, b, key⟩) 28
  have hS := hs.kept hB
  go_enter Try.func25, Try.ntmps25
  go_upto_region 1 with fail
  obtain ⟨g1, hg1⟩ : ∃ g, w.heap.size = g := ⟨_, rfl⟩
  rw [hg1] at hR
  simp only [hg1]
  generalize w.alloc (.cells (snA ⟨0, b, key⟩) 28) = X at hB hR hS ⊢
  clear hg1
  have c0 := hR.cell 0
  rw [snA_0] at c0
  replace c0 : X.cell? ⟨g1, 0, none⟩ = some (.int .u32 0) := c0
  have HS : Hid _ := hS
  have HK : Hid _ := Keep.of_below (F := [g]) hB
  clear hB hR hS hs
  go_wp2
  go_ret
  exact ⟨rfl, ⟨s, HS.out, fun h => by cases h⟩, HK.out⟩
set_option linter.unusedSimpArgs false in
set_option maxRecDepth 100000 in
set_option maxHeartbeats 3200000 in
theorem laySnap_yes (a b : Nat) (key : Nat → UInt8) (g : Nat) (w : World) (ha0 : a ≠ 0) (ha : a < 4294967296) (hb4 : b < 4294967296) (hs : ScR w g secZ) (T : Sc) (hT : snB a b key = T) :
    Calls Try.prog 25 #[.pointer (some ⟨g, 0, none⟩), .agg (snA ⟨(a : Int), (b : Int), key⟩)] w fun e w' => LyQ g T 0 w e w' := by
  have HT := snap_laid a b key
  rw [hT] at HT
  have HTT : Hid (layL (putN (putN (upd secZ 0 83) 4 a 4) 8 b 4) 12 (subL key 0 32) = T) := HT
  clear HT hT
  have HA : Hid (a < 4294967296) := ha
  have HBB : Hid (b < 4294967296) := hb4
  have hz : ((a : Int) == 0) = false := beq_eq_false_iff_ne.2 (by omega)
  clear ha hb4 ha0
  have hB := below_alloc w (.cells (snA ⟨(a : Int), (b : Int), key⟩) 28)
  have hR := RowC.new w (snA ⟨(a : Int), (b : Int), key⟩) 28
  have hS := hs.kept hB
  have hg1g : w.heap.size ≠ g := by have := hs.lt; omega
  go_enter Try.func25, Try.ntmps25
  go_upto_region 1 with fail
  obtain ⟨g1, hg1⟩ : ∃ g, w.heap.size = g := ⟨_, rfl⟩
  rw [hg1] at hR hg1g
  simp only [hg1]
  generalize w.alloc (.cells (snA ⟨(a : Int), (b : Int), key⟩) 28) = X at hB hR hS ⊢
  clear hg1
  have c0 := hR.cell 0
  rw [snA_0] at c0
  replace c0 : X.cell? ⟨g1, 0, none⟩ = some (.int .u32 (a : Int)) := c0
  have hK := Keep.of_below (F := [g]) hB
  have kb := begin17 secZ g 83 X hS
  rw [show (((83 : UInt8).toNat : Nat) : Int) = 83 from rfl] at kb
  clear hB hs
  go_wp2_with fail
  refine kb.mono ?_
  clear kb
  rintro e w2 ⟨rfl, hS2, k2⟩
  have hR2 := hR.keep1 k2 hg1g
  have hK2 := hK.trans k2
  clear hS hR hK k2 c0
  obtain ⟨U0, hU0⟩ : ∃ q, upd secZ 0 83 = q := ⟨_, rfl⟩
  rw [hU0] at hS2
  have HTU : Hid (layL (putN (putN U0 4 a 4) 8 b 4) 12 (subL key 0 32) = T) := by rw [← hU0]; exact HTT.out
  clear HTT hU0
  go_upto_region 4 with fail
  refine wp_reliesT [Fx (.pointer (some ⟨g, 0, none⟩)), Fx (.pointer (some ⟨g, 0, none⟩)), Fx (.pointer (some ⟨g, 0, none⟩)), Fx (.pointer (some ⟨g1, 0, none⟩)), Fx (.int .u32 (a : Int))] (by kernel_rfl) (by kernel_rfl) ?_ ?_ ?_
  · repeat' (first | exact all_nil | apply all_cons)
    all_goals intro v y y' hv hb
    all_goals first | exact Fx_mono _ _ _ _ hv hb
  · refine ⟨?_, ?_, ?_, ?_, ?_, trivial⟩
    all_goals
      intro ρ x hp ρc ρg ρf ho hd
      have o0 : ρ (.tmp 0) = .pointer (some ⟨g, 0, none⟩) := ho 0 rfl
      have o3 : ρ (.tmp 3) = .pointer (some ⟨g1, 0, none⟩) := ho 3 rfl
      clear ho
      have c0 := (hR2.kept hp).cell 0
      rw [snA_0] at c0
      replace c0 : x.cell? ⟨g1, 0, none⟩ = some (.int .u32 (a : Int)) := c0
      simp only [depsR, depR, slotR, Fx, List.getElem?_cons_succ, List.getElem?_cons_zero, Region.binds, forall_const] at hd
      simp only [guardR]
      go_split_ands
    · go_simp
    · go_simp
    · go_simp
    · go_simp
    · go_simp
  · intro vs x1 hp hw
    simp only [owed, Fx] at hw
    obtain ⟨e0, e1, e2, e3, e4, -⟩ := hw
    simp only [List.length_cons, List.length_nil, List.take_succ_cons, List.take_zero, List.drop_succ_cons, List.drop_zero, asg, List.cons_append, List.nil_append, e0, e1, e2, e3, e4]
    clear e0 e1 e2 e3 e4
    have hS3 := hS2.kept hp
    have hR3 := hR2.kept hp
    have hK3 := hK2.trans (Keep.of_below (F := [g]) hp)
    clear hS2 hR2 hK2 hp
    have kN := putNumber17 U0 g 4 a (by omega) HA.out x1 hS3
    obtain ⟨U1, hU1⟩ : ∃ q, putN U0 4 a 4 = q := ⟨_, rfl⟩
    have HTV : Hid (layL (putN U1 8 b 4) 12 (subL key 0 32) = T) := by rw [← hU1]; exact HTU.out
    rw [hU1, show ((4 : Nat) : Int) = 4 from rfl] at kN
    clear hU1 HTU
    go_wp2_with fail
    refine kN.mono ?_
    clear kN
    rintro e w4 ⟨rfl, hS4, k4⟩
    have hR4 := hR3.keep1 k4 hg1g
    have hK4 := hK3.trans k4
    clear hS3 hR3 hK3 k4
    go_upto_region 5 with fail
    refine wp_reliesT [Fx (.pointer (some ⟨g, 0, none⟩)), Fx (.pointer (some ⟨g, 0, none⟩)), Fx (.pointer (some ⟨g, 0, none⟩)), Fx (.pointer (some ⟨g1, 1, none⟩)), Fx (.int .u32 (b : Int))] (by kernel_rfl) (by kernel_rfl) ?_ ?_ ?_
    · repeat' (first | exact all_nil | apply all_cons)
      all_goals intro v y y' hv hb
      all_goals first | exact Fx_mono _ _ _ _ hv hb
    · refine ⟨?_, ?_, ?_, ?_, ?_, trivial⟩
      all_goals
        intro ρ x hp ρc ρg ρf ho hd
        have o0 : ρ (.tmp 0) = .pointer (some ⟨g, 0, none⟩) := ho 0 rfl
        have o3 : ρ (.tmp 3) = .pointer (some ⟨g1, 0, none⟩) := ho 3 rfl
        clear ho
        have c0 := (hR4.kept hp).cell 1
        rw [snA_1] at c0
        replace c0 : x.cell? ⟨g1, 1, none⟩ = some (.int .u32 (b : Int)) := c0
        simp only [depsR, depR, slotR, Fx, List.getElem?_cons_succ, List.getElem?_cons_zero, Region.binds, forall_const] at hd
        simp only [guardR]
        go_split_ands
      · go_simp
      · go_simp
      · go_simp
      · go_simp
      · go_simp
    · intro vs x2 hp hw
      simp only [owed, Fx] at hw
      obtain ⟨e0, e1, e2, e3, e4, -⟩ := hw
      simp only [List.length_cons, List.length_nil, List.take_succ_cons, List.take_zero, List.drop_succ_cons, List.drop_zero, asg, List.cons_append, List.nil_append, e0, e1, e2, e3, e4]
      clear e0 e1 e2 e3 e4
      have hS5 := hS4.kept hp
      have hR5 := hR4.kept hp
      have hK5 := hK4.trans (Keep.of_below (F := [g]) hp)
      clear hS4 hR4 hK4 hp
      have kN := putNumber17 U1 g 8 b (by omega) HBB.out x2 hS5
      obtain ⟨U2, hU2⟩ : ∃ q, putN U1 8 b 4 = q := ⟨_, rfl⟩
      have HTW : Hid (layL U2 12 (subL key 0 32) = T) := by rw [← hU2]; exact HTV.out
      rw [hU2, show ((8 : Nat) : Int) = 8 from rfl] at kN
      clear hU2 HTV
      go_wp2_with fail
      refine kN.mono ?_
      clear kN
      rintro e w6 ⟨rfl, hS6, k6⟩
      have hR6 := hR5.keep1 k6 hg1g
      have hK6 := hK5.trans k6
      clear hS5 hR5 hK5 k6
      go_upto_region 6 with fail
      refine wp_reliesT [Fx (.pointer (some ⟨g, 0, none⟩)), Fx (.pointer (some ⟨g, 0, none⟩)), Fx (.pointer (some ⟨g, 0, none⟩)), Fx (.pointer (some ⟨g1, 2, none⟩)), Fx (.agg (dg_secA key))] (by kernel_rfl) (by kernel_rfl) ?_ ?_ ?_
      · repeat' (first | exact all_nil | apply all_cons)
        all_goals intro v y y' hv hb
        all_goals first | exact Fx_mono _ _ _ _ hv hb
      · refine ⟨?_, ?_, ?_, ?_, ?_, trivial⟩
        all_goals
          intro ρ x hp ρc ρg ρf ho hd
          have o0 : ρ (.tmp 0) = .pointer (some ⟨g, 0, none⟩) := ho 0 rfl
          have o3 : ρ (.tmp 3) = .pointer (some ⟨g1, 0, none⟩) := ho 3 rfl
          clear ho
          obtain ⟨y1, y2⟩ := sn_rg (hR6.kept hp)
          simp only [depsR, depR, slotR, Fx, List.getElem?_cons_succ, List.getElem?_cons_zero, Region.binds, forall_const] at hd
          simp only [guardR]
          go_split_ands
        · go_simp
        · go_simp
        · go_simp
        · go_simp
        · go_simp
      · intro vs x3 hp hw
        simp only [owed, Fx] at hw
        obtain ⟨e0, e1, e2, e3, e4, -⟩ := hw
        simp only [List.length_cons, List.length_nil, List.take_succ_cons, List.take_zero, List.drop_succ_cons, List.drop_zero, asg, List.cons_append, List.nil_append, e0, e1, e2, e3, e4]
        clear e0 e1 e2 e3 e4
        have hS7 := hS6.kept hp
        have hK7 := hK6.trans (Keep.of_below (F := [g]) hp)
        clear hS6 hR6 hK6 hp
        have kD := putDigest17 U2 g 12 key (by omega) x3 hS7
        rw [HTW.out, show ((12 : Nat) : Int) = 12 from rfl] at kD
        go_wp2_with fail
        refine kD.mono ?_
        clear kD
        rintro e w8 ⟨rfl, hS8, k8⟩
        have HS : Hid _ := hS8
        have HK : Hid _ := hK7.trans k8
        clear hS8 k8 hK7 hS7
        go_wp2
        go_ret
        exact ⟨rfl, ⟨T, HS.out, fun _ => rfl⟩, HK.out⟩
end Go.Proofs.Ytfdigmlhjjdggaa
