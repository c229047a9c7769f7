
import Derived.Test.YtajmlfcbppnpgaaShaH
namespace Go.Proofs.Ytajmlfcbppnpgaa
open Go.RowKit

theorem IsB.take3 {w : World} {x : Option Addr} {c : Nat} {l : List UInt8} (h : IsB w (.slice x l.length c) l) (n : Nat) (hn : n ≤ l.length) : IsB w (.slice x n c) (l.take n) := by
  rcases h with ⟨h, rfl⟩ | ⟨y, d, he, hc⟩
  · simp only [Value.slice.injEq] at h
    obtain ⟨rfl, _, rfl⟩ := h
    simp at hn; subst hn
    exact .inl ⟨rfl, rfl⟩
  · simp only [Value.slice.injEq, true_and] at he
    obtain ⟨rfl, rfl⟩ := he
    refine .inr ⟨y, c, by simp; omega, fun i hi => ?_⟩
    have : i < l.length := by simp at hi; omega
    rw [hc i this]; simp
theorem addr_zero (x : Option Addr) : (x.map fun a => a.add 0) = x := by cases x <;> simp [Addr.add]
set_option linter.unusedSimpArgs false in
set_option maxRecDepth 100000 in
set_option maxHeartbeats 800000 in
theorem lawShaCuts_any {HIs : World → Value → List UInt8 → List Nat → Prop} (hH : HashOk HIs) (hSum : ShaOk) (hT : TakenOk) (xb : Option Addr) (cb : Nat) (l : List UInt8) (xi : Option Addr) (ci : Nat) (zs : List Int) (w : World) (hb : IsB w (.slice xb l.length cb) l) (hi : IsI w (.slice xi zs.length ci) zs) (hz : ∀ z ∈ zs, -9223372036854775808 ≤ z ∧ z ≤ 9223372036854775807) (h1 : l.length ≤ 140737488351232) (hcb : l.length ≤ cb) (hzl : zs.length ≤ 140737488351232) :
    Calls Try.prog 3 #[.slice xb l.length cb, .slice xi zs.length ci] w fun e w' => e = .returned (.bool true) ∧ Below w.heap.size w w' := by
  go_enter Try.func3, Try.ntmps3
  go_wp2_with fail
  refine (hT _).mono ?_
  rintro e w1 ⟨rfl, hw1⟩
  have hb1 := hb.kept hw1
  have hi1 := hi.kept hw1
  go_wp2_with fail
  refine (hH.new _).mono ?_
  rintro e w2 ⟨h, F0, rfl, -, hH0, hF0, hw2⟩
  have hb2 := hb1.kept hw2
  have hi2 := hi1.kept hw2
  have hBw2 : Below w.heap.size w w2 := hw1.trans (hw2.mono hw1.size)
  obtain ⟨v1, w3, hr1, hO1, hg1, -⟩ := run_app_more (w2.alloc (.cells #[] 5)) w2.heap.size (.slice (some ⟨w2.heap.size, 0, none⟩) 0 0) [] xb cb l 22 (ownB_empty w2) (hb2.kept (below_alloc _ _)) (by simp; omega) (by simp)
  rw [List.nil_append] at hO1
  have hB3 : Below w2.heap.size w2 w3 := (below_alloc w2 _).trans (below_by (ownB_empty w2) hg1 (by simp))
  have hF0' : ∀ q ∈ F0, w1.heap.size ≤ q := hF0
  have hb3 := hb2.kept hB3
  have hi3 := hi2.kept hB3
  have hH3 := hH.kept hH0 hB3
  have hBw3 : Below w1.heap.size w1 w3 := hw2.trans (hB3.mono hw2.size)
  obtain ⟨gr, hgr, hgr2, hin0⟩ : ∃ gr, w2.heap.size ≤ gr ∧ gr < w3.heap.size ∧ InBlk v1 gr := by
    cases hv : v1.ownBlock with
    | none => exact ⟨w2.heap.size, Nat.le_refl _, by have := hg1.size; simp at this; omega, fun a n c e => by subst e; simp [Value.ownBlock] at hv⟩
    | some q => exact ⟨q, (World.ownsRow.lt hO1 q hv).1, (World.ownsRow.lt hO1 q hv).2, fun a n c e => by subst e; simpa [Value.ownBlock] using hv⟩
  have hgF : gr ∉ F0 := fun hm => by have := hH.lt hH0 gr hm; omega
  obtain ⟨y1, d1, hv1, hd1⟩ : ∃ y d, v1 = .slice y l.length d ∧ l.length ≤ d := by
    obtain ⟨_, ⟨rfl, hn⟩ | ⟨q, cap, cur, rfl, _, _, hle, _⟩⟩ := hO1
    · exact ⟨none, 0, by rw [hn], by omega⟩
    · exact ⟨_, cap, rfl, hle⟩
  have hI3 := hO1.isB
  subst hv1
  clear hb hi hb2 hi2 hO1 hg1 hw2 hB3 hH0
  go_wp2_with (at_builtin; refine wpL_app rfl _ _ rfl _ w3 (by exact hr1) ?_)
  go_loopw [6, 7] (fun v i wr => ∃ (k f : Nat) (F : List Nat) (y : Option Addr) (r d : Nat), k ≤ zs.length ∧ i = .int .i64 k ∧ f + r = l.length ∧ v = .slice y r d ∧ IsB wr (.slice y r d) (l.drop f) ∧ InBlk (.slice y r d) gr ∧ r ≤ d ∧ HIs wr h (l.take f) F ∧ (∀ q ∈ F, w1.heap.size ≤ q) ∧ gr ∉ F ∧ gr < wr.heap.size ∧ Below w1.heap.size w1 wr) (fun _ i _ => zs.length - (intOf i).toNat)
  case atStart => exact ⟨0, 0, F0, y1, l.length, d1, Nat.zero_le _, rfl, by omega, rfl, hI3, hin0, hd1, hH3, hF0', hgF, hgr2, hBw3⟩
  case round =>
    clear hI3 hin0 hd1 hH3 hgF hgr2
    obtain ⟨k, f, F, y, r, d, hk, rfl, hfr, rfl, hIr, hin, hrd, hHr, hF, hgF, hgs, hB⟩ := hrel
    have hzk := hi1
    by_cases hlt : k < zs.length
    · obtain ⟨_, _, he, hcz⟩ := hi1.kept hB
      simp only [Value.slice.injEq, true_and] at he
      obtain ⟨rfl, rfl⟩ := he
      obtain ⟨bz, oz, rfl, hbz, hcZ⟩ := hcz k hlt
      have hzb := hz (zs[k]?.getD 0) (by simp [hlt])
      generalize zs[k]?.getD 0 = z at hcZ hzb
      clear hzk
      have hk0 : (0 : Int) ≤ (k : Int) := by omega
      have hk1 : (k : Int) < (zs.length : Int) := by omega
      obtain ⟨n, hn, hcase⟩ : ∃ n : Nat, n ≤ r ∧ ((z < 0 ∧ n = 0) ∨ (0 ≤ z ∧ (r : Int) < z ∧ n = 0) ∨ (z = n)) := by
        rcases (by omega : z < 0 ∨ (0 ≤ z ∧ (r : Int) < z) ∨ (0 ≤ z ∧ z ≤ r)) with h | h | h
        · exact ⟨0, by omega, .inl ⟨h, rfl⟩⟩
        · exact ⟨0, by omega, .inr (.inl ⟨h.1, h.2, rfl⟩)⟩
        · exact ⟨z.toNat, by omega, .inr (.inr (by omega))⟩
      rcases hcase with ⟨hz0, hn0⟩ | ⟨hz0, hz1, hn0⟩ | rfl
      · subst hn0
        go_upto_region 11 with fail
        clear hcz
        have hnl : (0 : Int) ≤ (d : Int) := by omega
        obtain ⟨f2, hf2e⟩ : ∃ f2, f + 0 = f2 := ⟨_, rfl⟩
        obtain ⟨r2, hr2e⟩ : ∃ r2, r - 0 = r2 := ⟨_, rfl⟩
        have hf2 : f2 ≤ l.length := by omega
        have hdr : ((l.drop f).drop 0).take r2 = l.drop f2 := by rw [List.drop_drop, hf2e]; exact List.take_of_length_le (by simp; omega)
        have htk : l.take f ++ (l.drop f).take 0 = l.take f2 := by rw [← hf2e, List.take_add]
        have hln : (l.drop f).length = r := by simp; omega
        have hW := hH.write wr h (l.take f) F (.slice y 0 d) ((l.drop f).take 0) gr hHr (by rw [← hln] at hIr; exact hIr.take3 0 (by omega)) (.mk (by omega)) (fun a m e he => hin a r e (by simp only [Value.slice.injEq] at he ⊢; exact ⟨he.1, trivial, he.2.2⟩)) hgF (by simp; omega)
        rw [htk] at hW
        have HW := hW
        clear hW
        go_wp2_with fail
        refine HW.mono ?_
        rintro e w4 ⟨rfl, F2, hH2, hF2, hK⟩
        go_upto_region 12 with fail
        have hIr4 := hIr.keeps hK hin hgF
        have hB4 : Below w1.heap.size w1 w4 := hB.trans (hK.below hF hB.size)
        have hF3 : ∀ q ∈ F2, w1.heap.size ≤ q := fun q hq => by
          rcases hF2 q hq with h | h
          · exact hF q h
          · exact Nat.le_trans hB.size h
        have hgF3 : gr ∉ F2 := fun hm => by
          rcases hF2 gr hm with h | h
          · exact hgF h
          · omega
        have hgs4 : gr < w4.heap.size := Nat.lt_of_lt_of_le hgs hK.size
        have hsz4 := hB4.size
        have hb4 := hb1.kept hB4
        clear HW hHr hF hgF hgs hB hF2 hK hIr htk
        have hIr := hIr4
        clear hIr4
        have hIrr := hIr
        rw [← hln] at hIr
        have hrd1 : (l.drop f).length ≤ d := by omega
        have hrn : (0 : Int) ≤ (r : Int) := by omega
        refine wp_plainsT [Fx (.slice y r d), Fx (.int .i64 0), fun v x => ∃ y2 d2, v = .slice y2 r2 d2 ∧ IsB x (.slice y2 r2 d2) (l.drop f2) ∧ InBlk (.slice y2 r2 d2) gr ∧ r2 ≤ d2] (by kernel_rfl) (by kernel_rfl) ?_ ?_ ?_
        · repeat' (first | exact all_nil | apply all_cons)
          all_goals intro v y y' hv hb
          all_goals first | exact Fx_mono _ _ _ _ hv hb | (obtain ⟨y2, d2, h1, h2, h3⟩ := hv; exact ⟨y2, d2, h1, IsB.kept h2 hb, h3⟩)
        · refine ⟨?_, ?_, ?_, trivial⟩
          all_goals
            intro ρ x hp ρc ρg ρf ho hd
            have o6 : ρ (.tmp 6) = .slice y r d := ho 6 rfl
            have o8 : ρ (.tmp 8) = .int .i64 0 := ho 8 rfl
            clear ho
            have iR := hIr.kept hp
            simp only [depsR, depR, slotR, Fx, List.getElem?_cons_succ, List.getElem?_cons_zero, Region.binds, forall_const] at hd
            simp only [guardR]
            go_split_ands
          · go_simp
          · go_simp
          · go_simp
            have hz := iR.cut 0 r2 (by omega) hrd1
            rw [hdr] at hz
            have hc := hin.cut 0 r2 (d - 0)
            first | exact ⟨_, _, ⟨rfl, rfl⟩, hz, hc, by omega⟩ | (simp only [Nat.sub_zero, ite_self, addr_zero] at hz hc; exact ⟨_, _, ⟨rfl, rfl⟩, hz, hc, by omega⟩)
        · intro vs x2 hp hw
          simp only [owed, Fx] at hw
          obtain ⟨e0, e1, ⟨y2, d2, e2, hI2, hin2, hrd2⟩, -⟩ := hw
          simp only [List.length_cons, List.length_nil, List.take_succ_cons, List.take_zero, List.drop_succ_cons, List.drop_zero, asg, List.cons_append, List.nil_append, e0, e1, e2]
          clear e0 e1 e2
          have hH5 := hH.kept hH2 hp
          have hb5 := hb4.kept hp
          have hB5 : Below w1.heap.size w1 x2 := hB4.trans (hp.mono hsz4)
          have hgs5 : gr < x2.heap.size := Nat.lt_of_lt_of_le hgs4 hp.size
          have hsz5 := hB5.size
          obtain ⟨D, hD⟩ : ∃ D, shaL (l.take f2) = D := ⟨_, rfl⟩
          have HD : Hid _ := hD
          have hDD : dg_secEq D D = true := (dg_secEq_iff D D).2 fun _ _ => rfl
          have nsub : IntKind.i64.wrap ((l.length : Int) - (r2 : Int)) = (f2 : Int) := by rw [IntKind.wrap_i64]; omega
          have hfc : (f2 : Int) ≤ (cb : Int) := by omega
          have HX : Hid (f2 + r2 = l.length) := by show _ = _; omega
          clear hD hH2 hb4 hB4 hp hIr hIrr hdr hln hin hrd hrd1 hgs4
          have hH2 := hH5
          have hB2 := hb5
          go_upto_region 13 with fail
          refine wp_relies [Fx (h), Fx (.agg (dg_secA D)), Fx (.slice xb l.length cb), Fx (.slice xb l.length cb), Fx (.int .i64 (l.length : Nat)), Fx (.slice y2 r2 d2), Fx (.int .i64 (r2 : Nat)), Fx (.int .i64 (f2 : Nat)), Fx (.slice xb f2 cb), Fx (.agg (dg_secA D)), Fx (.bool false)] (by kernel_rfl) (by kernel_rfl) ?_ ?_ ?_
          · repeat' (first | exact all_nil | apply all_cons)
            all_goals intro v y y' hv hb
            all_goals first | exact Fx_mono _ _ _ _ hv hb
          · refine ⟨?_, ?_, ?_, ?_, ?_, ?_, ?_, ?_, ?_, ?_, ?_, trivial⟩
            all_goals
              intro ρ x hp ρc ρg ρf ho hd
              have o0 : ρ (.tmp 0) = .slice xb l.length cb := ho 0 rfl
              have o5 : ρ (.tmp 5) = h := ho 5 rfl
              have o6 : ρ (.tmp 6) = .slice y2 r2 d2 := ho 6 rfl
              clear ho
              have iH := hH.kept hH2 hp
              have iB := hB2.kept hp
              simp only [depsR, depR, slotR, Fx, List.getElem?_cons_succ, List.getElem?_cons_zero, Region.binds, forall_const] at hd
              simp only [guardR]
              go_split_ands
            · go_simp
            · go_simp
              refine (hH.sum _ h (l.take f2) F2 iH (by simp; omega)).mono ?_
              rintro e x' ⟨rfl, hb⟩
              exact ⟨_, rfl, by rw [HD.out]; rfl, hb⟩
            · go_simp
            · go_simp
            · go_simp
            · go_simp
            · go_simp
            · go_simp
            · go_simp
            · go_simp
              have hi := iB.take3 f2 hf2
              have hz := hSum (.slice xb f2 cb) (l.take f2) x (by simp; omega) hi (.mk (by omega))
              refine hz.mono ?_
              rintro e x' ⟨rfl, hb⟩
              exact ⟨_, rfl, by rw [HD.out]; rfl, hb⟩
            · have hq := hDD
              go_simp
          · intro vs x3 hp3 hw
            simp only [owed, Fx] at hw
            obtain ⟨e0, e1, e2, e3, e4, e5, e6, e7, e8, e9, e10, -⟩ := hw
            simp only [List.length_cons, List.length_nil, List.take_succ_cons, List.take_nil, List.drop_succ_cons, List.drop_nil, asg, List.cons_append, List.nil_append, e0, e1, e2, e3, e4, e5, e6, e7, e8, e9, e10]
            clear e0 e1 e2 e3 e4 e5 e6 e7 e8 e9 e10
            have HI : Hid (IsB x3 (.slice y2 r2 d2) (l.drop f2)) := hI2.kept hp3
            have HH : Hid (HIs x3 h (l.take f2) F2) := hH.kept hH2 hp3
            have HB : Hid (Below w1.heap.size w1 x3) := hB5.trans (hp3.mono hsz5)
            have HG : Hid (gr < x3.heap.size) := Nat.lt_of_lt_of_le hgs5 hp3.size
            clear hI2 hH2 hH5 hB5 hp3 hgs5 hb5 hB2
            go_wp2
            go_roundw
            case rel => first | exact ⟨k + 1, f2, F2, y2, r2, d2, by omega, by go_num, HX.out, rfl, HI.out, hin2, hrd2, HH.out, hF3, hgF3, HG.out, HB.out⟩ | ((repeat apply Exists.intro); refine ⟨⟨k + 1, f2, F2, y2, r2, d2, by omega, ?_, HX.out, rfl, HI.out, hin2, hrd2, HH.out, hF3, hgF3, HG.out, HB.out⟩, rfl⟩; go_num)
            case measure => simp [intOf]; omega
      · subst hn0
        go_upto_region 11 with fail
        clear hcz
        have hnl : (0 : Int) ≤ (d : Int) := by omega
        obtain ⟨f2, hf2e⟩ : ∃ f2, f + 0 = f2 := ⟨_, rfl⟩
        obtain ⟨r2, hr2e⟩ : ∃ r2, r - 0 = r2 := ⟨_, rfl⟩
        have hf2 : f2 ≤ l.length := by omega
        have hdr : ((l.drop f).drop 0).take r2 = l.drop f2 := by rw [List.drop_drop, hf2e]; exact List.take_of_length_le (by simp; omega)
        have htk : l.take f ++ (l.drop f).take 0 = l.take f2 := by rw [← hf2e, List.take_add]
        have hln : (l.drop f).length = r := by simp; omega
        have hW := hH.write wr h (l.take f) F (.slice y 0 d) ((l.drop f).take 0) gr hHr (by rw [← hln] at hIr; exact hIr.take3 0 (by omega)) (.mk (by omega)) (fun a m e he => hin a r e (by simp only [Value.slice.injEq] at he ⊢; exact ⟨he.1, trivial, he.2.2⟩)) hgF (by simp; omega)
        rw [htk] at hW
        have HW := hW
        clear hW
        go_wp2_with fail
        refine HW.mono ?_
        rintro e w4 ⟨rfl, F2, hH2, hF2, hK⟩
        go_upto_region 12 with fail
        have hIr4 := hIr.keeps hK hin hgF
        have hB4 : Below w1.heap.size w1 w4 := hB.trans (hK.below hF hB.size)
        have hF3 : ∀ q ∈ F2, w1.heap.size ≤ q := fun q hq => by
          rcases hF2 q hq with h | h
          · exact hF q h
          · exact Nat.le_trans hB.size h
        have hgF3 : gr ∉ F2 := fun hm => by
          rcases hF2 gr hm with h | h
          · exact hgF h
          · omega
        have hgs4 : gr < w4.heap.size := Nat.lt_of_lt_of_le hgs hK.size
        have hsz4 := hB4.size
        have hb4 := hb1.kept hB4
        clear HW hHr hF hgF hgs hB hF2 hK hIr htk
        have hIr := hIr4
        clear hIr4
        have hIrr := hIr
        rw [← hln] at hIr
        have hrd1 : (l.drop f).length ≤ d := by omega
        have hrn : (0 : Int) ≤ (r : Int) := by omega
        refine wp_plainsT [Fx (.slice y r d), Fx (.int .i64 0), fun v x => ∃ y2 d2, v = .slice y2 r2 d2 ∧ IsB x (.slice y2 r2 d2) (l.drop f2) ∧ InBlk (.slice y2 r2 d2) gr ∧ r2 ≤ d2] (by kernel_rfl) (by kernel_rfl) ?_ ?_ ?_
        · repeat' (first | exact all_nil | apply all_cons)
          all_goals intro v y y' hv hb
          all_goals first | exact Fx_mono _ _ _ _ hv hb | (obtain ⟨y2, d2, h1, h2, h3⟩ := hv; exact ⟨y2, d2, h1, IsB.kept h2 hb, h3⟩)
        · refine ⟨?_, ?_, ?_, trivial⟩
          all_goals
            intro ρ x hp ρc ρg ρf ho hd
            have o6 : ρ (.tmp 6) = .slice y r d := ho 6 rfl
            have o8 : ρ (.tmp 8) = .int .i64 0 := ho 8 rfl
            clear ho
            have iR := hIr.kept hp
            simp only [depsR, depR, slotR, Fx, List.getElem?_cons_succ, List.getElem?_cons_zero, Region.binds, forall_const] at hd
            simp only [guardR]
            go_split_ands
          · go_simp
          · go_simp
          · go_simp
            have hz := iR.cut 0 r2 (by omega) hrd1
            rw [hdr] at hz
            have hc := hin.cut 0 r2 (d - 0)
            first | exact ⟨_, _, ⟨rfl, rfl⟩, hz, hc, by omega⟩ | (simp only [Nat.sub_zero, ite_self, addr_zero] at hz hc; exact ⟨_, _, ⟨rfl, rfl⟩, hz, hc, by omega⟩)
        · intro vs x2 hp hw
          simp only [owed, Fx] at hw
          obtain ⟨e0, e1, ⟨y2, d2, e2, hI2, hin2, hrd2⟩, -⟩ := hw
          simp only [List.length_cons, List.length_nil, List.take_succ_cons, List.take_zero, List.drop_succ_cons, List.drop_zero, asg, List.cons_append, List.nil_append, e0, e1, e2]
          clear e0 e1 e2
          have hH5 := hH.kept hH2 hp
          have hb5 := hb4.kept hp
          have hB5 : Below w1.heap.size w1 x2 := hB4.trans (hp.mono hsz4)
          have hgs5 : gr < x2.heap.size := Nat.lt_of_lt_of_le hgs4 hp.size
          have hsz5 := hB5.size
          obtain ⟨D, hD⟩ : ∃ D, shaL (l.take f2) = D := ⟨_, rfl⟩
          have HD : Hid _ := hD
          have hDD : dg_secEq D D = true := (dg_secEq_iff D D).2 fun _ _ => rfl
          have nsub : IntKind.i64.wrap ((l.length : Int) - (r2 : Int)) = (f2 : Int) := by rw [IntKind.wrap_i64]; omega
          have hfc : (f2 : Int) ≤ (cb : Int) := by omega
          have HX : Hid (f2 + r2 = l.length) := by show _ = _; omega
          clear hD hH2 hb4 hB4 hp hIr hIrr hdr hln hin hrd hrd1 hgs4
          have hH2 := hH5
          have hB2 := hb5
          go_upto_region 13 with fail
          refine wp_relies [Fx (h), Fx (.agg (dg_secA D)), Fx (.slice xb l.length cb), Fx (.slice xb l.length cb), Fx (.int .i64 (l.length : Nat)), Fx (.slice y2 r2 d2), Fx (.int .i64 (r2 : Nat)), Fx (.int .i64 (f2 : Nat)), Fx (.slice xb f2 cb), Fx (.agg (dg_secA D)), Fx (.bool false)] (by kernel_rfl) (by kernel_rfl) ?_ ?_ ?_
          · repeat' (first | exact all_nil | apply all_cons)
            all_goals intro v y y' hv hb
            all_goals first | exact Fx_mono _ _ _ _ hv hb
          · refine ⟨?_, ?_, ?_, ?_, ?_, ?_, ?_, ?_, ?_, ?_, ?_, trivial⟩
            all_goals
              intro ρ x hp ρc ρg ρf ho hd
              have o0 : ρ (.tmp 0) = .slice xb l.length cb := ho 0 rfl
              have o5 : ρ (.tmp 5) = h := ho 5 rfl
              have o6 : ρ (.tmp 6) = .slice y2 r2 d2 := ho 6 rfl
              clear ho
              have iH := hH.kept hH2 hp
              have iB := hB2.kept hp
              simp only [depsR, depR, slotR, Fx, List.getElem?_cons_succ, List.getElem?_cons_zero, Region.binds, forall_const] at hd
              simp only [guardR]
              go_split_ands
            · go_simp
            · go_simp
              refine (hH.sum _ h (l.take f2) F2 iH (by simp; omega)).mono ?_
              rintro e x' ⟨rfl, hb⟩
              exact ⟨_, rfl, by rw [HD.out]; rfl, hb⟩
            · go_simp
            · go_simp
            · go_simp
            · go_simp
            · go_simp
            · go_simp
            · go_simp
            · go_simp
              have hi := iB.take3 f2 hf2
              have hz := hSum (.slice xb f2 cb) (l.take f2) x (by simp; omega) hi (.mk (by omega))
              refine hz.mono ?_
              rintro e x' ⟨rfl, hb⟩
              exact ⟨_, rfl, by rw [HD.out]; rfl, hb⟩
            · have hq := hDD
              go_simp
          · intro vs x3 hp3 hw
            simp only [owed, Fx] at hw
            obtain ⟨e0, e1, e2, e3, e4, e5, e6, e7, e8, e9, e10, -⟩ := hw
            simp only [List.length_cons, List.length_nil, List.take_succ_cons, List.take_nil, List.drop_succ_cons, List.drop_nil, asg, List.cons_append, List.nil_append, e0, e1, e2, e3, e4, e5, e6, e7, e8, e9, e10]
            clear e0 e1 e2 e3 e4 e5 e6 e7 e8 e9 e10
            have HI : Hid (IsB x3 (.slice y2 r2 d2) (l.drop f2)) := hI2.kept hp3
            have HH : Hid (HIs x3 h (l.take f2) F2) := hH.kept hH2 hp3
            have HB : Hid (Below w1.heap.size w1 x3) := hB5.trans (hp3.mono hsz5)
            have HG : Hid (gr < x3.heap.size) := Nat.lt_of_lt_of_le hgs5 hp3.size
            clear hI2 hH2 hH5 hB5 hp3 hgs5 hb5 hB2
            go_wp2
            go_roundw
            case rel => first | exact ⟨k + 1, f2, F2, y2, r2, d2, by omega, by go_num, HX.out, rfl, HI.out, hin2, hrd2, HH.out, hF3, hgF3, HG.out, HB.out⟩ | ((repeat apply Exists.intro); refine ⟨⟨k + 1, f2, F2, y2, r2, d2, by omega, ?_, HX.out, rfl, HI.out, hin2, hrd2, HH.out, hF3, hgF3, HG.out, HB.out⟩, rfl⟩; go_num)
            case measure => simp [intOf]; omega
      · have hz0 : (0 : Int) ≤ (n : Int) := by omega
        have hz1 : (n : Int) ≤ (r : Int) := by omega
        go_upto_region 11 with fail
        clear hcz
        have hnl : (n : Int) ≤ (d : Int) := by omega
        obtain ⟨f2, hf2e⟩ : ∃ f2, f + n = f2 := ⟨_, rfl⟩
        obtain ⟨r2, hr2e⟩ : ∃ r2, r - n = r2 := ⟨_, rfl⟩
        have hf2 : f2 ≤ l.length := by omega
        have hdr : ((l.drop f).drop n).take r2 = l.drop f2 := by rw [List.drop_drop, hf2e]; exact List.take_of_length_le (by simp; omega)
        have htk : l.take f ++ (l.drop f).take n = l.take f2 := by rw [← hf2e, List.take_add]
        have hln : (l.drop f).length = r := by simp; omega
        have hW := hH.write wr h (l.take f) F (.slice y n d) ((l.drop f).take n) gr hHr (by rw [← hln] at hIr; exact hIr.take3 n (by omega)) (.mk (by omega)) (fun a m e he => hin a r e (by simp only [Value.slice.injEq] at he ⊢; exact ⟨he.1, trivial, he.2.2⟩)) hgF (by simp; omega)
        rw [htk] at hW
        have HW := hW
        clear hW
        go_wp2_with fail
        refine HW.mono ?_
        rintro e w4 ⟨rfl, F2, hH2, hF2, hK⟩
        go_upto_region 12 with fail
        have hIr4 := hIr.keeps hK hin hgF
        have hB4 : Below w1.heap.size w1 w4 := hB.trans (hK.below hF hB.size)
        have hF3 : ∀ q ∈ F2, w1.heap.size ≤ q := fun q hq => by
          rcases hF2 q hq with h | h
          · exact hF q h
          · exact Nat.le_trans hB.size h
        have hgF3 : gr ∉ F2 := fun hm => by
          rcases hF2 gr hm with h | h
          · exact hgF h
          · omega
        have hgs4 : gr < w4.heap.size := Nat.lt_of_lt_of_le hgs hK.size
        have hsz4 := hB4.size
        have hb4 := hb1.kept hB4
        clear HW hHr hF hgF hgs hB hF2 hK hIr htk
        have hIr := hIr4
        clear hIr4
        have hIrr := hIr
        rw [← hln] at hIr
        have hrd1 : (l.drop f).length ≤ d := by omega
        have hrn : (n : Int) ≤ (r : Int) := by omega
        refine wp_plainsT [Fx (.slice y r d), Fx (.int .i64 (n : Nat)), fun v x => ∃ y2 d2, v = .slice y2 r2 d2 ∧ IsB x (.slice y2 r2 d2) (l.drop f2) ∧ InBlk (.slice y2 r2 d2) gr ∧ r2 ≤ d2] (by kernel_rfl) (by kernel_rfl) ?_ ?_ ?_
        · repeat' (first | exact all_nil | apply all_cons)
          all_goals intro v y y' hv hb
          all_goals first | exact Fx_mono _ _ _ _ hv hb | (obtain ⟨y2, d2, h1, h2, h3⟩ := hv; exact ⟨y2, d2, h1, IsB.kept h2 hb, h3⟩)
        · refine ⟨?_, ?_, ?_, trivial⟩
          all_goals
            intro ρ x hp ρc ρg ρf ho hd
            have o6 : ρ (.tmp 6) = .slice y r d := ho 6 rfl
            have o8 : ρ (.tmp 8) = .int .i64 (n : Nat) := ho 8 rfl
            clear ho
            have iR := hIr.kept hp
            simp only [depsR, depR, slotR, Fx, List.getElem?_cons_succ, List.getElem?_cons_zero, Region.binds, forall_const] at hd
            simp only [guardR]
            go_split_ands
          · go_simp
          · go_simp
          · go_simp
            have hz := iR.cut n r2 (by omega) hrd1
            rw [hdr] at hz
            have hc := hin.cut n r2 (d - n)
            first | exact ⟨_, _, ⟨rfl, rfl⟩, hz, hc, by omega⟩ | (simp only [Nat.sub_zero, ite_self, addr_zero] at hz hc; exact ⟨_, _, ⟨rfl, rfl⟩, hz, hc, by omega⟩)
        · intro vs x2 hp hw
          simp only [owed, Fx] at hw
          obtain ⟨e0, e1, ⟨y2, d2, e2, hI2, hin2, hrd2⟩, -⟩ := hw
          simp only [List.length_cons, List.length_nil, List.take_succ_cons, List.take_zero, List.drop_succ_cons, List.drop_zero, asg, List.cons_append, List.nil_append, e0, e1, e2]
          clear e0 e1 e2
          have hH5 := hH.kept hH2 hp
          have hb5 := hb4.kept hp
          have hB5 : Below w1.heap.size w1 x2 := hB4.trans (hp.mono hsz4)
          have hgs5 : gr < x2.heap.size := Nat.lt_of_lt_of_le hgs4 hp.size
          have hsz5 := hB5.size
          obtain ⟨D, hD⟩ : ∃ D, shaL (l.take f2) = D := ⟨_, rfl⟩
          have HD : Hid _ := hD
          have hDD : dg_secEq D D = true := (dg_secEq_iff D D).2 fun _ _ => rfl
          have nsub : IntKind.i64.wrap ((l.length : Int) - (r2 : Int)) = (f2 : Int) := by rw [IntKind.wrap_i64]; omega
          have hfc : (f2 : Int) ≤ (cb : Int) := by omega
          have HX : Hid (f2 + r2 = l.length) := by show _ = _; omega
          clear hD hH2 hb4 hB4 hp hIr hIrr hdr hln hin hrd hrd1 hgs4
          have hH2 := hH5
          have hB2 := hb5
          go_upto_region 13 with fail
          refine wp_relies [Fx (h), Fx (.agg (dg_secA D)), Fx (.slice xb l.length cb), Fx (.slice xb l.length cb), Fx (.int .i64 (l.length : Nat)), Fx (.slice y2 r2 d2), Fx (.int .i64 (r2 : Nat)), Fx (.int .i64 (f2 : Nat)), Fx (.slice xb f2 cb), Fx (.agg (dg_secA D)), Fx (.bool false)] (by kernel_rfl) (by kernel_rfl) ?_ ?_ ?_
          · repeat' (first | exact all_nil | apply all_cons)
            all_goals intro v y y' hv hb
            all_goals first | exact Fx_mono _ _ _ _ hv hb
          · refine ⟨?_, ?_, ?_, ?_, ?_, ?_, ?_, ?_, ?_, ?_, ?_, trivial⟩
            all_goals
              intro ρ x hp ρc ρg ρf ho hd
              have o0 : ρ (.tmp 0) = .slice xb l.length cb := ho 0 rfl
              have o5 : ρ (.tmp 5) = h := ho 5 rfl
              have o6 : ρ (.tmp 6) = .slice y2 r2 d2 := ho 6 rfl
              clear ho
              have iH := hH.kept hH2 hp
              have iB := hB2.kept hp
              simp only [depsR, depR, slotR, Fx, List.getElem?_cons_succ, List.getElem?_cons_zero, Region.binds, forall_const] at hd
              simp only [guardR]
              go_split_ands
            · go_simp
            · go_simp
              refine (hH.sum _ h (l.take f2) F2 iH (by simp; omega)).mono ?_
              rintro e x' ⟨rfl, hb⟩
              exact ⟨_, rfl, by rw [HD.out]; rfl, hb⟩
            · go_simp
            · go_simp
            · go_simp
            · go_simp
            · go_simp
            · go_simp
            · go_simp
            · go_simp
              have hi := iB.take3 f2 hf2
              have hz := hSum (.slice xb f2 cb) (l.take f2) x (by simp; omega) hi (.mk (by omega))
              refine hz.mono ?_
              rintro e x' ⟨rfl, hb⟩
              exact ⟨_, rfl, by rw [HD.out]; rfl, hb⟩
            · have hq := hDD
              go_simp
          · intro vs x3 hp3 hw
            simp only [owed, Fx] at hw
            obtain ⟨e0, e1, e2, e3, e4, e5, e6, e7, e8, e9, e10, -⟩ := hw
            simp only [List.length_cons, List.length_nil, List.take_succ_cons, List.take_nil, List.drop_succ_cons, List.drop_nil, asg, List.cons_append, List.nil_append, e0, e1, e2, e3, e4, e5, e6, e7, e8, e9, e10]
            clear e0 e1 e2 e3 e4 e5 e6 e7 e8 e9 e10
            have HI : Hid (IsB x3 (.slice y2 r2 d2) (l.drop f2)) := hI2.kept hp3
            have HH : Hid (HIs x3 h (l.take f2) F2) := hH.kept hH2 hp3
            have HB : Hid (Below w1.heap.size w1 x3) := hB5.trans (hp3.mono hsz5)
            have HG : Hid (gr < x3.heap.size) := Nat.lt_of_lt_of_le hgs5 hp3.size
            clear hI2 hH2 hH5 hB5 hp3 hgs5 hb5 hB2
            go_wp2
            go_roundw
            case rel => first | exact ⟨k + 1, f2, F2, y2, r2, d2, by omega, by go_num, HX.out, rfl, HI.out, hin2, hrd2, HH.out, hF3, hgF3, HG.out, HB.out⟩ | ((repeat apply Exists.intro); refine ⟨⟨k + 1, f2, F2, y2, r2, d2, by omega, ?_, HX.out, rfl, HI.out, hin2, hrd2, HH.out, hF3, hgF3, HG.out, HB.out⟩, rfl⟩; go_num)
            case measure => simp [intOf]; omega
    · obtain rfl : k = zs.length := by omega
      have hln : (l.drop f).length = r := by simp; omega
      have hW := hH.write wr h (l.take f) F (.slice y r d) (l.drop f) gr hHr hIr (.mk hrd) hin hgF (by simp; omega)
      rw [List.take_append_drop] at hW
      have HW := hW
      clear hW hzk
      go_wp2_with fail
      refine HW.mono ?_
      rintro e w4 ⟨rfl, F2, hH2, hF2, hK⟩
      have hB4 : Below w1.heap.size w1 w4 := hB.trans (hK.below hF hB.size)
      have hb4 := hb1.kept hB4
      clear HW hHr hF hgF hgs hB hF2 hK hIr
      obtain ⟨D, hD⟩ : ∃ D, shaL l = D := ⟨_, rfl⟩
      have hDD : dg_secEq D D = true := (dg_secEq_iff D D).2 fun _ _ => rfl
      have hS1 := hH.sum w4 h l F2 hH2 (by omega)
      rw [hD] at hS1
      go_wp2_with fail
      refine hS1.mono ?_
      rintro e w5 ⟨rfl, hw5⟩
      have hH5 := hH.kept hH2 hw5
      have hb5 := hb4.kept hw5
      have hS2 := hSum _ l w5 (by omega) hb5 (.mk hcb)
      rw [hD] at hS2
      go_wp2_with fail
      refine hS2.mono ?_
      rintro e w6 ⟨rfl, hw6⟩
      have hH6 := hH.kept hH5 hw6
      have hS3 := hH.len w6 h l F2 hH6 (by omega)
      go_wp2_with fail
      refine hS3.mono ?_
      rintro e w7 ⟨rfl, hw7⟩
      go_wp2
      go_ret
      have hB5 := hB4.trans (hw5.mono hB4.size)
      have hB6 := hB5.trans (hw6.mono hB5.size)
      have hB7 := hB6.trans (hw7.mono hB6.size)
      exact ⟨rfl, hw1.trans (hB7.mono hw1.size)⟩
end Go.Proofs.Ytajmlfcbppnpgaa
