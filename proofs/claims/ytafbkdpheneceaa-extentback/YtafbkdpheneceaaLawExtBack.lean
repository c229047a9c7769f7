
import Derived.Test.YtafbkdpheneceaaExtC
namespace Go.Proofs.Ytafbkdpheneceaa
open Go.RowKit

/-! ExtentBack, out of what extent owes -/
set_option linter.unusedSimpArgs false in
set_option maxRecDepth 100000 in
set_option maxHeartbeats 4000000 in
theorem lawExtBack_any {X : World → Value → XSt → List Nat → Prop} (O : ExtOk X) (N : ExtNil) (ss ps : List Int) (x : Option Addr) (ns c : Nat) (xp : Option Addr) (np cp : Nat) (w : World) (hns : ss.length = ns) (hnp : ps.length = np) (hmax : ns ≤ 140737488355328) (hmaxp : np ≤ 140737488355328) (hss : ∀ a ∈ ss, i64 a) (hps : ∀ a ∈ ps, i64 a) (hS : IsG w (.slice x ns c) (zV ss)) (hP : IsG w (.slice xp np cp) (zV ps)) :
    Calls Try.prog 4 #[.slice x ns c, .slice xp np cp] w fun e w' => e = .returned (.bool true) ∧ Below w.heap.size w w' := by
  go_enter Try.func4, Try.ntmps4
  go_wp2_with fail
  go_at_call 6
  refine (O.new w 0 200 (by unfold i64; omega) (by unfold i64; omega)).mono ?_
  rintro e w1 ⟨hB1, h⟩
  obtain ⟨-, -, -, v, F, rfl, hX0, hF⟩ := h.resolve_right (fun h => h.1 (by omega))
  have hX1 : XAt X w.heap.size [] w1 v ⟨0, 200, fun _ => false⟩ := ⟨F, hX0, hF, by simp⟩
  obtain ⟨ad, rfl⟩ := hX1.ptr O
  clear hX0 hF h F
  go_wp2_with fail
  go_at_call 7
  refine (known8_any O N _).mono ?_
  rintro e w2 ⟨rfl, hb2⟩
  have hX2 := hX1.later O hb2
  have hB2 := hB1.trans (hb2.mono hB1.size)
  clear hX1 hB1 hb2
  go_wp2_with fail
  go_at_call 8
  refine (hX2.take O hB2.size 50 7 (by unfold i64; omega) (by unfold i64; omega)).mono ?_
  rintro e w3 ⟨rfl, hX3, hb3, -⟩
  have hX3' : XAt X w.heap.size [] w3 (.pointer (some ad)) x200 := hX3
  have hB3 := hB2.trans hb3
  clear hX2 hX3 hb3 hB2
  go_wp2_with fail
  go_at_call 10
  refine (hX3'.ranges O hB3.size).mono ?_
  rintro e w4 ⟨yb, cb, A, rfl, hO4, hX4, hA4, -, hb4, -⟩
  have hB4 := hB3.trans hb4
  clear hX3' hb4 hB3
  rw [List.append_nil] at hX4
  obtain ⟨Lb, hLb⟩ : ∃ Lb, (xRuns x200).length = Lb := ⟨_, rfl⟩
  rw [hLb] at hO4 hA4 ⊢
  have HLb : Hid ((xRuns x200).length = Lb) := hLb
  clear hLb
  have hX4' : XAt X w.heap.size ((Value.slice none 0 0).ownBlock.toList ++ (Value.slice yb Lb cb).ownBlock.toList) w4 (.pointer (some ad)) x200 := hX4.less fun a ha => hA4 a (by simpa [Value.ownBlock] using ha)
  clear hX4 hA4
  go_wp2
  go_loopw [8, 9] (fun hv iv wr => ∃ (i : Nat) (hs : List (Nat × Nat)) (st : XSt) (xh : Option Addr) (ch : Nat), i ≤ ns ∧ i ≤ 60 ∧ hs.length ≤ i ∧ iv = .int .i64 i ∧ hv = .slice xh hs.length ch ∧ OwnK prE wr w.heap.size (.slice xh hs.length ch) (rI hs) ∧ Hld8 st hs ∧ OwnK prE wr w.heap.size (.slice yb Lb cb) (rI (xRuns x200)) ∧ Apt (.slice xh hs.length ch) (.slice yb Lb cb) ∧ XAt X w.heap.size ((Value.slice xh hs.length ch).ownBlock.toList ++ (Value.slice yb Lb cb).ownBlock.toList) wr (.pointer (some ad)) st ∧ Below w.heap.size w wr) (fun _ iv _ => 60 - (intOf iv).toNat)
  case atStart => exact ⟨0, [], x200, none, 0, by omega, by omega, Nat.le_refl _, rfl, rfl, OwnK.nil _ _ _, held_zero, hO4, .inl rfl, hX4', hB4⟩
  case round =>
    clear hO4 hX4' hB4
    obtain ⟨i, hs, st, xh, ch, hi, hi60, hhl, rfl, rfl, hO, hH, hb, hap, hX, hB⟩ := hrel
    by_cases hlt : i < ns ∧ i < 60
    · obtain ⟨hl1, hl2⟩ := hlt
      have hl1' : (i : Int) < (ns : Int) := by omega
      have hl2' : (i : Int) < 60 := by omega
      obtain ⟨z, hz⟩ : ∃ z, ss[i]? = some z := ⟨_, List.getElem?_eq_getElem (by omega)⟩
      obtain ⟨z0, z1⟩ := hss z (List.mem_of_getElem? hz)
      obtain ⟨bs, os', rfl, hbs, hcs⟩ := (hS.kept hB).spot i (by rw [zV_len]; omega)
      have c0 := hcs i _ (zV_at hz)
      clear hcs
      have hlow := hX.lowest O hB.size z ⟨z0, z1⟩
      obtain ⟨lo, hlo⟩ : ∃ lo, xLow st z = lo := ⟨_, rfl⟩
      rw [hlo] at hlow
      go_wp2_with fail
      go_at_call 12
      refine hlow.mono ?_
      rintro e w5 ⟨rfl, hX5, hb5, hk5⟩
      have hO5 := hk5.own hO (fun q hq => by simp [hq])
      have hbb5 := hk5.own hb (fun q hq => by simp [hq])
      have hB5 := hB.trans hb5
      clear hlow hX hO hb hb5 hk5 hB
      cases lo with
      | none =>
        have HR : Hid _ := And.intro hO5 (And.intro hH (And.intro hbb5 (And.intro hap (And.intro hX5 hB5))))
        clear hO5 hH hbb5 hap hX5 hB5
        go_wp2
        go_roundw
        case rel =>
          obtain ⟨r1, r2, r3, r4, r5, r6⟩ := HR.out
          exact ⟨i + 1, hs, st, xh, ch, by omega, by omega, by omega, by go_num, rfl, r1, r2, r3, r4, r5, r6⟩
        case measure => simp [intOf]; omega
      | some a =>
        obtain ⟨p1, p2, p3, p4⟩ := low_spec st z a hlo
        obtain ⟨n, rfl⟩ : ∃ n : Nat, z = (n : Int) := ⟨z.toNat, by omega⟩
        rw [Int.toNat_natCast] at p4
        have hz2 : a + n ≤ 200 := by have := hH.fr; have := hH.hi; omega
        obtain ⟨hok, hH', hfa⟩ := hH.more a n (by omega) hz2 p4
        have htake := hX5.take O hB5.size (a : Int) (n : Int) (by unfold i64; omega) (by unfold i64; omega)
        rw [hok] at htake
        generalize xTurn st (a : Int) (n : Int) true = st' at hH' hfa htake
        have hno := xOk_no st' (a : Int) true (by rw [Int.toNat_natCast]; exact hfa)
        have htk : xTaken st' (a : Int) = true := by
          unfold xTaken
          rw [hH'.fr, hH'.hi, Int.toNat_natCast, hfa, decide_eq_true (by omega)]; rfl
        obtain ⟨b2, o2, he2, -, hcs⟩ := (hS.kept hB5).spot i (by rw [zV_len]; omega)
        cases he2
        have c5 := hcs i _ (zV_at hz)
        clear hcs p1 p2 p3 p4 hH hok hlo c0 hX5
        go_wp2_with fail
        go_at_call 8
        refine htake.mono ?_
        rintro e w6 ⟨rfl, hX6, hb6, hk6⟩
        have hO6 := hk6.own hO5 (fun q hq => by simp [hq])
        have hbb6 := hk6.own hbb5 (fun q hq => by simp [hq])
        have hB6 := hB5.trans hb6
        have htake2 := hX6.take O hB6.size (a : Int) 1 (by unfold i64; omega) (by unfold i64; omega)
        rw [hno, xTurn_no _ _ _ _ hno] at htake2
        clear htake hX6 hO5 hbb5 hb6 hk6 hB5 c5 hno
        go_wp2_with fail
        go_at_call 8
        refine htake2.mono ?_
        rintro e w7 ⟨rfl, hX7, hb7, hk7⟩
        have hO7 := hk7.own hO6 (fun q hq => by simp [hq])
        have hbb7 := hk7.own hbb6 (fun q hq => by simp [hq])
        have hB7 := hB6.trans hb7
        have htaken := hX7.taken O hB7.size (a : Int) (by unfold i64; omega)
        rw [htk] at htaken
        clear htake2 hX7 hO6 hbb6 hb7 hk7 hB6 htk
        go_wp2_with fail
        go_at_call 11
        refine htaken.mono ?_
        rintro e w8 ⟨rfl, hX8, hb8, hk8⟩
        have hO8 := hk8.own hO7 (fun q hq => by simp [hq])
        have hbb8 := hk8.own hbb7 (fun q hq => by simp [hq])
        have hB8 := hB7.trans hb8
        clear htaken hO7 hbb7 hb8 hk8 hB7
        obtain ⟨b2, o2, he2, -, hcs⟩ := (hS.kept hB8).spot i (by rw [zV_len]; omega)
        cases he2
        have c8 := hcs i _ (zV_at hz)
        clear hcs
        have hA9 := below_alloc w8 (.cells (prA ((a : Int), (n : Int))) 33)
        have hp9 := own_pr1 w8 ((a : Int), (n : Int))
        have hB9 := hB8.trans (hA9.mono hB8.size)
        obtain ⟨y, c', w9, hr, hOn, hbn, hst, hXn⟩ := app8 O (w8.alloc (.cells (prA ((a : Int), (n : Int))) 33)) w.heap.size xh hs.length ch (rI hs) [((a : Int), (n : Int))] (some ⟨w8.heap.size, 0, none⟩) 1 1 31 (hO8.keep hA9) (rI_len hs) rfl (hp9.isK prE_ok) hB9.size (by omega)
        obtain ⟨hbbn, hapn⟩ := hst _ _ (hbb8.keep hA9) hap.symm
        have hXn' := (hXn _ _ _ (fun q hq => by simp [hq]) (hX8.later O hA9)).less (A' := (Value.slice y (hs.length + 1) c').ownBlock.toList ++ (Value.slice yb Lb cb).ownBlock.toList) (fun q hq => by
          rcases List.mem_append.1 hq with hq | hq
          · exact List.mem_append.2 (.inl hq)
          · exact List.mem_append.2 (.inr (List.mem_append.2 (.inr hq))))
        have hlist : rI hs ++ [((a : Int), (n : Int))] = rI (hs ++ [(a, n)]) := by simp [rI]
        have hll : (hs ++ [(a, n)]).length = hs.length + 1 := by simp
        rw [hlist] at hOn
        rw [← hll] at hOn hapn hXn' hr
        have HR : Hid _ := And.intro hOn (And.intro hH' (And.intro hbbn (And.intro hapn.symm (And.intro hXn' (hB9.trans hbn)))))
        have HL : Hid _ := hll
        clear hA9 hp9 hB9 hOn hbn hst hXn hbbn hapn hXn' hlist hH' hap hX8 hO8 hbb8 hll
        go_wp2_with (at_builtin; refine wpL_appG 31 rfl _ _ rfl _ w9 (by exact hr) ?_)
        go_roundw
        case rel =>
          obtain ⟨r1, r2, r3, r4, r5, r6⟩ := HR.out
          exact ⟨i + 1, hs ++ [(a, n)], st', y, c', by omega, by omega, by rw [HL.out]; omega, by go_num, by rw [HL.out], r1, r2, r3, r4, r5, r6⟩
        case measure => simp [intOf]; omega
    · have Hh60 : Hid (hs.length ≤ 60) := by show _ ≤ _; omega
      clear hhl hss hS hmax
      by_cases h1 : i < ns
      · have h1' : (i : Int) < (ns : Int) := by omega
        have h2' : ¬ (i : Int) < 60 := by omega
        clear hlt hi hi60 h1
        have HR : Hid _ := And.intro hO (And.intro hH (And.intro hb (And.intro hap (And.intro hX hB))))
        clear hO hH hb hap hX hB
        go_wp2
        go_loopw [8, 12] (fun hv iv wr => ∃ (i : Nat) (hs : List (Nat × Nat)) (st : XSt) (xh : Option Addr) (ch : Nat), i + hs.length ≤ 60 ∧ iv = .int .i64 i ∧ hv = .slice xh hs.length ch ∧ OwnK prE wr w.heap.size (.slice xh hs.length ch) (rI hs) ∧ Hld8 st hs ∧ OwnK prE wr w.heap.size (.slice yb Lb cb) (rI (xRuns x200)) ∧ Apt (.slice xh hs.length ch) (.slice yb Lb cb) ∧ XAt X w.heap.size ((Value.slice xh hs.length ch).ownBlock.toList ++ (Value.slice yb Lb cb).ownBlock.toList) wr (.pointer (some ad)) st ∧ Below w.heap.size w wr) (fun hv _ _ => lenV hv)
        case atStart =>
          obtain ⟨r1, r2, r3, r4, r5, r6⟩ := HR.out
          exact ⟨0, hs, st, xh, ch, by have := Hh60.out; omega, rfl, rfl, r1, r2, r3, r4, r5, r6⟩
        case round =>
          clear HR Hh60
          try clear h1'
          try clear h2'
          rename_i i0 hs0 st0 xh0 ch0 _
          obtain ⟨i, hs, st, xh, ch, hil, rfl, rfl, hO, hH, hb, hap, hX, hB⟩ := hrel
          obtain ⟨L, hL⟩ : ∃ L, hs.length = L := ⟨_, rfl⟩
          rw [hL] at hil hO hap hX ⊢
          by_cases h0 : 0 < L
          · have h0' : (0 : Int) < (L : Int) := by omega
            have hne : ¬ (L : Int) = 0 := by omega
            obtain ⟨gh, rfl⟩ := slice_block hO (by rw [rI_len]; omega)
            by_cases hip : i < np
            · have hip' : (i : Int) < (np : Int) := by omega
              obtain ⟨z, hz⟩ : ∃ z, ps[i]? = some z := ⟨_, List.getElem?_eq_getElem (by omega)⟩
              obtain ⟨z0, z1⟩ := hps z (List.mem_of_getElem? hz)
              obtain ⟨bp, op, rfl, hbp, hcp⟩ := (hP.kept hB).spot i (by rw [zV_len]; omega)
              have c0 := hcp i _ (zV_at hz)
              clear hcp hz
              have hm1 := Int.tmod_lt_of_pos z (show (0 : Int) < (L : Int) by omega)
              have hm2 : -(L : Int) < z.tmod (L : Int) := by
                exact Int.lt_tmod_of_pos z (show (0 : Int) < (L : Int) by omega)
              by_cases hneg : z.tmod (L : Int) < 0
              · obtain ⟨j, hj⟩ : ∃ j : Nat, z.tmod (L : Int) + (L : Int) = (j : Int) := ⟨(z.tmod (L : Int) + (L : Int)).toNat, by omega⟩
                have hjL : j < L := by omega
                go_upto_region 23 with fail
                clear hj hneg hm1 hm2 z0 z1 c0 hip'
                obtain ⟨p, hp⟩ : ∃ p, hs[j]? = some p := ⟨_, List.getElem?_eq_getElem (by omega)⟩
                obtain ⟨a, n⟩ := p
                obtain ⟨d0, d1⟩ := pr_cells (hO.range prE_ok j _ (rI_at hp))
                rw [prE_k] at d0 d1
                obtain ⟨hok, hH', hfa⟩ := hH.less j a n hp
                have hpos := hH.pos _ (List.mem_of_getElem? hp)
                dsimp only at d0 d1 hpos
                obtain ⟨st', hst'⟩ : ∃ st', xTurn st (a : Int) (n : Int) false = st' := ⟨_, rfl⟩
                rw [hst'] at hH' hfa
                have hno := xOk_no st' (a : Int) false (by rw [Int.toNat_natCast]; exact hfa)
                obtain ⟨F, hX0, hF, hA⟩ := hX
                have hgh : gh ∉ F := (hA gh (by simp [Value.ownBlock])).1
                have FK : Hid ((j : Int) < (L : Int)) := by show _ < _; omega
                have HH : Hid (Hld8 st' (hs.take j ++ hs.drop (j + 1))) := hH'
                have HN : Hid (xOk st' (a : Int) 1 false = false) := hno
                have HO : Hid (OwnK prE wr w.heap.size (.slice (some ⟨gh, 0, none⟩) L ch) (rI hs)) := hO
                have Hb : Hid (OwnK prE wr w.heap.size (.slice yb Lb cb) (rI (xRuns x200))) := hb
                have HB : Hid (Below w.heap.size w wr) := hB
                have HX0 : Hid (X wr (.pointer (some ad)) st F) := hX0
                have HF : Hid ((∀ q ∈ F, w.heap.size ≤ q) ∧ ∀ a ∈ (Value.slice (some ⟨gh, 0, none⟩) L ch).ownBlock.toList ++ (Value.slice yb Lb cb).ownBlock.toList, a ∉ F ∧ a < wr.heap.size) := ⟨hF, hA⟩
                have HI : Hid (i64 (a : Int) ∧ i64 (n : Int) ∧ i64 1) := ⟨by unfold i64; omega, by unfold i64; omega, by unfold i64; omega⟩
                clear hH hH' hfa hno hO hb hB hX0 hF hA hp hpos
                refine wp_reliesK (kokp8 (G := F)) 11 [0, 1, 2, 3, 4, 5, 6, 7, 8, 9, 10] [Fx (.pointer (some ad)), Fx (.slice (some ⟨gh, 0, none⟩) L ch), Fx (.int .i64 ((j : Int))), Fx (.pointer (some ⟨gh, j * 2, none⟩)), Fx (.pointer (some ⟨gh, j * 2, none⟩)), Fx (.int .i64 ((a : Int))), Fx (.slice (some ⟨gh, 0, none⟩) L ch), Fx (.int .i64 ((j : Int))), Fx (.pointer (some ⟨gh, j * 2, none⟩)), Fx (.pointer (some ⟨gh, j * 2 + 1, none⟩)), Fx (.int .i64 ((n : Int))), fun v x => v = .bool true ∧ ∃ F', X x (.pointer (some ad)) st' F' ∧ ∀ q ∈ F', q ∈ F ∨ wr.heap.size ≤ q, Fx (.bool false), Fx (.bool false), Fx (.pointer (some ad)), Fx (.slice (some ⟨gh, 0, none⟩) L ch), Fx (.int .i64 ((j : Int))), Fx (.pointer (some ⟨gh, j * 2, none⟩)), Fx (.pointer (some ⟨gh, j * 2, none⟩)), Fx (.int .i64 ((a : Int)))] (by simp) (by kernel_rfl) (by kernel_rfl) (by kernel_rfl) ?_ ?_ ?_ ?_
                · repeat' (first | exact all_nil | apply all_cons)
                  all_goals intro v y y' hv hb
                  all_goals first | exact Fx_mono _ _ _ _ hv hb | (obtain ⟨h1, F9, h2, h3⟩ := hv; exact ⟨h1, F9, O.keeps (G := []) h2 (Keep.of_below hb) (fun _ _ => by simp), h3⟩)
                · simp only [List.eraseIdx]
                  repeat' (first | exact all_nil | apply all_cons)
                  all_goals intro v y y' hv hb
                  all_goals first | exact (show Fx _ _ _ from hv)
                · refine ⟨?_, ?_, ?_, ?_, ?_, ?_, ?_, ?_, ?_, ?_, ?_, ?_, ?_, ?_, ?_, ?_, ?_, ?_, ?_, ?_, trivial⟩
                  all_goals
                    intro ρ x hk hp ρc ρg ρf ho hd
                    first | (replace hp := hp (by decide)) | clear hp
                    have o5 : ρ (.tmp 5) = .pointer (some ad) := ho 5 rfl
                    have o8 : ρ (.tmp 8) = .slice (some ⟨gh, 0, none⟩) L ch := ho 8 rfl
                    have o13 : ρ (.tmp 13) = .int .i64 ((j : Int)) := ho 13 rfl
                    clear ho
                    have k0 := cell_keepF hk d0 hgh
                    have k1 := cell_keepF hk d1 hgh
                    simp only [depsR, depR, slotR, Fx, List.getElem?_cons_succ, List.getElem?_cons_zero, Region.binds, forall_const] at hd
                    simp only [guardR, Nat.reduceBEq, cond_true, cond_false]
                    go_split_ands
                  · go_simp
                  · go_simp
                  · go_simp
                  · have hq := FK.out
                    go_simp
                  · go_simp
                  · go_simp
                  · go_simp
                  · go_simp
                  · have hq := FK.out
                    go_simp
                  · go_simp
                  · go_simp
                  · go_simp
                    have hX9 := O.keeps (G := []) HX0.out (Keep.of_below hp) (fun _ _ => by simp)
                    refine (O.free _ _ _ _ (a : Int) (n : Int) hX9 HI.out.1 HI.out.2.1).mono ?_
                    rintro e x' ⟨rfl, F', g1, g2, g3⟩
                    rw [hok]
                    rw [hst'] at g1
                    exact ⟨_, rfl, ⟨rfl, F', g1, fun q hq => (g2 q hq).imp id (fun h => Nat.le_trans hp.size h)⟩, g3⟩
                  · go_simp
                  · go_simp
                  · refine ⟨fun _ => ?_, fun hy => absurd (by simp [yieldR, slotR, *]) hy⟩
                    go_simp
                  · refine ⟨fun _ => ?_, fun hy => absurd (by simp [yieldR, slotR, *]) hy⟩
                    go_simp
                  · refine ⟨fun _ => ?_, fun hy => absurd (by simp [yieldR, slotR, *]) hy⟩
                    go_simp
                  · refine ⟨fun _ => ?_, fun hy => absurd (by simp [yieldR, slotR, *]) hy⟩
                    have hq := FK.out
                    go_simp
                  · refine ⟨fun _ => ?_, fun hy => absurd (by simp [yieldR, slotR, *]) hy⟩
                    go_simp
                  · refine ⟨fun _ => ?_, fun hy => absurd (by simp [yieldR, slotR, *]) hy⟩
                    go_simp
                · intro vs x1 hk hw
                  simp only [owed, Fx] at hw
                  obtain ⟨e0, e1, e2, e3, e4, e5, e6, e7, e8, e9, e10, ⟨e11, F', hXn, hFn⟩, e12, e13, e14, e15, e16, e17, e18, e19, -⟩ := hw
                  simp only [List.length_cons, List.length_nil, List.take_succ_cons, List.take_zero, List.drop_succ_cons, List.drop_zero, asg, List.cons_append, List.nil_append, e0, e1, e2, e3, e4, e5, e6, e7, e8, e9, e10, e11, e12, e13, e14, e15, e16, e17, e18, e19]
                  clear e0 e1 e2 e3 e4 e5 e6 e7 e8 e9 e10 e11 e12 e13 e14 e15 e16 e17 e18 e19
                  obtain ⟨hX1, hb1, hk1⟩ := XAt.step HF.out.1 HF.out.2 (Below.size HB.out) (⟨F', hXn, hFn, hk⟩ : XStep X F wr (.pointer (some ad)) st' x1)
                  have hB1 := HB.out.trans hb1
                  have hO1 := KeepA.own hk1 HO.out (fun q hq => by simp [hq])
                  have hbb1 := KeepA.own hk1 Hb.out (fun q hq => by simp [hq])
                  have hfree := hX1.free O hB1.size (a : Int) 1 HI.out.1 HI.out.2.2
                  rw [HN.out, xTurn_no _ _ _ _ HN.out] at hfree
                  clear HF HB HO Hb HX0 hb1 hk1 hX1 hXn hFn hk d0 d1 HN hok hst' hgh FK HI
                  go_wp2_with fail
                  go_at_call 9
                  refine hfree.mono ?_
                  rintro e w5 ⟨rfl, hX5, hb5, hk5⟩
                  have hO5 := hk5.own hO1 (fun q hq => by simp [hq])
                  have hbb5 := hk5.own hbb1 (fun q hq => by simp [hq])
                  have hB5 := hB1.trans hb5
                  clear hfree hO1 hbb1 hb5 hk5 hB1
                  have hcap := ((hO5.isK prE_ok).cap).2
                  have hjc : j ≤ ch := by omega
                  have hjc1 : j + 1 ≤ ch := by omega
                  have hjL' : (j : Int) < (L : Int) := by omega
                  have hjL1 : (j : Int) ≤ (L : Int) := by omega
                  have hjL2 : (j : Int) + 1 ≤ (L : Int) := by omega
                  obtain ⟨y1, c1, w6, hr1, hOr1, hbr1, hst1, hXr1⟩ := app8 O w5 w.heap.size none 0 0 [] (rI (hs.take j)) (some ⟨gh, 0, none⟩) j ch 31 (OwnK.nil _ _ _) rfl (by rw [rI_len, List.length_take]; omega) (by rw [rI_take]; exact isK_take hO5 j (by omega)) hB5.size (by omega)
                  obtain ⟨hO6, hap6⟩ := hst1 _ _ hO5 (.inr (by simp [Value.ownBlock]))
                  obtain ⟨hbb6, hapb6⟩ := hst1 _ _ hbb5 (by unfold Apt; cases (Value.slice yb Lb cb).ownBlock with | none => exact .inl rfl | some q => exact .inr (by simp [Value.ownBlock]))
                  have hX6 := hXr1 _ _ _ (fun q hq => by simp [Value.ownBlock] at hq) hX5
                  have hB6 := hB5.trans hbr1
                  rw [List.nil_append] at hOr1
                  simp only [Nat.zero_add] at hr1 hOr1 hap6 hapb6 hX6
                  obtain ⟨px, hpx⟩ : ∃ px, (if ch = j + 1 then some (⟨gh, 0, none⟩ : Addr) else some ⟨gh, (j + 1) * 2, none⟩) = px := ⟨_, rfl⟩
                  have hsrc := isK_drop' hO6 (j + 1) (by omega)
                  rw [hpx, ← rI_drop] at hsrc
                  obtain ⟨y2, c2, w7, hr2, hOr2, hbr2, hst2, hXr2⟩ := app8 O w6 w.heap.size y1 j c1 (rI (hs.take j)) (rI (hs.drop (j + 1))) px (L - (j + 1)) (ch - (j + 1)) 31 hOr1 (by rw [rI_len, List.length_take]; omega) (by rw [rI_len, List.length_drop]; omega) hsrc hB6.size (by omega)
                  obtain ⟨hbb7, hapb7⟩ := hst2 _ _ hbb6 hapb6
                  have hX7 := (hXr2 _ _ _ (fun q hq => List.mem_append.2 (.inl (by rw [hq]; simp))) hX6).less (A' := (Value.slice y2 (j + (L - (j + 1))) c2).ownBlock.toList ++ (Value.slice yb Lb cb).ownBlock.toList) (fun q hq => by
                    rcases List.mem_append.1 hq with hq | hq
                    · exact List.mem_append.2 (.inl hq)
                    · exact List.mem_append.2 (.inr (List.mem_append.2 (.inr (List.mem_append.2 (.inr hq))))))
                  have hB7 := hB6.trans hbr2
                  rw [← rI_app] at hOr2
                  have hlen : (hs.take j ++ hs.drop (j + 1)).length = j + (L - (j + 1)) := by rw [List.length_append, List.length_take, List.length_drop]; omega
                  rw [← hlen] at hOr2 hapb7 hX7 hr2
                  have hlen' : (hs.take j ++ hs.drop (j + 1)).length + 1 = L := by omega
                  have HR : Hid _ := And.intro hOr2 (And.intro HH.out (And.intro hbb7 (And.intro hapb7.symm (And.intro hX7 hB7))))
                  have HL : Hid _ := And.intro hlen hlen'
                  clear hsrc hcap hlen hlen' hOr1 hbr1 hst1 hXr1 hO6 hap6 hbb6 hapb6 hX6 hB6 hOr2 hbr2 hst2 hXr2 hbb7 hapb7 hX7 hB7 HH hX5 hO5 hbb5 hB5 hap
                  go_upto_region 27 with (at_builtin; refine wpL_appG 31 rfl _ _ rfl _ w6 (by exact hr1) ?_)
                  clear hr1
                  go_wp2_with (at_builtin; refine wpL_appG 31 rfl _ _ rfl _ w7 (by exact hr2) ?_)
                  go_roundw
                  case rel =>
                    obtain ⟨r1, r2, r3, r4, r5, r6⟩ := HR.out
                    exact ⟨i + 1, hs.take j ++ hs.drop (j + 1), st', y2, c2, by have := HL.out.2; omega, by go_num, by rw [HL.out.1, show min j L = j by omega], r1, r2, r3, r4, r5, r6⟩
                  case measure =>
                    have := HL.out.2
                    simp [lenV]; omega
              · obtain ⟨j, hj⟩ : ∃ j : Nat, z.tmod (L : Int) = (j : Int) := ⟨(z.tmod (L : Int)).toNat, by omega⟩
                have hjL : j < L := by omega
                go_upto_region 23 with fail
                clear hj hneg hm1 hm2 z0 z1 c0 hip'
                obtain ⟨p, hp⟩ : ∃ p, hs[j]? = some p := ⟨_, List.getElem?_eq_getElem (by omega)⟩
                obtain ⟨a, n⟩ := p
                obtain ⟨d0, d1⟩ := pr_cells (hO.range prE_ok j _ (rI_at hp))
                rw [prE_k] at d0 d1
                obtain ⟨hok, hH', hfa⟩ := hH.less j a n hp
                have hpos := hH.pos _ (List.mem_of_getElem? hp)
                dsimp only at d0 d1 hpos
                obtain ⟨st', hst'⟩ : ∃ st', xTurn st (a : Int) (n : Int) false = st' := ⟨_, rfl⟩
                rw [hst'] at hH' hfa
                have hno := xOk_no st' (a : Int) false (by rw [Int.toNat_natCast]; exact hfa)
                obtain ⟨F, hX0, hF, hA⟩ := hX
                have hgh : gh ∉ F := (hA gh (by simp [Value.ownBlock])).1
                have FK : Hid ((j : Int) < (L : Int)) := by show _ < _; omega
                have HH : Hid (Hld8 st' (hs.take j ++ hs.drop (j + 1))) := hH'
                have HN : Hid (xOk st' (a : Int) 1 false = false) := hno
                have HO : Hid (OwnK prE wr w.heap.size (.slice (some ⟨gh, 0, none⟩) L ch) (rI hs)) := hO
                have Hb : Hid (OwnK prE wr w.heap.size (.slice yb Lb cb) (rI (xRuns x200))) := hb
                have HB : Hid (Below w.heap.size w wr) := hB
                have HX0 : Hid (X wr (.pointer (some ad)) st F) := hX0
                have HF : Hid ((∀ q ∈ F, w.heap.size ≤ q) ∧ ∀ a ∈ (Value.slice (some ⟨gh, 0, none⟩) L ch).ownBlock.toList ++ (Value.slice yb Lb cb).ownBlock.toList, a ∉ F ∧ a < wr.heap.size) := ⟨hF, hA⟩
                have HI : Hid (i64 (a : Int) ∧ i64 (n : Int) ∧ i64 1) := ⟨by unfold i64; omega, by unfold i64; omega, by unfold i64; omega⟩
                clear hH hH' hfa hno hO hb hB hX0 hF hA hp hpos
                refine wp_reliesK (kokp8 (G := F)) 11 [0, 1, 2, 3, 4, 5, 6, 7, 8, 9, 10] [Fx (.pointer (some ad)), Fx (.slice (some ⟨gh, 0, none⟩) L ch), Fx (.int .i64 ((j : Int))), Fx (.pointer (some ⟨gh, j * 2, none⟩)), Fx (.pointer (some ⟨gh, j * 2, none⟩)), Fx (.int .i64 ((a : Int))), Fx (.slice (some ⟨gh, 0, none⟩) L ch), Fx (.int .i64 ((j : Int))), Fx (.pointer (some ⟨gh, j * 2, none⟩)), Fx (.pointer (some ⟨gh, j * 2 + 1, none⟩)), Fx (.int .i64 ((n : Int))), fun v x => v = .bool true ∧ ∃ F', X x (.pointer (some ad)) st' F' ∧ ∀ q ∈ F', q ∈ F ∨ wr.heap.size ≤ q, Fx (.bool false), Fx (.bool false), Fx (.pointer (some ad)), Fx (.slice (some ⟨gh, 0, none⟩) L ch), Fx (.int .i64 ((j : Int))), Fx (.pointer (some ⟨gh, j * 2, none⟩)), Fx (.pointer (some ⟨gh, j * 2, none⟩)), Fx (.int .i64 ((a : Int)))] (by simp) (by kernel_rfl) (by kernel_rfl) (by kernel_rfl) ?_ ?_ ?_ ?_
                · repeat' (first | exact all_nil | apply all_cons)
                  all_goals intro v y y' hv hb
                  all_goals first | exact Fx_mono _ _ _ _ hv hb | (obtain ⟨h1, F9, h2, h3⟩ := hv; exact ⟨h1, F9, O.keeps (G := []) h2 (Keep.of_below hb) (fun _ _ => by simp), h3⟩)
                · simp only [List.eraseIdx]
                  repeat' (first | exact all_nil | apply all_cons)
                  all_goals intro v y y' hv hb
                  all_goals first | exact (show Fx _ _ _ from hv)
                · refine ⟨?_, ?_, ?_, ?_, ?_, ?_, ?_, ?_, ?_, ?_, ?_, ?_, ?_, ?_, ?_, ?_, ?_, ?_, ?_, ?_, trivial⟩
                  all_goals
                    intro ρ x hk hp ρc ρg ρf ho hd
                    first | (replace hp := hp (by decide)) | clear hp
                    have o5 : ρ (.tmp 5) = .pointer (some ad) := ho 5 rfl
                    have o8 : ρ (.tmp 8) = .slice (some ⟨gh, 0, none⟩) L ch := ho 8 rfl
                    have o13 : ρ (.tmp 13) = .int .i64 ((j : Int)) := ho 13 rfl
                    clear ho
                    have k0 := cell_keepF hk d0 hgh
                    have k1 := cell_keepF hk d1 hgh
                    simp only [depsR, depR, slotR, Fx, List.getElem?_cons_succ, List.getElem?_cons_zero, Region.binds, forall_const] at hd
                    simp only [guardR, Nat.reduceBEq, cond_true, cond_false]
                    go_split_ands
                  · go_simp
                  · go_simp
                  · go_simp
                  · have hq := FK.out
                    go_simp
                  · go_simp
                  · go_simp
                  · go_simp
                  · go_simp
                  · have hq := FK.out
                    go_simp
                  · go_simp
                  · go_simp
                  · go_simp
                    have hX9 := O.keeps (G := []) HX0.out (Keep.of_below hp) (fun _ _ => by simp)
                    refine (O.free _ _ _ _ (a : Int) (n : Int) hX9 HI.out.1 HI.out.2.1).mono ?_
                    rintro e x' ⟨rfl, F', g1, g2, g3⟩
                    rw [hok]
                    rw [hst'] at g1
                    exact ⟨_, rfl, ⟨rfl, F', g1, fun q hq => (g2 q hq).imp id (fun h => Nat.le_trans hp.size h)⟩, g3⟩
                  · go_simp
                  · go_simp
                  · refine ⟨fun _ => ?_, fun hy => absurd (by simp [yieldR, slotR, *]) hy⟩
                    go_simp
                  · refine ⟨fun _ => ?_, fun hy => absurd (by simp [yieldR, slotR, *]) hy⟩
                    go_simp
                  · refine ⟨fun _ => ?_, fun hy => absurd (by simp [yieldR, slotR, *]) hy⟩
                    go_simp
                  · refine ⟨fun _ => ?_, fun hy => absurd (by simp [yieldR, slotR, *]) hy⟩
                    have hq := FK.out
                    go_simp
                  · refine ⟨fun _ => ?_, fun hy => absurd (by simp [yieldR, slotR, *]) hy⟩
                    go_simp
                  · refine ⟨fun _ => ?_, fun hy => absurd (by simp [yieldR, slotR, *]) hy⟩
                    go_simp
                · intro vs x1 hk hw
                  simp only [owed, Fx] at hw
                  obtain ⟨e0, e1, e2, e3, e4, e5, e6, e7, e8, e9, e10, ⟨e11, F', hXn, hFn⟩, e12, e13, e14, e15, e16, e17, e18, e19, -⟩ := hw
                  simp only [List.length_cons, List.length_nil, List.take_succ_cons, List.take_zero, List.drop_succ_cons, List.drop_zero, asg, List.cons_append, List.nil_append, e0, e1, e2, e3, e4, e5, e6, e7, e8, e9, e10, e11, e12, e13, e14, e15, e16, e17, e18, e19]
                  clear e0 e1 e2 e3 e4 e5 e6 e7 e8 e9 e10 e11 e12 e13 e14 e15 e16 e17 e18 e19
                  obtain ⟨hX1, hb1, hk1⟩ := XAt.step HF.out.1 HF.out.2 (Below.size HB.out) (⟨F', hXn, hFn, hk⟩ : XStep X F wr (.pointer (some ad)) st' x1)
                  have hB1 := HB.out.trans hb1
                  have hO1 := KeepA.own hk1 HO.out (fun q hq => by simp [hq])
                  have hbb1 := KeepA.own hk1 Hb.out (fun q hq => by simp [hq])
                  have hfree := hX1.free O hB1.size (a : Int) 1 HI.out.1 HI.out.2.2
                  rw [HN.out, xTurn_no _ _ _ _ HN.out] at hfree
                  clear HF HB HO Hb HX0 hb1 hk1 hX1 hXn hFn hk d0 d1 HN hok hst' hgh FK HI
                  go_wp2_with fail
                  go_at_call 9
                  refine hfree.mono ?_
                  rintro e w5 ⟨rfl, hX5, hb5, hk5⟩
                  have hO5 := hk5.own hO1 (fun q hq => by simp [hq])
                  have hbb5 := hk5.own hbb1 (fun q hq => by simp [hq])
                  have hB5 := hB1.trans hb5
                  clear hfree hO1 hbb1 hb5 hk5 hB1
                  have hcap := ((hO5.isK prE_ok).cap).2
                  have hjc : j ≤ ch := by omega
                  have hjc1 : j + 1 ≤ ch := by omega
                  have hjL' : (j : Int) < (L : Int) := by omega
                  have hjL1 : (j : Int) ≤ (L : Int) := by omega
                  have hjL2 : (j : Int) + 1 ≤ (L : Int) := by omega
                  obtain ⟨y1, c1, w6, hr1, hOr1, hbr1, hst1, hXr1⟩ := app8 O w5 w.heap.size none 0 0 [] (rI (hs.take j)) (some ⟨gh, 0, none⟩) j ch 31 (OwnK.nil _ _ _) rfl (by rw [rI_len, List.length_take]; omega) (by rw [rI_take]; exact isK_take hO5 j (by omega)) hB5.size (by omega)
                  obtain ⟨hO6, hap6⟩ := hst1 _ _ hO5 (.inr (by simp [Value.ownBlock]))
                  obtain ⟨hbb6, hapb6⟩ := hst1 _ _ hbb5 (by unfold Apt; cases (Value.slice yb Lb cb).ownBlock with | none => exact .inl rfl | some q => exact .inr (by simp [Value.ownBlock]))
                  have hX6 := hXr1 _ _ _ (fun q hq => by simp [Value.ownBlock] at hq) hX5
                  have hB6 := hB5.trans hbr1
                  rw [List.nil_append] at hOr1
                  simp only [Nat.zero_add] at hr1 hOr1 hap6 hapb6 hX6
                  obtain ⟨px, hpx⟩ : ∃ px, (if ch = j + 1 then some (⟨gh, 0, none⟩ : Addr) else some ⟨gh, (j + 1) * 2, none⟩) = px := ⟨_, rfl⟩
                  have hsrc := isK_drop' hO6 (j + 1) (by omega)
                  rw [hpx, ← rI_drop] at hsrc
                  obtain ⟨y2, c2, w7, hr2, hOr2, hbr2, hst2, hXr2⟩ := app8 O w6 w.heap.size y1 j c1 (rI (hs.take j)) (rI (hs.drop (j + 1))) px (L - (j + 1)) (ch - (j + 1)) 31 hOr1 (by rw [rI_len, List.length_take]; omega) (by rw [rI_len, List.length_drop]; omega) hsrc hB6.size (by omega)
                  obtain ⟨hbb7, hapb7⟩ := hst2 _ _ hbb6 hapb6
                  have hX7 := (hXr2 _ _ _ (fun q hq => List.mem_append.2 (.inl (by rw [hq]; simp))) hX6).less (A' := (Value.slice y2 (j + (L - (j + 1))) c2).ownBlock.toList ++ (Value.slice yb Lb cb).ownBlock.toList) (fun q hq => by
                    rcases List.mem_append.1 hq with hq | hq
                    · exact List.mem_append.2 (.inl hq)
                    · exact List.mem_append.2 (.inr (List.mem_append.2 (.inr (List.mem_append.2 (.inr hq))))))
                  have hB7 := hB6.trans hbr2
                  rw [← rI_app] at hOr2
                  have hlen : (hs.take j ++ hs.drop (j + 1)).length = j + (L - (j + 1)) := by rw [List.length_append, List.length_take, List.length_drop]; omega
                  rw [← hlen] at hOr2 hapb7 hX7 hr2
                  have hlen' : (hs.take j ++ hs.drop (j + 1)).length + 1 = L := by omega
                  have HR : Hid _ := And.intro hOr2 (And.intro HH.out (And.intro hbb7 (And.intro hapb7.symm (And.intro hX7 hB7))))
                  have HL : Hid _ := And.intro hlen hlen'
                  clear hsrc hcap hlen hlen' hOr1 hbr1 hst1 hXr1 hO6 hap6 hbb6 hapb6 hX6 hB6 hOr2 hbr2 hst2 hXr2 hbb7 hapb7 hX7 hB7 HH hX5 hO5 hbb5 hB5 hap
                  go_upto_region 27 with (at_builtin; refine wpL_appG 31 rfl _ _ rfl _ w6 (by exact hr1) ?_)
                  clear hr1
                  go_wp2_with (at_builtin; refine wpL_appG 31 rfl _ _ rfl _ w7 (by exact hr2) ?_)
                  go_roundw
                  case rel =>
                    obtain ⟨r1, r2, r3, r4, r5, r6⟩ := HR.out
                    exact ⟨i + 1, hs.take j ++ hs.drop (j + 1), st', y2, c2, by have := HL.out.2; omega, by go_num, by rw [HL.out.1, show min j L = j by omega], r1, r2, r3, r4, r5, r6⟩
                  case measure =>
                    have := HL.out.2
                    simp [lenV]; omega
            · have hip' : ¬ (i : Int) < (np : Int) := by omega
              obtain ⟨j, hj⟩ : ∃ j : Nat, j = 0 := ⟨0, rfl⟩
              have hjL : j < L := by omega
              go_upto_region 23 with fail
              refine wp_slot 13 (.int .i64 (j : Int)) (by rw [hj]; rfl) ?_
              simp only [List.setIfInBounds_toArray, List.set_cons_succ, List.set_cons_zero]
              clear hj hip'
              obtain ⟨p, hp⟩ : ∃ p, hs[j]? = some p := ⟨_, List.getElem?_eq_getElem (by omega)⟩
              obtain ⟨a, n⟩ := p
              obtain ⟨d0, d1⟩ := pr_cells (hO.range prE_ok j _ (rI_at hp))
              rw [prE_k] at d0 d1
              obtain ⟨hok, hH', hfa⟩ := hH.less j a n hp
              have hpos := hH.pos _ (List.mem_of_getElem? hp)
              dsimp only at d0 d1 hpos
              obtain ⟨st', hst'⟩ : ∃ st', xTurn st (a : Int) (n : Int) false = st' := ⟨_, rfl⟩
              rw [hst'] at hH' hfa
              have hno := xOk_no st' (a : Int) false (by rw [Int.toNat_natCast]; exact hfa)
              obtain ⟨F, hX0, hF, hA⟩ := hX
              have hgh : gh ∉ F := (hA gh (by simp [Value.ownBlock])).1
              have FK : Hid ((j : Int) < (L : Int)) := by show _ < _; omega
              have HH : Hid (Hld8 st' (hs.take j ++ hs.drop (j + 1))) := hH'
              have HN : Hid (xOk st' (a : Int) 1 false = false) := hno
              have HO : Hid (OwnK prE wr w.heap.size (.slice (some ⟨gh, 0, none⟩) L ch) (rI hs)) := hO
              have Hb : Hid (OwnK prE wr w.heap.size (.slice yb Lb cb) (rI (xRuns x200))) := hb
              have HB : Hid (Below w.heap.size w wr) := hB
              have HX0 : Hid (X wr (.pointer (some ad)) st F) := hX0
              have HF : Hid ((∀ q ∈ F, w.heap.size ≤ q) ∧ ∀ a ∈ (Value.slice (some ⟨gh, 0, none⟩) L ch).ownBlock.toList ++ (Value.slice yb Lb cb).ownBlock.toList, a ∉ F ∧ a < wr.heap.size) := ⟨hF, hA⟩
              have HI : Hid (i64 (a : Int) ∧ i64 (n : Int) ∧ i64 1) := ⟨by unfold i64; omega, by unfold i64; omega, by unfold i64; omega⟩
              clear hH hH' hfa hno hO hb hB hX0 hF hA hp hpos
              refine wp_reliesK (kokp8 (G := F)) 11 [0, 1, 2, 3, 4, 5, 6, 7, 8, 9, 10] [Fx (.pointer (some ad)), Fx (.slice (some ⟨gh, 0, none⟩) L ch), Fx (.int .i64 ((j : Int))), Fx (.pointer (some ⟨gh, j * 2, none⟩)), Fx (.pointer (some ⟨gh, j * 2, none⟩)), Fx (.int .i64 ((a : Int))), Fx (.slice (some ⟨gh, 0, none⟩) L ch), Fx (.int .i64 ((j : Int))), Fx (.pointer (some ⟨gh, j * 2, none⟩)), Fx (.pointer (some ⟨gh, j * 2 + 1, none⟩)), Fx (.int .i64 ((n : Int))), fun v x => v = .bool true ∧ ∃ F', X x (.pointer (some ad)) st' F' ∧ ∀ q ∈ F', q ∈ F ∨ wr.heap.size ≤ q, Fx (.bool false), Fx (.bool false), Fx (.pointer (some ad)), Fx (.slice (some ⟨gh, 0, none⟩) L ch), Fx (.int .i64 ((j : Int))), Fx (.pointer (some ⟨gh, j * 2, none⟩)), Fx (.pointer (some ⟨gh, j * 2, none⟩)), Fx (.int .i64 ((a : Int)))] (by simp) (by kernel_rfl) (by kernel_rfl) (by kernel_rfl) ?_ ?_ ?_ ?_
              · repeat' (first | exact all_nil | apply all_cons)
                all_goals intro v y y' hv hb
                all_goals first | exact Fx_mono _ _ _ _ hv hb | (obtain ⟨h1, F9, h2, h3⟩ := hv; exact ⟨h1, F9, O.keeps (G := []) h2 (Keep.of_below hb) (fun _ _ => by simp), h3⟩)
              · simp only [List.eraseIdx]
                repeat' (first | exact all_nil | apply all_cons)
                all_goals intro v y y' hv hb
                all_goals first | exact (show Fx _ _ _ from hv)
              · refine ⟨?_, ?_, ?_, ?_, ?_, ?_, ?_, ?_, ?_, ?_, ?_, ?_, ?_, ?_, ?_, ?_, ?_, ?_, ?_, ?_, trivial⟩
                all_goals
                  intro ρ x hk hp ρc ρg ρf ho hd
                  first | (replace hp := hp (by decide)) | clear hp
                  have o5 : ρ (.tmp 5) = .pointer (some ad) := ho 5 rfl
                  have o8 : ρ (.tmp 8) = .slice (some ⟨gh, 0, none⟩) L ch := ho 8 rfl
                  have o13 : ρ (.tmp 13) = .int .i64 ((j : Int)) := ho 13 rfl
                  clear ho
                  have k0 := cell_keepF hk d0 hgh
                  have k1 := cell_keepF hk d1 hgh
                  simp only [depsR, depR, slotR, Fx, List.getElem?_cons_succ, List.getElem?_cons_zero, Region.binds, forall_const] at hd
                  simp only [guardR, Nat.reduceBEq, cond_true, cond_false]
                  go_split_ands
                · go_simp
                · go_simp
                · go_simp
                · have hq := FK.out
                  go_simp
                · go_simp
                · go_simp
                · go_simp
                · go_simp
                · have hq := FK.out
                  go_simp
                · go_simp
                · go_simp
                · go_simp
                  have hX9 := O.keeps (G := []) HX0.out (Keep.of_below hp) (fun _ _ => by simp)
                  refine (O.free _ _ _ _ (a : Int) (n : Int) hX9 HI.out.1 HI.out.2.1).mono ?_
                  rintro e x' ⟨rfl, F', g1, g2, g3⟩
                  rw [hok]
                  rw [hst'] at g1
                  exact ⟨_, rfl, ⟨rfl, F', g1, fun q hq => (g2 q hq).imp id (fun h => Nat.le_trans hp.size h)⟩, g3⟩
                · go_simp
                · go_simp
                · refine ⟨fun _ => ?_, fun hy => absurd (by simp [yieldR, slotR, *]) hy⟩
                  go_simp
                · refine ⟨fun _ => ?_, fun hy => absurd (by simp [yieldR, slotR, *]) hy⟩
                  go_simp
                · refine ⟨fun _ => ?_, fun hy => absurd (by simp [yieldR, slotR, *]) hy⟩
                  go_simp
                · refine ⟨fun _ => ?_, fun hy => absurd (by simp [yieldR, slotR, *]) hy⟩
                  have hq := FK.out
                  go_simp
                · refine ⟨fun _ => ?_, fun hy => absurd (by simp [yieldR, slotR, *]) hy⟩
                  go_simp
                · refine ⟨fun _ => ?_, fun hy => absurd (by simp [yieldR, slotR, *]) hy⟩
                  go_simp
              · intro vs x1 hk hw
                simp only [owed, Fx] at hw
                obtain ⟨e0, e1, e2, e3, e4, e5, e6, e7, e8, e9, e10, ⟨e11, F', hXn, hFn⟩, e12, e13, e14, e15, e16, e17, e18, e19, -⟩ := hw
                simp only [List.length_cons, List.length_nil, List.take_succ_cons, List.take_zero, List.drop_succ_cons, List.drop_zero, asg, List.cons_append, List.nil_append, e0, e1, e2, e3, e4, e5, e6, e7, e8, e9, e10, e11, e12, e13, e14, e15, e16, e17, e18, e19]
                clear e0 e1 e2 e3 e4 e5 e6 e7 e8 e9 e10 e11 e12 e13 e14 e15 e16 e17 e18 e19
                obtain ⟨hX1, hb1, hk1⟩ := XAt.step HF.out.1 HF.out.2 (Below.size HB.out) (⟨F', hXn, hFn, hk⟩ : XStep X F wr (.pointer (some ad)) st' x1)
                have hB1 := HB.out.trans hb1
                have hO1 := KeepA.own hk1 HO.out (fun q hq => by simp [hq])
                have hbb1 := KeepA.own hk1 Hb.out (fun q hq => by simp [hq])
                have hfree := hX1.free O hB1.size (a : Int) 1 HI.out.1 HI.out.2.2
                rw [HN.out, xTurn_no _ _ _ _ HN.out] at hfree
                clear HF HB HO Hb HX0 hb1 hk1 hX1 hXn hFn hk d0 d1 HN hok hst' hgh FK HI
                go_wp2_with fail
                go_at_call 9
                refine hfree.mono ?_
                rintro e w5 ⟨rfl, hX5, hb5, hk5⟩
                have hO5 := hk5.own hO1 (fun q hq => by simp [hq])
                have hbb5 := hk5.own hbb1 (fun q hq => by simp [hq])
                have hB5 := hB1.trans hb5
                clear hfree hO1 hbb1 hb5 hk5 hB1
                have hcap := ((hO5.isK prE_ok).cap).2
                have hjc : j ≤ ch := by omega
                have hjc1 : j + 1 ≤ ch := by omega
                have hjL' : (j : Int) < (L : Int) := by omega
                have hjL1 : (j : Int) ≤ (L : Int) := by omega
                have hjL2 : (j : Int) + 1 ≤ (L : Int) := by omega
                obtain ⟨y1, c1, w6, hr1, hOr1, hbr1, hst1, hXr1⟩ := app8 O w5 w.heap.size none 0 0 [] (rI (hs.take j)) (some ⟨gh, 0, none⟩) j ch 31 (OwnK.nil _ _ _) rfl (by rw [rI_len, List.length_take]; omega) (by rw [rI_take]; exact isK_take hO5 j (by omega)) hB5.size (by omega)
                obtain ⟨hO6, hap6⟩ := hst1 _ _ hO5 (.inr (by simp [Value.ownBlock]))
                obtain ⟨hbb6, hapb6⟩ := hst1 _ _ hbb5 (by unfold Apt; cases (Value.slice yb Lb cb).ownBlock with | none => exact .inl rfl | some q => exact .inr (by simp [Value.ownBlock]))
                have hX6 := hXr1 _ _ _ (fun q hq => by simp [Value.ownBlock] at hq) hX5
                have hB6 := hB5.trans hbr1
                rw [List.nil_append] at hOr1
                simp only [Nat.zero_add] at hr1 hOr1 hap6 hapb6 hX6
                obtain ⟨px, hpx⟩ : ∃ px, (if ch = j + 1 then some (⟨gh, 0, none⟩ : Addr) else some ⟨gh, (j + 1) * 2, none⟩) = px := ⟨_, rfl⟩
                have hsrc := isK_drop' hO6 (j + 1) (by omega)
                rw [hpx, ← rI_drop] at hsrc
                obtain ⟨y2, c2, w7, hr2, hOr2, hbr2, hst2, hXr2⟩ := app8 O w6 w.heap.size y1 j c1 (rI (hs.take j)) (rI (hs.drop (j + 1))) px (L - (j + 1)) (ch - (j + 1)) 31 hOr1 (by rw [rI_len, List.length_take]; omega) (by rw [rI_len, List.length_drop]; omega) hsrc hB6.size (by omega)
                obtain ⟨hbb7, hapb7⟩ := hst2 _ _ hbb6 hapb6
                have hX7 := (hXr2 _ _ _ (fun q hq => List.mem_append.2 (.inl (by rw [hq]; simp))) hX6).less (A' := (Value.slice y2 (j + (L - (j + 1))) c2).ownBlock.toList ++ (Value.slice yb Lb cb).ownBlock.toList) (fun q hq => by
                  rcases List.mem_append.1 hq with hq | hq
                  · exact List.mem_append.2 (.inl hq)
                  · exact List.mem_append.2 (.inr (List.mem_append.2 (.inr (List.mem_append.2 (.inr hq))))))
                have hB7 := hB6.trans hbr2
                rw [← rI_app] at hOr2
                have hlen : (hs.take j ++ hs.drop (j + 1)).length = j + (L - (j + 1)) := by rw [List.length_append, List.length_take, List.length_drop]; omega
                rw [← hlen] at hOr2 hapb7 hX7 hr2
                have hlen' : (hs.take j ++ hs.drop (j + 1)).length + 1 = L := by omega
                have HR : Hid _ := And.intro hOr2 (And.intro HH.out (And.intro hbb7 (And.intro hapb7.symm (And.intro hX7 hB7))))
                have HL : Hid _ := And.intro hlen hlen'
                clear hsrc hcap hlen hlen' hOr1 hbr1 hst1 hXr1 hO6 hap6 hbb6 hapb6 hX6 hB6 hOr2 hbr2 hst2 hXr2 hbb7 hapb7 hX7 hB7 HH hX5 hO5 hbb5 hB5 hap
                go_upto_region 27 with (at_builtin; refine wpL_appG 31 rfl _ _ rfl _ w6 (by exact hr1) ?_)
                clear hr1
                go_wp2_with (at_builtin; refine wpL_appG 31 rfl _ _ rfl _ w7 (by exact hr2) ?_)
                go_roundw
                case rel =>
                  obtain ⟨r1, r2, r3, r4, r5, r6⟩ := HR.out
                  exact ⟨i + 1, hs.take j ++ hs.drop (j + 1), st', y2, c2, by have := HL.out.2; omega, by go_num, by rw [HL.out.1, show min j L = j by omega], r1, r2, r3, r4, r5, r6⟩
                case measure =>
                  have := HL.out.2
                  simp [lenV]; omega
          · obtain rfl : L = 0 := by omega
            obtain rfl : hs = [] := List.eq_nil_of_length_eq_zero hL
            have hrun := held_none hH
            have hrange := hX.ranges O hB.size
            rw [hrun, HLb.out] at hrange
            clear hX
            go_wp2_with fail
            go_at_call 10
            refine hrange.mono ?_
            rintro e w5 ⟨y, cy, A', rfl, hO5, -, -, -, hb5, hk5⟩
            have hbb5 := hk5.own hb (fun q hq => by simp [hq])
            have hB5 := hB.trans hb5
            have hL5 : Lb ≤ 100000 := by
              have h1 := runs_rises x200.f (x200.hi - x200.fr) x200.fr
              have h2 := rises_len h1
              have h3 : (runs x200.f x200.fr (x200.hi - x200.fr)).length = Lb := HLb.out
              rw [x200_ends.1, x200_ends.2] at h2 h3
              rcases h2 with h2 | h2
              · rw [h2] at h3; simp at h3; omega
              · omega
            clear hrange hb hb5 hk5 hB hO
            go_wp2_with fail
            go_at_call 14
            refine (sameP_any _ _ _ _ Lb Lb (rI (xRuns x200)) (rI (xRuns x200)) _ (by rw [rI_len]; exact HLb.out) (by rw [rI_len]; exact HLb.out) (hO5.isK prE_ok) (hbb5.isK prE_ok) (by omega)).mono ?_
            rintro e w6 ⟨rfl, hb6⟩
            rw [decide_eq_true rfl]
            have hB6 := hB5.trans (hb6.mono hB5.size)
            clear hO5 hbb5 hB5 hb6
            go_wp2
            go_ret
            exact ⟨rfl, hB6⟩
      · have h1' : ¬ (i : Int) < (ns : Int) := by omega
        clear hlt hi hi60 h1
        have HR : Hid _ := And.intro hO (And.intro hH (And.intro hb (And.intro hap (And.intro hX hB))))
        clear hO hH hb hap hX hB
        go_wp2
        go_loopw [8, 12] (fun hv iv wr => ∃ (i : Nat) (hs : List (Nat × Nat)) (st : XSt) (xh : Option Addr) (ch : Nat), i + hs.length ≤ 60 ∧ iv = .int .i64 i ∧ hv = .slice xh hs.length ch ∧ OwnK prE wr w.heap.size (.slice xh hs.length ch) (rI hs) ∧ Hld8 st hs ∧ OwnK prE wr w.heap.size (.slice yb Lb cb) (rI (xRuns x200)) ∧ Apt (.slice xh hs.length ch) (.slice yb Lb cb) ∧ XAt X w.heap.size ((Value.slice xh hs.length ch).ownBlock.toList ++ (Value.slice yb Lb cb).ownBlock.toList) wr (.pointer (some ad)) st ∧ Below w.heap.size w wr) (fun hv _ _ => lenV hv)
        case atStart =>
          obtain ⟨r1, r2, r3, r4, r5, r6⟩ := HR.out
          exact ⟨0, hs, st, xh, ch, by have := Hh60.out; omega, rfl, rfl, r1, r2, r3, r4, r5, r6⟩
        case round =>
          clear HR Hh60
          try clear h1'
          try clear h2'
          rename_i i0 hs0 st0 xh0 ch0 _
          obtain ⟨i, hs, st, xh, ch, hil, rfl, rfl, hO, hH, hb, hap, hX, hB⟩ := hrel
          obtain ⟨L, hL⟩ : ∃ L, hs.length = L := ⟨_, rfl⟩
          rw [hL] at hil hO hap hX ⊢
          by_cases h0 : 0 < L
          · have h0' : (0 : Int) < (L : Int) := by omega
            have hne : ¬ (L : Int) = 0 := by omega
            obtain ⟨gh, rfl⟩ := slice_block hO (by rw [rI_len]; omega)
            by_cases hip : i < np
            · have hip' : (i : Int) < (np : Int) := by omega
              obtain ⟨z, hz⟩ : ∃ z, ps[i]? = some z := ⟨_, List.getElem?_eq_getElem (by omega)⟩
              obtain ⟨z0, z1⟩ := hps z (List.mem_of_getElem? hz)
              obtain ⟨bp, op, rfl, hbp, hcp⟩ := (hP.kept hB).spot i (by rw [zV_len]; omega)
              have c0 := hcp i _ (zV_at hz)
              clear hcp hz
              have hm1 := Int.tmod_lt_of_pos z (show (0 : Int) < (L : Int) by omega)
              have hm2 : -(L : Int) < z.tmod (L : Int) := by
                exact Int.lt_tmod_of_pos z (show (0 : Int) < (L : Int) by omega)
              by_cases hneg : z.tmod (L : Int) < 0
              · obtain ⟨j, hj⟩ : ∃ j : Nat, z.tmod (L : Int) + (L : Int) = (j : Int) := ⟨(z.tmod (L : Int) + (L : Int)).toNat, by omega⟩
                have hjL : j < L := by omega
                go_upto_region 23 with fail
                clear hj hneg hm1 hm2 z0 z1 c0 hip'
                obtain ⟨p, hp⟩ : ∃ p, hs[j]? = some p := ⟨_, List.getElem?_eq_getElem (by omega)⟩
                obtain ⟨a, n⟩ := p
                obtain ⟨d0, d1⟩ := pr_cells (hO.range prE_ok j _ (rI_at hp))
                rw [prE_k] at d0 d1
                obtain ⟨hok, hH', hfa⟩ := hH.less j a n hp
                have hpos := hH.pos _ (List.mem_of_getElem? hp)
                dsimp only at d0 d1 hpos
                obtain ⟨st', hst'⟩ : ∃ st', xTurn st (a : Int) (n : Int) false = st' := ⟨_, rfl⟩
                rw [hst'] at hH' hfa
                have hno := xOk_no st' (a : Int) false (by rw [Int.toNat_natCast]; exact hfa)
                obtain ⟨F, hX0, hF, hA⟩ := hX
                have hgh : gh ∉ F := (hA gh (by simp [Value.ownBlock])).1
                have FK : Hid ((j : Int) < (L : Int)) := by show _ < _; omega
                have HH : Hid (Hld8 st' (hs.take j ++ hs.drop (j + 1))) := hH'
                have HN : Hid (xOk st' (a : Int) 1 false = false) := hno
                have HO : Hid (OwnK prE wr w.heap.size (.slice (some ⟨gh, 0, none⟩) L ch) (rI hs)) := hO
                have Hb : Hid (OwnK prE wr w.heap.size (.slice yb Lb cb) (rI (xRuns x200))) := hb
                have HB : Hid (Below w.heap.size w wr) := hB
                have HX0 : Hid (X wr (.pointer (some ad)) st F) := hX0
                have HF : Hid ((∀ q ∈ F, w.heap.size ≤ q) ∧ ∀ a ∈ (Value.slice (some ⟨gh, 0, none⟩) L ch).ownBlock.toList ++ (Value.slice yb Lb cb).ownBlock.toList, a ∉ F ∧ a < wr.heap.size) := ⟨hF, hA⟩
                have HI : Hid (i64 (a : Int) ∧ i64 (n : Int) ∧ i64 1) := ⟨by unfold i64; omega, by unfold i64; omega, by unfold i64; omega⟩
                clear hH hH' hfa hno hO hb hB hX0 hF hA hp hpos
                refine wp_reliesK (kokp8 (G := F)) 11 [0, 1, 2, 3, 4, 5, 6, 7, 8, 9, 10] [Fx (.pointer (some ad)), Fx (.slice (some ⟨gh, 0, none⟩) L ch), Fx (.int .i64 ((j : Int))), Fx (.pointer (some ⟨gh, j * 2, none⟩)), Fx (.pointer (some ⟨gh, j * 2, none⟩)), Fx (.int .i64 ((a : Int))), Fx (.slice (some ⟨gh, 0, none⟩) L ch), Fx (.int .i64 ((j : Int))), Fx (.pointer (some ⟨gh, j * 2, none⟩)), Fx (.pointer (some ⟨gh, j * 2 + 1, none⟩)), Fx (.int .i64 ((n : Int))), fun v x => v = .bool true ∧ ∃ F', X x (.pointer (some ad)) st' F' ∧ ∀ q ∈ F', q ∈ F ∨ wr.heap.size ≤ q, Fx (.bool false), Fx (.bool false), Fx (.pointer (some ad)), Fx (.slice (some ⟨gh, 0, none⟩) L ch), Fx (.int .i64 ((j : Int))), Fx (.pointer (some ⟨gh, j * 2, none⟩)), Fx (.pointer (some ⟨gh, j * 2, none⟩)), Fx (.int .i64 ((a : Int)))] (by simp) (by kernel_rfl) (by kernel_rfl) (by kernel_rfl) ?_ ?_ ?_ ?_
                · repeat' (first | exact all_nil | apply all_cons)
                  all_goals intro v y y' hv hb
                  all_goals first | exact Fx_mono _ _ _ _ hv hb | (obtain ⟨h1, F9, h2, h3⟩ := hv; exact ⟨h1, F9, O.keeps (G := []) h2 (Keep.of_below hb) (fun _ _ => by simp), h3⟩)
                · simp only [List.eraseIdx]
                  repeat' (first | exact all_nil | apply all_cons)
                  all_goals intro v y y' hv hb
                  all_goals first | exact (show Fx _ _ _ from hv)
                · refine ⟨?_, ?_, ?_, ?_, ?_, ?_, ?_, ?_, ?_, ?_, ?_, ?_, ?_, ?_, ?_, ?_, ?_, ?_, ?_, ?_, trivial⟩
                  all_goals
                    intro ρ x hk hp ρc ρg ρf ho hd
                    first | (replace hp := hp (by decide)) | clear hp
                    have o5 : ρ (.tmp 5) = .pointer (some ad) := ho 5 rfl
                    have o8 : ρ (.tmp 8) = .slice (some ⟨gh, 0, none⟩) L ch := ho 8 rfl
                    have o13 : ρ (.tmp 13) = .int .i64 ((j : Int)) := ho 13 rfl
                    clear ho
                    have k0 := cell_keepF hk d0 hgh
                    have k1 := cell_keepF hk d1 hgh
                    simp only [depsR, depR, slotR, Fx, List.getElem?_cons_succ, List.getElem?_cons_zero, Region.binds, forall_const] at hd
                    simp only [guardR, Nat.reduceBEq, cond_true, cond_false]
                    go_split_ands
                  · go_simp
                  · go_simp
                  · go_simp
                  · have hq := FK.out
                    go_simp
                  · go_simp
                  · go_simp
                  · go_simp
                  · go_simp
                  · have hq := FK.out
                    go_simp
                  · go_simp
                  · go_simp
                  · go_simp
                    have hX9 := O.keeps (G := []) HX0.out (Keep.of_below hp) (fun _ _ => by simp)
                    refine (O.free _ _ _ _ (a : Int) (n : Int) hX9 HI.out.1 HI.out.2.1).mono ?_
                    rintro e x' ⟨rfl, F', g1, g2, g3⟩
                    rw [hok]
                    rw [hst'] at g1
                    exact ⟨_, rfl, ⟨rfl, F', g1, fun q hq => (g2 q hq).imp id (fun h => Nat.le_trans hp.size h)⟩, g3⟩
                  · go_simp
                  · go_simp
                  · refine ⟨fun _ => ?_, fun hy => absurd (by simp [yieldR, slotR, *]) hy⟩
                    go_simp
                  · refine ⟨fun _ => ?_, fun hy => absurd (by simp [yieldR, slotR, *]) hy⟩
                    go_simp
                  · refine ⟨fun _ => ?_, fun hy => absurd (by simp [yieldR, slotR, *]) hy⟩
                    go_simp
                  · refine ⟨fun _ => ?_, fun hy => absurd (by simp [yieldR, slotR, *]) hy⟩
                    have hq := FK.out
                    go_simp
                  · refine ⟨fun _ => ?_, fun hy => absurd (by simp [yieldR, slotR, *]) hy⟩
                    go_simp
                  · refine ⟨fun _ => ?_, fun hy => absurd (by simp [yieldR, slotR, *]) hy⟩
                    go_simp
                · intro vs x1 hk hw
                  simp only [owed, Fx] at hw
                  obtain ⟨e0, e1, e2, e3, e4, e5, e6, e7, e8, e9, e10, ⟨e11, F', hXn, hFn⟩, e12, e13, e14, e15, e16, e17, e18, e19, -⟩ := hw
                  simp only [List.length_cons, List.length_nil, List.take_succ_cons, List.take_zero, List.drop_succ_cons, List.drop_zero, asg, List.cons_append, List.nil_append, e0, e1, e2, e3, e4, e5, e6, e7, e8, e9, e10, e11, e12, e13, e14, e15, e16, e17, e18, e19]
                  clear e0 e1 e2 e3 e4 e5 e6 e7 e8 e9 e10 e11 e12 e13 e14 e15 e16 e17 e18 e19
                  obtain ⟨hX1, hb1, hk1⟩ := XAt.step HF.out.1 HF.out.2 (Below.size HB.out) (⟨F', hXn, hFn, hk⟩ : XStep X F wr (.pointer (some ad)) st' x1)
                  have hB1 := HB.out.trans hb1
                  have hO1 := KeepA.own hk1 HO.out (fun q hq => by simp [hq])
                  have hbb1 := KeepA.own hk1 Hb.out (fun q hq => by simp [hq])
                  have hfree := hX1.free O hB1.size (a : Int) 1 HI.out.1 HI.out.2.2
                  rw [HN.out, xTurn_no _ _ _ _ HN.out] at hfree
                  clear HF HB HO Hb HX0 hb1 hk1 hX1 hXn hFn hk d0 d1 HN hok hst' hgh FK HI
                  go_wp2_with fail
                  go_at_call 9
                  refine hfree.mono ?_
                  rintro e w5 ⟨rfl, hX5, hb5, hk5⟩
                  have hO5 := hk5.own hO1 (fun q hq => by simp [hq])
                  have hbb5 := hk5.own hbb1 (fun q hq => by simp [hq])
                  have hB5 := hB1.trans hb5
                  clear hfree hO1 hbb1 hb5 hk5 hB1
                  have hcap := ((hO5.isK prE_ok).cap).2
                  have hjc : j ≤ ch := by omega
                  have hjc1 : j + 1 ≤ ch := by omega
                  have hjL' : (j : Int) < (L : Int) := by omega
                  have hjL1 : (j : Int) ≤ (L : Int) := by omega
                  have hjL2 : (j : Int) + 1 ≤ (L : Int) := by omega
                  obtain ⟨y1, c1, w6, hr1, hOr1, hbr1, hst1, hXr1⟩ := app8 O w5 w.heap.size none 0 0 [] (rI (hs.take j)) (some ⟨gh, 0, none⟩) j ch 31 (OwnK.nil _ _ _) rfl (by rw [rI_len, List.length_take]; omega) (by rw [rI_take]; exact isK_take hO5 j (by omega)) hB5.size (by omega)
                  obtain ⟨hO6, hap6⟩ := hst1 _ _ hO5 (.inr (by simp [Value.ownBlock]))
                  obtain ⟨hbb6, hapb6⟩ := hst1 _ _ hbb5 (by unfold Apt; cases (Value.slice yb Lb cb).ownBlock with | none => exact .inl rfl | some q => exact .inr (by simp [Value.ownBlock]))
                  have hX6 := hXr1 _ _ _ (fun q hq => by simp [Value.ownBlock] at hq) hX5
                  have hB6 := hB5.trans hbr1
                  rw [List.nil_append] at hOr1
                  simp only [Nat.zero_add] at hr1 hOr1 hap6 hapb6 hX6
                  obtain ⟨px, hpx⟩ : ∃ px, (if ch = j + 1 then some (⟨gh, 0, none⟩ : Addr) else some ⟨gh, (j + 1) * 2, none⟩) = px := ⟨_, rfl⟩
                  have hsrc := isK_drop' hO6 (j + 1) (by omega)
                  rw [hpx, ← rI_drop] at hsrc
                  obtain ⟨y2, c2, w7, hr2, hOr2, hbr2, hst2, hXr2⟩ := app8 O w6 w.heap.size y1 j c1 (rI (hs.take j)) (rI (hs.drop (j + 1))) px (L - (j + 1)) (ch - (j + 1)) 31 hOr1 (by rw [rI_len, List.length_take]; omega) (by rw [rI_len, List.length_drop]; omega) hsrc hB6.size (by omega)
                  obtain ⟨hbb7, hapb7⟩ := hst2 _ _ hbb6 hapb6
                  have hX7 := (hXr2 _ _ _ (fun q hq => List.mem_append.2 (.inl (by rw [hq]; simp))) hX6).less (A' := (Value.slice y2 (j + (L - (j + 1))) c2).ownBlock.toList ++ (Value.slice yb Lb cb).ownBlock.toList) (fun q hq => by
                    rcases List.mem_append.1 hq with hq | hq
                    · exact List.mem_append.2 (.inl hq)
                    · exact List.mem_append.2 (.inr (List.mem_append.2 (.inr (List.mem_append.2 (.inr hq))))))
                  have hB7 := hB6.trans hbr2
                  rw [← rI_app] at hOr2
                  have hlen : (hs.take j ++ hs.drop (j + 1)).length = j + (L - (j + 1)) := by rw [List.length_append, List.length_take, List.length_drop]; omega
                  rw [← hlen] at hOr2 hapb7 hX7 hr2
                  have hlen' : (hs.take j ++ hs.drop (j + 1)).length + 1 = L := by omega
                  have HR : Hid _ := And.intro hOr2 (And.intro HH.out (And.intro hbb7 (And.intro hapb7.symm (And.intro hX7 hB7))))
                  have HL : Hid _ := And.intro hlen hlen'
                  clear hsrc hcap hlen hlen' hOr1 hbr1 hst1 hXr1 hO6 hap6 hbb6 hapb6 hX6 hB6 hOr2 hbr2 hst2 hXr2 hbb7 hapb7 hX7 hB7 HH hX5 hO5 hbb5 hB5 hap
                  go_upto_region 27 with (at_builtin; refine wpL_appG 31 rfl _ _ rfl _ w6 (by exact hr1) ?_)
                  clear hr1
                  go_wp2_with (at_builtin; refine wpL_appG 31 rfl _ _ rfl _ w7 (by exact hr2) ?_)
                  go_roundw
                  case rel =>
                    obtain ⟨r1, r2, r3, r4, r5, r6⟩ := HR.out
                    exact ⟨i + 1, hs.take j ++ hs.drop (j + 1), st', y2, c2, by have := HL.out.2; omega, by go_num, by rw [HL.out.1, show min j L = j by omega], r1, r2, r3, r4, r5, r6⟩
                  case measure =>
                    have := HL.out.2
                    simp [lenV]; omega
              · obtain ⟨j, hj⟩ : ∃ j : Nat, z.tmod (L : Int) = (j : Int) := ⟨(z.tmod (L : Int)).toNat, by omega⟩
                have hjL : j < L := by omega
                go_upto_region 23 with fail
                clear hj hneg hm1 hm2 z0 z1 c0 hip'
                obtain ⟨p, hp⟩ : ∃ p, hs[j]? = some p := ⟨_, List.getElem?_eq_getElem (by omega)⟩
                obtain ⟨a, n⟩ := p
                obtain ⟨d0, d1⟩ := pr_cells (hO.range prE_ok j _ (rI_at hp))
                rw [prE_k] at d0 d1
                obtain ⟨hok, hH', hfa⟩ := hH.less j a n hp
                have hpos := hH.pos _ (List.mem_of_getElem? hp)
                dsimp only at d0 d1 hpos
                obtain ⟨st', hst'⟩ : ∃ st', xTurn st (a : Int) (n : Int) false = st' := ⟨_, rfl⟩
                rw [hst'] at hH' hfa
                have hno := xOk_no st' (a : Int) false (by rw [Int.toNat_natCast]; exact hfa)
                obtain ⟨F, hX0, hF, hA⟩ := hX
                have hgh : gh ∉ F := (hA gh (by simp [Value.ownBlock])).1
                have FK : Hid ((j : Int) < (L : Int)) := by show _ < _; omega
                have HH : Hid (Hld8 st' (hs.take j ++ hs.drop (j + 1))) := hH'
                have HN : Hid (xOk st' (a : Int) 1 false = false) := hno
                have HO : Hid (OwnK prE wr w.heap.size (.slice (some ⟨gh, 0, none⟩) L ch) (rI hs)) := hO
                have Hb : Hid (OwnK prE wr w.heap.size (.slice yb Lb cb) (rI (xRuns x200))) := hb
                have HB : Hid (Below w.heap.size w wr) := hB
                have HX0 : Hid (X wr (.pointer (some ad)) st F) := hX0
                have HF : Hid ((∀ q ∈ F, w.heap.size ≤ q) ∧ ∀ a ∈ (Value.slice (some ⟨gh, 0, none⟩) L ch).ownBlock.toList ++ (Value.slice yb Lb cb).ownBlock.toList, a ∉ F ∧ a < wr.heap.size) := ⟨hF, hA⟩
                have HI : Hid (i64 (a : Int) ∧ i64 (n : Int) ∧ i64 1) := ⟨by unfold i64; omega, by unfold i64; omega, by unfold i64; omega⟩
                clear hH hH' hfa hno hO hb hB hX0 hF hA hp hpos
                refine wp_reliesK (kokp8 (G := F)) 11 [0, 1, 2, 3, 4, 5, 6, 7, 8, 9, 10] [Fx (.pointer (some ad)), Fx (.slice (some ⟨gh, 0, none⟩) L ch), Fx (.int .i64 ((j : Int))), Fx (.pointer (some ⟨gh, j * 2, none⟩)), Fx (.pointer (some ⟨gh, j * 2, none⟩)), Fx (.int .i64 ((a : Int))), Fx (.slice (some ⟨gh, 0, none⟩) L ch), Fx (.int .i64 ((j : Int))), Fx (.pointer (some ⟨gh, j * 2, none⟩)), Fx (.pointer (some ⟨gh, j * 2 + 1, none⟩)), Fx (.int .i64 ((n : Int))), fun v x => v = .bool true ∧ ∃ F', X x (.pointer (some ad)) st' F' ∧ ∀ q ∈ F', q ∈ F ∨ wr.heap.size ≤ q, Fx (.bool false), Fx (.bool false), Fx (.pointer (some ad)), Fx (.slice (some ⟨gh, 0, none⟩) L ch), Fx (.int .i64 ((j : Int))), Fx (.pointer (some ⟨gh, j * 2, none⟩)), Fx (.pointer (some ⟨gh, j * 2, none⟩)), Fx (.int .i64 ((a : Int)))] (by simp) (by kernel_rfl) (by kernel_rfl) (by kernel_rfl) ?_ ?_ ?_ ?_
                · repeat' (first | exact all_nil | apply all_cons)
                  all_goals intro v y y' hv hb
                  all_goals first | exact Fx_mono _ _ _ _ hv hb | (obtain ⟨h1, F9, h2, h3⟩ := hv; exact ⟨h1, F9, O.keeps (G := []) h2 (Keep.of_below hb) (fun _ _ => by simp), h3⟩)
                · simp only [List.eraseIdx]
                  repeat' (first | exact all_nil | apply all_cons)
                  all_goals intro v y y' hv hb
                  all_goals first | exact (show Fx _ _ _ from hv)
                · refine ⟨?_, ?_, ?_, ?_, ?_, ?_, ?_, ?_, ?_, ?_, ?_, ?_, ?_, ?_, ?_, ?_, ?_, ?_, ?_, ?_, trivial⟩
                  all_goals
                    intro ρ x hk hp ρc ρg ρf ho hd
                    first | (replace hp := hp (by decide)) | clear hp
                    have o5 : ρ (.tmp 5) = .pointer (some ad) := ho 5 rfl
                    have o8 : ρ (.tmp 8) = .slice (some ⟨gh, 0, none⟩) L ch := ho 8 rfl
                    have o13 : ρ (.tmp 13) = .int .i64 ((j : Int)) := ho 13 rfl
                    clear ho
                    have k0 := cell_keepF hk d0 hgh
                    have k1 := cell_keepF hk d1 hgh
                    simp only [depsR, depR, slotR, Fx, List.getElem?_cons_succ, List.getElem?_cons_zero, Region.binds, forall_const] at hd
                    simp only [guardR, Nat.reduceBEq, cond_true, cond_false]
                    go_split_ands
                  · go_simp
                  · go_simp
                  · go_simp
                  · have hq := FK.out
                    go_simp
                  · go_simp
                  · go_simp
                  · go_simp
                  · go_simp
                  · have hq := FK.out
                    go_simp
                  · go_simp
                  · go_simp
                  · go_simp
                    have hX9 := O.keeps (G := []) HX0.out (Keep.of_below hp) (fun _ _ => by simp)
                    refine (O.free _ _ _ _ (a : Int) (n : Int) hX9 HI.out.1 HI.out.2.1).mono ?_
                    rintro e x' ⟨rfl, F', g1, g2, g3⟩
                    rw [hok]
                    rw [hst'] at g1
                    exact ⟨_, rfl, ⟨rfl, F', g1, fun q hq => (g2 q hq).imp id (fun h => Nat.le_trans hp.size h)⟩, g3⟩
                  · go_simp
                  · go_simp
                  · refine ⟨fun _ => ?_, fun hy => absurd (by simp [yieldR, slotR, *]) hy⟩
                    go_simp
                  · refine ⟨fun _ => ?_, fun hy => absurd (by simp [yieldR, slotR, *]) hy⟩
                    go_simp
                  · refine ⟨fun _ => ?_, fun hy => absurd (by simp [yieldR, slotR, *]) hy⟩
                    go_simp
                  · refine ⟨fun _ => ?_, fun hy => absurd (by simp [yieldR, slotR, *]) hy⟩
                    have hq := FK.out
                    go_simp
                  · refine ⟨fun _ => ?_, fun hy => absurd (by simp [yieldR, slotR, *]) hy⟩
                    go_simp
                  · refine ⟨fun _ => ?_, fun hy => absurd (by simp [yieldR, slotR, *]) hy⟩
                    go_simp
                · intro vs x1 hk hw
                  simp only [owed, Fx] at hw
                  obtain ⟨e0, e1, e2, e3, e4, e5, e6, e7, e8, e9, e10, ⟨e11, F', hXn, hFn⟩, e12, e13, e14, e15, e16, e17, e18, e19, -⟩ := hw
                  simp only [List.length_cons, List.length_nil, List.take_succ_cons, List.take_zero, List.drop_succ_cons, List.drop_zero, asg, List.cons_append, List.nil_append, e0, e1, e2, e3, e4, e5, e6, e7, e8, e9, e10, e11, e12, e13, e14, e15, e16, e17, e18, e19]
                  clear e0 e1 e2 e3 e4 e5 e6 e7 e8 e9 e10 e11 e12 e13 e14 e15 e16 e17 e18 e19
                  obtain ⟨hX1, hb1, hk1⟩ := XAt.step HF.out.1 HF.out.2 (Below.size HB.out) (⟨F', hXn, hFn, hk⟩ : XStep X F wr (.pointer (some ad)) st' x1)
                  have hB1 := HB.out.trans hb1
                  have hO1 := KeepA.own hk1 HO.out (fun q hq => by simp [hq])
                  have hbb1 := KeepA.own hk1 Hb.out (fun q hq => by simp [hq])
                  have hfree := hX1.free O hB1.size (a : Int) 1 HI.out.1 HI.out.2.2
                  rw [HN.out, xTurn_no _ _ _ _ HN.out] at hfree
                  clear HF HB HO Hb HX0 hb1 hk1 hX1 hXn hFn hk d0 d1 HN hok hst' hgh FK HI
                  go_wp2_with fail
                  go_at_call 9
                  refine hfree.mono ?_
                  rintro e w5 ⟨rfl, hX5, hb5, hk5⟩
                  have hO5 := hk5.own hO1 (fun q hq => by simp [hq])
                  have hbb5 := hk5.own hbb1 (fun q hq => by simp [hq])
                  have hB5 := hB1.trans hb5
                  clear hfree hO1 hbb1 hb5 hk5 hB1
                  have hcap := ((hO5.isK prE_ok).cap).2
                  have hjc : j ≤ ch := by omega
                  have hjc1 : j + 1 ≤ ch := by omega
                  have hjL' : (j : Int) < (L : Int) := by omega
                  have hjL1 : (j : Int) ≤ (L : Int) := by omega
                  have hjL2 : (j : Int) + 1 ≤ (L : Int) := by omega
                  obtain ⟨y1, c1, w6, hr1, hOr1, hbr1, hst1, hXr1⟩ := app8 O w5 w.heap.size none 0 0 [] (rI (hs.take j)) (some ⟨gh, 0, none⟩) j ch 31 (OwnK.nil _ _ _) rfl (by rw [rI_len, List.length_take]; omega) (by rw [rI_take]; exact isK_take hO5 j (by omega)) hB5.size (by omega)
                  obtain ⟨hO6, hap6⟩ := hst1 _ _ hO5 (.inr (by simp [Value.ownBlock]))
                  obtain ⟨hbb6, hapb6⟩ := hst1 _ _ hbb5 (by unfold Apt; cases (Value.slice yb Lb cb).ownBlock with | none => exact .inl rfl | some q => exact .inr (by simp [Value.ownBlock]))
                  have hX6 := hXr1 _ _ _ (fun q hq => by simp [Value.ownBlock] at hq) hX5
                  have hB6 := hB5.trans hbr1
                  rw [List.nil_append] at hOr1
                  simp only [Nat.zero_add] at hr1 hOr1 hap6 hapb6 hX6
                  obtain ⟨px, hpx⟩ : ∃ px, (if ch = j + 1 then some (⟨gh, 0, none⟩ : Addr) else some ⟨gh, (j + 1) * 2, none⟩) = px := ⟨_, rfl⟩
                  have hsrc := isK_drop' hO6 (j + 1) (by omega)
                  rw [hpx, ← rI_drop] at hsrc
                  obtain ⟨y2, c2, w7, hr2, hOr2, hbr2, hst2, hXr2⟩ := app8 O w6 w.heap.size y1 j c1 (rI (hs.take j)) (rI (hs.drop (j + 1))) px (L - (j + 1)) (ch - (j + 1)) 31 hOr1 (by rw [rI_len, List.length_take]; omega) (by rw [rI_len, List.length_drop]; omega) hsrc hB6.size (by omega)
                  obtain ⟨hbb7, hapb7⟩ := hst2 _ _ hbb6 hapb6
                  have hX7 := (hXr2 _ _ _ (fun q hq => List.mem_append.2 (.inl (by rw [hq]; simp))) hX6).less (A' := (Value.slice y2 (j + (L - (j + 1))) c2).ownBlock.toList ++ (Value.slice yb Lb cb).ownBlock.toList) (fun q hq => by
                    rcases List.mem_append.1 hq with hq | hq
                    · exact List.mem_append.2 (.inl hq)
                    · exact List.mem_append.2 (.inr (List.mem_append.2 (.inr (List.mem_append.2 (.inr hq))))))
                  have hB7 := hB6.trans hbr2
                  rw [← rI_app] at hOr2
                  have hlen : (hs.take j ++ hs.drop (j + 1)).length = j + (L - (j + 1)) := by rw [List.length_append, List.length_take, List.length_drop]; omega
                  rw [← hlen] at hOr2 hapb7 hX7 hr2
                  have hlen' : (hs.take j ++ hs.drop (j + 1)).length + 1 = L := by omega
                  have HR : Hid _ := And.intro hOr2 (And.intro HH.out (And.intro hbb7 (And.intro hapb7.symm (And.intro hX7 hB7))))
                  have HL : Hid _ := And.intro hlen hlen'
                  clear hsrc hcap hlen hlen' hOr1 hbr1 hst1 hXr1 hO6 hap6 hbb6 hapb6 hX6 hB6 hOr2 hbr2 hst2 hXr2 hbb7 hapb7 hX7 hB7 HH hX5 hO5 hbb5 hB5 hap
                  go_upto_region 27 with (at_builtin; refine wpL_appG 31 rfl _ _ rfl _ w6 (by exact hr1) ?_)
                  clear hr1
                  go_wp2_with (at_builtin; refine wpL_appG 31 rfl _ _ rfl _ w7 (by exact hr2) ?_)
                  go_roundw
                  case rel =>
                    obtain ⟨r1, r2, r3, r4, r5, r6⟩ := HR.out
                    exact ⟨i + 1, hs.take j ++ hs.drop (j + 1), st', y2, c2, by have := HL.out.2; omega, by go_num, by rw [HL.out.1, show min j L = j by omega], r1, r2, r3, r4, r5, r6⟩
                  case measure =>
                    have := HL.out.2
                    simp [lenV]; omega
            · have hip' : ¬ (i : Int) < (np : Int) := by omega
              obtain ⟨j, hj⟩ : ∃ j : Nat, j = 0 := ⟨0, rfl⟩
              have hjL : j < L := by omega
              go_upto_region 23 with fail
              refine wp_slot 13 (.int .i64 (j : Int)) (by rw [hj]; rfl) ?_
              simp only [List.setIfInBounds_toArray, List.set_cons_succ, List.set_cons_zero]
              clear hj hip'
              obtain ⟨p, hp⟩ : ∃ p, hs[j]? = some p := ⟨_, List.getElem?_eq_getElem (by omega)⟩
              obtain ⟨a, n⟩ := p
              obtain ⟨d0, d1⟩ := pr_cells (hO.range prE_ok j _ (rI_at hp))
              rw [prE_k] at d0 d1
              obtain ⟨hok, hH', hfa⟩ := hH.less j a n hp
              have hpos := hH.pos _ (List.mem_of_getElem? hp)
              dsimp only at d0 d1 hpos
              obtain ⟨st', hst'⟩ : ∃ st', xTurn st (a : Int) (n : Int) false = st' := ⟨_, rfl⟩
              rw [hst'] at hH' hfa
              have hno := xOk_no st' (a : Int) false (by rw [Int.toNat_natCast]; exact hfa)
              obtain ⟨F, hX0, hF, hA⟩ := hX
              have hgh : gh ∉ F := (hA gh (by simp [Value.ownBlock])).1
              have FK : Hid ((j : Int) < (L : Int)) := by show _ < _; omega
              have HH : Hid (Hld8 st' (hs.take j ++ hs.drop (j + 1))) := hH'
              have HN : Hid (xOk st' (a : Int) 1 false = false) := hno
              have HO : Hid (OwnK prE wr w.heap.size (.slice (some ⟨gh, 0, none⟩) L ch) (rI hs)) := hO
              have Hb : Hid (OwnK prE wr w.heap.size (.slice yb Lb cb) (rI (xRuns x200))) := hb
              have HB : Hid (Below w.heap.size w wr) := hB
              have HX0 : Hid (X wr (.pointer (some ad)) st F) := hX0
              have HF : Hid ((∀ q ∈ F, w.heap.size ≤ q) ∧ ∀ a ∈ (Value.slice (some ⟨gh, 0, none⟩) L ch).ownBlock.toList ++ (Value.slice yb Lb cb).ownBlock.toList, a ∉ F ∧ a < wr.heap.size) := ⟨hF, hA⟩
              have HI : Hid (i64 (a : Int) ∧ i64 (n : Int) ∧ i64 1) := ⟨by unfold i64; omega, by unfold i64; omega, by unfold i64; omega⟩
              clear hH hH' hfa hno hO hb hB hX0 hF hA hp hpos
              refine wp_reliesK (kokp8 (G := F)) 11 [0, 1, 2, 3, 4, 5, 6, 7, 8, 9, 10] [Fx (.pointer (some ad)), Fx (.slice (some ⟨gh, 0, none⟩) L ch), Fx (.int .i64 ((j : Int))), Fx (.pointer (some ⟨gh, j * 2, none⟩)), Fx (.pointer (some ⟨gh, j * 2, none⟩)), Fx (.int .i64 ((a : Int))), Fx (.slice (some ⟨gh, 0, none⟩) L ch), Fx (.int .i64 ((j : Int))), Fx (.pointer (some ⟨gh, j * 2, none⟩)), Fx (.pointer (some ⟨gh, j * 2 + 1, none⟩)), Fx (.int .i64 ((n : Int))), fun v x => v = .bool true ∧ ∃ F', X x (.pointer (some ad)) st' F' ∧ ∀ q ∈ F', q ∈ F ∨ wr.heap.size ≤ q, Fx (.bool false), Fx (.bool false), Fx (.pointer (some ad)), Fx (.slice (some ⟨gh, 0, none⟩) L ch), Fx (.int .i64 ((j : Int))), Fx (.pointer (some ⟨gh, j * 2, none⟩)), Fx (.pointer (some ⟨gh, j * 2, none⟩)), Fx (.int .i64 ((a : Int)))] (by simp) (by kernel_rfl) (by kernel_rfl) (by kernel_rfl) ?_ ?_ ?_ ?_
              · repeat' (first | exact all_nil | apply all_cons)
                all_goals intro v y y' hv hb
                all_goals first | exact Fx_mono _ _ _ _ hv hb | (obtain ⟨h1, F9, h2, h3⟩ := hv; exact ⟨h1, F9, O.keeps (G := []) h2 (Keep.of_below hb) (fun _ _ => by simp), h3⟩)
              · simp only [List.eraseIdx]
                repeat' (first | exact all_nil | apply all_cons)
                all_goals intro v y y' hv hb
                all_goals first | exact (show Fx _ _ _ from hv)
              · refine ⟨?_, ?_, ?_, ?_, ?_, ?_, ?_, ?_, ?_, ?_, ?_, ?_, ?_, ?_, ?_, ?_, ?_, ?_, ?_, ?_, trivial⟩
                all_goals
                  intro ρ x hk hp ρc ρg ρf ho hd
                  first | (replace hp := hp (by decide)) | clear hp
                  have o5 : ρ (.tmp 5) = .pointer (some ad) := ho 5 rfl
                  have o8 : ρ (.tmp 8) = .slice (some ⟨gh, 0, none⟩) L ch := ho 8 rfl
                  have o13 : ρ (.tmp 13) = .int .i64 ((j : Int)) := ho 13 rfl
                  clear ho
                  have k0 := cell_keepF hk d0 hgh
                  have k1 := cell_keepF hk d1 hgh
                  simp only [depsR, depR, slotR, Fx, List.getElem?_cons_succ, List.getElem?_cons_zero, Region.binds, forall_const] at hd
                  simp only [guardR, Nat.reduceBEq, cond_true, cond_false]
                  go_split_ands
                · go_simp
                · go_simp
                · go_simp
                · have hq := FK.out
                  go_simp
                · go_simp
                · go_simp
                · go_simp
                · go_simp
                · have hq := FK.out
                  go_simp
                · go_simp
                · go_simp
                · go_simp
                  have hX9 := O.keeps (G := []) HX0.out (Keep.of_below hp) (fun _ _ => by simp)
                  refine (O.free _ _ _ _ (a : Int) (n : Int) hX9 HI.out.1 HI.out.2.1).mono ?_
                  rintro e x' ⟨rfl, F', g1, g2, g3⟩
                  rw [hok]
                  rw [hst'] at g1
                  exact ⟨_, rfl, ⟨rfl, F', g1, fun q hq => (g2 q hq).imp id (fun h => Nat.le_trans hp.size h)⟩, g3⟩
                · go_simp
                · go_simp
                · refine ⟨fun _ => ?_, fun hy => absurd (by simp [yieldR, slotR, *]) hy⟩
                  go_simp
                · refine ⟨fun _ => ?_, fun hy => absurd (by simp [yieldR, slotR, *]) hy⟩
                  go_simp
                · refine ⟨fun _ => ?_, fun hy => absurd (by simp [yieldR, slotR, *]) hy⟩
                  go_simp
                · refine ⟨fun _ => ?_, fun hy => absurd (by simp [yieldR, slotR, *]) hy⟩
                  have hq := FK.out
                  go_simp
                · refine ⟨fun _ => ?_, fun hy => absurd (by simp [yieldR, slotR, *]) hy⟩
                  go_simp
                · refine ⟨fun _ => ?_, fun hy => absurd (by simp [yieldR, slotR, *]) hy⟩
                  go_simp
              · intro vs x1 hk hw
                simp only [owed, Fx] at hw
                obtain ⟨e0, e1, e2, e3, e4, e5, e6, e7, e8, e9, e10, ⟨e11, F', hXn, hFn⟩, e12, e13, e14, e15, e16, e17, e18, e19, -⟩ := hw
                simp only [List.length_cons, List.length_nil, List.take_succ_cons, List.take_zero, List.drop_succ_cons, List.drop_zero, asg, List.cons_append, List.nil_append, e0, e1, e2, e3, e4, e5, e6, e7, e8, e9, e10, e11, e12, e13, e14, e15, e16, e17, e18, e19]
                clear e0 e1 e2 e3 e4 e5 e6 e7 e8 e9 e10 e11 e12 e13 e14 e15 e16 e17 e18 e19
                obtain ⟨hX1, hb1, hk1⟩ := XAt.step HF.out.1 HF.out.2 (Below.size HB.out) (⟨F', hXn, hFn, hk⟩ : XStep X F wr (.pointer (some ad)) st' x1)
                have hB1 := HB.out.trans hb1
                have hO1 := KeepA.own hk1 HO.out (fun q hq => by simp [hq])
                have hbb1 := KeepA.own hk1 Hb.out (fun q hq => by simp [hq])
                have hfree := hX1.free O hB1.size (a : Int) 1 HI.out.1 HI.out.2.2
                rw [HN.out, xTurn_no _ _ _ _ HN.out] at hfree
                clear HF HB HO Hb HX0 hb1 hk1 hX1 hXn hFn hk d0 d1 HN hok hst' hgh FK HI
                go_wp2_with fail
                go_at_call 9
                refine hfree.mono ?_
                rintro e w5 ⟨rfl, hX5, hb5, hk5⟩
                have hO5 := hk5.own hO1 (fun q hq => by simp [hq])
                have hbb5 := hk5.own hbb1 (fun q hq => by simp [hq])
                have hB5 := hB1.trans hb5
                clear hfree hO1 hbb1 hb5 hk5 hB1
                have hcap := ((hO5.isK prE_ok).cap).2
                have hjc : j ≤ ch := by omega
                have hjc1 : j + 1 ≤ ch := by omega
                have hjL' : (j : Int) < (L : Int) := by omega
                have hjL1 : (j : Int) ≤ (L : Int) := by omega
                have hjL2 : (j : Int) + 1 ≤ (L : Int) := by omega
                obtain ⟨y1, c1, w6, hr1, hOr1, hbr1, hst1, hXr1⟩ := app8 O w5 w.heap.size none 0 0 [] (rI (hs.take j)) (some ⟨gh, 0, none⟩) j ch 31 (OwnK.nil _ _ _) rfl (by rw [rI_len, List.length_take]; omega) (by rw [rI_take]; exact isK_take hO5 j (by omega)) hB5.size (by omega)
                obtain ⟨hO6, hap6⟩ := hst1 _ _ hO5 (.inr (by simp [Value.ownBlock]))
                obtain ⟨hbb6, hapb6⟩ := hst1 _ _ hbb5 (by unfold Apt; cases (Value.slice yb Lb cb).ownBlock with | none => exact .inl rfl | some q => exact .inr (by simp [Value.ownBlock]))
                have hX6 := hXr1 _ _ _ (fun q hq => by simp [Value.ownBlock] at hq) hX5
                have hB6 := hB5.trans hbr1
                rw [List.nil_append] at hOr1
                simp only [Nat.zero_add] at hr1 hOr1 hap6 hapb6 hX6
                obtain ⟨px, hpx⟩ : ∃ px, (if ch = j + 1 then some (⟨gh, 0, none⟩ : Addr) else some ⟨gh, (j + 1) * 2, none⟩) = px := ⟨_, rfl⟩
                have hsrc := isK_drop' hO6 (j + 1) (by omega)
                rw [hpx, ← rI_drop] at hsrc
                obtain ⟨y2, c2, w7, hr2, hOr2, hbr2, hst2, hXr2⟩ := app8 O w6 w.heap.size y1 j c1 (rI (hs.take j)) (rI (hs.drop (j + 1))) px (L - (j + 1)) (ch - (j + 1)) 31 hOr1 (by rw [rI_len, List.length_take]; omega) (by rw [rI_len, List.length_drop]; omega) hsrc hB6.size (by omega)
                obtain ⟨hbb7, hapb7⟩ := hst2 _ _ hbb6 hapb6
                have hX7 := (hXr2 _ _ _ (fun q hq => List.mem_append.2 (.inl (by rw [hq]; simp))) hX6).less (A' := (Value.slice y2 (j + (L - (j + 1))) c2).ownBlock.toList ++ (Value.slice yb Lb cb).ownBlock.toList) (fun q hq => by
                  rcases List.mem_append.1 hq with hq | hq
                  · exact List.mem_append.2 (.inl hq)
                  · exact List.mem_append.2 (.inr (List.mem_append.2 (.inr (List.mem_append.2 (.inr hq))))))
                have hB7 := hB6.trans hbr2
                rw [← rI_app] at hOr2
                have hlen : (hs.take j ++ hs.drop (j + 1)).length = j + (L - (j + 1)) := by rw [List.length_append, List.length_take, List.length_drop]; omega
                rw [← hlen] at hOr2 hapb7 hX7 hr2
                have hlen' : (hs.take j ++ hs.drop (j + 1)).length + 1 = L := by omega
                have HR : Hid _ := And.intro hOr2 (And.intro HH.out (And.intro hbb7 (And.intro hapb7.symm (And.intro hX7 hB7))))
                have HL : Hid _ := And.intro hlen hlen'
                clear hsrc hcap hlen hlen' hOr1 hbr1 hst1 hXr1 hO6 hap6 hbb6 hapb6 hX6 hB6 hOr2 hbr2 hst2 hXr2 hbb7 hapb7 hX7 hB7 HH hX5 hO5 hbb5 hB5 hap
                go_upto_region 27 with (at_builtin; refine wpL_appG 31 rfl _ _ rfl _ w6 (by exact hr1) ?_)
                clear hr1
                go_wp2_with (at_builtin; refine wpL_appG 31 rfl _ _ rfl _ w7 (by exact hr2) ?_)
                go_roundw
                case rel =>
                  obtain ⟨r1, r2, r3, r4, r5, r6⟩ := HR.out
                  exact ⟨i + 1, hs.take j ++ hs.drop (j + 1), st', y2, c2, by have := HL.out.2; omega, by go_num, by rw [HL.out.1, show min j L = j by omega], r1, r2, r3, r4, r5, r6⟩
                case measure =>
                  have := HL.out.2
                  simp [lenV]; omega
          · obtain rfl : L = 0 := by omega
            obtain rfl : hs = [] := List.eq_nil_of_length_eq_zero hL
            have hrun := held_none hH
            have hrange := hX.ranges O hB.size
            rw [hrun, HLb.out] at hrange
            clear hX
            go_wp2_with fail
            go_at_call 10
            refine hrange.mono ?_
            rintro e w5 ⟨y, cy, A', rfl, hO5, -, -, -, hb5, hk5⟩
            have hbb5 := hk5.own hb (fun q hq => by simp [hq])
            have hB5 := hB.trans hb5
            have hL5 : Lb ≤ 100000 := by
              have h1 := runs_rises x200.f (x200.hi - x200.fr) x200.fr
              have h2 := rises_len h1
              have h3 : (runs x200.f x200.fr (x200.hi - x200.fr)).length = Lb := HLb.out
              rw [x200_ends.1, x200_ends.2] at h2 h3
              rcases h2 with h2 | h2
              · rw [h2] at h3; simp at h3; omega
              · omega
            clear hrange hb hb5 hk5 hB hO
            go_wp2_with fail
            go_at_call 14
            refine (sameP_any _ _ _ _ Lb Lb (rI (xRuns x200)) (rI (xRuns x200)) _ (by rw [rI_len]; exact HLb.out) (by rw [rI_len]; exact HLb.out) (hO5.isK prE_ok) (hbb5.isK prE_ok) (by omega)).mono ?_
            rintro e w6 ⟨rfl, hb6⟩
            rw [decide_eq_true rfl]
            have hB6 := hB5.trans (hb6.mono hB5.size)
            clear hO5 hbb5 hB5 hb6
            go_wp2
            go_ret
            exact ⟨rfl, hB6⟩
end Go.Proofs.Ytafbkdpheneceaa
