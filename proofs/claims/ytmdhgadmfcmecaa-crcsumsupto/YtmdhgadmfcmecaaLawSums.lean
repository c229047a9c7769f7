
import Derived.Test.YtmdhgadmfcmecaaSumB
import Derived.Test.YtmdhgadmfcmecaaBurM
import Derived.BigQuiet
import Derived.Deep.QuietTactic
namespace Go.Proofs.Ytmdhgadmfcmecaa
open Go.RowKit

theorem below_drewN {B : Nat} {W X : World} (h : Below B W X) (n : Nat) : Below B W (X.drewN n) := ⟨h.os, h.tape, h.output, h.size, h.block⟩
set_option linter.unusedSimpArgs false in
set_option maxRecDepth 100000 in
set_option maxHeartbeats 1600000 in
theorem lawSums_any (xp : Option Addr) (cp : Nat) (ls : List (List UInt8)) (s : Nat → UInt8) (w : World) (hp0 : IsBB w (.slice xp ls.length cp) ls) (hl1 : ls.length ≤ 1048576) (hl2 : ls.flatten.length ≤ 1048576) (hl3 : ∀ l ∈ ls, l.length ≤ 1048576) :
    Calls Try.prog 6 #[.slice xp ls.length cp, .agg (secA s)] w fun e w' => e = .returned (.bool true) ∧ Below w.heap.size w w' := by
  go_enter Try.func6, Try.ntmps6
  go_wp2_with fail
  refine (known_any _).mono ?_
  rintro e X ⟨rfl, hX⟩
  have hBX : Below w.heap.size w X := (below_alloc w _).trans (hX.mono (by simp))
  have RS : Row X w.heap.size s := by
    have := (Row.new w s 33).kept hX
    exact this
  have hPX : IsBB X (.slice xp ls.length cp) ls := hp0.kept hBX
  have hszX : w.heap.size < X.heap.size := RS.lt
  clear hX hp0
  go_wp2_with fail
  go_loopw [5, 6] (fun v i wr => ∃ (k : Nat) (us : List Value), k ≤ ls.length ∧ i = .int .i64 k ∧ Inv1 X ls k v us wr) (fun _ i _ => ls.length - (intOf i).toNat)
  case atStart => exact ⟨0, [], Nat.zero_le _, rfl, Inv1.start X ls⟩
  case round =>
    obtain ⟨k, us, hk, rfl, hI⟩ := hrel
    by_cases hlt : k < ls.length
    · obtain ⟨b, o, z, d, rfl, hb, hc, hz⟩ := hPX.spot k hlt
      have hcw : wr.cell? ⟨b, o + k, none⟩ = some (.slice z (ls[k]).length d) := by rw [hI.below.cell hb]; exact hc
      have hbw : b < wr.heap.size := Nat.lt_of_lt_of_le hb hI.below.size
      have hlk := hl3 _ (List.getElem_mem hlt)
      have ek : ls[k]?.getD [] = ls[k] := by simp [hlt]
      obtain ⟨v1, w1, g, c2, w2, hr1, hr2, hF, hc1, hc3, hB2⟩ := run_copy wr z d ls[k] (hz.kept hI.below) (by omega)
      obtain ⟨v', w4, hr3, hO4, hg4⟩ := run_app1V2 (w2.alloc (.cells #[.slice (some ⟨g, 0, none⟩) (ls[k]).length c2] 22)) X.heap.size w2.heap.size 1 u5 us (.slice (some ⟨g, 0, none⟩) (ls[k]).length c2) 25 ((hI.kept hB2).kept (below_alloc _ _)).own (by go_simp) rfl (by rw [hI.len]; omega) (by have := hI.below.size; have := hB2.size; simp; omega)
      have HI : Hid (Inv1 X ls (k + 1) v' (us ++ [.slice (some ⟨g, 0, none⟩) (ls[k]).length c2]) w4) := hI.step hB2 (by rw [ek]; exact hF) (below_alloc _ _) hg4 hO4
      have hcw2 : w2.cell? ⟨b, o + k, none⟩ = some (.slice z (ls[k]).length d) := by rw [hB2.cell hbw]; exact hcw
      have hbw2 : b < w2.heap.size := Nat.lt_of_lt_of_le hbw hB2.size
      generalize ls[k] = l at *
      clear hI hF hB2 hO4 hg4 hc hz hl3 ek
      unfold maxLen at hc3
      have hk0 : (0 : Int) ≤ (k : Int) := by omega
      have hk1 : (k : Int) < (ls.length : Int) := by omega
      have hcl : (l.length : Int) ≤ (c2 : Int) := by omega
      have hc0 : ¬ (c2 = 0) := by omega
      have tok1 : True := trivial
      go_wp2_with (first | (at_builtin; have _t := tok1; refine wpL_app rfl _ _ rfl v1 w1 (by exact hr1) ?_; clear tok1 hr1) | (at_builtin; refine wpL_app rfl _ _ rfl _ w2 (by exact hr2) ?_) | (at_builtin; refine wpL_appV rfl _ _ rfl v' w4 (by exact hr3) ?_))
      go_roundw
      case rel => exact ⟨k + 1, _, by omega, by go_num, HI.out⟩
      case measure => simp [intOf]; omega
    · obtain rfl : k = ls.length := by omega
      have hS1 := sum_all u5 ls wr (by unfold maxLen; omega) (by unfold maxLen; intro a ha; have := hl3 a ha; omega) (hI.own.isBB hI.areB)
      have hS2 := joined_any (.slice xp ls.length cp) ls wr (by unfold maxLen; omega) (by omega) (hPX.kept hI.below)
      have hI2 := hI.all
      clear hI
      go_wp2_with fail
      refine hS1.mono ?_
      rintro e w5 ⟨rfl, rfl⟩
      go_wp2_with fail
      refine hS2.mono ?_
      rintro e w6 ⟨uj, rfl, hj, hB6⟩
      have hS3 := refSum_any uj ls.flatten w6 (by unfold maxLen; omega) hj
      have hI3 := hI2.kept hB6
      clear hS1 hS2 hI2 hB6 hj
      go_wp2_with fail
      refine hS3.mono ?_
      rintro e w7 ⟨rfl, rfl⟩
      clear hS3
      generalize (sumL ls.flatten).toNat = S
      go_wp2_with fail
      go_loopw [8] (fun i wr => ∃ k : Nat, k ≤ ls.length ∧ i = .int .i64 k ∧ Inv2 X ls k u5 us wr) (fun i _ => ls.length - (intOf i).toNat)
      case atStart => exact ⟨0, Nat.zero_le _, rfl, hI3⟩
      case round =>
        clear hI3
        obtain ⟨k, hk, rfl, hI⟩ := hrel
        by_cases hlt : k < ls.length
        · obtain ⟨b, o, z, d, rfl, hb, hc, hz⟩ := hPX.spot k hlt
          have hcw : wr.cell? ⟨b, o + k, none⟩ = some (.slice z (ls[k]).length d) := by rw [hI.below.cell hb]; exact hc
          have hbw : b < wr.heap.size := Nat.lt_of_lt_of_le hb hI.below.size
          have hzw := hz.kept hI.below
          have hlk := hl3 _ (List.getElem_mem hlt)
          obtain ⟨g, c, gv, cv, hu, rfl, hcv, hgv, hO, hcc, hXg, hg, hgg⟩ := hI.this hlt
          generalize ls[k] = l at *
          have hk0 : (0 : Int) ≤ (k : Int) := by omega
          have hk1 : (k : Int) < (ls.length : Int) := by omega
          have hcl : (l.length : Int) + 1 ≤ (c : Int) := by omega
          have hc0 : ¬ (c = 0) := by omega
          go_upto_region 14 with fail
          go_quiet (fail)
          go_upto_region 15 with fail
          have hBW : Below wr.heap.size wr (wr.drewN nq) := below_drewN (Below.refl _ _) nq
          generalize wr.drewN nq = W at hBW ⊢
          have hIW := hI.kept hBW
          have hOW := hO.keep hBW
          have hcW : W.cell? ⟨b, o + k, none⟩ = some (.slice z l.length d) := by rw [hBW.cell hbw]; exact hcw
          have hcvW : W.cell? ⟨gv, k, none⟩ = some (.slice (some ⟨g, 0, none⟩) l.length c) := by rw [hBW.cell hgv]; exact hcv
          have hzW := hzw.kept hBW
          have hbW : b < W.heap.size := Nat.lt_of_lt_of_le hbw hBW.size
          have hgvW : gv < W.heap.size := Nat.lt_of_lt_of_le hgv hBW.size
          have hgW : g < W.heap.size := Nat.lt_of_lt_of_le hg hBW.size
          have hIU : IsB W (.slice (some ⟨g, 0, none⟩) l.length c) l := Full.isB ⟨g, c, rfl, hOW⟩
          have h165 : W.cell? ⟨g, l.length, none⟩ = some (.int .u8 165) := by
            have := World.ownsRow.cellAt hOW l.length (by simp)
            rw [this]; simp [bytesA]
          clear hI hO hcw hcv hzw hbw hgv hg hBW hc hz
          refine wp_relies [Fx (.slice (some ⟨g, 0, none⟩) (l.length + 1) c), Fx (.slice (some ⟨b, o, none⟩) ls.length cp), Fx (.int .i64 (k : Nat)), Fx (.pointer (some ⟨b, o + k, none⟩)), Fx (.slice z l.length d), Fx (.int .i64 (l.length : Nat)), Fx (.slice (some ⟨g, 0, none⟩) l.length c), Fx (.string ⟨l.toArray⟩), Fx (.slice (some ⟨b, o, none⟩) ls.length cp), Fx (.int .i64 (k : Nat)), Fx (.pointer (some ⟨b, o + k, none⟩)), Fx (.slice z l.length d), Fx (.string ⟨l.toArray⟩), Fx (.bool false), Fx (.bool false), Fx (.slice (some ⟨g, 0, none⟩) (l.length + 1) c), Fx (.slice (some ⟨b, o, none⟩) ls.length cp), Fx (.int .i64 (k : Nat)), Fx (.pointer (some ⟨b, o + k, none⟩)), Fx (.slice z l.length d), Fx (.int .i64 (l.length : Nat)), Fx (.pointer (some ⟨g, l.length, none⟩)), Fx (.int .u8 165), Fx (.bool false), Fx (.bool false)] (by kernel_rfl) (by kernel_rfl) ?_ ?_ ?_
          · repeat' (first | exact all_nil | apply all_cons)
            all_goals intro v y y' hv hb
            all_goals first | exact Fx_mono _ _ _ _ hv hb
          · refine ⟨?_, ?_, ?_, ?_, ?_, ?_, ?_, ?_, ?_, ?_, ?_, ?_, ?_, ?_, ?_, ?_, ?_, ?_, ?_, ?_, ?_, ?_, ?_, ?_, ?_, trivial⟩
            all_goals
              intro ρ x hp ρc ρg ρf ho hd
              have o0 : ρ (.tmp 0) = .slice (some ⟨b, o, none⟩) ls.length cp := ho 0 rfl
              have o8 : ρ (.tmp 8) = .int .i64 (k : Nat) := ho 8 rfl
              have o9 : ρ (.tmp 9) = .slice (some ⟨g, 0, none⟩) (l.length + 1) c := ho 9 rfl
              clear ho
              have q1 := cell_later hp hcW
              have q2 := cell_later hp h165
              have iz := hzW.kept hp
              have iu := hIU.kept hp
              have hcl2 : l.length ≤ c := by omega
              have hll : (l.length : Int) < (l.length : Int) + 1 := by omega
              simp only [depsR, depR, slotR, Fx, List.getElem?_cons_succ, List.getElem?_cons_zero, Region.binds, forall_const] at hd
              simp only [guardR]
              go_split_ands
            · go_simp
            · go_simp
            · go_simp
            · go_simp
            · go_simp
            · go_simp
            · go_simp
            · have hz := iu.str
              go_simp
            · go_simp
            · go_simp
            · go_simp
            · go_simp
            · have hz := iz.str
              go_simp
            · go_simp
            · go_simp
            · refine ⟨fun _ => ?_, fun hy => absurd (by simp [yieldR, slotR, *]) hy⟩
              go_simp
            · refine ⟨fun _ => ?_, fun hy => absurd (by simp [yieldR, slotR, *]) hy⟩
              go_simp
            · refine ⟨fun _ => ?_, fun hy => absurd (by simp [yieldR, slotR, *]) hy⟩
              go_simp
            · refine ⟨fun _ => ?_, fun hy => absurd (by simp [yieldR, slotR, *]) hy⟩
              go_simp
            · refine ⟨fun _ => ?_, fun hy => absurd (by simp [yieldR, slotR, *]) hy⟩
              go_simp
            · refine ⟨fun _ => ?_, fun hy => absurd (by simp [yieldR, slotR, *]) hy⟩
              go_simp
            · refine ⟨fun _ => ?_, fun hy => absurd (by simp [yieldR, slotR, *]) hy⟩
              go_simp
            · refine ⟨fun _ => ?_, fun hy => absurd (by simp [yieldR, slotR, *]) hy⟩
              go_simp
            · refine ⟨fun _ => ?_, fun hy => absurd (by simp [yieldR, slotR, *]) hy⟩
              go_simp
            · go_simp
          · intro vs x15 hp hw
            simp only [owed, Fx] at hw
            obtain ⟨e0, e1, e2, e3, e4, e5, e6, e7, e8, e9, e10, e11, e12, e13, e14, e15, e16, e17, e18, e19, e20, e21, e22, e23, e24, -⟩ := hw
            simp only [List.length_cons, List.length_nil, List.take_succ_cons, List.take_nil, List.drop_succ_cons, List.drop_nil, asg, List.cons_append, List.nil_append, e0, e1, e2, e3, e4, e5, e6, e7, e8, e9, e10, e11, e12, e13, e14, e15, e16, e17, e18, e19, e20, e21, e22, e23, e24]
            clear e0 e1 e2 e3 e4 e5 e6 e7 e8 e9 e10 e11 e12 e13 e14 e15 e16 e17 e18 e19 e20 e21 e22 e23 e24
            have hIX := hIW.kept hp
            have hOX := hOW.keep hp
            have hcX : x15.cell? ⟨b, o + k, none⟩ = some (.slice z l.length d) := cell_later hp hcW
            have hcvX : x15.cell? ⟨gv, k, none⟩ = some (.slice (some ⟨g, 0, none⟩) l.length c) := cell_later hp hcvW
            have hgX : g < x15.heap.size := Nat.lt_of_lt_of_le hgW hp.size
            have hbX : b < x15.heap.size := Nat.lt_of_lt_of_le hbW hp.size
            have hgvX : gv < x15.heap.size := Nat.lt_of_lt_of_le hgvW hp.size
            have hbg : b ≠ g := by omega
            have I30 : Inv3 x15 g (l.length + 1) c x15 := by
              have := Inv3.start hOX
              simpa using this
            clear hIW hOW hcW hcvW hzW hbW hgvW hgW hIU h165 hp hOX
            go_wp2_with fail
            go_loopw [10] (fun j wr => ∃ m : Nat, m ≤ l.length + 1 ∧ j = .int .i64 m ∧ Inv3 x15 g (l.length + 1) c wr) (fun j _ => l.length + 1 - (intOf j).toNat)
            case atStart => exact ⟨0, Nat.zero_le _, rfl, I30⟩
            case round =>
              clear I30
              obtain ⟨m, hm, rfl, h3⟩ := hrel
              by_cases hml : m < l.length + 1
              · obtain ⟨bb, hcb⟩ := h3.cell m hml
                have hfz := h3.soft m
                have H4 : Hid (Inv3 x15 g (l.length + 1) c (wr.setCell ⟨g, m, none⟩ (.int .u8 7))) := h3.put m hml
                have hm0 : (0 : Int) ≤ (m : Int) := by omega
                have hm1 : (m : Int) < (l.length : Int) + 1 := by omega
                clear h3
                go_wp2
                go_roundw
                case rel => exact ⟨m + 1, by omega, by go_num, H4.out⟩
                case measure => simp [intOf]; omega
              · obtain rfl : m = l.length + 1 := by omega
                obtain ⟨L, hLl, hL⟩ := h3.part
                have hLm : L.length ≤ maxLen := by unfold maxLen; omega
                have hc3 : wr.cell? ⟨b, o + k, none⟩ = some (.slice z l.length d) := by rw [World.cell?_of_block (h3.grown.block b hbX (by simp; omega))]; exact hcX
                have hcv3 : wr.cell? ⟨gv, k, none⟩ = some (.slice (some ⟨g, 0, none⟩) l.length c) := by rw [World.cell?_of_block (h3.grown.block gv hgvX (by simp; omega))]; exact hcvX
                have hIN := hIX.next hu rfl hXg (by simp [Value.ownBlock]; exact hgg) h3.grown
                clear h3 hIX hcX hcvX hgX hbX hgvX
                go_upto_region 21 with fail
                refine wp_relies [Fx (.slice (some ⟨gv, 0, none⟩) ls.length cv), Fx (.int .i64 (k : Nat)), Fx (.pointer (some ⟨gv, k, none⟩)), Fx (.slice (some ⟨g, 0, none⟩) l.length c), fun v x => ∃ q, v = .slice (some ⟨q, 0, none⟩) 1 1 ∧ x.cell? ⟨q, 0, none⟩ = some (.slice (some ⟨g, 0, none⟩) l.length c), Fx (.int .u32 ((sumL L).toNat : Nat)), Fx (.slice (some ⟨g, 0, none⟩) (l.length + 1) c), Fx (.slice (some ⟨b, o, none⟩) ls.length cp), Fx (.int .i64 (k : Nat)), Fx (.pointer (some ⟨b, o + k, none⟩)), Fx (.slice z l.length d), Fx (.int .i64 (l.length : Nat)), Fx (.slice (some ⟨g, 0, none⟩) l.length c), Fx (.int .u32 ((sumL L).toNat : Nat)), Fx (.bool false)] (by kernel_rfl) (by kernel_rfl) ?_ ?_ ?_
                · repeat' (first | exact all_nil | apply all_cons)
                  all_goals intro v y y' hv hb
                  all_goals first | exact Fx_mono _ _ _ _ hv hb | (obtain ⟨g, h1, h2⟩ := hv; exact ⟨g, h1, cell_later hb h2⟩)
                · refine ⟨?_, ?_, ?_, ?_, ?_, ?_, ?_, ?_, ?_, ?_, ?_, ?_, ?_, ?_, ?_, trivial⟩
                  all_goals
                    intro ρ x hp ρc ρg ρf ho hd
                    have o0 : ρ (.tmp 0) = .slice (some ⟨b, o, none⟩) ls.length cp := ho 0 rfl
                    have o5 : ρ (.tmp 5) = .slice (some ⟨gv, 0, none⟩) ls.length cv := ho 5 rfl
                    have o8 : ρ (.tmp 8) = .int .i64 (k : Nat) := ho 8 rfl
                    have o9 : ρ (.tmp 9) = .slice (some ⟨g, 0, none⟩) (l.length + 1) c := ho 9 rfl
                    clear ho
                    have q1 := cell_later hp hc3
                    have q2 := cell_later hp hcv3
                    have iL := hL.kept hp
                    have hcl2 : l.length ≤ c := by omega
                    simp only [depsR, depR, slotR, Fx, List.getElem?_cons_succ, List.getElem?_cons_zero, Region.binds, forall_const] at hd
                    simp only [guardR]
                    go_split_ands
                  · go_simp
                  · go_simp
                  · go_simp
                  · go_simp
                  · go_simp
                    exact below_alloc _ _
                  · obtain ⟨g1, hg1, hc1⟩ := ‹∃ g, ρ (.tmp 99) = _ ∧ _›
                    go_simp
                    have hz := sum_one (.slice (some ⟨g, 0, none⟩) l.length c) L x ⟨g1, 0, none⟩ 1 hLm hc1 iL
                    refine hz.mono ?_
                    rintro e x' ⟨rfl, rfl⟩
                    exact ⟨_, rfl, rfl, Below.refl _ _⟩
                  · go_simp
                  · go_simp
                  · go_simp
                  · go_simp
                  · go_simp
                  · go_simp
                  · go_simp
                  · go_simp
                    have hz := refSum_any (.slice (some ⟨g, 0, none⟩) l.length c) L x hLm iL
                    refine hz.mono ?_
                    rintro e x' ⟨rfl, rfl⟩
                    exact ⟨_, rfl, rfl, Below.refl _ _⟩
                  · go_simp
                · intro vs x21 hp hw
                  simp only [owed, Fx] at hw
                  obtain ⟨e0, e1, e2, e3, e4, e5, e6, e7, e8, e9, e10, e11, e12, e13, e14, -⟩ := hw
                  simp only [List.length_cons, List.length_nil, List.take_succ_cons, List.take_nil, List.drop_succ_cons, List.drop_nil, asg, List.cons_append, List.nil_append, e0, e1, e2, e3, e5, e6, e7, e8, e9, e10, e11, e12, e13, e14]
                  clear e0 e1 e2 e3 e5 e6 e7 e8 e9 e10 e11 e12 e13 e14 e4
                  have HI : Hid (Inv2 X ls (k + 1) (.slice (some ⟨gv, 0, none⟩) ls.length cv) us x21) := hIN.kept hp
                  clear hIN hp hL hc3 hcv3
                  go_wp2
                  go_roundw
                  case rel => exact ⟨k + 1, by omega, by go_num, HI.out⟩
                  case measure => simp [intOf]; omega
        · obtain rfl : k = ls.length := by omega
          obtain ⟨r1, r2⟩ := keepRow hI.below hszX RS.1 RS.2
          have hBw : Below w.heap.size w wr := hBX.trans (hI.below.mono hBX.size)
          clear hI hPX hl3
          go_wp2_with fail
          refine (seal_any s _).mono ?_
          rintro e w8 ⟨rfl, hw8⟩
          obtain ⟨T, hT⟩ : ∃ T, sealS s = T := ⟨_, rfl⟩
          obtain ⟨Q, hQ⟩ : ∃ Q, secEq (sealS s) s = Q := ⟨_, rfl⟩
          have HTi : Hid (sealS T = T) := by show _ = _; rw [← hT, sealS_idem]
          have hTT : secEq T T = true := (secEq_iff T T).2 fun _ _ => rfl
          have HTs : Hid (secEq (sealS T) T = true) := by show _ = _; rw [HTi.out]; exact hTT
          have hQQ : (Q == Q) = true := by simp
          have HT : Hid (sealS s = T) := hT
          have HQ : Hid (secEq (sealS s) s = Q) := hQ
          rw [hT]
          have RS8 : Row w8 w.heap.size s := Row.kept ⟨r1, r2⟩ hw8
          have RS4 : Row (w8.alloc (.cells (secA T) 33)) w.heap.size s := RS8.kept (below_alloc _ _)
          have RT4 : Row (w8.alloc (.cells (secA T) 33)) w8.heap.size T := Row.new w8 T 33
          have hB8 : Below w.heap.size w (w8.alloc (.cells (secA T) 33)) := by
            have h9 := hBw.trans (hw8.mono hBw.size)
            exact h9.alloc h9.size _
          clear hw8 hBw r1 r2 hT hQ RS8
          go_upto_region 24 with fail
          generalize w8.heap.size = gt at RT4 ⊢
          generalize w8.alloc (.cells (secA T) 33) = W9 at RT4 RS4 hB8 ⊢
          refine wp_relies [Fx (.agg (secA T)), Fx (.agg (secA s)), Fx (.agg (secA T)), Fx (.bool true), Fx (.bool true), Fx (.agg (secA T)), Fx (.bool true), Fx (.bool true), Fx (.bool true), Fx (.agg (secA s)), Fx (.bool Q), Fx (.agg (secA s)), Fx (.bool Q), Fx (.bool true), Fx (.bool true), Fx (.bool true), Fx (.agg (secA secZ)), Fx (.bool false), Fx (.bool true), Fx (.bool true), Fx (.bool true), Fx (.agg (secA T)), Fx (.agg (secA T)), Fx (.agg (secA T)), Fx (.bool true), Fx (.bool true)] (by kernel_rfl) (by kernel_rfl) ?_ ?_ ?_
          · repeat' (first | exact all_nil | apply all_cons)
            all_goals intro v y y' hv hb
            all_goals first | exact Fx_mono _ _ _ _ hv hb
          · refine ⟨?_, ?_, ?_, ?_, ?_, ?_, ?_, ?_, ?_, ?_, ?_, ?_, ?_, ?_, ?_, ?_, ?_, ?_, ?_, ?_, ?_, ?_, ?_, ?_, ?_, ?_, trivial⟩
            all_goals
              intro ρ x hp ρc ρg ρf ho hd
              have o3 : ρ (.tmp 3) = .pointer (some ⟨w.heap.size, 0, none⟩) := ho 3 rfl
              have o11 : ρ (.tmp 11) = .pointer (some ⟨gt, 0, none⟩) := ho 11 rfl
              clear ho
              obtain ⟨r1, q1⟩ := RS4.kept hp
              obtain ⟨r2, q2⟩ := RT4.kept hp
              simp only [depsR, depR, slotR, Fx, List.getElem?_cons_succ, List.getElem?_cons_zero, Region.binds, forall_const] at hd
              simp only [guardR]
              go_split_ands
            · go_simp
            · go_simp
            · go_simp
              refine (refSeal_any s _).mono ?_
              rintro e x' ⟨rfl, hb⟩
              exact ⟨_, rfl, by rw [HT.out]; rfl, hb⟩
            · have hq := hTT
              go_simp
            · go_simp
            · refine ⟨fun _ => ?_, fun hy => absurd (by simp [yieldR, slotR, *]) hy⟩
              go_simp
            · refine ⟨fun _ => ?_, fun hy => absurd (by simp [yieldR, slotR, *]) hy⟩
              go_simp
              refine (sealed_any T _).mono ?_
              rintro e x' ⟨rfl, hb⟩
              exact ⟨_, rfl, by rw [HTs.out]; rfl, hb⟩
            · go_simp
            · go_simp
            · refine ⟨fun _ => ?_, fun hy => absurd (by simp [yieldR, slotR, *]) hy⟩
              go_simp
            · refine ⟨fun _ => ?_, fun hy => absurd (by simp [yieldR, slotR, *]) hy⟩
              go_simp
              refine (sealed_any s _).mono ?_
              rintro e x' ⟨rfl, hb⟩
              exact ⟨_, rfl, by rw [HQ.out]; rfl, hb⟩
            · refine ⟨fun _ => ?_, fun hy => absurd (by simp [yieldR, slotR, *]) hy⟩
              go_simp
            · refine ⟨fun _ => ?_, fun hy => absurd (by simp [yieldR, slotR, *]) hy⟩
              go_simp
              refine (refSealed_any s _).mono ?_
              rintro e x' ⟨rfl, hb⟩
              exact ⟨_, rfl, by rw [HQ.out]; rfl, hb⟩
            · refine ⟨fun _ => ?_, fun hy => absurd (by simp [yieldR, slotR, *]) hy⟩
              have hq := hQQ
              go_simp
            · go_simp
            · go_simp
            · refine ⟨fun _ => ?_, fun hy => absurd (by simp [yieldR, slotR, *]) hy⟩
              go_simp
            · refine ⟨fun _ => ?_, fun hy => absurd (by simp [yieldR, slotR, *]) hy⟩
              go_simp
              refine (sealed_any secZ _).mono ?_
              rintro e x' ⟨rfl, hb⟩
              exact ⟨_, rfl, by rw [zero_unsealed]; rfl, hb⟩
            · refine ⟨fun _ => ?_, fun hy => absurd (by simp [yieldR, slotR, *]) hy⟩
              go_simp
            · go_simp
            · go_simp
            · refine ⟨fun _ => ?_, fun hy => absurd (by simp [yieldR, slotR, *]) hy⟩
              go_simp
            · refine ⟨fun _ => ?_, fun hy => absurd (by simp [yieldR, slotR, *]) hy⟩
              go_simp
              refine (seal_any T _).mono ?_
              rintro e x' ⟨rfl, hb⟩
              exact ⟨_, rfl, by rw [HTi.out]; rfl, hb⟩
            · refine ⟨fun _ => ?_, fun hy => absurd (by simp [yieldR, slotR, *]) hy⟩
              go_simp
            · refine ⟨fun _ => ?_, fun hy => absurd (by simp [yieldR, slotR, *]) hy⟩
              have hq := hTT
              go_simp
            · go_simp
          · intro vs x24 hp hw
            simp only [owed, Fx] at hw
            obtain ⟨e0, e1, e2, e3, e4, e5, e6, e7, e8, e9, e10, e11, e12, e13, e14, e15, e16, e17, e18, e19, e20, e21, e22, e23, e24, e25, -⟩ := hw
            simp only [List.length_cons, List.length_nil, List.take_succ_cons, List.take_zero, List.drop_succ_cons, List.drop_zero, asg, List.cons_append, List.nil_append, e0, e1, e2, e3, e4, e5, e6, e7, e8, e9, e10, e11, e12, e13, e14, e15, e16, e17, e18, e19, e20, e21, e22, e23, e24, e25]
            clear e0 e1 e2 e3 e4 e5 e6 e7 e8 e9 e10 e11 e12 e13 e14 e15 e16 e17 e18 e19 e20 e21 e22 e23 e24 e25
            go_wp2
            go_ret
            exact ⟨rfl, hB8.trans (hp.mono hB8.size)⟩
end Go.Proofs.Ytmdhgadmfcmecaa
