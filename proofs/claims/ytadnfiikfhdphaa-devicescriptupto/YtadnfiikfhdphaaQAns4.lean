import Derived.Test.YtadnfiikfhdphaaQGdj
import Derived.Test.YtadnfiikfhdphaaQGenC
namespace Go.Proofs.Ytadnfiikfhdphaa
open Go.RowKit

/-! assaylaw05's answered, Kind 4 -/
set_option linter.unusedSimpArgs false in
set_option linter.unusedVariables false in
set_option maxRecDepth 100000 in
set_option maxHeartbeats 8000000 in
theorem answered_4 {W : World} {B : Nat} {T : Nat → Option Th} {ps : List Pr5} {b : Bk} {k n : Nat} {da : Addr} {r : Nat} {st : DSt} (on a : Int) (v : UInt8) (y : Option Addr) (nb c : Nat) (bs : List Bool) (h : G5 W B T ps b (bkA b)) (hp : ps[k]? = some ⟨.pointer (some da), r, st, st⟩) (hL : Lim n st) (hn : n ≤ 4194304) (hb : BkOk n b) (ha0 : -9223372036854775808 ≤ a) (ha1 : a ≤ 9223372036854775807)
    (hbl : bs.length = nb) (hbn : nb ≤ 4194304) (hbc : nb ≤ c) (hbs : IsG W (.slice y nb c) (bs.map Value.bool)) (hby : bs ≠ [] → ∀ x, y = some x → x.block < B) :
    Calls Try.prog 9 #[.pointer (some da), .pointer (some ⟨r, 0, none⟩), .agg #[.int .i64 4, .int .i64 on, .int .i64 a, .int .u8 (v.toNat : Int), .slice y nb c], .pointer (some ⟨b.g, 0, none⟩)] W fun e w' => AnsPost W B T ps b k ⟨.pointer (some da), r, st, st⟩ n e w' := by
  have hA := h.box #[.int .i64 4, .int .i64 on, .int .i64 a, .int .u8 (v.toNat : Int), .slice y nb c] 46
  have hR := RowC.new W #[.int .i64 4, .int .i64 on, .int .i64 a, .int .u8 (v.toNat : Int), .slice y nb c] 46
  have hB0 := below_alloc W (.cells #[.int .i64 4, .int .i64 on, .int .i64 a, .int .u8 (v.toNat : Int), .slice y nb c] 46)
  have c0 : (W.alloc (.cells #[.int .i64 4, .int .i64 on, .int .i64 a, .int .u8 (v.toNat : Int), .slice y nb c] 46)).cell? ⟨W.heap.size, 0, none⟩ = some (.int .i64 4) := by rw [hR.cell 0]; rfl
  have c2 : (W.alloc (.cells #[.int .i64 4, .int .i64 on, .int .i64 a, .int .u8 (v.toNat : Int), .slice y nb c] 46)).cell? ⟨W.heap.size, 2, none⟩ = some (.int .i64 a) := by rw [hR.cell 2]; rfl
  have c3 : (W.alloc (.cells #[.int .i64 4, .int .i64 on, .int .i64 a, .int .u8 (v.toNat : Int), .slice y nb c] 46)).cell? ⟨W.heap.size, 3, none⟩ = some (.int .u8 (v.toNat : Int)) := by rw [hR.cell 3]; rfl
  have c4 : (W.alloc (.cells #[.int .i64 4, .int .i64 on, .int .i64 a, .int .u8 (v.toNat : Int), .slice y nb c] 46)).cell? ⟨W.heap.size, 4, none⟩ = some (.slice y nb c) := by rw [hR.cell 4]; rfl
  have hszB : B ≤ W.heap.size := h.ga.size
  have hLm : Lim 1099511627776 st := hL.le (by omega)
  have HB0 : Hid (Below B W (W.alloc (.cells #[.int .i64 4, .int .i64 on, .int .i64 a, .int .u8 (v.toNat : Int), .slice y nb c] 46))) := hB0.mono hszB
  clear hR
  go_enter Try.func9, Try.ntmps9
  go_upto_region 14 with fail
  obtain ⟨gk, hgk⟩ : ∃ g, b.g = g := ⟨_, rfl⟩
  rw [hgk] at hA
  simp only [hgk]
  obtain ⟨gb, hgb⟩ : ∃ g, W.heap.size = g := ⟨_, rfl⟩
  rw [hgb] at c0 c2 c3 c4 hA
  simp only [hgb]
  obtain ⟨Tb, hTb⟩ : ∃ t, updT T 64 (thRow gb #[.int .i64 4, .int .i64 on, .int .i64 a, .int .u8 (v.toNat : Int), .slice y nb c]) = t := ⟨_, rfl⟩
  rw [hTb] at hA
  generalize W.alloc (.cells #[.int .i64 4, .int .i64 on, .int .i64 a, .int .u8 (v.toNat : Int), .slice y nb c] 46) = X at hA hB0 HB0 c0 c2 c3 c4 ⊢
  have Hb : Hid _ := hb
  have HLm : Hid (Lim 1099511627776 st) := hLm
  have hHi : st.last.length ≤ 1024 := by
    obtain ⟨F, R, hd⟩ := h.isDev hp
    exact (devOk.ok hd).hi
  have hcS := hb.cS
  have hcP := hb.cP
  have heS : b.sS.length = b.sW.length := by have := congrArg List.length hb.eS; simpa using this
  have heP : b.sP.length = b.sV.length := by have := congrArg List.length hb.eP; simpa using this
  have hbX : IsG X (.slice y nb c) (bs.map Value.bool) := isG_belowB hbs HB0.out hszB (fun h9 => hby (fun e9 => h9 (by rw [e9]; rfl)))
  obtain ⟨vg, Y, hrl, hOl, hbl9⟩ := run_copyG boolEltD X X.heap.size (.slice none 0 0) y nb c (bs.map Value.bool) 44 (OwnG.nil _ _ _) (Nat.le_refl _) (by simp [hbl]) hbX (fun u hu => by obtain ⟨q, -, rfl⟩ := List.mem_map.1 hu; rfl) (by omega) (by unfold maxLen; omega)
  obtain ⟨xg, cg, hvg⟩ := (OwnG.isG hOl).len
  rw [List.length_map, hbl] at hvg
  subst hvg
  have hOB : OwnG 4 Y B (.slice xg nb cg) (bs.map Value.bool) := OwnG.le hOl hA.size
  obtain ⟨hown, hcg⟩ := OwnG.own hOB (by simp [hbl])
  have hS9 := hA.side (thG 4 B (.slice xg nb cg) (bs.map Value.bool)) hbl9 ⟨_, _, ⟨hOB, rfl, rfl⟩, fun q hq => (OwnG.lt hOl q (by simpa using hq)).1, fun q hq => (OwnG.lt hOl q (by simpa using hq)).1⟩
  have HB9 : Hid (Below B W Y) := HB0.out.trans (hbl9.mono hA.size)
  have d4 := cell_later hbl9 c4
  obtain ⟨Tc, hTc⟩ : ∃ t, updT Tb 72 (thG 4 B (.slice xg nb cg) (bs.map Value.bool)) = t := ⟨_, rfl⟩
  have h72 : Tc 72 = some (thG 4 B (.slice xg nb cg) (bs.map Value.bool)) := by rw [← hTc]; exact updT_same _ _ _
  rw [hTc] at hS9
  clear h hb hB0 c0 c2 c3 hOl hA
  go_upto_region 16 with (at_builtin; refine wpL_appG 44 rfl _ _ rfl _ Y (by exact hrl) ?_)
  clear hrl hbl9 c4 hbX
  go_wp2_with fail
  go_at_call 22
  refine (hS9.restartD hp xg nb cg bs hLm hbl hcg (OwnG.isG hOB) h72 hown).mono ?_
  rintro e w1 ⟨rfl, h1, k1⟩
  have f4 := k1.cell d4 (by simp)
  have hB1 : Below B W w1 := HB9.out.trans (k1.below hS9.size)
  clear hS9 hOB d4
  go_wp2_with fail
  go_at_call 31
  refine (h1.restartR (set_getk hp) y nb c bs hLm hbl hbc (isG_belowB hbs hB1 hszB (fun h9 => hby (fun e9 => h9 (by rw [e9]; rfl)))) hby).mono ?_
  rintro e w2 ⟨rfl, h2, k2⟩
  rw [set_set] at h2
  have e4 := k2.cell f4 (by simp)
  have hB2 : Below B W w2 := hB1.trans (k2.below h1.size)
  have hG2 : OwnG 4 w2 B (.slice xg nb cg) (bs.map Value.bool) := by
    subst hTc
    obtain ⟨F9, R9, h9, -⟩ := h2.get72
    exact h9
  have hL2 := isG_belowB hbs hB2 hszB (fun h9 => hby (fun e9 => h9 (by rw [e9]; rfl)))
  have HF : Hid (∀ x1, Below w2.heap.size w2 x1 → AnsPost W B T ps b k ⟨.pointer (some da), r, st, st⟩ n (.returned (.bool true)) x1) := fun x1 hx => by
    subst hTc hTb
    exact (h2.later hx).finS rfl rfl (hL.restart bs) Hb.out.up (hB2.trans (hx.mono h2.size))
  clear h1 h2 k1 k2 f4 hB1 hB2 HB9 hbs
  go_wp2
  go_loopw [14] (fun iv wr => ∃ i : Nat, i ≤ nb ∧ iv = .int .i64 i ∧ Below w2.heap.size w2 wr) (fun iv _ => nb - (intOf iv).toNat)
  case atStart => exact ⟨0, by omega, rfl, Below.refl _ _⟩
  case round =>
    obtain ⟨i, hi, rfl, hbw⟩ := hrel
    by_cases hlt : i < nb
    · have hlt' : (i : Int) < (nb : Int) := by omega
      have FK : Hid ((i : Int) < (nb : Int)) := hlt'
      obtain ⟨bi, hbi⟩ : ∃ q, bs[i]? = some q := ⟨bs[i]'(by omega), List.getElem?_eq_getElem (by omega)⟩
      obtain ⟨bb, bo, hxb, hbb, hbc9⟩ := hL2.spot i (by rw [List.length_map]; omega)
      have hbk0 := hbc9 i (.bool bi) (by rw [List.getElem?_map, hbi]; rfl)
      obtain ⟨gg, hxg⟩ : ∃ gg, xg = some ⟨gg, 0, none⟩ := by
        obtain ⟨gg, c8, eg, -⟩ := OwnG.form hG2 (List.ne_nil_of_length_pos (by rw [List.length_map]; omega))
        exact ⟨gg, (Value.slice.inj eg).1⟩
      subst hxg
      have hgc0 := hG2.cell i (.bool bi) (by rw [List.getElem?_map, hbi]; rfl)
      have hgc := cell_later hbw hgc0
      have hbk := cell_later hbw hbk0
      have e4w := cell_later hbw e4
      subst hxb
      have HBW : Hid _ := hbw
      clear hbw hgc0 hbk0 hbc9
      clear e4
      have e4 := e4w
      clear e4w
      go_upto_region 21 with fail
      clear hlt'
      refine wp_relies [Fx (.slice (some ⟨gg, 0, none⟩) nb cg), Fx (.int .i64 ((i : Int))), Fx (.pointer (some ⟨gg, i, none⟩)), Fx (.bool bi), Fx (.pointer (some ⟨gb, 4, none⟩)), Fx (.slice (some ⟨bb, bo, none⟩) nb c), Fx (.int .i64 ((i : Int))), Fx (.pointer (some ⟨bb, bo + i, none⟩)), Fx (.bool bi), Fx (.bool false)] (by kernel_rfl) (by kernel_rfl) ?_ ?_ ?_
      · repeat' (first | exact all_nil | apply all_cons)
        all_goals intro v y y' hv hb
        all_goals first | exact Fx_mono _ _ _ _ hv hb
      · refine ⟨?_, ?_, ?_, ?_, ?_, ?_, ?_, ?_, ?_, ?_, trivial⟩
        all_goals
          intro ρ x hp ρc ρg ρf ho hd
          have o13 : ρ (.tmp 13) = .slice (some ⟨gg, 0, none⟩) nb cg := ho 13 rfl
          have o14 : ρ (.tmp 14) = .int .i64 ((i : Int)) := ho 14 rfl
          have o6 : ρ (.tmp 6) = .pointer (some ⟨gb, 0, none⟩) := ho 6 rfl
          clear ho
          have q1 := cell_later hp hgc
          have q2 := cell_later hp hbk
          have q4 := cell_later hp e4
          simp only [depsR, depR, slotR, Fx, List.getElem?_cons_succ, List.getElem?_cons_zero, Region.binds, forall_const] at hd
          simp only [guardR]
          go_split_ands
        · go_simp
        · go_simp
        · have hq := FK.out
          go_simp
        · go_simp
        · go_simp
        · go_simp
        · go_simp
        · have hq := FK.out
          go_simp
        · go_simp
        · go_simp
      · intro vs x1 hp hw
        simp only [owed, Fx] at hw
        obtain ⟨e0, e1, e2, e3, e4, e5, e6, e7, e8, e9, -⟩ := hw
        simp only [List.length_cons, List.length_nil, List.take_succ_cons, List.take_nil, List.drop_succ_cons, List.drop_nil, asg, List.cons_append, List.nil_append, e0, e1, e2, e3, e4, e5, e6, e7, e8, e9]
        clear e0 e1 e2 e3 e4 e5 e6 e7 e8 e9
        have HB3 : Hid (Below w2.heap.size w2 x1) := HBW.out.trans (hp.mono (Below.size HBW.out))
        clear hp hgc hbk
        go_wp2
        go_roundw
        case rel => exact ⟨i + 1, by omega, by go_num, HB3.out⟩
        case measure => simp [intOf]; omega
    · obtain rfl : i = nb := by omega
      have HFW := HF.out wr hbw
      clear hbw
      go_wp2
      go_ret
      exact HFW
end Go.Proofs.Ytadnfiikfhdphaa
