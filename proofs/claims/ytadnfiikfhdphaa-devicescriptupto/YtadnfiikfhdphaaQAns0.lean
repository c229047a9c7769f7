import Derived.Test.YtadnfiikfhdphaaQGdj
namespace Go.Proofs.Ytadnfiikfhdphaa
open Go.RowKit

/-! assaylaw05's answered, Kind 0 -/
set_option linter.unusedSimpArgs false in
set_option linter.unusedVariables false in
set_option maxRecDepth 100000 in
set_option maxHeartbeats 8000000 in
theorem answered_0 {W : World} {B : Nat} {T : Nat → Option Th} {ps : List Pr5} {b : Bk} {k n : Nat} {da : Addr} {r : Nat} {st : DSt} (on a : Int) (v : UInt8) (y : Option Addr) (nb c : Nat) (bs : List Bool) (h : G5 W B T ps b (bkA b)) (hp : ps[k]? = some ⟨.pointer (some da), r, st, st⟩) (hL : Lim n st) (hn : n ≤ 4194304) (hb : BkOk n b) (ha0 : -9223372036854775808 ≤ a) (ha1 : a ≤ 9223372036854775807)
    (hbl : bs.length = nb) (hbn : nb ≤ 4194304) (hbc : nb ≤ c) (hbs : IsG W (.slice y nb c) (bs.map Value.bool)) (hby : bs ≠ [] → ∀ x, y = some x → x.block < B) :
    Calls Try.prog 9 #[.pointer (some da), .pointer (some ⟨r, 0, none⟩), .agg #[.int .i64 0, .int .i64 on, .int .i64 a, .int .u8 (v.toNat : Int), .slice y nb c], .pointer (some ⟨b.g, 0, none⟩)] W fun e w' => AnsPost W B T ps b k ⟨.pointer (some da), r, st, st⟩ n e w' := by
  have hA := h.box #[.int .i64 0, .int .i64 on, .int .i64 a, .int .u8 (v.toNat : Int), .slice y nb c] 46
  have hR := RowC.new W #[.int .i64 0, .int .i64 on, .int .i64 a, .int .u8 (v.toNat : Int), .slice y nb c] 46
  have hB0 := below_alloc W (.cells #[.int .i64 0, .int .i64 on, .int .i64 a, .int .u8 (v.toNat : Int), .slice y nb c] 46)
  have c0 : (W.alloc (.cells #[.int .i64 0, .int .i64 on, .int .i64 a, .int .u8 (v.toNat : Int), .slice y nb c] 46)).cell? ⟨W.heap.size, 0, none⟩ = some (.int .i64 0) := by rw [hR.cell 0]; rfl
  have c2 : (W.alloc (.cells #[.int .i64 0, .int .i64 on, .int .i64 a, .int .u8 (v.toNat : Int), .slice y nb c] 46)).cell? ⟨W.heap.size, 2, none⟩ = some (.int .i64 a) := by rw [hR.cell 2]; rfl
  have c3 : (W.alloc (.cells #[.int .i64 0, .int .i64 on, .int .i64 a, .int .u8 (v.toNat : Int), .slice y nb c] 46)).cell? ⟨W.heap.size, 3, none⟩ = some (.int .u8 (v.toNat : Int)) := by rw [hR.cell 3]; rfl
  have c4 : (W.alloc (.cells #[.int .i64 0, .int .i64 on, .int .i64 a, .int .u8 (v.toNat : Int), .slice y nb c] 46)).cell? ⟨W.heap.size, 4, none⟩ = some (.slice y nb c) := by rw [hR.cell 4]; rfl
  have hszB : B ≤ W.heap.size := h.ga.size
  have hLm : Lim 1099511627776 st := hL.le (by omega)
  have HB0 : Hid (Below B W (W.alloc (.cells #[.int .i64 0, .int .i64 on, .int .i64 a, .int .u8 (v.toNat : Int), .slice y nb c] 46))) := hB0.mono hszB
  clear hR
  go_enter Try.func9, Try.ntmps9
  go_upto_region 3 with fail
  obtain ⟨gk, hgk⟩ : ∃ g, b.g = g := ⟨_, rfl⟩
  rw [hgk] at hA
  simp only [hgk]
  obtain ⟨gb, hgb⟩ : ∃ g, W.heap.size = g := ⟨_, rfl⟩
  rw [hgb] at c0 c2 c3 c4 hA
  simp only [hgb]
  obtain ⟨Tb, hTb⟩ : ∃ t, updT T 64 (thRow gb #[.int .i64 0, .int .i64 on, .int .i64 a, .int .u8 (v.toNat : Int), .slice y nb c]) = t := ⟨_, rfl⟩
  rw [hTb] at hA
  generalize W.alloc (.cells #[.int .i64 0, .int .i64 on, .int .i64 a, .int .u8 (v.toNat : Int), .slice y nb c] 46) = X at hA hB0 HB0 c0 c2 c3 c4 ⊢
  have HA : Hid _ := hA
  have Hp : Hid _ := hp
  have HL : Hid _ := hLm
  have Hb : Hid _ := hb
  clear hA hp h hb hbs c0 c4
  refine wp_reliesI (kokA (B := B) (A := [gb, gk])) (fun vs w => match vs.length with | 0 => At5 B [gb, gk] Tb ps b (bkA b) w | 1 => At5 B [gb, gk] Tb (ps.set k ⟨.pointer (some da), r, wrSt st a (sectorD v), st⟩) b (bkA b) w | _ => At5 B [gb, gk] Tb (ps.set k ⟨.pointer (some da), r, wrSt st a (sectorD v), wrSt st a (sectorD v)⟩) b (bkA b) w) [6, 13] [none, none, none, none, none, none, some (0, [], []), none, none, none, none, none, none, some (1, [12], []), none] [Fx (.pointer (some da)), Fx (.pointer (some ⟨gb, 2, none⟩)), Fx (.int .i64 (a)), Fx (.pointer (some ⟨gb, 3, none⟩)), Fx (.int .u8 (v.toNat : Int)), Fx (.agg (secA (sectorD v))), Fx (.int .i64 (wrRes st a)), Fx (.pointer (some ⟨r, 0, none⟩)), Fx (.pointer (some ⟨gb, 2, none⟩)), Fx (.int .i64 (a)), Fx (.pointer (some ⟨gb, 3, none⟩)), Fx (.int .u8 (v.toNat : Int)), Fx (.agg (secA (sectorD v))), Fx (.int .i64 (wrRes st a)), Fx (.bool true)] rfl (by decide) rfl (by kernel_rfl) (by kernel_rfl) (by kernel_rfl) (by exact HA.out) (fun vs w w' h9 hb9 => by revert h9; rcases vs with _ | ⟨_, _ | ⟨_, _⟩⟩ <;> exact fun h9 => At5.later h9 hb9) ?_ ?_ ?_ ?_
  · repeat' (first | exact all_nil | apply all_cons)
    all_goals intro v y y' hv hb
    all_goals first | exact Fx_mono _ _ _ _ hv hb
  · intro i9 f9 hf9 hl9 v y y' hv hb
    rcases i9 with _ | i9
    · first | (cases hl9; done) | (cases hf9; first | exact hv | exact hv)
    rcases i9 with _ | i9
    · first | (cases hl9; done) | (cases hf9; first | exact hv | exact hv)
    rcases i9 with _ | i9
    · first | (cases hl9; done) | (cases hf9; first | exact hv | exact hv)
    rcases i9 with _ | i9
    · first | (cases hl9; done) | (cases hf9; first | exact hv | exact hv)
    rcases i9 with _ | i9
    · first | (cases hl9; done) | (cases hf9; first | exact hv | exact hv)
    rcases i9 with _ | i9
    · first | (cases hl9; done) | (cases hf9; first | exact hv | exact hv)
    rcases i9 with _ | i9
    · first | (cases hl9; done) | (cases hf9; first | exact hv | exact hv)
    rcases i9 with _ | i9
    · first | (cases hl9; done) | (cases hf9; first | exact hv | exact hv)
    rcases i9 with _ | i9
    · first | (cases hl9; done) | (cases hf9; first | exact hv | exact hv)
    rcases i9 with _ | i9
    · first | (cases hl9; done) | (cases hf9; first | exact hv | exact hv)
    rcases i9 with _ | i9
    · first | (cases hl9; done) | (cases hf9; first | exact hv | exact hv)
    rcases i9 with _ | i9
    · first | (cases hl9; done) | (cases hf9; first | exact hv | exact hv)
    rcases i9 with _ | i9
    · first | (cases hl9; done) | (cases hf9; first | exact hv | exact hv)
    rcases i9 with _ | i9
    · first | (cases hl9; done) | (cases hf9; first | exact hv | exact hv)
    rcases i9 with _ | i9
    · first | (cases hl9; done) | (cases hf9; first | exact hv | exact hv)
    · simp at hf9
  · refine ⟨?_, ?_, ?_, ?_, ?_, ?_, ?_, ?_, ?_, ?_, ?_, ?_, ?_, ?_, ?_, trivial⟩
    all_goals
      intro ρ x hk hat ρc ρg ρf ho hd
      have o0 : ρ (.tmp 0) = .pointer (some da) := ho 0 rfl
      have o1 : ρ (.tmp 1) = .pointer (some ⟨r, 0, none⟩) := ho 1 rfl
      have o6 : ρ (.tmp 6) = .pointer (some ⟨gb, 0, none⟩) := ho 6 rfl
      clear ho
      have k2 := hk.cell c2 (by simp)
      have k3 := hk.cell c3 (by simp)
      simp only [depsR, depR, slotR, Fx, List.getElem?_cons_succ, List.getElem?_cons_zero, Region.binds, forall_const] at hd
      simp only [guardR, List.contains_cons, List.contains_nil, List.elem_cons, List.elem_nil, Nat.reduceBEq, Bool.or_false, Bool.false_or, Bool.or_true, Bool.true_or, cond_true, cond_false]
      go_split_ands
    · go_simp
    · go_simp
    · go_simp
    · go_simp
    · go_simp
    · go_simp
      refine (sector_any v x).mono ?_
      rintro e x' ⟨rfl, hb9⟩
      exact ⟨_, rfl, rfl, hb9⟩
    · go_simp
      have hat0 : At5 B [gb, gk] Tb ps b (bkA b) x := hat
      refine (hat0.writeD (Hid.out Hp) a (sectorD v) HL.out ha0 ha1).mono ?_
      rintro e x' ⟨rfl, h9, k9⟩
      exact ⟨_, rfl, ⟨rfl, h9⟩, k9⟩
    · go_simp
    · go_simp
    · go_simp
    · go_simp
    · go_simp
    · go_simp
      refine (sector_any v x).mono ?_
      rintro e x' ⟨rfl, hb9⟩
      exact ⟨_, rfl, rfl, hb9⟩
    · go_simp
      have hat0 : At5 B [gb, gk] Tb (ps.set k ⟨.pointer (some da), r, wrSt st a (sectorD v), st⟩) b (bkA b) x := hat
      refine (hat0.writeR (set_getk (Hid.out Hp)) a (sectorD v) HL.out ha0 ha1).mono ?_
      rintro e x' ⟨rfl, h9, k9⟩
      rw [set_set] at h9
      exact ⟨_, rfl, ⟨rfl, h9⟩, k9⟩
    · go_simp
  · intro vs x1 hk hw hI
    simp only [owed, Fx] at hw
    obtain ⟨e0, e1, e2, e3, e4, e5, e6, e7, e8, e9, e10, e11, e12, e13, e14, -⟩ := hw
    simp only [List.length_cons, List.length_nil, List.take_succ_cons, List.take_zero, List.drop_succ_cons, List.drop_zero, asg, List.cons_append, List.nil_append, e0, e1, e2, e3, e4, e5, e6, e7, e8, e9, e10, e11, e12, e13, e14]
    clear e0 e1 e2 e3 e4 e5 e6 e7 e8 e9 e10 e11 e12 e13 e14
    have hI2 : At5 B [gb, gk] Tb (ps.set k ⟨.pointer (some da), r, wrSt st a (sectorD v), wrSt st a (sectorD v)⟩) b (bkA b) x1 := hI
    have HF : Hid (AnsPost W B T ps b k ⟨.pointer (some da), r, st, st⟩ n (.returned (.bool true)) x1) := by
      subst hTb
      exact hI2.fin rfl rfl (hL.write a _) Hb.out.up (HB0.out.trans (hk.below (At5.size HA.out)))
    clear hI hI2 hk
    go_wp2
    go_ret
    exact HF.out
end Go.Proofs.Ytadnfiikfhdphaa
