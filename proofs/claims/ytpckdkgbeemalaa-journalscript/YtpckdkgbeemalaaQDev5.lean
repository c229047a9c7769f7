import Derived.Test.YtpckdkgbeemalaaQDst
import Derived.Test.YtpckdkgbeemalaaQGenA
import Derived.Deep.RegionHeld3
namespace Go.Proofs.Ytpckdkgbeemalaa
open Go.RowKit

/-! The document's device: Flush, Sectors, Restart, Stop -/
theorem secStore_mid {w : World} {B g n c : Nat} {ms : List Sc} (h : OwnK secE w B (.slice (some ⟨g, 0, none⟩) n c) ms) (K : Nat) (d : Sc) (hK : K < n) : (secStore (.pointer (some ⟨g, K * 64, none⟩)) (.agg (secA d))).run Try.prog w = .ok .skip (w.setCells g (K * 64) (secA d).toList) := by
  have hs := h.store secE_ok K d hK
  rw [secE_arr, secE_k, secE_enc] at hs
  have hT : secE.T = 44 := rfl
  rw [hT] at hs
  simp only [secStore, Sem.run_bind, hs]
  rfl
theorem secPut {w : World} {B g n c : Nat} {ms : List Sc} (h : OwnK secE w B (.slice (some ⟨g, 0, none⟩) n c) ms) (K : Nat) (d : Sc) (hK : K < n) : OwnK secE (w.setCells g (K * 64) (secA d).toList) B (.slice (some ⟨g, 0, none⟩) n c) (ms.set K d) := by
  have := h.put secE_ok K d hK
  rwa [secE_k, secE_enc] at this
theorem Below.grown {w w' : World} (h : Below w.heap.size w w') (row : Option Nat) : w.grownBy w' row := ⟨h.os, h.tape, h.output, h.size, fun k hk _ => h.block k hk⟩
theorem wrCells {w : World} {B g n c : Nat} {ms : List Wr} (h : OwnK wrE w B (.slice (some ⟨g, 0, none⟩) n c) ms) (i : Nat) (x : Wr) (hi : ms[i]? = some x) : w.cell? ⟨g, i * 65, none⟩ = some (.int .i64 x.1) ∧ rgOk w g (i * 65 + 1) 64 = true ∧ rg w g (i * 65 + 1) 64 = secA x.2 := by
  have hr := h.range wrE_ok i x hi
  rw [wrE_k, wrE_enc, wrA_list] at hr
  have h0 := hr 0 _ rfl
  rw [Nat.add_zero] at h0
  have h1 : w.rangeAt g (i * 65 + 1) (secA x.2).toList := fun j u hu => by
    have := hr (j + 1) u (by rw [List.getElem?_cons_succ]; exact hu)
    rwa [show i * 65 + (j + 1) = i * 65 + 1 + j by omega] at this
  have h2 := rg_of h1 (by simp : (secA x.2).toList.length = 64)
  rw [toA] at h2
  exact ⟨h0, h2⟩
theorem pend_at {st : DSt} (h : StOk st) {i : Nat} {x : Wr} (hx : st.pend[i]? = some x) : ∃ a : Nat, x.1 = (a : Int) ∧ a < st.last.length := by
  have := h.at_ x (List.mem_of_getElem? hx)
  exact ⟨x.1.toNat, by omega, by omega⟩
theorem over_step {l : List Sc} {p : List Wr} {i : Nat} {x : Wr} {a : Nat} (hx : p[i]? = some x) (ha : x.1 = (a : Int)) : over l (p.take (i + 1)) = (over l (p.take i)).set a x.2 := by
  rw [List.take_add_one, hx]
  show over l (p.take i ++ [x]) = _
  rw [over_snoc, ha]; rfl
/-- A device of the document's, and the blocks in which it lies. -/
def RefIs (w : World) (B r : Nat) (st : DSt) (F : List Nat) : Prop := ∃ vl vp, RefRow w r vl vp st ∧ OwnK secE w B vl st.last ∧ OwnK wrE w B vp st.pend ∧ r ∈ F ∧ (∀ q, vl.ownBlock = some q → q ∈ F ∧ q ≠ r ∧ vp.ownBlock ≠ some q) ∧ (∀ q, vp.ownBlock = some q → q ∈ F ∧ q ≠ r) ∧ (∀ q ∈ F, B ≤ q ∧ q < w.heap.size) ∧ StOk st
theorem RefIs.keeps {w w' : World} {B r : Nat} {st : DSt} {F G : List Nat} (h : RefIs w B r st F) (hK : Keep G w w') (hd : ∀ q ∈ F, q ∉ G) : RefIs w' B r st F := by
  obtain ⟨vl, vp, h1, h2, h3, h4, h5, h6, h7, h8⟩ := h
  exact ⟨vl, vp, h1.kept (hK.block r h1.lt (hd r h4)), h2.keeps hK (fun q hq => hd q (h5 q hq).1), h3.keeps hK (fun q hq => hd q (h6 q hq).1), h4, h5, h6, fun q hq => ⟨(h7 q hq).1, Nat.lt_of_lt_of_le (h7 q hq).2 hK.size⟩, h8⟩
theorem RefIs.later {w w' : World} {B r : Nat} {st : DSt} {F : List Nat} (h : RefIs w B r st F) (hb : Below w.heap.size w w') : RefIs w' B r st F := h.keeps (G := []) (Keep.of_below hb) (fun _ _ => by simp)
theorem RefIs.lt {w : World} {B r : Nat} {st : DSt} {F : List Nat} (h : RefIs w B r st F) : ∀ q ∈ F, B ≤ q ∧ q < w.heap.size := by
  obtain ⟨vl, vp, h1, h2, h3, h4, h5, h6, h7, h8⟩ := h
  exact h7
theorem RefIs.ok {w : World} {B r : Nat} {st : DSt} {F : List Nat} (h : RefIs w B r st F) : StOk st := by
  obtain ⟨vl, vp, h1, h2, h3, h4, h5, h6, h7, h8⟩ := h
  exact h8
set_option linter.unusedSimpArgs false in
theorem refStop_any (w : World) (B r : Nat) (st : DSt) (F : List Nat) (k : Int) (h : RefIs w B r st F) (hk : -9223372036854775808 ≤ k ∧ k ≤ 9223372036854775807) :
    Calls Try.prog 46 #[.pointer (some ⟨r, 0, none⟩), .int .i64 k] w fun e w' => e = .returned (.tuple #[]) ∧ RefIs w' B r (stSt st k) F ∧ Keep F w w' := by
  obtain ⟨vl, vp, h1, h2, h3, h4, h5, h6, h7, h8⟩ := h
  obtain ⟨-, -, c2, -⟩ := h1.cells
  have f2 := h1.frozen 2
  have hR1 : RefRow (w.setCell ⟨r, 2, none⟩ (.int .i64 k)) r vl vp { st with left := k } := h1.set 2 _ rfl
  have fin : ∀ (w' : World) (l : Int), RefRow w' r vl vp { st with left := l } → w.grownBy w' (some r) → -1 ≤ l → l ≤ 9223372036854775807 → RefIs w' B r { st with left := l } F ∧ Keep F w w' := fun w' l hr hg a1 a2 => by
    have hK : Keep [r] w w' := Keep.of_grown hg (fun q hq => by cases hq; simp)
    refine ⟨⟨vl, vp, hr, h2.keeps hK (fun q hq => by simpa using (h5 q hq).2.1), h3.keeps hK (fun q hq => by simpa using (h6 q hq).2), h4, h5, h6, fun q hq => ⟨(h7 q hq).1, Nat.lt_of_lt_of_le (h7 q hq).2 hg.size⟩, ⟨h8.at_, h8.lo, h8.hi, a1, a2⟩⟩, hK.mono (fun q hq => .inl (by simp only [List.mem_singleton] at hq; subst hq; exact h4))⟩
  by_cases hn : k < 0
  · have f2' := hR1.frozen 2
    obtain ⟨-, -, c2', -⟩ := hR1.cells
    have hR2 : RefRow ((w.setCell ⟨r, 2, none⟩ (.int .i64 k)).setCell ⟨r, 2, none⟩ (.int .i64 (-1))) r vl vp { st with left := -1 } := hR1.set 2 _ rfl
    have HF : Hid _ := fin _ (-1) hR2 (grown_two (grown_cell _ _ _ _) (grown_cell _ _ _ _)) (by omega) (by omega)
    have HS : Hid (stSt st k = { st with left := -1 }) := by show _ = _; unfold stSt; rw [if_pos hn]
    clear h1 h2 h3 h5 h6 h7 h8 hR1 hR2 fin
    generalize st.left = l0 at c2
    go_enter Try.func46, Try.ntmps46
    go_wp2
    go_end0
    exact ⟨rfl, by rw [HS.out]; exact HF.out.1, HF.out.2⟩
  · have HF : Hid _ := fin _ k hR1 (grown_cell _ _ _ _) (by omega) (by omega)
    have HS : Hid (stSt st k = { st with left := k }) := by show _ = _; unfold stSt; rw [if_neg hn]
    clear h1 h2 h3 h5 h6 h7 h8 hR1 fin
    generalize st.left = l0 at c2
    go_enter Try.func46, Try.ntmps46
    go_wp2
    go_end0
    exact ⟨rfl, by rw [HS.out]; exact HF.out.1, HF.out.2⟩
set_option linter.unusedSimpArgs false in
set_option maxHeartbeats 800000 in
set_option maxRecDepth 100000 in
theorem refSectors_any (w : World) (B r : Nat) (st : DSt) (F : List Nat) (h : RefIs w B r st F) (hp : st.pend.length ≤ 1099511627776) :
    Calls Try.prog 51 #[.pointer (some ⟨r, 0, none⟩)] w fun e w' => ∃ g n c, e = .returned (.slice (some ⟨g, 0, none⟩) n c) ∧ OwnK secE w' w.heap.size (.slice (some ⟨g, 0, none⟩) n c) (over st.last st.pend) ∧ Below w.heap.size w w' := by
  have h8 := h.ok
  obtain ⟨vl, vp, h1, h2, h3, h4, h5, h6, h7, -⟩ := h
  obtain ⟨xl, cl, rfl⟩ := (h2.isK secE_ok).len
  obtain ⟨xp, cp, rfl⟩ := (h3.isK wrE_ok).len
  obtain ⟨c0, c1, -⟩ := h1.cells
  have hlo := h8.lo
  have hhi := h8.hi
  obtain ⟨y, c', w1, hr, hO, hB⟩ := run_copyK secE_ok w (.slice none 0 0) xl cl st.last w.heap.size 32 (OwnK.nil _ _ _) (Nat.le_refl _) (h2.isK secE_ok) (by show st.last.length * 64 ≤ _; omega) (by unfold maxLen; omega)
  obtain ⟨g, rfl, hg⟩ := hO.form (by omega)
  have c1' := cell_later hB c1
  have hP1 := h3.keep hB
  obtain ⟨n, hn⟩ : ∃ n, st.last.length = n := ⟨_, rfl⟩
  obtain ⟨np, hnp⟩ : ∃ n, st.pend.length = n := ⟨_, rfl⟩
  have hT : secE.S = 32 := rfl
  rw [hT] at hr
  rw [hn] at hr hO c0
  rw [hnp] at c1 c1' hP1 hp
  have hgl : w.heap.size ≤ g := (World.ownsRow.lt hO g rfl).1
  have hrl := h1.lt
  have hgr : g ≠ r := by omega
  have hpl := fun q hq => (World.ownsRow.lt h3 q hq).2
  rw [hnp] at hpl
  clear h2 h3 h5 h6 h7 h4
  go_enter Try.func51, Try.ntmps51
  go_wp2_with (at_builtin; refine wpL_appT 32 rfl _ _ rfl _ w1 (by exact hr) ?_)
  clear hr c0 c1
  go_loopw [4] (fun v wr => ∃ i : Nat, i ≤ np ∧ v = .int .i64 i ∧ OwnK secE wr w.heap.size (.slice (some ⟨g, 0, none⟩) n c') (over st.last (st.pend.take i)) ∧ w1.grownBy wr (some g)) (fun v _ => np - (intOf v).toNat)
  case atStart => exact ⟨0, by omega, rfl, hO, grown_drew w1 0 _⟩
  case round =>
    clear hO
    obtain ⟨i, hi, rfl, hO, hG⟩ := hrel
    have hK : Keep [g] w1 wr := Keep.of_grown hG (fun q hq => by cases hq; simp)
    have k1 : wr.cell? ⟨r, 1, none⟩ = some (.slice xp np cp) := by
      rw [← c1']
      unfold World.cell?
      rw [hG.block r (Nat.lt_of_lt_of_le hrl hB.size) (fun e => by cases e; exact hgr rfl)]
    by_cases hlt : i < np
    · obtain ⟨x, hx⟩ : ∃ x, st.pend[i]? = some x := ⟨st.pend[i]'(by omega), List.getElem?_eq_getElem (by omega)⟩
      obtain ⟨a, ha, hal⟩ := pend_at h8 hx
      have hPw := hP1.keeps hK (fun q hq => by have := hpl q hq; simp only [List.mem_singleton]; omega)
      obtain ⟨gp, rfl, hgp⟩ := hPw.form (by omega)
      obtain ⟨d0, dok, drg⟩ := wrCells hPw i x hx
      rw [ha] at d0
      obtain ⟨s, hs⟩ : ∃ s, x.2 = s := ⟨_, rfl⟩
      rw [hs] at drg
      have HX : Hid (over st.last (st.pend.take (i + 1)) = (over st.last (st.pend.take i)).set a s) := by show _ = _; rw [over_step hx ha, hs]
      have i0 : (0 : Int) ≤ (i : Int) := by omega
      have i1 : (i : Int) < (np : Int) := by omega
      have a0 : (0 : Int) ≤ (a : Int) := by omega
      have a1 : (a : Int) < (n : Int) := by omega
      have hrw : r < wr.heap.size := Nat.lt_of_lt_of_le (Nat.lt_of_lt_of_le hrl hB.size) hG.size
      clear hx ha hs hK hPw c1' hP1 hpl
      go_upto_region 6 with fail
      refine wp_reliesT [Fx ((.slice (some ⟨g, 0, none⟩) n c')), Fx (.pointer (some ⟨r, 0, none⟩)), Fx (.pointer (some ⟨r, 0, none⟩)), Fx (.pointer (some ⟨r, 1, none⟩)), Fx (.slice (some ⟨gp, 0, none⟩) np cp), Fx (.int .i64 (i : Nat)), Fx (.pointer (some ⟨gp, i * 65, none⟩)), Fx (.pointer (some ⟨gp, i * 65, none⟩)), Fx (.int .i64 (a : Nat)), Fx (.pointer (some ⟨r, 0, none⟩)), Fx (.pointer (some ⟨r, 0, none⟩)), Fx (.pointer (some ⟨r, 1, none⟩)), Fx (.slice (some ⟨gp, 0, none⟩) np cp), Fx (.int .i64 (i : Nat)), Fx (.pointer (some ⟨gp, i * 65, none⟩)), Fx (.pointer (some ⟨gp, i * 65 + 1, none⟩)), Fx (.agg (secA s)), Fx (.pointer (some ⟨g, a * 64, none⟩))] (by kernel_rfl) (by kernel_rfl) ?_ ?_ ?_
      · repeat' (first | exact all_nil | apply all_cons)
        all_goals intro v y y' hv hb
        all_goals first | exact Fx_mono _ _ _ _ hv hb
      · refine ⟨?_, ?_, ?_, ?_, ?_, ?_, ?_, ?_, ?_, ?_, ?_, ?_, ?_, ?_, ?_, ?_, ?_, ?_, trivial⟩
        all_goals
          intro ρ x hp ρc ρg ρf ho hd
          have o0 : ρ (.tmp 0) = .pointer (some ⟨r, 0, none⟩) := ho 0 rfl
          have o3 : ρ (.tmp 3) = (.slice (some ⟨g, 0, none⟩) n c') := ho 3 rfl
          have o4 : ρ (.tmp 4) = .int .i64 (i : Nat) := ho 4 rfl
          clear ho
          have q1 := cell_later hp k1
          have q2 := cell_later hp d0
          have g1 := rg_later hp hgp (i * 65 + 1) 64
          have q3 := g1.1.trans dok
          have q4 := g1.2.trans drg
          clear g1
          simp only [depsR, depR, slotR, Fx, List.getElem?_cons_succ, List.getElem?_cons_zero, Region.binds, forall_const] at hd
          simp only [guardR]
          go_split_ands
        · go_simp
        · go_simp
        · go_simp
        · go_simp
        · go_simp
        · go_simp
        · go_simp
        · go_simp
        · go_simp
        · go_simp
        · go_simp
        · go_simp
        · go_simp
        · go_simp
        · go_simp
        · go_simp
        · go_simp
        · go_simp
      · intro vs x_1 hp hw
        simp only [owed, Fx] at hw
        obtain ⟨e0, e1, e2, e3, e4, e5, e6, e7, e8, e9, e10, e11, e12, e13, e14, e15, e16, e17, -⟩ := hw
        simp only [List.length_cons, List.length_nil, List.take_succ_cons, List.take_zero, List.drop_succ_cons, List.drop_zero, asg, List.cons_append, List.nil_append, e0, e1, e2, e3, e4, e5, e6, e7, e8, e9, e10, e11, e12, e13, e14, e15, e16, e17]
        clear e0 e1 e2 e3 e4 e5 e6 e7 e8 e9 e10 e11 e12 e13 e14 e15 e16 e17
        have hst := secStore_mid (hO.keep hp) a s (by omega)
        have hO2 := secPut (hO.keep hp) a s (by omega)
        rw [← HX.out] at hO2
        have HO : Hid _ := hO2
        have HG : Hid _ := grown_two (grown_two hG (Below.grown hp (some g))) (grown_setC x_1 g (a * 64) (secA s).toList)
        clear hO hG hO2 hp k1 d0 dok drg
        go_wp2
        go_roundw
        case rel => exact ⟨i + 1, by omega, by go_num, HO.out, HG.out⟩
        case measure => simp [intOf]; omega
    · obtain rfl : i = np := by omega
      rw [List.take_of_length_le (by omega)] at hO
      have HO : Hid _ := hO
      have HB : Hid (Below w.heap.size w wr) := hB.trans ⟨hG.os, hG.tape, hG.output, hG.size, fun q hq => hG.block q (Nat.lt_of_lt_of_le hq hB.size) (fun e => by cases e; omega)⟩
      clear hO hG
      go_wp2
      go_ret
      exact ⟨g, n, c', rfl, HO.out, HB.out⟩
set_option linter.unusedSimpArgs false in
set_option maxHeartbeats 800000 in
set_option maxRecDepth 100000 in
theorem refFlush_any (w : World) (B r : Nat) (st : DSt) (F : List Nat) (h : RefIs w B r st F) (hp : st.pend.length ≤ 1099511627776) (hf : st.fl < 4611686018427387904) :
    Calls Try.prog 81 #[.pointer (some ⟨r, 0, none⟩)] w fun e w' => e = .returned (.int .i64 (flRes st)) ∧ RefIs w' B r (flSt st) F ∧ Keep F w w' := by
  have h9 := h
  have h8 := h.ok
  obtain ⟨vl, vp, h1, h2, h3, h4, h5, h6, h7, -⟩ := h
  obtain ⟨-, -, -, c3, -⟩ := h1.cells
  by_cases hd : st.down = true
  · rw [hd] at c3
    have HR : Hid (flRes st = 21) := by show _ = _; unfold flRes; rw [if_pos hd]
    have HS : Hid (flSt st = st) := by show _ = _; unfold flSt; rw [if_pos hd]
    clear h1 h2 h3 h5 h6 h7
    go_enter Try.func81, Try.ntmps81
    go_wp2
    go_ret
    exact ⟨by rw [HR.out]; rfl, by rw [HS.out]; exact h9, Keep.refl _ _⟩
  · have hd' : st.down = false := by simpa using hd
    rw [hd'] at c3
    have hm := refMay_any r vl vp st w h1 ⟨h8.l0, h8.l1⟩
    have hsl := mayS_left st h8
    obtain ⟨e1, e2, e3, e4, e5⟩ := mayS_same st
    have fin1 : ∀ w', RefRow w' r vl vp (mayS st) → w.grownBy w' (some r) → RefIs w' B r (mayS st) F ∧ Keep F w w' := fun w' hr hg => by
      have hK : Keep [r] w w' := Keep.of_grown hg (fun q hq => by cases hq; simp)
      exact ⟨⟨vl, vp, hr, by rw [e1]; exact h2.keeps hK (fun q hq => by simpa using (h5 q hq).2.1), by rw [e2]; exact h3.keeps hK (fun q hq => by simpa using (h6 q hq).2), h4, h5, h6, fun q hq => ⟨(h7 q hq).1, Nat.lt_of_lt_of_le (h7 q hq).2 hg.size⟩, ⟨by rw [e1, e2]; exact h8.at_, by rw [e1]; exact h8.lo, by rw [e1]; exact h8.hi, hsl.1, hsl.2⟩⟩, hK.mono (fun q hq => .inl (by simp only [List.mem_singleton] at hq; subst hq; exact h4))⟩
    obtain ⟨mb, hmb⟩ : ∃ b, mayB st = b := ⟨_, rfl⟩
    rw [hmb] at hm
    cases mb with
    | false =>
      have HR : Hid (flRes st = 21) := by show _ = _; unfold flRes; rw [if_neg hd, hmb]; rfl
      have HS : Hid (flSt st = mayS st) := by show _ = _; unfold flSt; rw [if_neg hd, hmb]; rfl
      have FIN : Hid _ := fin1
      clear h1 h2 h3 h5 h6 h7 fin1 h9
      go_enter Try.func81, Try.ntmps81
      go_wp2_with fail
      refine hm.mono ?_
      rintro e w1 ⟨rfl, hr1, hg1⟩
      obtain ⟨f1, f2⟩ := FIN.out w1 hr1 hg1
      clear hm hr1 hg1 FIN
      go_wp2
      go_ret
      exact ⟨by rw [HR.out]; rfl, by rw [HS.out]; exact f1, f2⟩
    | true =>
      have HR : Hid (flRes st = 0) := by show _ = _; unfold flRes; rw [if_neg hd, hmb]; rfl
      obtain ⟨f1, hf1⟩ : ∃ m, st.fl + 1 = m := ⟨_, rfl⟩
      have HS : Hid (flSt st = { mayS st with last := over st.last st.pend, pend := [], fl := f1 }) := by show _ = _; unfold flSt; rw [if_neg hd, hmb, ← hf1]; rfl
      obtain ⟨xl, cl, rfl⟩ := (h2.isK secE_ok).len
      obtain ⟨xp, cp, rfl⟩ := (h3.isK wrE_ok).len
      have hlo := h8.lo
      obtain ⟨g, rfl, hg⟩ := h2.form (by omega)
      have hgr : g ≠ r := (h5 g rfl).2.1
      have hgF : g ∈ F := (h5 g rfl).1
      have hpg : ∀ q, (Value.slice xp st.pend.length cp).ownBlock = some q → q ≠ g := fun q hq e => (h5 g rfl).2.2 (by rw [hq, e])
      have hpr : ∀ q, (Value.slice xp st.pend.length cp).ownBlock = some q → q ≠ r := fun q hq => (h6 q hq).2
      obtain ⟨n, hn⟩ : ∃ n, st.last.length = n := ⟨_, rfl⟩
      obtain ⟨np, hnp⟩ : ∃ n, st.pend.length = n := ⟨_, rfl⟩
      have hK0 : ∀ w', w.grownBy w' (some r) → Keep [r] w w' := fun w' hg => Keep.of_grown hg (fun q hq => by cases hq; simp)
      rw [hn] at h1 h2 hm
      rw [hnp] at h1 h3 hp hpg hpr hm
      have hF2 : ∀ q ∈ F, B ≤ q ∧ q < w.heap.size := h7
      clear h5 h6 h7 fin1 h9
      go_enter Try.func81, Try.ntmps81
      go_wp2_with fail
      refine hm.mono ?_
      rintro e w1 ⟨rfl, hr1, hg1⟩
      have hL := h2.keeps (hK0 w1 hg1) (fun q hq => by cases hq; simpa using hgr)
      have hP := h3.keeps (hK0 w1 hg1) (fun q hq => by simpa using hpr q hq)
      obtain ⟨c0, c1, -, -, -, -, c6⟩ := hr1.cells
      have hr1l := hr1.lt
      clear hm h2 h3 h1 c3 hK0 hpr
      go_wp2_with fail
      go_loopw [3] (fun v wr => ∃ i : Nat, i ≤ np ∧ v = .int .i64 i ∧ OwnK secE wr B (.slice (some ⟨g, 0, none⟩) n cl) (over st.last (st.pend.take i)) ∧ w1.grownBy wr (some g)) (fun v _ => np - (intOf v).toNat)
      case atStart => exact ⟨0, by omega, rfl, hL, grown_drew w1 0 _⟩
      case round =>
        clear hL
        obtain ⟨i, hi, rfl, hO, hG⟩ := hrel
        have hK : Keep [g] w1 wr := Keep.of_grown hG (fun q hq => by cases hq; simp)
        have hrr : RefRow wr r (.slice (some ⟨g, 0, none⟩) n cl) (.slice xp np cp) (mayS st) := hr1.kept (hG.block r hr1l (fun e => by cases e; exact hgr rfl))
        obtain ⟨k0, k1, -, -, -, -, k6⟩ := hrr.cells
        by_cases hlt : i < np
        · obtain ⟨x, hx⟩ : ∃ x, st.pend[i]? = some x := ⟨st.pend[i]'(by omega), List.getElem?_eq_getElem (by omega)⟩
          obtain ⟨a, ha, hal⟩ := pend_at h8 hx
          have hPw := hP.keeps hK (fun q hq => by simpa using hpg q hq)
          obtain ⟨gp, rfl, hgp⟩ := hPw.form (by omega)
          obtain ⟨d0, dok, drg⟩ := wrCells hPw i x hx
          rw [ha] at d0
          obtain ⟨s, hs⟩ : ∃ s, x.2 = s := ⟨_, rfl⟩
          rw [hs] at drg
          have HX : Hid (over st.last (st.pend.take (i + 1)) = (over st.last (st.pend.take i)).set a s) := by show _ = _; rw [over_step hx ha, hs]
          have i0 : (0 : Int) ≤ (i : Int) := by omega
          have i1 : (i : Int) < (np : Int) := by omega
          have a0 : (0 : Int) ≤ (a : Int) := by omega
          have a1 : (a : Int) < (n : Int) := by omega
          clear hx ha hs hK hPw hP hpg hrr hr1 c0 c1 c6 k6 hF2
          go_upto_region 6 with fail
          refine wp_reliesT [Fx (.pointer (some ⟨r, 0, none⟩)), Fx (.pointer (some ⟨r, 0, none⟩)), Fx (.pointer (some ⟨r, 0, none⟩)), Fx ((.slice (some ⟨g, 0, none⟩) n cl)), Fx (.pointer (some ⟨r, 0, none⟩)), Fx (.pointer (some ⟨r, 0, none⟩)), Fx (.pointer (some ⟨r, 1, none⟩)), Fx (.slice (some ⟨gp, 0, none⟩) np cp), Fx (.int .i64 (i : Nat)), Fx (.pointer (some ⟨gp, i * 65, none⟩)), Fx (.pointer (some ⟨gp, i * 65, none⟩)), Fx (.int .i64 (a : Nat)), Fx (.pointer (some ⟨r, 0, none⟩)), Fx (.pointer (some ⟨r, 0, none⟩)), Fx (.pointer (some ⟨r, 1, none⟩)), Fx (.slice (some ⟨gp, 0, none⟩) np cp), Fx (.int .i64 (i : Nat)), Fx (.pointer (some ⟨gp, i * 65, none⟩)), Fx (.pointer (some ⟨gp, i * 65 + 1, none⟩)), Fx (.agg (secA s)), Fx (.pointer (some ⟨g, a * 64, none⟩))] (by kernel_rfl) (by kernel_rfl) ?_ ?_ ?_
          · repeat' (first | exact all_nil | apply all_cons)
            all_goals intro v y y' hv hb
            all_goals first | exact Fx_mono _ _ _ _ hv hb
          · refine ⟨?_, ?_, ?_, ?_, ?_, ?_, ?_, ?_, ?_, ?_, ?_, ?_, ?_, ?_, ?_, ?_, ?_, ?_, ?_, ?_, ?_, trivial⟩
            all_goals
              intro ρ x hp ρc ρg ρf ho hd
              have o0 : ρ (.tmp 0) = .pointer (some ⟨r, 0, none⟩) := ho 0 rfl
              have o3 : ρ (.tmp 3) = .int .i64 (i : Nat) := ho 3 rfl
              clear ho
              have q1 := cell_later hp k1
              have q2 := cell_later hp d0
              have g1 := rg_later hp hgp (i * 65 + 1) 64
              have q3 := g1.1.trans dok
              have q4 := g1.2.trans drg
              clear g1
              have q0 := cell_later hp k0
              simp only [depsR, depR, slotR, Fx, List.getElem?_cons_succ, List.getElem?_cons_zero, Region.binds, forall_const] at hd
              simp only [guardR]
              go_split_ands
            · go_simp
            · go_simp
            · go_simp
            · go_simp
            · go_simp
            · go_simp
            · go_simp
            · go_simp
            · go_simp
            · go_simp
            · go_simp
            · go_simp
            · go_simp
            · go_simp
            · go_simp
            · go_simp
            · go_simp
            · go_simp
            · go_simp
            · go_simp
            · go_simp
          · intro vs x_1 hp hw
            simp only [owed, Fx] at hw
            obtain ⟨e0, e1, e2, e3, e4, e5, e6, e7, e8, e9, e10, e11, e12, e13, e14, e15, e16, e17, e18, e19, e20, -⟩ := hw
            simp only [List.length_cons, List.length_nil, List.take_succ_cons, List.take_zero, List.drop_succ_cons, List.drop_zero, asg, List.cons_append, List.nil_append, e0, e1, e2, e3, e4, e5, e6, e7, e8, e9, e10, e11, e12, e13, e14, e15, e16, e17, e18, e19, e20]
            clear e0 e1 e2 e3 e4 e5 e6 e7 e8 e9 e10 e11 e12 e13 e14 e15 e16 e17 e18 e19 e20
            have hst := secStore_mid (hO.keep hp) a s (by omega)
            have hO2 := secPut (hO.keep hp) a s (by omega)
            rw [← HX.out] at hO2
            have HO : Hid _ := hO2
            have HG : Hid _ := grown_two (grown_two hG (Below.grown hp (some g))) (grown_setC x_1 g (a * 64) (secA s).toList)
            clear hO hG hO2 hp k0 k1 d0 dok drg
            go_wp2
            go_roundw
            case rel => exact ⟨i + 1, by omega, by go_num, HO.out, HG.out⟩
            case measure => simp [intOf]; omega
        · obtain rfl : i = np := by omega
          rw [List.take_of_length_le (by omega)] at hO
          have z1 := hrr.frozen 1
          have hr2 : RefRow (wr.setCell ⟨r, 1, none⟩ (.slice none 0 0)) r (.slice (some ⟨g, 0, none⟩) n cl) (.slice none 0 0) { mayS st with pend := [] } := hrr.set 1 _ rfl
          obtain ⟨-, -, -, -, -, -, y6⟩ := hr2.cells
          have z6 := hr2.frozen 6
          rw [show ({ mayS st with pend := [] } : DSt).fl = st.fl from e5] at y6
          have hr3 : RefRow ((wr.setCell ⟨r, 1, none⟩ (.slice none 0 0)).setCell ⟨r, 6, none⟩ (.int .i64 (f1 : Int))) r (.slice (some ⟨g, 0, none⟩) n cl) (.slice none 0 0) { mayS st with last := over st.last st.pend, pend := [], fl := f1 } := hr2.set 6 _ rfl
          have hGr : Keep [r] wr ((wr.setCell ⟨r, 1, none⟩ (.slice none 0 0)).setCell ⟨r, 6, none⟩ (.int .i64 (f1 : Int))) := Keep.of_grown (grown_two (grown_cell _ _ _ _) (grown_cell _ _ _ _)) (fun q hq => by cases hq; simp)
          have hO9 := hO.keeps hGr (fun q hq => by cases hq; simpa using hgr)
          have hKF : Keep F w ((wr.setCell ⟨r, 1, none⟩ (.slice none 0 0)).setCell ⟨r, 6, none⟩ (.int .i64 (f1 : Int))) :=
            ((Keep.of_grown hg1 (fun q hq => by cases hq; exact h4)).trans (Keep.of_grown hG (fun q hq => by cases hq; exact hgF))).trans (hGr.mono (fun q hq => .inl (by simp only [List.mem_singleton] at hq; subst hq; exact h4)))
          have HF : Hid (RefIs ((wr.setCell ⟨r, 1, none⟩ (.slice none 0 0)).setCell ⟨r, 6, none⟩ (.int .i64 (f1 : Int))) B r (flSt st) F) := by
            show RefIs _ _ _ _ _
            rw [HS.out]
            refine ⟨_, _, hr3, hO9, OwnK.nil _ _ _, h4, fun q hq => ?_, fun q hq => by simp [Value.ownBlock] at hq, fun q hq => ⟨(hF2 q hq).1, Nat.lt_of_lt_of_le (hF2 q hq).2 hKF.size⟩, ⟨fun x hx => (by cases hx), ?_, ?_, hsl.1, hsl.2⟩⟩
            · cases hq; exact ⟨hgF, hgr, by simp [Value.ownBlock]⟩
            · show 64 ≤ (over st.last st.pend).length; rw [over_len]; exact h8.lo
            · show (over st.last st.pend).length ≤ 1024; rw [over_len]; exact h8.hi
          have HK : Hid _ := hKF
          have wf : IntKind.i64.wrap ((st.fl : Int) + 1) = (f1 : Int) := by rw [IntKind.wrap_i64]; omega
          have wf' : (st.fl : Int) + 1 = (f1 : Int) := by omega
          clear hf1
          clear hO hG hr2 hr3 hrr hr1 hO9 hKF hGr hP hpg hF2 hK c0 c1 c6 k0 k6 h8
          go_wp2
          go_ret
          exact ⟨by rw [HR.out]; rfl, HF.out, HK.out⟩
theorem pick_step : ∀ (p : List Wr) (bs : List Bool) (i : Nat) (x : Wr) (b : Bool), p[i]? = some x → bs[i]? = some b → pickL (p.take (i + 1)) bs = pickL (p.take i) bs ++ (if b then [x] else [])
  | [], bs, i, x, b, h, _ => by simp at h
  | y :: p, [], i, x, b, _, h => by simp at h
  | y :: p, c :: bs, 0, x, b, h, k => by
    simp at h k
    subst h k
    simp [pickL]
  | y :: p, c :: bs, i + 1, x, b, h, k => by
    have := pick_step p bs i x b (by simpa using h) (by simpa using k)
    rw [List.take_succ_cons, List.take_succ_cons, pickL, pickL, this]
    split <;> simp
theorem pick_end : ∀ (p : List Wr) (bs : List Bool) (i : Nat), (p.length ≤ i ∨ bs.length ≤ i) → pickL (p.take i) bs = pickL p bs
  | [], bs, i, _ => by simp
  | y :: p, [], i, _ => by cases i <;> simp [pickL]
  | y :: p, c :: bs, 0, h => by simp at h
  | y :: p, c :: bs, i + 1, h => by
    have := pick_end p bs i (by simpa using h)
    rw [List.take_succ_cons, pickL, pickL, this]
set_option linter.unusedSimpArgs false in
set_option maxHeartbeats 800000 in
set_option maxRecDepth 100000 in
theorem refRestart_any (w : World) (B r : Nat) (st : DSt) (F : List Nat) (xb : Option Addr) (nb cb : Nat) (bs : List Bool) (h : RefIs w B r st F) (hp : st.pend.length ≤ 1099511627776) (hbl : bs.length = nb) (hbs : IsG w (.slice xb nb cb) (bs.map Value.bool)) (hbF : bs ≠ [] → ∀ x, xb = some x → x.block ∉ F) :
    Calls Try.prog 47 #[.pointer (some ⟨r, 0, none⟩), .slice xb nb cb] w fun e w' => e = .returned (.tuple #[]) ∧ RefIs w' B r (reSt st bs) F ∧ Keep F w w' := by
  have h8 := h.ok
  obtain ⟨vl, vp, h1, h2, h3, h4, h5, h6, h7, -⟩ := h
  obtain ⟨xl, cl, rfl⟩ := (h2.isK secE_ok).len
  obtain ⟨xp, cp, rfl⟩ := (h3.isK wrE_ok).len
  have hlo := h8.lo
  obtain ⟨g, rfl, hg⟩ := h2.form (by omega)
  have hgr : g ≠ r := (h5 g rfl).2.1
  have hgF : g ∈ F := (h5 g rfl).1
  have hpg : ∀ q, (Value.slice xp st.pend.length cp).ownBlock = some q → q ≠ g := fun q hq e => (h5 g rfl).2.2 (by rw [hq, e])
  obtain ⟨n, hn⟩ : ∃ n, st.last.length = n := ⟨_, rfl⟩
  obtain ⟨np, hnp⟩ : ∃ n, st.pend.length = n := ⟨_, rfl⟩
  rw [hn] at h1 h2
  rw [hnp] at h1 h3 hp hpg
  have hr1l := h1.lt
  clear h5 h6
  go_enter Try.func47, Try.ntmps47
  go_wp2_with fail
  go_loopw [4] (fun v wr => ∃ i : Nat, i ≤ np ∧ i ≤ nb ∧ v = .int .i64 i ∧ OwnK secE wr B (.slice (some ⟨g, 0, none⟩) n cl) (over st.last (pickL (st.pend.take i) bs)) ∧ w.grownBy wr (some g)) (fun v _ => np - (intOf v).toNat)
  case atStart => exact ⟨0, by omega, by omega, rfl, by simpa [pickL, over] using h2, grown_drew w 0 _⟩
  case round =>
    clear h2
    obtain ⟨i, hi, hib, rfl, hO, hG⟩ := hrel
    have hK : Keep [g] w wr := Keep.of_grown hG (fun q hq => by cases hq; simp)
    have hrr : RefRow wr r (.slice (some ⟨g, 0, none⟩) n cl) (.slice xp np cp) st := h1.kept (hG.block r hr1l (fun e => by cases e; exact hgr rfl))
    obtain ⟨k0, k1, -, -, -, -, -⟩ := hrr.cells
    have i0 : (0 : Int) ≤ (i : Int) := by omega
    by_cases hc : i < np ∧ i < nb
    · obtain ⟨hlt, hlb⟩ := hc
      have i1 : (i : Int) < (np : Int) := by omega
      have i2 : (i : Int) < (nb : Int) := by omega
      obtain ⟨b, hb⟩ : ∃ b, bs[i]? = some b := ⟨bs[i]'(by omega), List.getElem?_eq_getElem (by omega)⟩
      obtain ⟨bb, bo, hxb, hbb, hbc⟩ := hbs.spot i (by rw [List.length_map]; omega)
      have hbk := hbc i (.bool b) (by rw [List.getElem?_map, hb]; rfl)
      have hbg : bb ≠ g := fun e => hbF (List.ne_nil_of_length_pos (by omega)) _ hxb (by rw [e]; exact hgF)
      have hbk2 : wr.cell? ⟨bb, bo + i, none⟩ = some (.bool b) := by
        rw [← hbk]
        unfold World.cell?
        rw [hG.block bb hbb (fun e => by cases e; exact hbg rfl)]
      subst hxb
      obtain ⟨x, hx⟩ : ∃ x, st.pend[i]? = some x := ⟨st.pend[i]'(by omega), List.getElem?_eq_getElem (by omega)⟩
      have hps := pick_step st.pend bs i x b hx hb
      cases b with
      | false =>
        simp only [Bool.false_eq_true, if_false, List.append_nil] at hps
        rw [← hps] at hO
        have HO : Hid _ := hO
        have HG : Hid _ := hG
        clear hO hG hx hb hbk hbc hps hrr hK h3 hpg h7 h8 h1 hbs hbF
        go_wp2
        go_roundw
        case rel => exact ⟨i + 1, by omega, by omega, by go_num, HO.out, HG.out⟩
        case measure => simp [intOf]; omega
      | true =>
        simp only [if_true] at hps
        obtain ⟨a, ha, hal⟩ := pend_at h8 hx
        have hPw := h3.keeps hK (fun q hq => by simpa using hpg q hq)
        obtain ⟨gp, rfl, hgp⟩ := hPw.form (by omega)
        obtain ⟨d0, dok, drg⟩ := wrCells hPw i x hx
        rw [ha] at d0
        obtain ⟨s, hs⟩ : ∃ s, x.2 = s := ⟨_, rfl⟩
        rw [hs] at drg
        have HX : Hid (over st.last (pickL (st.pend.take (i + 1)) bs) = (over st.last (pickL (st.pend.take i) bs)).set a s) := by
          show _ = _
          rw [hps, over_snoc, ha, hs]; rfl
        have a0 : (0 : Int) ≤ (a : Int) := by omega
        have a1 : (a : Int) < (n : Int) := by omega
        clear hx hb ha hs hK hPw h3 hpg hrr h7 h8 h1 hbk hbc hps hbs hbF
        go_upto_region 4 with fail
        refine wp_reliesT [Fx (.pointer (some ⟨r, 0, none⟩)), Fx (.pointer (some ⟨r, 0, none⟩)), Fx (.pointer (some ⟨r, 0, none⟩)), Fx ((.slice (some ⟨g, 0, none⟩) n cl)), Fx (.pointer (some ⟨r, 0, none⟩)), Fx (.pointer (some ⟨r, 0, none⟩)), Fx (.pointer (some ⟨r, 1, none⟩)), Fx (.slice (some ⟨gp, 0, none⟩) np cp), Fx (.int .i64 (i : Nat)), Fx (.pointer (some ⟨gp, i * 65, none⟩)), Fx (.pointer (some ⟨gp, i * 65, none⟩)), Fx (.int .i64 (a : Nat)), Fx (.pointer (some ⟨r, 0, none⟩)), Fx (.pointer (some ⟨r, 0, none⟩)), Fx (.pointer (some ⟨r, 1, none⟩)), Fx (.slice (some ⟨gp, 0, none⟩) np cp), Fx (.int .i64 (i : Nat)), Fx (.pointer (some ⟨gp, i * 65, none⟩)), Fx (.pointer (some ⟨gp, i * 65 + 1, none⟩)), Fx (.agg (secA s)), Fx (.pointer (some ⟨g, a * 64, none⟩))] (by kernel_rfl) (by kernel_rfl) ?_ ?_ ?_
        · repeat' (first | exact all_nil | apply all_cons)
          all_goals intro v y y' hv hb
          all_goals first | exact Fx_mono _ _ _ _ hv hb
        · refine ⟨?_, ?_, ?_, ?_, ?_, ?_, ?_, ?_, ?_, ?_, ?_, ?_, ?_, ?_, ?_, ?_, ?_, ?_, ?_, ?_, ?_, trivial⟩
          all_goals
            intro ρ x hp ρc ρg ρf ho hd
            have o0 : ρ (.tmp 0) = .pointer (some ⟨r, 0, none⟩) := ho 0 rfl
            have o4 : ρ (.tmp 4) = .int .i64 (i : Nat) := ho 4 rfl
            clear ho
            have q1 := cell_later hp k1
            have q2 := cell_later hp d0
            have g1 := rg_later hp hgp (i * 65 + 1) 64
            have q3 := g1.1.trans dok
            have q4 := g1.2.trans drg
            clear g1
            have q0 := cell_later hp k0
            simp only [depsR, depR, slotR, Fx, List.getElem?_cons_succ, List.getElem?_cons_zero, Region.binds, forall_const] at hd
            simp only [guardR]
            go_split_ands
          · go_simp
          · go_simp
          · go_simp
          · go_simp
          · go_simp
          · go_simp
          · go_simp
          · go_simp
          · go_simp
          · go_simp
          · go_simp
          · go_simp
          · go_simp
          · go_simp
          · go_simp
          · go_simp
          · go_simp
          · go_simp
          · go_simp
          · go_simp
          · go_simp
        · intro vs x_1 hp hw
          simp only [owed, Fx] at hw
          obtain ⟨e0, e1, e2, e3, e4, e5, e6, e7, e8, e9, e10, e11, e12, e13, e14, e15, e16, e17, e18, e19, e20, -⟩ := hw
          simp only [List.length_cons, List.length_nil, List.take_succ_cons, List.take_zero, List.drop_succ_cons, List.drop_zero, asg, List.cons_append, List.nil_append, e0, e1, e2, e3, e4, e5, e6, e7, e8, e9, e10, e11, e12, e13, e14, e15, e16, e17, e18, e19, e20]
          clear e0 e1 e2 e3 e4 e5 e6 e7 e8 e9 e10 e11 e12 e13 e14 e15 e16 e17 e18 e19 e20
          have hst := secStore_mid (hO.keep hp) a s (by omega)
          have hO2 := secPut (hO.keep hp) a s (by omega)
          rw [← HX.out] at hO2
          have HO : Hid _ := hO2
          have HG : Hid _ := grown_two (grown_two hG (Below.grown hp (some g))) (grown_setC x_1 g (a * 64) (secA s).toList)
          clear hO hG hO2 hp k0 k1 d0 dok drg
          go_wp2
          go_roundw
          case rel => exact ⟨i + 1, by omega, by omega, by go_num, HO.out, HG.out⟩
          case measure => simp [intOf]; omega
    · have hor : st.pend.length ≤ i ∨ bs.length ≤ i := by omega
      rw [pick_end st.pend bs i hor] at hO
      have z1 := hrr.frozen 1
      have r1 : RefRow (wr.setCell ⟨r, 1, none⟩ (.slice none 0 0)) r (.slice (some ⟨g, 0, none⟩) n cl) (.slice none 0 0) { st with pend := [] } := hrr.set 1 _ rfl
      obtain ⟨-, -, y2, -⟩ := r1.cells
      have z2 := r1.frozen 2
      have r2 : RefRow ((wr.setCell ⟨r, 1, none⟩ (.slice none 0 0)).setCell ⟨r, 2, none⟩ (.int .i64 (-1))) r (.slice (some ⟨g, 0, none⟩) n cl) (.slice none 0 0) { st with pend := [], left := -1 } := r1.set 2 _ rfl
      obtain ⟨-, -, -, y3, -⟩ := r2.cells
      have z3 := r2.frozen 3
      have r3 : RefRow (((wr.setCell ⟨r, 1, none⟩ (.slice none 0 0)).setCell ⟨r, 2, none⟩ (.int .i64 (-1))).setCell ⟨r, 3, none⟩ (.bool false)) r (.slice (some ⟨g, 0, none⟩) n cl) (.slice none 0 0) (reSt st bs) := r2.set 3 _ rfl
      have hGr : Keep [r] wr (((wr.setCell ⟨r, 1, none⟩ (.slice none 0 0)).setCell ⟨r, 2, none⟩ (.int .i64 (-1))).setCell ⟨r, 3, none⟩ (.bool false)) := Keep.of_grown (grown_two (grown_two (grown_cell _ _ _ _) (grown_cell _ _ _ _)) (grown_cell _ _ _ _)) (fun q hq => by cases hq; simp)
      have hO9 := hO.keeps hGr (fun q hq => by cases hq; simpa using hgr)
      have hKF : Keep F w (((wr.setCell ⟨r, 1, none⟩ (.slice none 0 0)).setCell ⟨r, 2, none⟩ (.int .i64 (-1))).setCell ⟨r, 3, none⟩ (.bool false)) :=
        (Keep.of_grown hG (fun q hq => by cases hq; exact hgF)).trans (hGr.mono (fun q hq => .inl (by simp only [List.mem_singleton] at hq; subst hq; exact h4)))
      have HF : Hid (RefIs (((wr.setCell ⟨r, 1, none⟩ (.slice none 0 0)).setCell ⟨r, 2, none⟩ (.int .i64 (-1))).setCell ⟨r, 3, none⟩ (.bool false)) B r (reSt st bs) F) := by
        refine ⟨_, _, r3, hO9, OwnK.nil _ _ _, h4, fun q hq => ?_, fun q hq => by simp [Value.ownBlock] at hq, fun q hq => ⟨(h7 q hq).1, Nat.lt_of_lt_of_le (h7 q hq).2 hKF.size⟩, ⟨fun x hx => (by cases hx), ?_, ?_, by show -1 ≤ (-1 : Int); omega, by show (-1 : Int) ≤ _; omega⟩⟩
        · cases hq; exact ⟨hgF, hgr, by simp [Value.ownBlock]⟩
        · show 64 ≤ (over st.last _).length; rw [over_len]; exact h8.lo
        · show (over st.last _).length ≤ 1024; rw [over_len]; exact h8.hi
      have HK : Hid _ := hKF
      generalize hl0 : st.left = l0 at y2
      generalize hd0 : st.down = dn at y3
      clear hO hG hrr r1 r2 r3 hO9 hKF hGr hpg hK h3 h7 h8 h1 hbs hbF hl0 hd0
      by_cases hlt : i < np
      · have i1 : (i : Int) < (np : Int) := by omega
        have i2 : ¬ (i : Int) < (nb : Int) := by omega
        go_wp2
        go_end0
        exact ⟨rfl, HF.out, HK.out⟩
      · have i1 : ¬ (i : Int) < (np : Int) := by omega
        go_wp2
        go_end0
        exact ⟨rfl, HF.out, HK.out⟩
end Go.Proofs.Ytpckdkgbeemalaa
namespace Go.Proofs.Ytpckdkgbeemalaa
open Go.RowKit

/-! The document's device: New, Read -/
def newE (n : Nat) : Int := if 64 ≤ n ∧ n ≤ 1024 then 0 else 22
def RefNewPost (w : World) (n : Nat) (ss : List Sc) (e : Ending) (w' : World) : Prop := Below w.heap.size w w' ∧
  ((64 ≤ n ∧ n ≤ 1024 ∧ ∃ r F, e = .returned (.tuple #[.pointer (some ⟨r, 0, none⟩), .int .i64 0]) ∧ RefIs w' w.heap.size r (newS ss) F) ∨ (¬ (64 ≤ n ∧ n ≤ 1024) ∧ e = .returned (.tuple #[.pointer none, .int .i64 22])))
set_option linter.unusedSimpArgs false in
set_option maxHeartbeats 400000 in
theorem refNew_any (w : World) (x : Option Addr) (n c : Nat) (ss : List Sc) (hn : ss.length = n) (h : IsK secE w (.slice x n c) ss) (hl : n ≤ 1099511627776) :
    Calls Try.prog 21 #[.slice x n c] w fun e w' => RefNewPost w n ss e w' := by
  by_cases h1 : 64 ≤ n
  · have g1 : ¬ (n : Int) < 64 := by omega
    by_cases h2 : n ≤ 1024
    · have g2 : ¬ (1024 : Int) < (n : Int) := by omega
      have hcp := h.cap.2
      have hR0 : RefRow (w.alloc (.cells (refA (.slice none 0 0) (.slice none 0 0) (newS ss)) 95)) w.heap.size (.slice none 0 0) (.slice none 0 0) (newS ss) := heap_alloc_last w _
      go_enter Try.func21, Try.ntmps21
      go_upto_region 4 with fail
      have hA : (#[Value.slice none 0 0, Value.slice none 0 0, Value.int .i64 (-1), Value.bool false, Value.int .i64 0, Value.int .i64 0, Value.int .i64 0] : Array Value) = refA (.slice none 0 0) (.slice none 0 0) (newS ss) := rfl
      rw [hA]
      have hb0 := below_alloc w (.cells (refA (.slice none 0 0) (.slice none 0 0) (newS ss)) 95)
      have hK0 := h.kept hb0
      have hsz : (w.alloc (.cells (refA (.slice none 0 0) (.slice none 0 0) (newS ss)) 95)).heap.size = w.heap.size + 1 := by simp
      generalize w.alloc (.cells (refA (.slice none 0 0) (.slice none 0 0) (newS ss)) 95) = X at hR0 hb0 hK0 hsz ⊢
      obtain ⟨rr, hrr⟩ : ∃ r, w.heap.size = r := ⟨_, rfl⟩
      simp only [hrr]
      rw [hrr] at hR0
      rw [← hn] at hK0
      obtain ⟨y, c', w2, hr, hO, hB⟩ := run_copyK secE_ok X (.slice none 0 0) x c ss X.heap.size 32 (OwnK.nil _ _ _) (Nat.le_refl _) hK0 (by show ss.length * 64 ≤ _; omega) (by unfold maxLen; omega)
      have hT : secE.S = 32 := rfl
      rw [hT, hn] at hr
      rw [hn] at hO
      obtain ⟨c0, -⟩ := hR0.cells
      have hR2 := hR0.kept (hB.block rr (by omega))
      obtain ⟨c0', -⟩ := hR2.cells
      have f0 := hR2.frozen 0
      have hR3 : RefRow (w2.setCell ⟨rr, 0, none⟩ (.slice y n c')) rr (.slice y n c') (.slice none 0 0) (newS ss) := hR2.set 0 _ rfl
      have hyb : ∀ q, (Value.slice y n c').ownBlock = some q → X.heap.size ≤ q ∧ q < w2.heap.size := World.ownsRow.lt hO
      have hG := grown_cell w2 rr 0 (.slice y n c')
      have hO3 := (hO.keeps (Keep.of_grown hG (F := [rr]) (fun q hq => by cases hq; simp)) (fun q hq => by have := hyb q hq; simp; omega)).le (B' := w.heap.size) (by omega)
      have hz := hB.size
      have HP : Hid (RefNewPost w n ss (.returned (.tuple #[.pointer (some ⟨rr, 0, none⟩), .int .i64 0])) (w2.setCell ⟨rr, 0, none⟩ (.slice y n c'))) := by
        refine ⟨?_, .inl ⟨h1, h2, rr, rr :: (Value.slice y n c').ownBlock.toList, rfl, _, _, hR3, hO3, OwnK.nil _ _ _, by simp, fun q hq => ?_, fun q hq => by simp [Value.ownBlock] at hq, fun q hq => ?_, ?_⟩⟩
        · have := hb0.trans (hB.mono hb0.size)
          exact this.setCell (p := ⟨rr, 0, none⟩) (by show _ ≤ rr; omega) _
        · have := hyb q hq
          exact ⟨by rw [hq]; simp, by omega, by simp [Value.ownBlock]⟩
        · have hs2 := hG.size
          rcases List.mem_cons.1 hq with rfl | hq
          · exact ⟨by omega, hR3.lt⟩
          · have := hyb q (by simpa using hq)
            omega
        · exact ⟨fun x hx => (by cases hx), by show 64 ≤ ss.length; omega, by show ss.length ≤ 1024; omega, by show (-1 : Int) ≤ -1; omega, by show (-1 : Int) ≤ _; omega⟩
      clear hO3 hG hyb hR3 hR2 hR0 hO hB hK0 hb0
      go_wp2_with (at_builtin; refine wpL_appT 32 rfl _ _ rfl _ w2 (by exact hr) ?_)
      go_ret2
      exact HP.out
    · have g2 : (1024 : Int) < (n : Int) := by omega
      go_enter Try.func21, Try.ntmps21
      go_wp2
      go_ret2
      exact ⟨Below.refl _ _, .inr ⟨by omega, rfl⟩⟩
  · have g1 : (n : Int) < 64 := by omega
    go_enter Try.func21, Try.ntmps21
    go_wp2
    go_ret2
    exact ⟨Below.refl _ _, .inr ⟨by omega, rfl⟩⟩
/-- Two results: a sector out of its variable, and a number. -/
theorem setRow_grown (w : World) (g : Nat) (c : Array Value) : w.grownBy (w.setRow g c) (some g) := by
  refine ⟨rfl, rfl, rfl, by simp [World.setRow], fun k hk hne => ?_⟩
  have : g ≠ k := fun e => hne (by rw [e])
  simp [World.setRow, Array.getElem?_modify, this]
def curS (st : DSt) (a i : Nat) : Sc := ((over st.last (st.pend.take i))[a]?).getD secZ
theorem curS_zero (st : DSt) (a : Nat) (s : Sc) (h : st.last[a]? = some s) : curS st a 0 = s := by
  unfold curS
  simp [over, h]
theorem curS_same (st : DSt) (a i b : Nat) (x : Wr) (hx : st.pend[i]? = some x) (hb : x.1 = (b : Int)) (hne : b ≠ a) : curS st a (i + 1) = curS st a i := by
  unfold curS
  rw [over_step hx hb, List.getElem?_set_ne hne]
theorem curS_new (st : DSt) (a i : Nat) (x : Wr) (hx : st.pend[i]? = some x) (ha : x.1 = (a : Int)) (hl : a < st.last.length) : curS st a (i + 1) = x.2 := by
  unfold curS
  rw [over_step hx ha, List.getElem?_set_self (by rw [over_len]; exact hl)]
  rfl
set_option linter.unusedSimpArgs false in
set_option maxHeartbeats 800000 in
theorem refRead_any (w : World) (B r : Nat) (st : DSt) (F : List Nat) (a : Int) (h : RefIs w B r st F) (hp : st.pend.length ≤ 1099511627776) (hf : st.rd < 4611686018427387904) :
    Calls Try.prog 64 #[.pointer (some ⟨r, 0, none⟩), .int .i64 a] w fun e w' => e = .returned (.tuple #[.agg (secA (rdSec st a)), .int .i64 (rdRes st a)]) ∧ RefIs w' B r (rdSt st a) F ∧ Keep F w w' := by
  have h9 := h
  have h8 := h.ok
  obtain ⟨vl, vp, h1, h2, h3, h4, h5, h6, h7, -⟩ := h
  have b1 := below_alloc w (.cells (secA secZ) 44)
  have h1a := h1.kept (b1.block r h1.lt)
  have h9a := h9.later b1
  have hZ := ScR.new w secZ 44
  obtain ⟨-, -, -, c3, -⟩ := h1a.cells
  by_cases hd : st.down = true
  · rw [hd] at c3
    have HR : Hid (rdRes st a = 21) := by show _ = _; unfold rdRes; rw [if_pos hd]
    have HQ : Hid (rdSec st a = secZ) := by show _ = _; unfold rdSec; rw [HR.out]; rfl
    have HS : Hid (rdSt st a = st) := by show _ = _; unfold rdSt; rw [HR.out]; rfl
    have HK : Hid _ := h9a
    clear h1 h2 h3 h5 h6 h7 h9 h1a h9a b1
    go_enter Try.func64, Try.ntmps64
    go_wp2
    exact sec_bodyPost2 4 5 w.heap.size secZ rfl rfl rfl (ScR.new w secZ 44) ⟨by rw [HR.out, HQ.out]; rfl, by rw [HS.out]; exact HK.out, Keep.of_below (below_alloc _ _)⟩
  · have hd' : st.down = false := by simpa using hd
    rw [hd'] at c3
    obtain ⟨xl, cl, rfl⟩ := (h2.isK secE_ok).len
    obtain ⟨xp, cp, rfl⟩ := (h3.isK wrE_ok).len
    have ht := refThere_any r _ _ st xl cl a (w.alloc (.cells (secA secZ) 44)) h1a rfl
    obtain ⟨tb, htb⟩ : ∃ b, thereB st a = b := ⟨_, rfl⟩
    rw [htb] at ht
    cases tb with
    | false =>
      have HR : Hid (rdRes st a = 20) := by show _ = _; unfold rdRes; rw [if_neg hd, htb]; rfl
      have HQ : Hid (rdSec st a = secZ) := by show _ = _; unfold rdSec; rw [HR.out]; rfl
      have HS : Hid (rdSt st a = st) := by show _ = _; unfold rdSt; rw [HR.out]; rfl
      have HK : Hid _ := h9a
      clear h1 h2 h3 h5 h6 h7 h9 h1a h9a b1
      go_enter Try.func64, Try.ntmps64
      go_wp2_with fail
      refine ht.mono ?_
      rintro e w' ⟨rfl, rfl⟩
      go_wp2
      exact sec_bodyPost2 4 5 w.heap.size secZ rfl rfl rfl (ScR.new w secZ 44) ⟨by rw [HR.out, HQ.out]; rfl, by rw [HS.out]; exact HK.out, Keep.of_below (below_alloc _ _)⟩
    | true =>
      have hta : 0 ≤ a ∧ a < (st.last.length : Int) := by unfold thereB at htb; simpa using htb
      obtain ⟨m, rfl⟩ : ∃ m : Nat, a = (m : Int) := ⟨a.toNat, by omega⟩
      have hml : m < st.last.length := by omega
      obtain ⟨s0, hs0⟩ : ∃ s, st.last[m]? = some s := ⟨st.last[m], List.getElem?_eq_getElem hml⟩
      obtain ⟨r1, hr1⟩ : ∃ k, st.rd + 1 = k := ⟨_, rfl⟩
      have HR : Hid (rdRes st (m : Int) = 0) := by show _ = _; unfold rdRes; rw [if_neg hd, htb]; rfl
      have HQ : Hid (rdSec st (m : Int) = curS st m st.pend.length) := by show _ = _; unfold rdSec curS; rw [if_pos HR.out, List.take_of_length_le (Nat.le_refl _)]; rfl
      have HS : Hid (rdSt st (m : Int) = { st with rd := r1 }) := by show _ = _; unfold rdSt; rw [if_pos HR.out, hr1]
      obtain ⟨g, rfl, hg⟩ := h2.form (by have := h8.lo; omega)
      obtain ⟨-, -, -, -, c4, -⟩ := h1a.cells
      have f4 := h1a.frozen 4
      have hRR : RefRow ((w.alloc (.cells (secA secZ) 44)).setCell ⟨r, 4, none⟩ (.int .i64 (r1 : Int))) r _ _ { st with rd := r1 } := h1a.set 4 _ rfl
      have hK1 : Keep [r] (w.alloc (.cells (secA secZ) 44)) ((w.alloc (.cells (secA secZ) 44)).setCell ⟨r, 4, none⟩ (.int .i64 (r1 : Int))) := Keep.of_grown (grown_cell _ _ _ _) (fun q hq => by cases hq; simp)
      have hL := (h2.keep b1).keeps hK1 (fun q hq => by simpa using (h5 q hq).2.1)
      have hP := (h3.keep b1).keeps hK1 (fun q hq => by simpa using (h6 q hq).2)
      have hRd : RefIs ((w.alloc (.cells (secA secZ) 44)).setCell ⟨r, 4, none⟩ (.int .i64 (r1 : Int))) B r { st with rd := r1 } F :=
        ⟨_, _, hRR, hL, hP, h4, h5, h6, fun q hq => ⟨(h7 q hq).1, Nat.lt_of_lt_of_le (h7 q hq).2 (Nat.le_trans b1.size hK1.size)⟩, ⟨h8.at_, h8.lo, h8.hi, h8.l0, h8.l1⟩⟩
      have hKF : Keep F w ((w.alloc (.cells (secA secZ) 44)).setCell ⟨r, 4, none⟩ (.int .i64 (r1 : Int))) := (Keep.of_below b1).trans (hK1.mono (fun q hq => .inl (by simp only [List.mem_singleton] at hq; subst hq; exact h4)))
      have hZ1 : ScR ((w.alloc (.cells (secA secZ) 44)).setCell ⟨r, 4, none⟩ (.int .i64 (r1 : Int))) w.heap.size secZ := hZ.set_ne 4 _ (by have := h1.lt; omega)
      have hr0 := hL.range secE_ok m s0 hs0
      rw [secE_k, secE_enc] at hr0
      obtain ⟨ok0, rg0⟩ := rg_of hr0 (by simp : (secA s0).toList.length = 64)
      rw [toA] at rg0
      obtain ⟨n, hn⟩ : ∃ n, st.last.length = n := ⟨_, rfl⟩
      obtain ⟨np, hnp⟩ : ∃ n, st.pend.length = n := ⟨_, rfl⟩
      have wr1 : IntKind.i64.wrap (r1 : Int) = (r1 : Int) := by rw [IntKind.wrap_i64]; omega
      have wr2 : (st.rd : Int) + 1 = (r1 : Int) := by omega
      have m0 : (0 : Int) ≤ (m : Int) := by omega
      have m1 : (m : Int) < (n : Int) := by omega
      have hzs : ((w.alloc (.cells (secA secZ) 44)).setCell ⟨r, 4, none⟩ (.int .i64 (r1 : Int))).heap.size = w.heap.size + 1 := by simp [World.setCell]
      rw [hn, hnp] at hRR
      rw [hnp] at hP hp HQ
      obtain ⟨d0, d1, -⟩ := hRR.cells
      have HFl : Hid (∀ q ∈ F, q < w.heap.size) := fun q hq => (h7 q hq).2
      have hpb0 := fun q hq => (World.ownsRow.lt h3 q hq).2
      rw [hnp] at hpb0
      have HPB : Hid _ := hpb0
      clear hpb0
      clear h1 h2 h3 h5 h6 h7 h9 h1a h9a b1 hZ hL hK1 hr0 hta htb
      go_enter Try.func64, Try.ntmps64
      go_wp2_with fail
      refine ht.mono ?_
      rintro e w' ⟨rfl, rfl⟩
      clear ht
      go_upto_region 6 with fail
      generalize ((w.alloc (.cells (secA secZ) 44)).setCell ⟨r, 4, none⟩ (.int .i64 (r1 : Int))) = X at hRR hP hRd hKF hZ1 ok0 rg0 d0 d1 hzs ⊢
      obtain ⟨gz, hgz⟩ : ∃ g, w.heap.size = g := ⟨_, rfl⟩
      simp only [hgz]
      rw [hgz] at hZ1 hzs
      have b2 := below_alloc X (.cells (secA s0) 44)
      have hS1 := ScR.new X s0 44
      have hZ2 := hZ1.kept b2
      have hRR2 := hRR.kept (b2.block r hRR.lt)
      have hP2 := hP.keep b2
      have hrl := hRR2.lt
      have hrl0 := hRR.lt
      have hgzX : gz < X.heap.size := by omega
      clear hzs
      go_wp2_with fail
      have hpb := HPB.out
      have hFl := HFl.out
      obtain ⟨gs, hgs⟩ : ∃ g, X.heap.size = g := ⟨_, rfl⟩
      simp only [hgs]
      rw [hgs] at hS1 hgzX hrl0
      generalize X.alloc (.cells (secA s0) 44) = X1 at b2 hS1 hZ2 hRR2 hP2 hrl ⊢
      have hgsl := hS1.lt
      have hgzl := hZ2.lt
      clear d0 d1 ok0 rg0
      go_loopw [7] (fun v wr => ∃ i : Nat, i ≤ np ∧ v = .int .i64 i ∧ ScR wr gs (curS st m i) ∧ X1.grownBy wr (some gs)) (fun v _ => np - (intOf v).toNat)
      case atStart => exact ⟨0, by omega, rfl, by rw [curS_zero st m s0 hs0]; exact hS1, grown_drew X1 0 _⟩
      case round =>
        clear hS1
        obtain ⟨i, hi, rfl, hS, hG⟩ := hrel
        have hK : Keep [gs] X1 wr := Keep.of_grown hG (fun q hq => by cases hq; simp)
        have hRw := hRR2.kept (hG.block r hrl (fun e => by cases e; omega))
        obtain ⟨-, k1, -⟩ := hRw.cells
        have i0 : (0 : Int) ≤ (i : Int) := by omega
        by_cases hlt : i < np
        · have i1 : (i : Int) < (np : Int) := by omega
          obtain ⟨x, hx⟩ : ∃ x, st.pend[i]? = some x := ⟨st.pend[i]'(by omega), List.getElem?_eq_getElem (by omega)⟩
          obtain ⟨b, hb, hbl⟩ := pend_at h8 hx
          have hPw := hP2.keeps hK (fun q hq => by have := hpb q hq; simp; omega)
          obtain ⟨gp, rfl, hgp⟩ := hPw.form (by omega)
          obtain ⟨d0, dok, drg⟩ := wrCells hPw i x hx
          rw [hb] at d0
          by_cases he : b = m
          · have hbm : (b : Int) = (m : Int) := by omega
            have hc := curS_new st m i x hx (by rw [hb, he]) (by omega)
            have hS2 : ScR (wr.setRow gs (secA x.2)) gs x.2 := ⟨rowOk_setRow_same _ _ _ hS.1 (secA_size _), rowAt_setRow_same _ _ _ hS.1⟩
            rw [← hc] at hS2 drg
            have HS2 : Hid _ := hS2
            have HG : Hid _ := grown_two hG (setRow_grown wr gs (secA x.2))
            rw [← hc] at HG
            obtain ⟨rok, rat⟩ := hS
            clear hS2 hG hK hRw hPw hx hb hc
            subst he
            generalize hcs : curS st b (i + 1) = s1 at *
            go_wp2
            go_roundw
            case rel => exact ⟨i + 1, by omega, by go_num, by rw [hcs]; exact HS2.out, HG.out⟩
            case measure => simp [intOf]; omega
          · have hbm : ¬ (b : Int) = (m : Int) := by omega
            rw [← curS_same st m i b x hx hb he] at hS
            have HS2 : Hid _ := hS
            have HG : Hid _ := hG
            clear hS hG hK hRw hPw hx hb dok drg
            go_wp2
            go_roundw
            case rel => exact ⟨i + 1, by omega, by go_num, HS2.out, HG.out⟩
            case measure => simp [intOf]; omega
        · obtain rfl : i = np := by omega
          have hZw := hZ2.1
          have hZb : wr.heap[gz]? = X1.heap[gz]? := hG.block gz hgzl (fun e => by cases e; omega)
          have hZ3 : ScR wr gz secZ := by
            unfold ScR rowOk rowAt at *
            rw [hZb]; exact hZ2
          have hE : ScR (wr.setRow gz (secA (curS st m i))) gz (curS st m i) := ⟨rowOk_setRow_same _ _ _ hZ3.1 (secA_size _), rowAt_setRow_same _ _ _ hZ3.1⟩
          have hK9 : Keep [gs, gz] X (wr.setRow gz (secA (curS st m i))) := ((Keep.of_below b2).trans (hK.mono (fun q hq => .inl (by simp only [List.mem_singleton] at hq; simp [hq])))).trans (Keep.of_grown (setRow_grown wr gz _) (fun q hq => by cases hq; simp))
          have HF : Hid (RefIs (wr.setRow gz (secA (curS st m i))) B r (rdSt st (m : Int)) F) := by
            show RefIs _ _ _ _ _
            rw [HS.out]
            exact hRd.keeps hK9 (fun q hq => by have := hFl q hq; simp; omega)
          have HK : Hid (Keep F w (wr.setRow gz (secA (curS st m i)))) := by
            refine ⟨hK9.os.trans hKF.os, hK9.tape.trans hKF.tape, hK9.output.trans hKF.output, Nat.le_trans hKF.size hK9.size, fun q hq hn => ?_⟩
            rw [hK9.block q (Nat.lt_of_lt_of_le hq hKF.size) (by simp; omega)]
            exact hKF.block q hq hn
          have HE : Hid _ := hE
          obtain ⟨rok, rat⟩ := hS
          obtain ⟨zok, zat⟩ := hZ3
          clear hE hK9 hG hK hRw hP hP2 hRR hRR2 hRd hKF hZ1 hZ2 hZw hZb b2
          generalize hcs : curS st m i = s1 at *
          go_wp2
          exact sec_bodyPost2 4 5 gz s1 rfl rfl rfl HE.out ⟨by rw [HR.out, HQ.out]; rfl, HF.out, HK.out⟩
end Go.Proofs.Ytpckdkgbeemalaa
namespace Go.Proofs.Ytpckdkgbeemalaa
open Go.RowKit

/-! The document's device: Copy, Write -/
end Go.Proofs.Ytpckdkgbeemalaa
namespace Go.Proofs.Ytpckdkgbeemalaa
open Go.RowKit

/-! What a device owes, whatever it is made of: DevIs w d st F R: at w the device d is in the state st; it may write the blocks F, and it reads no others than R. -/
section
variable {DevIs : World → Value → DSt → List Nat → List Nat → Prop}
end
end Go.Proofs.Ytpckdkgbeemalaa
namespace Go.Proofs.Ytpckdkgbeemalaa
open Go.RowKit

/-! The device as it landed: its pending acts (a write, and a function value that holds where the place and the sector lie) -/
abbrev Ac := Wr × Nat × Nat
def cloV (ga gs : Nat) : Value := .func (.func 67) #[] #[.pointer (some ⟨gs, 0, none⟩), .pointer (some ⟨ga, 0, none⟩)]
def actA (x : Ac) : Array Value := wrA x.1 ++ #[cloV x.2.1 x.2.2]
def actZ : Array Value := wrA wrZ ++ #[.nilFunc]
theorem actA_size (x : Ac) : (actA x).size = 66 := by simp [actA, wrA_size]
theorem actZ_size : actZ.size = 66 := by simp [actZ, wrA_size]
theorem actA_list (x : Ac) : (actA x).toList = (wrA x.1).toList ++ [cloV x.2.1 x.2.2] := by simp [actA]
theorem actA_one (x : Ac) : (actA x).all (·.oneCell') = true := by
  rw [Array.all_eq_true_iff_forall_mem]
  intro v hv
  simp only [actA, Array.mem_append] at hv
  rcases hv with hv | hv
  · exact Array.all_eq_true_iff_forall_mem.1 (wrA_one x.1) v hv
  · simp at hv; subst hv; rfl
def actE : EK Ac := { T := 81, S := 65, k := 66, bytes := 80, z := .agg actZ, enc := fun x => (actA x).toList }
theorem actE_ok : actE.Ok where
  len x := by unfold actE; simp only; rw [Array.length_toList]; exact actA_size x
  one x v hv := by
    unfold actE at hv
    simp only at hv
    exact Array.all_eq_true_iff_forall_mem.1 (actA_one x) v (Array.mem_toList_iff.1 hv)
  und := Try.underlying65
  info := by
    have h : (Try.prog.info? 81).map (fun i => (i.zero, i.size, i.bytes)) = some (some (.agg actZ), 66, 80) := by kernel_rfl
    exact h
  zc := by unfold actE; simp only [Value.cells]; exact actZ_size
  kp := by show 0 < 66; omega
  row := ⟨_, Try.underlying81, rfl⟩
theorem actE_k : actE.k = 66 := rfl
theorem actE_enc (x : Ac) : actE.enc x = (actA x).toList := by simp only [actE]
theorem size_act : (Try.prog.info? 81).map (·.size) = some 66 := by kernel_rfl
theorem zero_act (w : World) : (zeroValue 81).run Try.prog w = .ok (.agg actZ) w := by
  have h : (Try.prog.info? 81).map (fun i => (i.zero, i.size)) = some (some (.agg actZ), 66) := by kernel_rfl
  exact (zero_of_info h).1 w
theorem zero_wr (w : World) : (zeroValue 54).run Try.prog w = .ok (.agg (wrA wrZ)) w := by
  have h : (Try.prog.info? 54).map (fun i => (i.zero, i.size)) = some (some (.agg (wrA wrZ)), 65) := by kernel_rfl
  exact (zero_of_info h).1 w
def actLoad (p : Value) : Sem Next := do pure (.value (← Instr.loadAt 81 p))
def actStore (p x : Value) : Sem Next := do Instr.storeAt 81 p x; pure .skip
def actAlloc : Sem Next := do pure (.value (← Instr.alloc 81 true (.tuple #[])))
def wrAlloc : Sem Next := do pure (.value (← Instr.alloc 54 true (.tuple #[])))
def actBuild2 (x y : Value) : Sem Next := do pure (.value (← Instr.build 81 #[(0, x), (1, y)]))
def actBS (x : Value) : Sem Next := do pure (.value (← Instr.buildSlice 65 1 #[(0, x)]))
def actBS0 : Sem Next := do pure (.value (← Instr.buildSlice 65 0 #[]))
def secBS0 : Sem Next := do pure (.value (← Instr.buildSlice 32 0 #[]))
section
variable (ρ : Operand → Value) (dst : Option Tmp) (ty ty' : TypeId) (pos : String) (after : Array Edge) (guard : Option (Nat × Bool))
@[go_sem ↓] theorem execOp_actLoad (x : Operand) : execOp ρ { dst, op := .load 81 x, type := ty, pos, after, guard } = actLoad (ρ x) := rfl
@[go_sem ↓] theorem execOp_actStore (x y : Operand) : execOp ρ { dst, op := .store 81 x y, type := ty, pos, after, guard } = actStore (ρ x) (ρ y) := rfl
@[go_sem ↓] theorem execOp_actAlloc : execOp ρ { dst, op := .alloc 81, type := ty, pos, after, guard } = actAlloc := rfl
@[go_sem ↓] theorem execOp_wrAlloc : execOp ρ { dst, op := .alloc 54, type := ty, pos, after, guard } = wrAlloc := rfl
@[go_sem ↓] theorem execOp_actBuild2 (x y : Operand) : execOp ρ { dst, op := .build 81 #[(0, x), (1, y)], type := ty, pos, after, guard } = actBuild2 (ρ x) (ρ y) := by simp [execOp, actBuild2]
@[go_sem ↓] theorem execOp_actBS (x : Operand) : execOp ρ { dst, op := .buildSlice 65 1 #[(0, x)], type := ty, pos, after, guard } = actBS (ρ x) := by simp [execOp, actBS]
@[go_sem ↓] theorem execOp_actBS0 : execOp ρ { dst, op := .buildSlice 65 0 #[], type := ty, pos, after, guard } = actBS0 := by simp [execOp, actBS0]
@[go_sem ↓] theorem execOp_secBS0 : execOp ρ { dst, op := .buildSlice 32 0 #[], type := ty, pos, after, guard } = secBS0 := by simp [execOp, secBS0]
end
@[go_sem] theorem run_actLoad_mid (w : World) (b o : Nat) (h : rgOk w b o 66 = true) : (actLoad (.pointer (some ⟨b, o, none⟩))).run Try.prog w = .ok (.value (.agg (rg w b o 66))) w := by
  simp only [actLoad, Sem.run_bind]
  rw [run_loadAt_mid w b o 81 _ _ (rangeAt_rg h) Try.underlying81 rfl (by rw [size_act, Array.length_toList, rg_size])]
  rfl
@[go_sem] theorem run_actAlloc (w : World) : actAlloc.run Try.prog w = .ok (.value (.pointer (some ⟨w.heap.size, 0, none⟩))) (w.alloc (.cells actZ 81)) := by
  simp only [actAlloc, Instr.alloc, Sem.run_bind, zero_act, Result.andThen_ok]
  rfl
@[go_sem] theorem run_wrAlloc (w : World) : wrAlloc.run Try.prog w = .ok (.value (.pointer (some ⟨w.heap.size, 0, none⟩))) (w.alloc (.cells (wrA wrZ) 54)) := by
  simp only [wrAlloc, Instr.alloc, Sem.run_bind, zero_wr, Result.andThen_ok]
  rfl
@[go_sem] theorem run_actStore (w : World) (n : Nat) (x : Ac) (h : n = w.heap.size) : (actStore (.pointer (some ⟨n, 0, none⟩)) (.agg (actA x))).run Try.prog (w.alloc (.cells actZ 81)) = .ok .skip (w.alloc (.cells (actA x) 81)) := by
  simp only [actStore, Instr.storeAt, Instr.sureAddr, Sem.run_bind, Sem.run_pure, Result.andThen_ok]
  rw [run_storeVar_row _ n 81 81 actZ (actA x) (by rw [h]; exact heap_alloc_last w _) (by rw [size_act, actA_size]) (by rw [actA_size, actZ_size]) (actA_one x), setRow_new w n _ _ _ h]; rfl
@[go_sem] theorem run_wrStore (w : World) (n : Nat) (x : Wr) (h : n = w.heap.size) : (wrStore (.pointer (some ⟨n, 0, none⟩)) (.agg (wrA x))).run Try.prog (w.alloc (.cells (wrA wrZ) 54)) = .ok .skip (w.alloc (.cells (wrA x) 54)) := by
  simp only [wrStore, Instr.storeAt, Instr.sureAddr, Sem.run_bind, Sem.run_pure, Result.andThen_ok]
  rw [run_storeVar_row _ n 54 54 (wrA wrZ) (wrA x) (by rw [h]; exact heap_alloc_last w _) (by rw [size_wr, wrA_size]) (by rw [wrA_size, wrA_size]) (wrA_one x), setRow_new w n _ _ _ h]; rfl
@[go_sem] theorem run_actBS (w : World) (x : Ac) : (actBS (.agg (actA x))).run Try.prog w = .ok (.value (.slice (some ⟨w.heap.size, 0, none⟩) 1 1)) (w.alloc (.cells (actA x) 81)) := by
  have h := run_litK1 actE_ok (by show 66 ≤ 1000; omega) w x
  simp only [actE, toA] at h
  simp only [actBS, Sem.run_bind, h]
  rfl
@[go_sem] theorem run_actBS0 (w : World) : actBS0.run Try.prog w = .ok (.value (.slice (some ⟨w.heap.size, 0, none⟩) 0 0)) (w.alloc (.cells #[] 81)) := by
  have h := run_litK0 actE_ok w
  simp only [actE] at h
  simp only [actBS0, Sem.run_bind, h]
  rfl
@[go_sem] theorem run_secBS0 (w : World) : secBS0.run Try.prog w = .ok (.value (.slice (some ⟨w.heap.size, 0, none⟩) 0 0)) (w.alloc (.cells #[] 44)) := by
  have h := run_litK0 secE_ok w
  simp only [secE] at h
  simp only [secBS0, Sem.run_bind, h]
  rfl
theorem actPlaces : (Try.prog.info? 54).map (·.size) = some 65 ∧ (Try.prog.info? 79).map (·.size) = some 1 := ⟨by kernel_rfl, by kernel_rfl⟩
theorem built_act (ps : List (Nat × Value)) : Try.prog.built 81 ps = Instr.fill (fun i => #[(0, 65), (65, 1)][i]?) actZ ps := by
  obtain ⟨i, hi, hzz⟩ := Option.map_eq_some_iff.1 actE_ok.info
  simp only [Prod.mk.injEq] at hzz
  obtain ⟨i1, h1, s1⟩ := Option.map_eq_some_iff.1 actPlaces.1
  obtain ⟨i2, h2, s2⟩ := Option.map_eq_some_iff.1 actPlaces.2
  have hz : i.zero = some (.agg actZ) := hzz.1
  have hi' : Try.prog.info? 81 = some i := hi
  unfold Program.built
  simp only [hi', Try.underlying81, hz]
  simp [h1, h2, s1, s2, Value.cells]
def actP (i : Nat) : Option (Nat × Nat) := #[(0, 65), (65, 1)][i]?
theorem fill_act1 (x : Wr) (ps : List (Nat × Value)) : Instr.fill actP actZ ((0, .agg (wrA x)) :: ps) = Instr.fill actP (wrA x ++ #[.nilFunc]) ps := by
  have hc : (Value.agg (wrA x)).cells = wrA x := rfl
  have hp : actP 0 = some (0, 65) := rfl
  have e : ((wrA x).zipIdx.foldl (fun (cs : Array Value) p => cs.setIfInBounds (0 + p.2) p.1) actZ) = wrA x ++ #[.nilFunc] := by
    apply Array.ext_getElem?
    intro i
    rw [blit_get, actZ_size, wrA_size]
    by_cases h1 : i < 65
    · rw [if_pos (by omega), Array.getElem?_append_left (by rw [wrA_size]; exact h1), Nat.sub_zero]
    · rw [if_neg (by omega)]
      unfold actZ
      rw [Array.getElem?_append_right (by rw [wrA_size]; omega), Array.getElem?_append_right (by rw [wrA_size]; omega), wrA_size, wrA_size]
  rw [← e]
  have hs := wrA_size x
  generalize wrA x = Y at hc hs
  have hz := actZ_size
  generalize actZ = Z at hz
  rw [Instr.fill]
  simp only [hp]
  rw [hc, if_neg (by simp [hs, hz])]
theorem fill_act2 (x : Wr) (ga gs : Nat) : Instr.fill actP (wrA x ++ #[.nilFunc]) [(1, cloV ga gs)] = some (actA (x, ga, gs)) := by
  have hc : (cloV ga gs).cells = #[cloV ga gs] := rfl
  have hp : actP 1 = some (65, 1) := rfl
  have e : ((#[cloV ga gs]).zipIdx.foldl (fun (cs : Array Value) p => cs.setIfInBounds (65 + p.2) p.1) (wrA x ++ #[.nilFunc])) = actA (x, ga, gs) := by
    apply Array.ext_getElem?
    intro i
    rw [blit_get]
    unfold actA
    by_cases h1 : i < 65
    · rw [if_neg (by omega), Array.getElem?_append_left (by rw [wrA_size]; exact h1), Array.getElem?_append_left (by rw [wrA_size]; exact h1)]
    · rw [Array.getElem?_append_right (by rw [wrA_size]; omega), Array.getElem?_append_right (by rw [wrA_size]; omega), wrA_size]
      by_cases h2 : i = 65
      · subst h2
        rw [if_pos (by simp [wrA_size])]
      · rw [if_neg (by simp; omega), Array.getElem?_eq_none (by simp; omega), Array.getElem?_eq_none (by simp; omega)]
  rw [← e]
  have hz : (wrA x ++ #[Value.nilFunc]).size = 66 := by simp [wrA_size]
  generalize wrA x ++ #[Value.nilFunc] = Z at hz
  rw [Instr.fill]
  simp only [hp]
  rw [hc, if_neg (by simp [hz])]
  rw [Instr.fill]
@[go_sem] theorem run_actBuild2 (w : World) (x : Wr) (ga gs : Nat) : (actBuild2 (.agg (wrA x)) (cloV ga gs)).run Try.prog w = .ok (.value (.agg (actA (x, ga, gs)))) w := by
  simp only [actBuild2, Sem.run_bind]
  rw [run_build w 81 _ (actA (x, ga, gs)) (by rw [built_act]; show Instr.fill actP _ [(0, .agg (wrA x)), (1, cloV ga gs)] = _; rw [fill_act1, fill_act2])]
  rfl
/-- What lies in an act of a slice. -/
theorem actCells {w : World} {B g n c : Nat} {ms : List Ac} (h : OwnK actE w B (.slice (some ⟨g, 0, none⟩) n c) ms) (i : Nat) (x : Ac) (hi : ms[i]? = some x) : rgOk w g (i * 66) 66 = true ∧ rg w g (i * 66) 66 = actA x := by
  have hr := h.range actE_ok i x hi
  rw [actE_k, actE_enc] at hr
  have h2 := rg_of (k := 66) hr (by rw [Array.length_toList]; exact actA_size x)
  rw [toA] at h2
  exact h2
theorem actCells2 {w : World} {B g n c : Nat} {ms : List Ac} (h : OwnK actE w B (.slice (some ⟨g, 0, none⟩) n c) ms) (i : Nat) (x : Ac) (hi : ms[i]? = some x) : rgOk w g (i * 66) 65 = true ∧ rg w g (i * 66) 65 = wrA x.1 := by
  have hr := h.range actE_ok i x hi
  rw [actE_k, actE_enc, actA_list] at hr
  have h1 : w.rangeAt g (i * 66) (wrA x.1).toList := fun j u hu => hr j u (by
    rw [List.getElem?_append_left (by have := (List.getElem?_eq_some_iff.1 hu).1; exact this)]; exact hu)
  have h2 := rg_of (k := 65) h1 (by rw [Array.length_toList]; exact wrA_size x.1)
  rw [toA] at h2
  exact h2
/-- A row of its own that holds an act, or a write. -/
theorem actRow (w : World) (x : Ac) : (w.alloc (.cells (actA x) 81)).cell? ⟨w.heap.size, 65, none⟩ = some (cloV x.2.1 x.2.2) ∧ rgOk (w.alloc (.cells (actA x) 81)) w.heap.size 0 65 = true ∧ rg (w.alloc (.cells (actA x) 81)) w.heap.size 0 65 = wrA x.1 := by
  have hg := heap_alloc_last w (.cells (actA x) 81)
  have hc : ∀ i, (w.alloc (.cells (actA x) 81)).cell? ⟨w.heap.size, i, none⟩ = (actA x)[i]? := fun i => cell_of_row _ _ i _ _ _ hg
  have h1 : (w.alloc (.cells (actA x) 81)).rangeAt w.heap.size 0 (wrA x.1).toList := fun j u hu => by
    have hj := (List.getElem?_eq_some_iff.1 hu).1
    rw [Array.length_toList] at hj
    rw [Nat.zero_add, hc]
    unfold actA
    rw [Array.getElem?_append_left hj, ← Array.getElem?_toList]; exact hu
  have h2 := rg_of (k := 65) h1 (by rw [Array.length_toList]; exact wrA_size x.1)
  rw [toA] at h2
  refine ⟨?_, h2⟩
  rw [hc]
  unfold actA
  rw [Array.getElem?_append_right (by rw [wrA_size]; omega), wrA_size]
  rfl
theorem wrRow (w : World) (x : Wr) : (w.alloc (.cells (wrA x) 54)).cell? ⟨w.heap.size, 0, none⟩ = some (.int .i64 x.1) ∧ rgOk (w.alloc (.cells (wrA x) 54)) w.heap.size 1 64 = true ∧ rg (w.alloc (.cells (wrA x) 54)) w.heap.size 1 64 = secA x.2 := by
  have hg := heap_alloc_last w (.cells (wrA x) 54)
  have hc : ∀ i, (w.alloc (.cells (wrA x) 54)).cell? ⟨w.heap.size, i, none⟩ = (wrA x)[i]? := fun i => cell_of_row _ _ i _ _ _ hg
  have h1 : (w.alloc (.cells (wrA x) 54)).rangeAt w.heap.size 1 (secA x.2).toList := fun j u hu => by
    rw [hc]
    unfold wrA
    rw [Array.getElem?_append_right (by simp), ← Array.getElem?_toList]
    simpa using hu
  have h2 := rg_of h1 (by simp : (secA x.2).toList.length = 64)
  rw [toA] at h2
  exact ⟨by rw [hc, wrA_at], h2⟩
end Go.Proofs.Ytpckdkgbeemalaa
namespace Go.Proofs.Ytpckdkgbeemalaa
open Go.RowKit

/-! The function value: it lays the sector. -/
set_option linter.unusedSimpArgs false in
theorem clo_any (w : World) (B g n c a ga gs : Nat) (s : Sc) (ms : List Sc) (hO : OwnK secE w B (.slice (some ⟨g, 0, none⟩) n c) ms) (ha : a < n) (hga : w.cell? ⟨ga, 0, none⟩ = some (.int .i64 (a : Int))) (hgs : ScR w gs s) :
    Calls Try.prog 67 #[.slice (some ⟨g, 0, none⟩) n c, .pointer (some ⟨gs, 0, none⟩), .pointer (some ⟨ga, 0, none⟩)] w fun e w' => e = .returned (.tuple #[]) ∧ w' = w.setCells g (a * 64) (secA s).toList := by
  have hst := secStore_mid hO a s ha
  obtain ⟨rok, rat⟩ := hgs
  have a0 : (0 : Int) ≤ (a : Int) := by omega
  have a1 : (a : Int) < (n : Int) := by omega
  clear hO
  generalize w.setCells g (a * 64) (secA s).toList = X at hst ⊢
  go_enter Try.func67, Try.ntmps67
  go_wp2
  go_end0
  exact ⟨rfl, rfl⟩
@[go_sem] theorem eqNil_sec (w : World) (a : Option Addr) (n c : Nat) : (binOp .eql 32 (.slice a n c) (.slice none 0 0)).run Try.prog w = .ok (.bool a.isNone) w := Lib.run_eql_slice_nil w _ _ a n c 0 0 Try.underlying32
@[go_sem] theorem eqNil_act (w : World) (a : Option Addr) (n c : Nat) : (binOp .eql 65 (.slice a n c) (.slice none 0 0)).run Try.prog w = .ok (.bool a.isNone) w := Lib.run_eql_slice_nil w _ _ a n c 0 0 Try.underlying65
set_option linter.unusedSimpArgs false in
theorem cloneSec (w : World) (x : Option Addr) (n c : Nat) (ds : List Sc) (hn : ds.length = n) (h : IsK secE w (.slice x n c) ds) (hl : n ≤ 1099511627776) :
    Calls Try.prog 24 #[.slice x n c] w fun e w' => ∃ y c', e = .returned (.slice y n c') ∧ OwnK secE w' w.heap.size (.slice y n c') ds ∧ Below w.heap.size w w' := by
  cases x with
  | none =>
    obtain rfl : ds = [] := by
      cases ds with
      | nil => rfl
      | cons d r => obtain ⟨b, o, hx, -⟩ := h.at 0 d rfl; cases hx
    obtain rfl : n = 0 := by simpa using hn.symm
    have HO : Hid _ := OwnK.nil secE w w.heap.size
    clear h
    go_enter Try.func24, Try.ntmps24
    go_wp2
    go_ret
    exact ⟨none, 0, rfl, HO.out, Below.refl _ _⟩
  | some x =>
    have hb := below_alloc w (.cells #[] 44)
    have hO := OwnK.lit0 secE w
    have hI := h.kept hb
    rw [← hn] at hI
    obtain ⟨y, c', w1, hr, hO1, hB1⟩ := run_copyK secE_ok (w.alloc (.cells #[] 44)) _ (some x) c ds w.heap.size 32 hO (by simp) hI (by show ds.length * 64 ≤ _; omega) (by unfold maxLen; omega)
    have hS : secE.S = 32 := rfl
    rw [hS, hn] at hr
    rw [hn] at hO1
    have HO : Hid _ := hO1
    have HB : Hid (Below w.heap.size w w1) := hb.trans hB1
    clear hO hI hO1 hB1 hb h
    go_enter Try.func24, Try.ntmps24
    go_wp2_with (at_builtin; refine wpL_appT 32 rfl _ _ rfl _ w1 (by exact hr) ?_)
    go_ret
    exact ⟨y, c', rfl, HO.out, HB.out⟩
/-! The device: its row, and what it is -/
def devA (vl vp : Value) (sp : Int) (st : DSt) : Array Value := #[vl, vp, .bool st.down, .int .i64 sp, .int .i64 (st.rd : Int), .int .i64 (st.wt : Int), .int .i64 (st.fl : Int)]
def DevRow (w : World) (r : Nat) (vl vp : Value) (sp : Int) (st : DSt) : Prop := w.heap[r]? = some (.cells (devA vl vp sp st) 67 (0, 0))
section
variable {w w' : World} {r : Nat} {vl vp : Value} {sp : Int} {st : DSt}
theorem DevRow.lt (h : DevRow w r vl vp sp st) : r < w.heap.size := (Array.getElem?_eq_some_iff.1 h).1
theorem DevRow.cells (h : DevRow w r vl vp sp st) :
    w.cell? ⟨r, 0, none⟩ = some vl ∧ w.cell? ⟨r, 1, none⟩ = some vp ∧ w.cell? ⟨r, 2, none⟩ = some (.bool st.down) ∧ w.cell? ⟨r, 3, none⟩ = some (.int .i64 sp) ∧ w.cell? ⟨r, 4, none⟩ = some (.int .i64 (st.rd : Int)) ∧ w.cell? ⟨r, 5, none⟩ = some (.int .i64 (st.wt : Int)) ∧ w.cell? ⟨r, 6, none⟩ = some (.int .i64 (st.fl : Int)) := by
  unfold DevRow at h
  unfold World.cell?
  simp only [h]
  exact ⟨rfl, rfl, rfl, rfl, rfl, rfl, rfl⟩
theorem DevRow.frozen (h : DevRow w r vl vp sp st) (i : Nat) : w.frozen? ⟨r, i, none⟩ = false := by
  unfold DevRow at h
  simp [World.frozen?, h]
theorem DevRow.kept (h : DevRow w r vl vp sp st) (hb : w'.heap[r]? = w.heap[r]?) : DevRow w' r vl vp sp st := by
  unfold DevRow at *; rw [hb]; exact h
theorem DevRow.set {vl' vp' : Value} {sp' : Int} {st' : DSt} (h : DevRow w r vl vp sp st) (i : Nat) (v : Value) (e : (devA vl vp sp st).setIfInBounds i v = devA vl' vp' sp' st') : DevRow (w.setCell ⟨r, i, none⟩ v) r vl' vp' sp' st' := by
  unfold DevRow at *
  rw [heap_setCell w r i v _ _ _ h, e]
end
/-- Where an act's place and sector lie. -/
def Boxed (w : World) (y : Ac) : Prop := w.cell? ⟨y.2.1, 0, none⟩ = some (.int .i64 y.1.1) ∧ ScR w y.2.2 y.1.2
structure DevP (w : World) (r : Nat) (vl vp : Value) (ps : List Ac) (sp : Int) (st : DSt) (F R : List Nat) : Prop where
  row : DevRow w r vl vp sp st
  last : OwnK secE w 0 vl st.last
  pend : OwnK actE w 0 vp ps
  eqp : ps.map (·.1) = st.pend
  s0 : -9223372036854775808 ≤ sp
  s1 : sp ≤ 9223372036854775807
  left : st.left = if sp < 0 then -1 else sp
  rF : r ∈ F
  lF : ∀ q, vl.ownBlock = some q → q ∈ F ∧ q ≠ r ∧ vp.ownBlock ≠ some q
  pF : ∀ q, vp.ownBlock = some q → q ∈ F ∧ q ≠ r
  sub : ∀ q ∈ F, q ∈ R
  lt : ∀ q ∈ R, q < w.heap.size
  box : ∀ y ∈ ps, Boxed w y ∧ y.2.1 ∈ R ∧ y.2.1 ∉ F ∧ y.2.2 ∈ R ∧ y.2.2 ∉ F
  ok : StOk st
def DevIs (w : World) (d : Value) (st : DSt) (F R : List Nat) : Prop := ∃ r vl vp ps sp, d = .pointer (some ⟨r, 0, none⟩) ∧ DevP w r vl vp ps sp st F R
theorem cell_block {w w' : World} {b i : Nat} (h : w'.heap[b]? = w.heap[b]?) : w'.cell? ⟨b, i, none⟩ = w.cell? ⟨b, i, none⟩ := by unfold World.cell?; rw [h]
theorem ScR.blk {w w' : World} {g : Nat} {s : Sc} (h : ScR w g s) (hb : w'.heap[g]? = w.heap[g]?) : ScR w' g s := by
  unfold ScR rowOk rowAt at *
  rw [hb]; exact h
theorem Boxed.keeps {w w' : World} {y : Ac} {G : List Nat} (h : Boxed w y) (hK : Keep G w w') (h1 : y.2.1 ∉ G) (h2 : y.2.2 ∉ G) : Boxed w' y :=
  ⟨by rw [cell_block (hK.block _ (World.block_lt_of_cell? w _ h.1) h1)]; exact h.1, h.2.blk (hK.block _ h.2.lt h2)⟩
section
variable {w w' : World} {r : Nat} {vl vp : Value} {ps : List Ac} {sp : Int} {st : DSt} {F R G : List Nat}
theorem DevP.keeps (h : DevP w r vl vp ps sp st F R) (hK : Keep G w w') (hd : ∀ q ∈ R, q ∉ G) : DevP w' r vl vp ps sp st F R where
  row := h.row.kept (hK.block r h.row.lt (hd r (h.sub r h.rF)))
  last := h.last.keeps hK (fun q hq => hd q (h.sub q (h.lF q hq).1))
  pend := h.pend.keeps hK (fun q hq => hd q (h.sub q (h.pF q hq).1))
  eqp := h.eqp
  s0 := h.s0
  s1 := h.s1
  left := h.left
  rF := h.rF
  lF := h.lF
  pF := h.pF
  sub := h.sub
  lt := fun q hq => Nat.lt_of_lt_of_le (h.lt q hq) hK.size
  box := fun y hy => ⟨(h.box y hy).1.keeps hK (hd _ (h.box y hy).2.1) (hd _ (h.box y hy).2.2.2.1), (h.box y hy).2⟩
  ok := h.ok
/-- The row alone has turned. -/
theorem DevP.turned {st' : DSt} {sp' : Int} (h : DevP w r vl vp ps sp st F R) (hg : w.grownBy w' (some r)) (hr : DevRow w' r vl vp sp' st') (e1 : st'.last = st.last) (e2 : st'.pend = st.pend) (h0 : -9223372036854775808 ≤ sp') (h1 : sp' ≤ 9223372036854775807) (hl : st'.left = if sp' < 0 then -1 else sp') (hrn : ∀ y ∈ ps, y.2.1 ≠ r ∧ y.2.2 ≠ r) : DevP w' r vl vp ps sp' st' F R := by
  have hK : Keep [r] w w' := Keep.of_grown hg (fun q hq => by cases hq; simp)
  exact { row := hr, last := by rw [e1]; exact h.last.keeps hK (fun q hq => by simpa using (h.lF q hq).2.1), pend := h.pend.keeps hK (fun q hq => by simpa using (h.pF q hq).2), eqp := by rw [e2]; exact h.eqp, s0 := h0, s1 := h1, left := hl, rF := h.rF, lF := h.lF, pF := h.pF, sub := h.sub,
          lt := fun q hq => Nat.lt_of_lt_of_le (h.lt q hq) hg.size, box := fun y hy => ⟨(h.box y hy).1.keeps hK (by simpa using (hrn y hy).1) (by simpa using (hrn y hy).2), (h.box y hy).2⟩,
          ok := ⟨by rw [e1, e2]; exact h.ok.at_, by rw [e1]; exact h.ok.lo, by rw [e1]; exact h.ok.hi, by rw [hl]; split <;> omega, by rw [hl]; split <;> omega⟩ }
theorem DevP.apart (h : DevP w r vl vp ps sp st F R) : ∀ y ∈ ps, y.2.1 ≠ r ∧ y.2.2 ≠ r := fun y hy => ⟨fun e => (h.box y hy).2.2.1 (by rw [e]; exact h.rF), fun e => (h.box y hy).2.2.2.2 (by rw [e]; exact h.rF)⟩
theorem DevP.keepF (h : DevP w r vl vp ps sp st F R) (hg : w.grownBy w' (some r)) : Keep F w w' := (Keep.of_grown hg (F := [r]) (fun q hq => by cases hq; simp)).mono (fun q hq => .inl (by simp only [List.mem_singleton] at hq; subst hq; exact h.rF))
end
/-! The easy calls -/
set_option linter.unusedSimpArgs false in
theorem devN (w : World) (d : Value) (st : DSt) (F R : List Nat) (h : DevIs w d st F R) : Calls Try.prog 28 #[d] w fun e w' => e = .returned (.int .i64 (st.last.length : Int)) ∧ Below w.heap.size w w' := by
  obtain ⟨r, vl, vp, ps, sp, rfl, h⟩ := h
  obtain ⟨x, c, rfl⟩ := (h.last.isK secE_ok).len
  obtain ⟨c0, -⟩ := h.row.cells
  generalize st.last.length = n at c0 ⊢
  clear h
  go_enter Try.func28, Try.ntmps28
  go_wp2
  go_ret
  exact ⟨rfl, Below.refl _ _⟩
set_option linter.unusedSimpArgs false in
theorem devDown (w : World) (d : Value) (st : DSt) (F R : List Nat) (h : DevIs w d st F R) : Calls Try.prog 50 #[d] w fun e w' => e = .returned (.bool st.down) ∧ Below w.heap.size w w' := by
  obtain ⟨r, vl, vp, ps, sp, rfl, h⟩ := h
  obtain ⟨-, -, c2, -⟩ := h.row.cells
  generalize st.down = b at c2 ⊢
  clear h
  go_enter Try.func50, Try.ntmps50
  go_wp2
  go_ret
  exact ⟨rfl, Below.refl _ _⟩
set_option linter.unusedSimpArgs false in
theorem devStop (w : World) (d : Value) (st : DSt) (F R : List Nat) (k : Int) (h : DevIs w d st F R) (h0 : -9223372036854775808 ≤ k) (h1 : k ≤ 9223372036854775807) :
    Calls Try.prog 9 #[d, .int .i64 k] w fun e w' => e = .returned (.tuple #[]) ∧ ∃ F' R', DevIs w' d (stSt st k) F' R' ∧ (∀ q ∈ F', q ∈ F ∨ w.heap.size ≤ q) ∧ (∀ q ∈ R', q ∈ R ∨ w.heap.size ≤ q) ∧ Keep F w w' := by
  obtain ⟨r, vl, vp, ps, sp, rfl, h⟩ := h
  obtain ⟨-, -, -, c3, -⟩ := h.row.cells
  have f3 := h.row.frozen 3
  have hr : DevRow (w.setCell ⟨r, 3, none⟩ (.int .i64 k)) r vl vp k (stSt st k) := h.row.set 3 _ rfl
  have HF : Hid _ := h.turned (st' := stSt st k) (grown_cell w r 3 (.int .i64 k)) hr rfl rfl h0 h1 rfl h.apart
  have HK : Hid _ := h.keepF (grown_cell w r 3 (.int .i64 k))
  clear h hr
  go_enter Try.func9, Try.ntmps9
  go_wp2
  go_end0
  exact ⟨rfl, F, R, ⟨r, vl, vp, ps, k, rfl, HF.out⟩, fun q hq => .inl hq, fun q hq => .inl hq, HK.out⟩
end Go.Proofs.Ytpckdkgbeemalaa
namespace Go.Proofs.Ytpckdkgbeemalaa
open Go.RowKit

set_option linter.unusedSimpArgs false in
theorem devActs (w : World) (d : Value) (st : DSt) (F R : List Nat) (h : DevIs w d st F R) : Calls Try.prog 15 #[d] w fun e w' => e = .returned (.tuple #[.int .i64 (st.rd : Int), .int .i64 (st.wt : Int), .int .i64 (st.fl : Int)]) ∧ Below w.heap.size w w' := by
  obtain ⟨r, vl, vp, ps, sp, rfl, h⟩ := h
  obtain ⟨-, -, -, -, c4, c5, c6⟩ := h.row.cells
  generalize (st.rd : Int) = n4 at c4 ⊢
  generalize (st.wt : Int) = n5 at c5 ⊢
  generalize (st.fl : Int) = n6 at c6 ⊢
  clear h
  go_enter Try.func15, Try.ntmps15
  go_upto_region 3 with fail
  go_quiet (fail)
  go_wp2
  go_ret3
  exact ⟨rfl, ⟨rfl, rfl, rfl, Nat.le_refl _, fun _ _ => rfl⟩⟩
/-- What reach answers. -/
def reachI (st : DSt) (a : Int) : Int := if st.down then 21 else if thereB st a then 0 else 20
set_option linter.unusedSimpArgs false in
theorem reach_any (w : World) (r : Nat) (vl vp : Value) (sp : Int) (st : DSt) (x : Option Addr) (c : Nat) (a : Int) (h : DevRow w r vl vp sp st) (hv : vl = .slice x st.last.length c) :
    Calls Try.prog 66 #[.pointer (some ⟨r, 0, none⟩), .int .i64 a] w fun e w' => e = .returned (.int .i64 (reachI st a)) ∧ w' = w := by
  obtain ⟨c0, -, c2, -⟩ := h.cells
  rw [hv] at c0
  by_cases hd : st.down = true
  · have HR : Hid (reachI st a = 21) := by show _ = _; unfold reachI; rw [if_pos hd]
    rw [hd] at c2
    clear h hv
    generalize st.last.length = n at c0
    go_enter Try.func66, Try.ntmps66
    go_wp2
    go_ret
    exact ⟨by rw [HR.out]; rfl, rfl⟩
  · have hd' : st.down = false := by simpa using hd
    rw [hd'] at c2
    by_cases h1 : 0 ≤ a
    · by_cases h2 : a < (st.last.length : Int)
      · have HR : Hid (reachI st a = 0) := by show _ = _; unfold reachI thereB; rw [if_neg hd]; simp [h1, h2]
        clear h hv
        generalize st.last.length = n at c0 h2
        go_enter Try.func66, Try.ntmps66
        go_wp2
        go_ret
        exact ⟨by rw [HR.out]; rfl, rfl⟩
      · have HR : Hid (reachI st a = 20) := by show _ = _; unfold reachI thereB; rw [if_neg hd]; simp [h2]
        clear h hv
        generalize st.last.length = n at c0 h2
        go_enter Try.func66, Try.ntmps66
        go_wp2
        go_ret
        exact ⟨by rw [HR.out]; rfl, rfl⟩
    · have HR : Hid (reachI st a = 20) := by show _ = _; unfold reachI thereB; rw [if_neg hd]; simp [h1]
      clear h hv
      generalize st.last.length = n at c0
      go_enter Try.func66, Try.ntmps66
      go_wp2
      go_ret
      exact ⟨by rw [HR.out]; rfl, rfl⟩
/-- What begin answers, and leaves: flRes; and mayS, where it was up. -/
def begS (st : DSt) : DSt := if st.down then st else mayS st
set_option linter.unusedSimpArgs false in
theorem begin_any (w : World) (r : Nat) (vl vp : Value) (sp : Int) (st : DSt) (h : DevRow w r vl vp sp st) (h0 : -9223372036854775808 ≤ sp) (h1 : sp ≤ 9223372036854775807) (hl : st.left = if sp < 0 then -1 else sp) :
    Calls Try.prog 62 #[.pointer (some ⟨r, 0, none⟩)] w fun e w' => e = .returned (.int .i64 (flRes st)) ∧ w.grownBy w' (some r) ∧ ∃ sp', DevRow w' r vl vp sp' (begS st) ∧ -9223372036854775808 ≤ sp' ∧ sp' ≤ 9223372036854775807 ∧ (begS st).left = if sp' < 0 then -1 else sp' := by
  obtain ⟨-, -, c2, c3, -⟩ := h.cells
  have f2 := h.frozen 2
  have f3 := h.frozen 3
  by_cases hd : st.down = true
  · have HR : Hid (flRes st = 21) := by show _ = _; unfold flRes; rw [if_pos hd]
    have HS : Hid (begS st = st) := by show _ = _; unfold begS; rw [if_pos hd]
    have HD : Hid (DevRow (w.setCell ⟨r, 2, none⟩ (.bool true)) r vl vp sp st) := h.set 2 _ (by unfold devA; rw [hd]; rfl)
    rw [hd] at c2
    clear h
    go_enter Try.func62, Try.ntmps62
    go_wp2
    go_ret
    exact ⟨by rw [HR.out]; rfl, grown_cell _ _ _ _, sp, by rw [HS.out]; exact HD.out, h0, h1, by rw [HS.out]; exact hl⟩
  · have hd' : st.down = false := by simpa using hd
    rw [hd'] at c2
    by_cases e0 : sp = 0
    · have el : st.left = 0 := by rw [hl, e0]; rfl
      have HR : Hid (flRes st = 21) := by show _ = _; unfold flRes mayB; rw [if_neg hd]; simp [el]
      have HS : Hid (begS st = { st with down := true }) := by show _ = _; unfold begS mayS; rw [if_neg hd, if_pos el]
      have HD : Hid (DevRow (w.setCell ⟨r, 2, none⟩ (.bool true)) r vl vp sp { st with down := true }) := h.set 2 _ rfl
      have HL : Hid _ := hl
      rw [e0] at c3
      clear h hl el
      go_enter Try.func62, Try.ntmps62
      go_wp2
      go_ret
      exact ⟨by rw [HR.out]; rfl, grown_cell _ _ _ _, sp, by rw [HS.out]; exact HD.out, h0, h1, by rw [HS.out]; exact HL.out⟩
    · by_cases e1 : 0 < sp
      · have el : st.left = sp := by rw [hl, if_neg (by omega)]
        have HR : Hid (flRes st = 0) := by show _ = _; unfold flRes mayB; rw [if_neg hd]; simp [el, e0]
        have HS : Hid (begS st = { st with left := sp - 1 }) := by show _ = _; unfold begS mayS; rw [if_neg hd, if_neg (by rw [el]; exact e0), if_pos (by rw [el]; exact e1), el]
        have HD : Hid (DevRow (w.setCell ⟨r, 3, none⟩ (.int .i64 (sp - 1))) r vl vp (sp - 1) { st with left := sp - 1 }) := h.set 3 _ rfl
        have w1 : IntKind.i64.wrap (sp - 1) = sp - 1 := by rw [IntKind.wrap_i64]; omega
        clear h hl el
        go_enter Try.func62, Try.ntmps62
        go_wp2
        go_ret
        exact ⟨by rw [HR.out]; rfl, grown_cell _ _ _ _, sp - 1, by rw [HS.out]; exact HD.out, by omega, by omega, by rw [HS.out, if_neg (by omega)]⟩
      · have el : st.left = -1 := by rw [hl, if_pos (by omega)]
        have HR : Hid (flRes st = 0) := by show _ = _; unfold flRes mayB; rw [if_neg hd]; simp [el]
        have HS : Hid (begS st = st) := by show _ = _; unfold begS mayS; rw [if_neg hd, if_neg (by omega), if_neg (by omega)]
        have HD : Hid (DevRow w r vl vp sp st) := h
        have HL : Hid _ := hl
        clear h hl el
        go_enter Try.func62, Try.ntmps62
        go_wp2
        go_ret
        exact ⟨by rw [HR.out]; rfl, grown_drew w 0 _, sp, by rw [HS.out]; exact HD.out, h0, h1, by rw [HS.out]; exact HL.out⟩
set_option linter.unusedSimpArgs false in
theorem devDurable (w : World) (d : Value) (st : DSt) (F R : List Nat) (h : DevIs w d st F R) :
    Calls Try.prog 13 #[d] w fun e w' => ∃ y c, e = .returned (.slice y st.last.length c) ∧ OwnK secE w' w.heap.size (.slice y st.last.length c) st.last ∧ Below w.heap.size w w' := by
  obtain ⟨r, vl, vp, ps, sp, rfl, h⟩ := h
  obtain ⟨x, c, rfl⟩ := (h.last.isK secE_ok).len
  obtain ⟨c0, -⟩ := h.row.cells
  have hhi := h.ok.hi
  have hC := cloneSec w x st.last.length c st.last rfl (h.last.isK secE_ok) (by omega)
  generalize hn : st.last.length = n at c0 hC ⊢
  clear h
  go_enter Try.func13, Try.ntmps13
  go_wp2_with fail
  refine hC.mono ?_
  rintro e w' ⟨y, c', rfl, hO, hB⟩
  clear hC
  have HO : Hid _ := hO
  have HB : Hid _ := hB
  clear hO hB
  go_wp2
  go_ret
  exact ⟨y, c', rfl, HO.out, HB.out⟩
set_option linter.unusedSimpArgs false in
theorem devNew (w : World) (x : Option Addr) (n c : Nat) (ss : List Sc) (hss : ss.length = n) (h : IsK secE w (.slice x n c) ss) (hn : n ≤ 2000) :
    Calls Try.prog 6 #[.slice x n c] w fun e w' => Below w.heap.size w w' ∧ ((64 ≤ n ∧ n ≤ 1024 ∧ ∃ d F R, e = .returned (.tuple #[d, .int .i64 0]) ∧ DevIs w' d (newS ss) F R ∧ ∀ q ∈ R, w.heap.size ≤ q) ∨ (¬ (64 ≤ n ∧ n ≤ 1024) ∧ e = .returned (.tuple #[.pointer none, .int .i64 22]))) := by
  by_cases h1 : 64 ≤ n
  · by_cases h2 : n ≤ 1024
    · have hC := cloneSec w x n c ss hss h (by omega)
      have g1 : ¬ (n : Int) < 64 := by omega
      have g2 : ¬ (n : Int) > 1024 := by omega
      clear h
      go_enter Try.func6, Try.ntmps6
      go_wp2_with fail
      refine hC.mono ?_
      rintro e w1 ⟨y, c', rfl, hO, hB⟩
      clear hC
      have yb := World.ownsRow.lt hO
      have hR : DevRow (w1.alloc (.cells (devA (.slice y n c') (.slice none 0 0) (-1) (newS ss)) 67)) w1.heap.size (.slice y n c') (.slice none 0 0) (-1) (newS ss) := heap_alloc_last w1 _
      have hb := below_alloc w1 (.cells (devA (.slice y n c') (.slice none 0 0) (-1) (newS ss)) 67)
      have HP : Hid (DevP (w1.alloc (.cells (devA (.slice y n c') (.slice none 0 0) (-1) (newS ss)) 67)) w1.heap.size (.slice y n c') (.slice none 0 0) [] (-1) (newS ss) (w1.heap.size :: (Value.slice y n c').ownBlock.toList) (w1.heap.size :: (Value.slice y n c').ownBlock.toList)) :=
        { row := hR, last := (hO.keep hb).le (Nat.zero_le _), pend := OwnK.nil _ _ _, eqp := rfl, s0 := by omega, s1 := by omega, left := rfl, rF := by simp,
          lF := fun q hq => ⟨by rw [hq]; simp, by have := yb q hq; omega, by simp [Value.ownBlock]⟩, pF := fun q hq => by simp [Value.ownBlock] at hq, sub := fun q hq => hq,
          lt := fun q hq => by
            rcases List.mem_cons.1 hq with rfl | hq
            · simp
            · have := yb q (by simpa using hq); simp; omega
          box := fun y hy => by cases hy
          ok := ⟨(fun x hx => absurd hx List.not_mem_nil), by show 64 ≤ ss.length; omega, by show ss.length ≤ 1024; omega, by show (-1 : Int) ≤ -1; omega, by show (-1 : Int) ≤ _; omega⟩ }
      have hsz := hB.size
      have HB : Hid (Below w.heap.size w (w1.alloc (.cells (devA (.slice y n c') (.slice none 0 0) (-1) (newS ss)) 67))) := hB.trans (hb.mono hsz)
      have HY : Hid _ := yb
      have hA : devA (.slice y n c') (.slice none 0 0) (-1) (newS ss) = #[Value.slice y n c', Value.slice none 0 0, Value.bool false, Value.int .i64 (-1), Value.int .i64 0, Value.int .i64 0, Value.int .i64 0] := rfl
      rw [hA] at HP HB
      clear hO hB hR hb yb hA
      go_wp2
      go_ret2
      refine ⟨HB.out, .inl ⟨h1, h2, _, _, _, rfl, ⟨_, _, _, _, _, rfl, HP.out⟩, fun q hq => ?_⟩⟩
      rcases List.mem_cons.1 hq with rfl | hq
      · exact hsz
      · exact (HY.out q (by simpa using hq)).1
    · have g1 : ¬ (n : Int) < 64 := by omega
      have g2 : (n : Int) > 1024 := by omega
      clear h
      go_enter Try.func6, Try.ntmps6
      go_wp2
      go_ret2
      first | exact ⟨Below.refl _ _, .inr ⟨by omega, rfl⟩⟩ | exact ⟨Below.refl _ _, rfl⟩
  · have g1 : (n : Int) < 64 := by omega
    clear h
    go_enter Try.func6, Try.ntmps6
    go_wp2
    go_ret2
    first | exact ⟨Below.refl _ _, .inr ⟨by omega, rfl⟩⟩ | exact ⟨Below.refl _ _, rfl⟩
end Go.Proofs.Ytpckdkgbeemalaa
namespace Go.Proofs.Ytpckdkgbeemalaa
open Go.RowKit

/-! Sectors, Pending, Copy -/
theorem DevP.act {w : World} {r : Nat} {vl vp : Value} {ps : List Ac} {sp : Int} {st : DSt} {F R : List Nat} (h : DevP w r vl vp ps sp st F R) {i : Nat} {x : Ac} (hx : ps[i]? = some x) : st.pend[i]? = some x.1 ∧ ∃ a : Nat, x.1.1 = (a : Int) ∧ a < st.last.length := by
  have e : st.pend[i]? = some x.1 := by rw [← h.eqp, List.getElem?_map, hx]; rfl
  exact ⟨e, pend_at h.ok e⟩
theorem DevP.plen {w : World} {r : Nat} {vl vp : Value} {ps : List Ac} {sp : Int} {st : DSt} {F R : List Nat} (h : DevP w r vl vp ps sp st F R) : ps.length = st.pend.length := by rw [← h.eqp, List.length_map]
theorem grown_bel {w w' : World} (h : Below w.heap.size w w') (row : Option Nat) : w.grownBy w' row := Below.grown h row
set_option linter.unusedSimpArgs false in
set_option maxHeartbeats 800000 in
theorem devSectors (w : World) (d : Value) (st : DSt) (F R : List Nat) (h : DevIs w d st F R) (hp9 : st.pend.length ≤ 1099511627776) :
    Calls Try.prog 19 #[d] w fun e w' => ∃ y c, e = .returned (.slice y st.last.length c) ∧ OwnK secE w' w.heap.size (.slice y st.last.length c) (over st.last st.pend) ∧ Below w.heap.size w w' := by
  have hD := devDurable w d st F R h
  obtain ⟨r, vl, vp, ps, sp, rfl, h⟩ := h
  have hpl := h.plen
  obtain ⟨xp, cp, rfl⟩ := (h.pend.isK actE_ok).len
  obtain ⟨n, hn⟩ : ∃ n, st.last.length = n := ⟨_, rfl⟩
  obtain ⟨np, hnp⟩ : ∃ n, ps.length = n := ⟨_, rfl⟩
  have hlo := h.ok.lo
  have hhi := h.ok.hi
  have hrl := h.row.lt
  rw [hn] at hD hlo hhi ⊢
  have hact : ∀ (i : Nat) (x : Ac), ps[i]? = some x → st.pend[i]? = some x.1 ∧ ∃ a : Nat, x.1.1 = (a : Int) ∧ a < n := fun i x hx => by rw [← hn]; exact h.act hx
  have hrow := h.row
  have hpend := h.pend
  have hbox : ∀ y ∈ ps, Boxed w y := fun y hy => (h.box y hy).1
  rw [hnp] at hrow hpend
  clear h
  go_enter Try.func19, Try.ntmps19
  go_wp2_with fail
  refine hD.mono ?_
  rintro e w1 ⟨y, c', rfl, hO, hB⟩
  obtain ⟨g, rfl, hg⟩ := hO.form (by omega)
  have hgl : w.heap.size ≤ g := (World.ownsRow.lt hO g rfl).1
  have hrow1 := hrow.kept (hB.block r hrl)
  obtain ⟨-, c1, -⟩ := hrow1.cells
  have hpq := fun q hq => (World.ownsRow.lt hpend q hq).2
  have hP1 := hpend.keep hB
  have hbox1 : ∀ y ∈ ps, Boxed w1 y := fun y hy => (hbox y hy).keeps (G := []) (Keep.of_below hB) (by simp) (by simp)
  have hblt : ∀ y ∈ ps, y.2.1 < w.heap.size ∧ y.2.2 < w.heap.size := fun y hy => ⟨World.block_lt_of_cell? w _ (hbox y hy).1, (hbox y hy).2.lt⟩
  clear hD hrow hpend hbox hrow1
  go_wp2_with fail
  go_loopw [15] (fun v wr => ∃ i : Nat, i ≤ np ∧ v = .int .i64 i ∧ OwnK secE wr w.heap.size (.slice (some ⟨g, 0, none⟩) n c') (over st.last (st.pend.take i)) ∧ w1.grownBy wr (some g)) (fun v _ => np - (intOf v).toNat)
  case atStart => exact ⟨0, by omega, rfl, hO, grown_drew w1 0 _⟩
  case round =>
    clear hO
    obtain ⟨i, hi, rfl, hO, hG⟩ := hrel
    have hK : Keep [g] w1 wr := Keep.of_grown hG (fun q hq => by cases hq; simp)
    by_cases hlt : i < np
    · obtain ⟨x, hx⟩ : ∃ x, ps[i]? = some x := ⟨ps[i]'(by omega), List.getElem?_eq_getElem (by omega)⟩
      obtain ⟨hxp, a, ha, hal⟩ := hact i x hx
      have hPw := hP1.keeps hK (fun q hq => by have := hpq q hq; simp only [List.mem_singleton]; omega)
      obtain ⟨gp, rfl, hgp⟩ := hPw.form (by omega)
      obtain ⟨dok, drg⟩ := actCells hPw i x hx
      have hxm := List.mem_of_getElem? hx
      obtain ⟨hb1, hb2⟩ := hblt x hxm
      have hbx := (hbox1 x hxm).keeps hK (by simp; omega) (by simp; omega)
      have HX : Hid (over st.last (st.pend.take (i + 1)) = (over st.last (st.pend.take i)).set a x.1.2) := over_step hxp ha
      have i0 : (0 : Int) ≤ (i : Int) := by omega
      have i1 : (i : Int) < (np : Int) := by omega
      obtain ⟨k1, k2⟩ := hbx
      rw [ha] at k1
      obtain ⟨xx, ga, gs⟩ := x
      simp only at k1 k2 HX hb1 hb2
      obtain ⟨q1, q2, q3⟩ := actRow wr (xx, ga, gs)
      simp only at q1
      have b2 := below_alloc wr (.cells (actA (xx, ga, gs)) 81)
      have hclo := clo_any (wr.alloc (.cells (actA (xx, ga, gs)) 81)) w.heap.size g n c' a ga gs xx.2 (over st.last (st.pend.take i)) (hO.keep b2) (by omega) (cell_later b2 k1) (k2.kept b2)
      have hO2 := secPut (hO.keep b2) a xx.2 (by omega)
      rw [← HX.out] at hO2
      have HO : Hid _ := hO2
      have HG : Hid _ := grown_two (grown_two hG (Below.grown b2 (some g))) (grown_setC (wr.alloc (.cells (actA (xx, ga, gs)) 81)) g (a * 64) (secA xx.2).toList)
      clear hx hxp ha hK hPw hP1 hpq hact hblt hbox1 hO hG hO2 HX q2 q3 k1 k2 b2 hxm
      go_upto_region 7 with fail
      generalize wr.alloc (.cells (actA (xx, ga, gs)) 81) = X at hclo HO HG q1 ⊢
      unfold cloV at q1
      go_wp2_with fail
      refine hclo.mono ?_
      rintro e X' ⟨rfl, hX'⟩
      rw [← hX'] at HO HG
      clear hclo hX' q1
      go_wp2
      go_roundw
      case rel => exact ⟨i + 1, by omega, by go_num, HO.out, HG.out⟩
      case measure => simp [intOf]; omega
    · obtain rfl : i = np := by omega
      rw [List.take_of_length_le (by omega)] at hO
      have HO : Hid _ := hO
      have HB : Hid (Below w.heap.size w wr) := hB.trans ⟨hG.os, hG.tape, hG.output, hG.size, fun q hq => hG.block q (Nat.lt_of_lt_of_le hq hB.size) (fun e => by cases e; omega)⟩
      clear hO hG
      go_wp2
      go_ret
      exact ⟨_, c', rfl, HO.out, HB.out⟩
set_option linter.unusedSimpArgs false in
set_option maxHeartbeats 800000 in
theorem devPending (w : World) (d : Value) (st : DSt) (F R : List Nat) (h : DevIs w d st F R) (hp9 : st.pend.length ≤ 1099511627776) :
    Calls Try.prog 14 #[d] w fun e w' => ∃ y c, e = .returned (.slice y st.pend.length c) ∧ OwnK wrE w' w.heap.size (.slice y st.pend.length c) st.pend ∧ Below w.heap.size w w' := by
  obtain ⟨r, vl, vp, ps, sp, rfl, h⟩ := h
  have hpl := h.plen
  obtain ⟨xp, cp, rfl⟩ := (h.pend.isK actE_ok).len
  obtain ⟨np, hnp⟩ : ∃ n, ps.length = n := ⟨_, rfl⟩
  obtain ⟨-, c1, -⟩ := h.row.cells
  have hpend := h.pend
  have hact : ∀ (i : Nat) (x : Ac), ps[i]? = some x → st.pend[i]? = some x.1 := fun i x hx => (h.act hx).1
  rw [hnp] at c1 hpend
  rw [← hpl, hnp] at hp9 ⊢
  clear h
  go_enter Try.func14, Try.ntmps14
  go_wp2_with fail
  go_loopw [3, 13] (fun l v wr => ∃ (i : Nat) (y : Option Addr) (c : Nat), i ≤ np ∧ v = .int .i64 i ∧ l = .slice y i c ∧ OwnK wrE wr w.heap.size (.slice y i c) (st.pend.take i) ∧ Below w.heap.size w wr) (fun _ v _ => np - (intOf v).toNat)
  case atStart => exact ⟨0, none, 0, by omega, rfl, rfl, by rw [List.take_zero]; exact OwnK.nil _ _ _, Below.refl _ _⟩
  case round =>
    obtain ⟨i, y, c, hi, rfl, rfl, hO, hB⟩ := hrel
    by_cases hlt : i < np
    · obtain ⟨x, hx⟩ : ∃ x, ps[i]? = some x := ⟨ps[i]'(by omega), List.getElem?_eq_getElem (by omega)⟩
      have hxp := hact i x hx
      have hPw := hpend.keep hB
      obtain ⟨gp, rfl, hgp⟩ := hPw.form (by omega)
      obtain ⟨dok, drg⟩ := actCells hPw i x hx
      have i0 : (0 : Int) ≤ (i : Int) := by omega
      have i1 : (i : Int) < (np : Int) := by omega
      obtain ⟨xx, ga, gs⟩ := x
      simp only at hxp
      obtain ⟨q1, q2, q3⟩ := actRow wr (xx, ga, gs)
      simp only at q3
      have b2 := below_alloc wr (.cells (actA (xx, ga, gs)) 81)
      have hT : st.pend.take (i + 1) = st.pend.take i ++ [xx] := by rw [List.take_add_one, hxp]; rfl
      have htl : (st.pend.take i).length = i := by rw [List.length_take]; omega
      clear hx hxp hPw hact
      go_upto_region 7 with fail
      generalize wr.alloc (.cells (actA (xx, ga, gs)) 81) = X at q2 q3 b2 ⊢
      have hO1 := hO.keep b2
      have b3 := below_alloc X (.cells (wrA xx) 54)
      obtain ⟨g, c2, w', hr, h1, -, h3, -⟩ := run_app1K wrE_ok (X.alloc (.cells (wrA xx) 54)) w.heap.size X.heap.size (.slice y i c) (st.pend.take i) xx 23 (hO1.keep b3) (by
        intro j u hu
        rw [Nat.zero_add, cell_of_row _ _ j _ _ _ (heap_alloc_last X _)]
        rw [wrE_enc, Array.getElem?_toList] at hu; exact hu) (by simp) (by rw [htl]; show (i + 1) * 72 ≤ _; omega) (by rw [htl]; unfold maxLen; omega) (by have := hB.size; have := b2.size; have := b3.size; omega)
      rw [htl] at hr h1
      rw [← hT] at h1
      have hE : wrE.S = 23 := rfl
      rw [hE] at hr
      have HO : Hid _ := h1
      have HB : Hid (Below w.heap.size w w') := ((hB.trans (b2.mono hB.size)).trans (b3.mono (by have := hB.size; have := b2.size; omega))).trans ((hO1.keep b3).below h3 (by have := hB.size; have := b2.size; have := b3.size; omega))
      clear hO hO1 hB h1 h3 b2 b3 dok drg hT
      go_wp2_with (at_builtin; refine wpL_appT 23 rfl _ _ rfl _ w' (by exact hr) ?_)
      go_roundw
      case rel => exact ⟨i + 1, _, _, by omega, by go_num, rfl, HO.out, HB.out⟩
      case measure => simp [intOf]; omega
    · obtain rfl : i = np := by omega
      rw [List.take_of_length_le (by omega)] at hO
      have HO : Hid _ := hO
      have HB : Hid _ := hB
      clear hO hB
      go_wp2
      go_ret
      exact ⟨y, c, rfl, HO.out, HB.out⟩
end Go.Proofs.Ytpckdkgbeemalaa
namespace Go.Proofs.Ytpckdkgbeemalaa
open Go.RowKit

/-! Flush, Restart -/
theorem DevP.emptied {w w' : World} {r g n cl : Nat} {vp : Value} {ps : List Ac} {sp sp' : Int} {st st' : DSt} {F R : List Nat} (h : DevP w r (.slice (some ⟨g, 0, none⟩) n cl) vp ps sp st F R) (hK : Keep F w w') (hr : DevRow w' r (.slice (some ⟨g, 0, none⟩) n cl) (.slice none 0 0) sp' st') (hO : OwnK secE w' 0 (.slice (some ⟨g, 0, none⟩) n cl) st'.last) (e2 : st'.pend = []) (el : st'.last.length = st.last.length) (h0 : -9223372036854775808 ≤ sp') (h1 : sp' ≤ 9223372036854775807) (hl : st'.left = if sp' < 0 then -1 else sp') : DevP w' r (.slice (some ⟨g, 0, none⟩) n cl) (.slice none 0 0) [] sp' st' F R :=
  { row := hr, last := hO, pend := OwnK.nil _ _ _, eqp := by rw [e2]; rfl, s0 := h0, s1 := h1, left := hl, rF := h.rF, lF := fun q hq => ⟨(h.lF q hq).1, (h.lF q hq).2.1, by simp [Value.ownBlock]⟩, pF := fun q hq => by simp [Value.ownBlock] at hq, sub := h.sub, lt := fun q hq => Nat.lt_of_lt_of_le (h.lt q hq) hK.size,
    box := (fun y hy => absurd hy List.not_mem_nil), ok := ⟨by rw [e2]; exact (fun x hx => absurd hx List.not_mem_nil), by rw [el]; exact h.ok.lo, by rw [el]; exact h.ok.hi, by rw [hl]; split <;> omega, by rw [hl]; split <;> omega⟩ }
theorem begS_same (st : DSt) : (begS st).last = st.last ∧ (begS st).pend = st.pend ∧ (begS st).rd = st.rd ∧ (begS st).wt = st.wt ∧ (begS st).fl = st.fl := by
  unfold begS
  split
  · exact ⟨rfl, rfl, rfl, rfl, rfl⟩
  · exact mayS_same st
theorem fl_cases (st : DSt) : (flRes st = 21 ∧ flSt st = begS st) ∨ (flRes st = 0 ∧ flSt st = { begS st with last := over st.last st.pend, pend := [], fl := st.fl + 1 }) := by
  unfold flRes flSt begS
  by_cases hd : st.down = true
  · rw [if_pos hd, if_pos hd, if_pos hd]; exact .inl ⟨rfl, rfl⟩
  · rw [if_neg hd, if_neg hd, if_neg hd]
    cases mayB st
    · exact .inl ⟨rfl, rfl⟩
    · exact .inr ⟨rfl, rfl⟩
set_option linter.unusedSimpArgs false in
set_option maxHeartbeats 800000 in
set_option maxRecDepth 100000 in
theorem devFlush (w : World) (d : Value) (st : DSt) (F R : List Nat) (h : DevIs w d st F R) (hp9 : st.pend.length ≤ 1099511627776) (hf : st.fl < 4611686018427387904) :
    Calls Try.prog 38 #[d] w fun e w' => e = .returned (.int .i64 (flRes st)) ∧ ∃ F' R', DevIs w' d (flSt st) F' R' ∧ (∀ q ∈ F', q ∈ F ∨ w.heap.size ≤ q) ∧ (∀ q ∈ R', q ∈ R ∨ w.heap.size ≤ q) ∧ Keep F w w' := by
  obtain ⟨r, vl, vp, ps, sp, rfl, h⟩ := h
  have hb := begin_any w r vl vp sp st h.row h.s0 h.s1 h.left
  obtain ⟨e1, e2, e3, e4, e5⟩ := begS_same st
  rcases fl_cases st with ⟨hR, hS⟩ | ⟨hR, hS⟩
  · rw [hR] at hb ⊢
    rw [hS]
    have FIN : Hid (∀ w' sp', w.grownBy w' (some r) → DevRow w' r vl vp sp' (begS st) → -9223372036854775808 ≤ sp' → sp' ≤ 9223372036854775807 → ((begS st).left = if sp' < 0 then -1 else sp') → DevP w' r vl vp ps sp' (begS st) F R ∧ Keep F w w') := fun w' sp' a1 a2 a3 a4 a5 => ⟨h.turned a1 a2 e1 e2 a3 a4 a5 h.apart, h.keepF a1⟩
    clear h
    go_enter Try.func38, Try.ntmps38
    go_wp2_with fail
    refine hb.mono ?_
    rintro e w1 ⟨rfl, a1, sp', a2, a3, a4, a5⟩
    obtain ⟨f1, f2⟩ := FIN.out w1 sp' a1 a2 a3 a4 a5
    have HF : Hid _ := f1
    have HK : Hid _ := f2
    clear hb f1 f2 a1 a2 a5 FIN
    go_wp2
    go_ret
    exact ⟨rfl, F, R, ⟨r, vl, vp, ps, sp', rfl, HF.out⟩, fun q hq => .inl hq, fun q hq => .inl hq, HK.out⟩
  · rw [hR] at hb ⊢
    rw [hS]
    have hpl := h.plen
    obtain ⟨xl, cl, rfl⟩ := (h.last.isK secE_ok).len
    obtain ⟨xp, cp, rfl⟩ := (h.pend.isK actE_ok).len
    have hlo := h.ok.lo
    obtain ⟨g, rfl, hg⟩ := h.last.form (by omega)
    obtain ⟨n, hn⟩ : ∃ n, st.last.length = n := ⟨_, rfl⟩
    obtain ⟨np, hnp⟩ : ∃ n, ps.length = n := ⟨_, rfl⟩
    have hact : ∀ (i : Nat) (x : Ac), ps[i]? = some x → st.pend[i]? = some x.1 ∧ ∃ a : Nat, x.1.1 = (a : Int) ∧ a < n := fun i x hx => by rw [← hn]; exact h.act hx
    rw [hn, hnp] at h hb
    rw [← hpl, hnp] at hp9
    have hgF : g ∈ F := (h.lF g rfl).1
    have hgr : g ≠ r := (h.lF g rfl).2.1
    have hpg : ∀ q, (Value.slice xp np cp).ownBlock = some q → q ≠ g := fun q hq e => (h.lF g rfl).2.2 (by rw [hq, e])
    have hpr : ∀ q, (Value.slice xp np cp).ownBlock = some q → q ≠ r := fun q hq => (h.pF q hq).2
    have hbg : ∀ y ∈ ps, y.2.1 ≠ g ∧ y.2.2 ≠ g := fun y hy => ⟨fun e => (h.box y hy).2.2.1 (by rw [e]; exact hgF), fun e => (h.box y hy).2.2.2.2 (by rw [e]; exact hgF)⟩
    have hbr := h.apart
    obtain ⟨f1, hf1⟩ : ∃ m, st.fl + 1 = m := ⟨_, rfl⟩
    rw [hf1]
    go_enter Try.func38, Try.ntmps38
    go_wp2_with fail
    refine hb.mono ?_
    rintro e w1 ⟨rfl, a1, sp', a2, a3, a4, a5⟩
    obtain ⟨-, -, -, -, -, -, c6⟩ := a2.cells
    have z6 := a2.frozen 6
    rw [e5] at c6
    have w6 : IntKind.i64.wrap ((st.fl : Int) + 1) = (f1 : Int) := by rw [IntKind.wrap_i64]; omega
    have hr2 : DevRow (w1.setCell ⟨r, 6, none⟩ (.int .i64 (f1 : Int))) r (.slice (some ⟨g, 0, none⟩) n cl) (.slice xp np cp) sp' { begS st with fl := f1 } := a2.set 6 _ rfl
    have hg2 : w.grownBy (w1.setCell ⟨r, 6, none⟩ (.int .i64 (f1 : Int))) (some r) := grown_two a1 (grown_cell _ _ _ _)
    have hK2 : Keep [r] w (w1.setCell ⟨r, 6, none⟩ (.int .i64 (f1 : Int))) := Keep.of_grown hg2 (fun q hq => by cases hq; simp)
    have hL := h.last.keeps hK2 (fun q hq => by cases hq; simpa using hgr)
    have hP := h.pend.keeps hK2 (fun q hq => by simpa using hpr q hq)
    have hBx : ∀ y ∈ ps, Boxed (w1.setCell ⟨r, 6, none⟩ (.int .i64 (f1 : Int))) y := fun y hy => (h.box y hy).1.keeps hK2 (by simpa using (hbr y hy).1) (by simpa using (hbr y hy).2)
    clear hb a1 a2
    generalize (st.fl : Int) = fl0 at c6 w6
    go_upto_region 7 with fail
    generalize w1.setCell ⟨r, 6, none⟩ (.int .i64 (f1 : Int)) = w2 at hr2 hg2 hL hP hBx ⊢
    obtain ⟨c0, c1, -⟩ := hr2.cells
    have hr2l := hr2.lt
    clear hK2 c6 z6 w6 hpr hbr
    go_wp2_with fail
    go_loopw [25] (fun v wr => ∃ i : Nat, i ≤ np ∧ v = .int .i64 i ∧ OwnK secE wr 0 (.slice (some ⟨g, 0, none⟩) n cl) (over st.last (st.pend.take i)) ∧ w2.grownBy wr (some g)) (fun v _ => np - (intOf v).toNat)
    case atStart => exact ⟨0, by omega, rfl, hL, grown_drew w2 0 _⟩
    case round =>
      clear hL
      obtain ⟨i, hi, rfl, hO, hG⟩ := hrel
      have hK : Keep [g] w2 wr := Keep.of_grown hG (fun q hq => by cases hq; simp)
      have hrr := hr2.kept (hG.block r hr2l (fun e => by cases e; exact hgr rfl))
      by_cases hlt : i < np
      · obtain ⟨x, hx⟩ : ∃ x, ps[i]? = some x := ⟨ps[i]'(by omega), List.getElem?_eq_getElem (by omega)⟩
        obtain ⟨hxp, a, ha, hal⟩ := hact i x hx
        have hPw := hP.keeps hK (fun q hq => by simpa using hpg q hq)
        obtain ⟨gp, rfl, hgp⟩ := hPw.form (by omega)
        obtain ⟨dok, drg⟩ := actCells hPw i x hx
        have hxm := List.mem_of_getElem? hx
        have hbx := (hBx x hxm).keeps hK (by simpa using (hbg x hxm).1) (by simpa using (hbg x hxm).2)
        have HX : Hid (over st.last (st.pend.take (i + 1)) = (over st.last (st.pend.take i)).set a x.1.2) := over_step hxp ha
        have i0 : (0 : Int) ≤ (i : Int) := by omega
        have i1 : (i : Int) < (np : Int) := by omega
        obtain ⟨k1, k2⟩ := hbx
        rw [ha] at k1
        obtain ⟨xx, ga, gs⟩ := x
        simp only at k1 k2 HX
        obtain ⟨q1, -, -⟩ := actRow wr (xx, ga, gs)
        simp only at q1
        have b2 := below_alloc wr (.cells (actA (xx, ga, gs)) 81)
        have hg5 : wr.heap.size < (wr.alloc (.cells (actA (xx, ga, gs)) 81)).heap.size := by simp
        have k0 := cell_later b2 hrr.cells.1
        have k1' := cell_later b2 k1
        have k2' := k2.kept b2
        have hO' := hO.keep b2
        have hG' := grown_two hG (Below.grown b2 (some g))
        have hrl5 : r < wr.heap.size := hrr.lt
        clear hx hxp ha hK hPw hP hpg hact hbg hBx hO hG k1 k2 b2 hxm hrr c0 c1
        go_upto_region 10 with fail
        generalize wr.alloc (.cells (actA (xx, ga, gs)) 81) = X at q1 hg5 k0 k1' k2' hO' hG' ⊢
        obtain ⟨g5, hg5'⟩ : ∃ q, wr.heap.size = q := ⟨_, rfl⟩
        simp only [hg5']
        rw [hg5'] at q1 hg5 hrl5
        refine wp_reliesT [Fx (.pointer (some ⟨g5, 65, none⟩)), Fx (cloV ga gs), Fx (.pointer (some ⟨r, 0, none⟩)), Fx (.pointer (some ⟨r, 0, none⟩)), Fx (.pointer (some ⟨r, 0, none⟩)), Fx (.slice (some ⟨g, 0, none⟩) n cl)] (by kernel_rfl) (by kernel_rfl) ?_ ?_ ?_
        · repeat' (first | exact all_nil | apply all_cons)
          all_goals intro v y y' hv hb
          all_goals first | exact Fx_mono _ _ _ _ hv hb
        · refine ⟨?_, ?_, ?_, ?_, ?_, ?_, trivial⟩
          all_goals
            intro ρ x hp ρc ρg ρf ho hd
            have o5 : ρ (.tmp 5) = .pointer (some ⟨g5, 0, none⟩) := ho 5 rfl
            have o0 : ρ (.tmp 0) = .pointer (some ⟨r, 0, none⟩) := ho 0 rfl
            clear ho
            have q0 := cell_later hp k0
            have qc := cell_later hp q1
            simp only [depsR, depR, slotR, Fx, List.getElem?_cons_succ, List.getElem?_cons_zero, Region.binds, forall_const] at hd
            simp only [guardR]
            go_split_ands
          · go_simp
          · go_simp
          · go_simp
          · go_simp
          · go_simp
          · go_simp
        · intro vs x_1 hp hw
          simp only [owed, Fx] at hw
          obtain ⟨e0, e1, e2, e3, e4, e5, -⟩ := hw
          simp only [List.length_cons, List.length_nil, List.take_succ_cons, List.take_zero, List.drop_succ_cons, List.drop_zero, asg, List.cons_append, List.nil_append, e0, e1, e2, e3, e4, e5]
          clear e0 e1 e2 e3 e4 e5
          have hclo := clo_any x_1 0 g n cl a ga gs xx.2 (over st.last (st.pend.take i)) (hO'.keep hp) (by omega) (cell_later hp k1') (k2'.kept hp)
          have hO2 := secPut (hO'.keep hp) a xx.2 (by omega)
          rw [← HX.out] at hO2
          have HO : Hid _ := hO2
          have HG : Hid _ := grown_two (grown_two hG' (Below.grown hp (some g))) (grown_setC x_1 g (a * 64) (secA xx.2).toList)
          clear hO' hG' hO2 hp k0 k1' k2' q1 dok drg HX
          unfold cloV
          go_wp2_with fail
          refine hclo.mono ?_
          rintro e X' ⟨rfl, hX'⟩
          rw [← hX'] at HO HG
          clear hclo hX'
          go_wp2
          go_roundw
          case rel => exact ⟨i + 1, by omega, by go_num, HO.out, HG.out⟩
          case measure => simp [intOf]; omega
      · obtain rfl : i = np := by omega
        rw [List.take_of_length_le (by omega)] at hO
        have z1 := hrr.frozen 1
        have hr3 : DevRow (wr.setCell ⟨r, 1, none⟩ (.slice none 0 0)) r (.slice (some ⟨g, 0, none⟩) n cl) (.slice none 0 0) sp' { begS st with last := over st.last st.pend, pend := [], fl := f1 } := hrr.set 1 _ rfl
        have hgc := grown_cell wr r 1 (.slice none 0 0)
        have hO3 : OwnK secE (wr.setCell ⟨r, 1, none⟩ (.slice none 0 0)) 0 (.slice (some ⟨g, 0, none⟩) n cl) (over st.last st.pend) := hO.keeps (F := [r]) (Keep.of_grown hgc (fun q hq => by cases hq; simp)) (fun q hq => by cases hq; simpa using hgr)
        have hKF : Keep F w (wr.setCell ⟨r, 1, none⟩ (.slice none 0 0)) := ((h.keepF hg2).trans (Keep.of_grown hG (fun q hq => by cases hq; exact hgF))).trans (Keep.of_grown hgc (fun q hq => by cases hq; exact h.rF))
        have HP : Hid _ := h.emptied hKF hr3 hO3 rfl (over_len _ _) a3 a4 a5
        have HK : Hid _ := hKF
        obtain ⟨-, y1, -⟩ := hrr.cells
        clear hr3 hgc hO3 hKF hO hG hrr hP hBx hg2 hr2 h c0 c1 hact hbg hpg a5 e1 e2 e3 e4 e5
        go_wp2
        go_ret
        exact ⟨rfl, F, R, ⟨r, _, _, [], sp', rfl, HP.out⟩, fun q hq => .inl hq, fun q hq => .inl hq, HK.out⟩
set_option linter.unusedSimpArgs false in
set_option maxHeartbeats 1600000 in
set_option maxRecDepth 100000 in
theorem devRestart (w : World) (d : Value) (st : DSt) (F R : List Nat) (xb : Option Addr) (nb cb : Nat) (bs : List Bool) (h : DevIs w d st F R) (hp9 : st.pend.length ≤ 1099511627776) (hbl : bs.length = nb) (hbs : IsG w (.slice xb nb cb) (bs.map Value.bool)) (hbF : bs ≠ [] → ∀ x, xb = some x → x.block ∉ F) :
    Calls Try.prog 11 #[d, .slice xb nb cb] w fun e w' => e = .returned (.tuple #[]) ∧ ∃ F' R', DevIs w' d (reSt st bs) F' R' ∧ (∀ q ∈ F', q ∈ F ∨ w.heap.size ≤ q) ∧ (∀ q ∈ R', q ∈ R ∨ w.heap.size ≤ q) ∧ Keep F w w' := by
  obtain ⟨r, vl, vp, ps, sp, rfl, h⟩ := h
  have hpl := h.plen
  obtain ⟨xl, cl, rfl⟩ := (h.last.isK secE_ok).len
  obtain ⟨xp, cp, rfl⟩ := (h.pend.isK actE_ok).len
  have hlo := h.ok.lo
  obtain ⟨g, rfl, hg⟩ := h.last.form (by omega)
  obtain ⟨n, hn⟩ : ∃ n, st.last.length = n := ⟨_, rfl⟩
  obtain ⟨np, hnp⟩ : ∃ n, ps.length = n := ⟨_, rfl⟩
  have hact : ∀ (i : Nat) (x : Ac), ps[i]? = some x → st.pend[i]? = some x.1 ∧ ∃ a : Nat, x.1.1 = (a : Int) ∧ a < n := fun i x hx => by rw [← hn]; exact h.act hx
  rw [hn, hnp] at h
  have hplen : st.pend.length = np := by omega
  rw [hplen] at hp9
  have hgF : g ∈ F := (h.lF g rfl).1
  have hgr : g ≠ r := (h.lF g rfl).2.1
  have hpg : ∀ q, (Value.slice xp np cp).ownBlock = some q → q ≠ g := fun q hq e => (h.lF g rfl).2.2 (by rw [hq, e])
  have hbg : ∀ y ∈ ps, y.2.1 ≠ g ∧ y.2.2 ≠ g := fun y hy => ⟨fun e => (h.box y hy).2.2.1 (by rw [e]; exact hgF), fun e => (h.box y hy).2.2.2.2 (by rw [e]; exact hgF)⟩
  obtain ⟨c0, c1, -⟩ := h.row.cells
  go_enter Try.func11, Try.ntmps11
  go_wp2_with fail
  go_loopw [13] (fun v wr => ∃ i : Nat, i ≤ np ∧ v = .int .i64 i ∧ OwnK secE wr 0 (.slice (some ⟨g, 0, none⟩) n cl) (over st.last (pickL (st.pend.take i) bs)) ∧ w.grownBy wr (some g)) (fun v _ => np - (intOf v).toNat)
  case atStart => exact ⟨0, by omega, rfl, by simpa [pickL, over] using h.last, grown_drew w 0 _⟩
  case round =>
    obtain ⟨i, hi, rfl, hO, hG⟩ := hrel
    have hK : Keep [g] w wr := Keep.of_grown hG (fun q hq => by cases hq; simp)
    have hrr := h.row.kept (hG.block r h.row.lt (fun e => by cases e; exact hgr rfl))
    by_cases hlt : i < np
    · obtain ⟨x, hx⟩ : ∃ x, ps[i]? = some x := ⟨ps[i]'(by omega), List.getElem?_eq_getElem (by omega)⟩
      obtain ⟨hxp, a, ha, hal⟩ := hact i x hx
      have hPw := h.pend.keeps hK (fun q hq => by simpa using hpg q hq)
      obtain ⟨gp, rfl, hgp⟩ := hPw.form (by omega)
      obtain ⟨dok, drg⟩ := actCells hPw i x hx
      have hxm := List.mem_of_getElem? hx
      have hbx := (h.box x hxm).1.keeps hK (by simpa using (hbg x hxm).1) (by simpa using (hbg x hxm).2)
      have i0 : (0 : Int) ≤ (i : Int) := by omega
      have i1 : (i : Int) < (np : Int) := by omega
      obtain ⟨xx, ga, gs⟩ := x
      simp only at hxp ha
      obtain ⟨q1, -, -⟩ := actRow wr (xx, ga, gs)
      simp only at q1
      have b2 := below_alloc wr (.cells (actA (xx, ga, gs)) 81)
      by_cases hc : i < nb
      · obtain ⟨b, hb⟩ : ∃ b, bs[i]? = some b := ⟨bs[i]'(by omega), List.getElem?_eq_getElem (by omega)⟩
        obtain ⟨bb, bo, hxb, hbb, hbc⟩ := hbs.spot i (by rw [List.length_map]; omega)
        have hbk := hbc i (.bool b) (by rw [List.getElem?_map, hb]; rfl)
        have hbg9 : bb ≠ g := fun e => hbF (List.ne_nil_of_length_pos (by omega)) _ hxb (by rw [e]; exact hgF)
        have hbk2 : wr.cell? ⟨bb, bo + i, none⟩ = some (.bool b) := by
          rw [← hbk]
          exact cell_block (hG.block bb hbb (fun e => by cases e; exact hbg9 rfl))
        have hbk3 := cell_later b2 hbk2
        subst hxb
        have i2 : (i : Int) < (nb : Int) := by omega
        have hps := pick_step st.pend bs i xx b hxp hb
        cases b with
        | false =>
          simp only [Bool.false_eq_true, if_false, List.append_nil] at hps
          rw [← hps] at hO
          have HO : Hid _ := hO.keep b2
          have HG : Hid _ := grown_two hG (Below.grown b2 (some g))
          clear hO hG hx hxp ha hb hbk hbc hps hrr hK hpg h hbs hbF hPw hbx hact hbg b2 q1 hxm c0 c1
          go_upto_region 4 with fail
          generalize wr.alloc (.cells (actA (xx, ga, gs)) 81) = X at hbk3 HO HG ⊢
          clear dok drg hbk2
          go_wp2
          go_roundw
          case rel => exact ⟨i + 1, by omega, by go_num, HO.out, HG.out⟩
          case measure => simp [intOf]; omega
        | true =>
          have HX : Hid (over st.last (pickL (st.pend.take (i + 1)) bs) = (over st.last (pickL (st.pend.take i) bs)).set a xx.2) := by
            show _ = _
            rw [hps]
            show over _ (_ ++ [xx]) = _
            rw [over_snoc, ha]; rfl
          obtain ⟨k1, k2⟩ := hbx
          rw [ha] at k1
          simp only at k1 k2
          have hg5 : wr.heap.size < (wr.alloc (.cells (actA (xx, ga, gs)) 81)).heap.size := by simp
          have k0 := cell_later b2 hrr.cells.1
          have k1' := cell_later b2 k1
          have k2' := k2.kept b2
          have hO' := hO.keep b2
          have hG' := grown_two hG (Below.grown b2 (some g))
          have hrl5 : r < wr.heap.size := hrr.lt
          clear hO hG hx hxp ha hb hbk hbc hps hrr hK hpg h hbs hbF hPw hact hbg b2 hxm c0 c1 k1 k2
          go_upto_region 4 with fail
          generalize wr.alloc (.cells (actA (xx, ga, gs)) 81) = X at q1 hbk3 hg5 k0 k1' k2' hO' hG' ⊢
          obtain ⟨g5, hg5'⟩ : ∃ q, wr.heap.size = q := ⟨_, rfl⟩
          simp only [hg5']
          rw [hg5'] at q1 hg5 hrl5
          clear dok drg hbk2
          go_upto_region 5 with fail
          clear hbk3
          refine wp_reliesT [Fx (.pointer (some ⟨g5, 65, none⟩)), Fx (cloV ga gs), Fx (.pointer (some ⟨r, 0, none⟩)), Fx (.pointer (some ⟨r, 0, none⟩)), Fx (.pointer (some ⟨r, 0, none⟩)), Fx (.slice (some ⟨g, 0, none⟩) n cl)] (by kernel_rfl) (by kernel_rfl) ?_ ?_ ?_
          · repeat' (first | exact all_nil | apply all_cons)
            all_goals intro v y y' hv hb
            all_goals first | exact Fx_mono _ _ _ _ hv hb
          · refine ⟨?_, ?_, ?_, ?_, ?_, ?_, trivial⟩
            all_goals
              intro ρ x hp ρc ρg ρf ho hd
              have o5 : ρ (.tmp 5) = .pointer (some ⟨g5, 0, none⟩) := ho 5 rfl
              have o0 : ρ (.tmp 0) = .pointer (some ⟨r, 0, none⟩) := ho 0 rfl
              clear ho
              have q0 := cell_later hp k0
              have qc := cell_later hp q1
              simp only [depsR, depR, slotR, Fx, List.getElem?_cons_succ, List.getElem?_cons_zero, Region.binds, forall_const] at hd
              simp only [guardR]
              go_split_ands
            · go_simp
            · go_simp
            · go_simp
            · go_simp
            · go_simp
            · go_simp
          · intro vs x_1 hp hw
            simp only [owed, Fx] at hw
            obtain ⟨e0, e1, e2, e3, e4, e5, -⟩ := hw
            simp only [List.length_cons, List.length_nil, List.take_succ_cons, List.take_zero, List.drop_succ_cons, List.drop_zero, asg, List.cons_append, List.nil_append, e0, e1, e2, e3, e4, e5]
            clear e0 e1 e2 e3 e4 e5
            have hclo := clo_any x_1 0 g n cl a ga gs xx.2 (over st.last (pickL (st.pend.take i) bs)) (hO'.keep hp) (by omega) (cell_later hp k1') (k2'.kept hp)
            have hO2 := secPut (hO'.keep hp) a xx.2 (by omega)
            rw [← HX.out] at hO2
            have HO : Hid _ := hO2
            have HG : Hid _ := grown_two (grown_two hG' (Below.grown hp (some g))) (grown_setC x_1 g (a * 64) (secA xx.2).toList)
            clear hO' hG' hO2 hp k0 k1' k2' q1 HX
            unfold cloV
            go_wp2_with fail
            refine hclo.mono ?_
            rintro e X' ⟨rfl, hX'⟩
            rw [← hX'] at HO HG
            clear hclo hX'
            go_wp2
            go_roundw
            case rel => exact ⟨i + 1, by omega, by go_num, HO.out, HG.out⟩
            case measure => simp [intOf]; omega
      · have i2 : ¬ (i : Int) < (nb : Int) := by omega
        have hpe : pickL (st.pend.take (i + 1)) bs = pickL (st.pend.take i) bs := by rw [pick_end _ _ _ (.inr (by omega)), pick_end _ _ _ (.inr (by omega))]
        rw [← hpe] at hO
        have HO : Hid _ := hO.keep b2
        have HG : Hid _ := grown_two hG (Below.grown b2 (some g))
        clear hO hG hx hxp ha hpe hrr hK hpg h hbs hbF hPw hbx hact hbg b2 q1 hxm c0 c1
        go_upto_region 4 with fail
        generalize wr.alloc (.cells (actA (xx, ga, gs)) 81) = X at HO HG ⊢
        clear dok drg
        go_wp2
        go_roundw
        case rel => exact ⟨i + 1, by omega, by go_num, HO.out, HG.out⟩
        case measure => simp [intOf]; omega
    · obtain rfl : i = np := by omega
      rw [pick_end _ _ _ (.inl (by omega))] at hO
      have r1 : DevRow (wr.setCell ⟨r, 1, none⟩ (.slice none 0 0)) r (.slice (some ⟨g, 0, none⟩) n cl) (.slice none 0 0) sp st := hrr.set 1 _ rfl
      have r2 : DevRow ((wr.setCell ⟨r, 1, none⟩ (.slice none 0 0)).setCell ⟨r, 2, none⟩ (.bool false)) r (.slice (some ⟨g, 0, none⟩) n cl) (.slice none 0 0) sp { st with down := false } := r1.set 2 _ rfl
      have r3 : DevRow (((wr.setCell ⟨r, 1, none⟩ (.slice none 0 0)).setCell ⟨r, 2, none⟩ (.bool false)).setCell ⟨r, 3, none⟩ (.int .i64 (-1))) r (.slice (some ⟨g, 0, none⟩) n cl) (.slice none 0 0) (-1) (reSt st bs) := r2.set 3 _ rfl
      have z1 := hrr.frozen 1
      have z2 := r1.frozen 2
      have z3 := r2.frozen 3
      obtain ⟨-, y1, -⟩ := hrr.cells
      obtain ⟨-, -, y2, -⟩ := r1.cells
      obtain ⟨-, -, -, y3, -⟩ := r2.cells
      have hgc : wr.grownBy (((wr.setCell ⟨r, 1, none⟩ (.slice none 0 0)).setCell ⟨r, 2, none⟩ (.bool false)).setCell ⟨r, 3, none⟩ (.int .i64 (-1))) (some r) := grown_two (grown_two (grown_cell _ _ _ _) (grown_cell _ _ _ _)) (grown_cell _ _ _ _)
      have hO3 := hO.keeps (F := [r]) (Keep.of_grown hgc (fun q hq => by cases hq; simp)) (fun q hq => by cases hq; simpa using hgr)
      have hKF : Keep F w _ := (Keep.of_grown hG (fun q hq => by cases hq; exact hgF)).trans (Keep.of_grown hgc (fun q hq => by cases hq; exact h.rF))
      have HP : Hid _ := h.emptied hKF r3 hO3 rfl (over_len _ _) (by omega) (by omega) rfl
      have HK : Hid _ := hKF
      clear r1 r2 r3 hgc hO3 hKF hO hG hrr h c0 c1 hact hbg hpg hbs
      go_wp2
      go_end0
      exact ⟨rfl, F, R, ⟨r, _, _, [], -1, rfl, HP.out⟩, fun q hq => .inl hq, fun q hq => .inl hq, HK.out⟩
end Go.Proofs.Ytpckdkgbeemalaa
namespace Go.Proofs.Ytpckdkgbeemalaa
open Go.RowKit

/-! current, Read -/
theorem secCells {w : World} {B g n c : Nat} {ms : List Sc} (h : OwnK secE w B (.slice (some ⟨g, 0, none⟩) n c) ms) (i : Nat) (s : Sc) (hi : ms[i]? = some s) : rgOk w g (i * 64) 64 = true ∧ rg w g (i * 64) 64 = secA s := by
  have hr := h.range secE_ok i s hi
  rw [secE_k, secE_enc] at hr
  have h2 := rg_of (k := 64) hr (by simp)
  rw [toA] at h2
  exact h2
theorem setRow_bel {B n : Nat} {w0 w : World} (hb : Below B w0 w) (h : B ≤ n) (c : Array Value) : Below B w0 (w.setRow n c) := below_row hb h c
set_option linter.unusedSimpArgs false in
set_option maxHeartbeats 800000 in
theorem current_any (w : World) (r : Nat) (vl vp : Value) (ps : List Ac) (sp : Int) (st : DSt) (F R : List Nat) (m : Nat) (h : DevP w r vl vp ps sp st F R) (hm : m < st.last.length) (hp9 : st.pend.length ≤ 1099511627776) :
    Calls Try.prog 70 #[.pointer (some ⟨r, 0, none⟩), .int .i64 (m : Int)] w fun e w' => e = .returned (.agg (secA (curS st m st.pend.length))) ∧ Below w.heap.size w w' := by
  have hpl := h.plen
  obtain ⟨xl, cl, rfl⟩ := (h.last.isK secE_ok).len
  obtain ⟨xp, cp, rfl⟩ := (h.pend.isK actE_ok).len
  have hlo := h.ok.lo
  obtain ⟨g, rfl, hg⟩ := h.last.form (by omega)
  obtain ⟨s0, hs0⟩ : ∃ s, st.last[m]? = some s := ⟨st.last[m], List.getElem?_eq_getElem hm⟩
  obtain ⟨l0, l1⟩ := secCells h.last m s0 hs0
  obtain ⟨n, hn⟩ : ∃ n, st.last.length = n := ⟨_, rfl⟩
  obtain ⟨np, hnp⟩ : ∃ n, ps.length = n := ⟨_, rfl⟩
  have hact : ∀ (i : Nat) (x : Ac), ps[i]? = some x → st.pend[i]? = some x.1 ∧ ∃ a : Nat, x.1.1 = (a : Int) ∧ a < n := fun i x hx => by rw [← hn]; exact h.act hx
  have h1 := h.row
  have hP := h.pend
  have hmn := hm
  rw [hn, hnp] at h1
  rw [hnp] at hP
  rw [hn] at hm
  rw [← hpl, hnp] at hp9 ⊢
  have hcz := curS_zero st m s0 hs0
  clear h
  go_enter Try.func70, Try.ntmps70
  have b0 := below_alloc w (.cells (secA secZ) 44)
  have hZ := ScR.new w secZ 44
  go_upto_region 1 with fail
  obtain ⟨z, hz⟩ : ∃ z, w.heap.size = z := ⟨_, rfl⟩
  simp only [hz]
  rw [hz] at hZ
  generalize w.alloc (.cells (secA secZ) 44) = W at b0 hZ ⊢
  have hrl := h1.lt
  have hrW := h1.kept (b0.block r hrl)
  obtain ⟨c0, c1, -⟩ := hrW.cells
  have wn : IntKind.i64.wrap ((np : Int) - 1) = (np : Int) - 1 := by rw [IntKind.wrap_i64]; omega
  have hPW := hP.keep b0
  have hgW : g < W.heap.size := Nat.lt_of_lt_of_le hg b0.size
  have lW := rg_later b0 hg (m * 64) 64
  have l0' := lW.1.trans l0
  have l1' := lW.2.trans l1
  have hrWl := hrW.lt
  clear lW l0 l1 hP h1
  go_wp2_with fail
  clear c0 c1 wn
  go_loopw [5] (fun v wr => ∃ k : Nat, k ≤ np ∧ v = .int .i64 ((k : Int) - 1) ∧ curS st m np = curS st m k ∧ Below W.heap.size W wr) (fun v _ => (intOf v + 1).toNat)
  case atStart => exact ⟨np, Nat.le_refl _, rfl, rfl, Below.refl _ _⟩
  case round =>
    obtain ⟨k, hk, rfl, hcur, hB⟩ := hrel
    have hrr := hrW.kept (hB.block r hrWl)
    obtain ⟨k0, k1, -⟩ := hrr.cells
    have hZr := hZ.kept hB
    have hzs : w.heap.size ≤ z := by omega
    cases k with
    | zero =>
      have e1 : ((0 : Nat) : Int) - 1 = -1 := by omega
      simp only [e1]
      have lr := rg_later hB hgW (m * 64) 64
      have m0 := lr.1.trans l0'
      have m1 := lr.2.trans l1'
      have i0 : (0 : Int) ≤ (m : Int) := by omega
      have i1 : (m : Int) < (n : Int) := by omega
      obtain ⟨rok, rat⟩ := hZr
      have hE : ScR (wr.setRow z (secA s0)) z s0 := ⟨rowOk_setRow_same _ _ _ rok (secA_size _), rowAt_setRow_same _ _ _ rok⟩
      have HE : Hid _ := hE
      have HB : Hid (Below w.heap.size w (wr.setRow z (secA s0))) := setRow_bel (b0.trans (hB.mono b0.size)) hzs _
      have HC : Hid (curS st m np = s0) := by show _ = _; rw [hcur, hcz]
      clear lr l0' l1' hrr hE hcur hcz hB b0 hZ hPW hact hrW k1
      go_wp2
      exact bodyPost_sec 4 z rfl rfl rfl HE.out.1 (by rw [HE.out.2]; exact ⟨by rw [HC.out], HB.out⟩)
    | succ k =>
      have e1 : ((k + 1 : Nat) : Int) - 1 = (k : Int) := by omega
      simp only [e1]
      obtain ⟨x, hx⟩ : ∃ x, ps[k]? = some x := ⟨ps[k]'(by omega), List.getElem?_eq_getElem (by omega)⟩
      obtain ⟨hxp, b, hb, hbl⟩ := hact k x hx
      have hPw := hPW.keep hB
      obtain ⟨gp, rfl, hgp⟩ := hPw.form (by omega)
      obtain ⟨dok, drg⟩ := actCells2 hPw k x hx
      have i0 : (0 : Int) ≤ (k : Int) := by omega
      have i1 : (k : Int) < (np : Int) := by omega
      obtain ⟨xx, ga, gs⟩ := x
      simp only at hxp hb drg
      obtain ⟨q0, q1, q2⟩ := wrRow wr xx
      have b2 := below_alloc wr (.cells (wrA xx) 54)
      rw [hb] at q0
      have hZ2 := hZr.kept b2
      by_cases he : b = m
      · have hbm : (b : Int) = (m : Int) := by omega
        have hc := curS_new st m k xx hxp (by rw [hb, he]) hmn
        obtain ⟨rok, rat⟩ := hZ2
        have hE : ScR ((wr.alloc (.cells (wrA xx) 54)).setRow z (secA xx.2)) z xx.2 := ⟨rowOk_setRow_same _ _ _ rok (secA_size _), rowAt_setRow_same _ _ _ rok⟩
        have HE : Hid _ := hE
        have hB2 : Below w.heap.size w (wr.alloc (.cells (wrA xx) 54)) := (b0.trans (hB.mono b0.size)).trans (b2.mono (by have := b0.size; have := hB.size; omega))
        have HB : Hid _ := setRow_bel hB2 hzs (secA xx.2)
        have HC : Hid (curS st m np = xx.2) := by show _ = _; rw [hcur, hc]
        clear hE hB2 hcur hc hcz hB b0 hZ hPW hPw hact hrr hrW hZr l0' l1' hxp hx hb k0
        go_upto_region 5 with fail
        generalize wr.alloc (.cells (wrA xx) 54) = X at q0 q1 q2 rok rat HE HB b2 ⊢
        obtain ⟨g6, hg6⟩ : ∃ q, wr.heap.size = q := ⟨_, rfl⟩
        simp only [hg6]
        rw [hg6] at q0 q1 q2
        obtain ⟨s1, hs1⟩ : ∃ s, xx.2 = s := ⟨_, rfl⟩
        rw [hs1] at q2 HE HB HC
        clear dok drg k1
        go_wp2
        exact bodyPost_sec 4 z rfl rfl rfl HE.out.1 (by rw [HE.out.2]; exact ⟨by rw [HC.out], HB.out⟩)
      · have hbm : ¬ (b : Int) = (m : Int) := by omega
        have hc := curS_same st m k b xx hxp hb he
        have HC : Hid (curS st m np = curS st m k) := by show _ = _; rw [hcur, hc]
        have HB : Hid (Below W.heap.size W (wr.alloc (.cells (wrA xx) 54))) := hB.trans (b2.mono hB.size)
        have wk : IntKind.i64.wrap ((k : Int) - 1) = (k : Int) - 1 := by rw [IntKind.wrap_i64]; omega
        clear hcur hc hcz hB b0 hZ hPW hPw hact hrr hrW hZr hZ2 l0' l1' hxp hx hb k0 q1 q2
        go_upto_region 5 with fail
        generalize wr.alloc (.cells (wrA xx) 54) = X at q0 HB b2 ⊢
        clear dok drg k1
        go_wp2
        go_roundw
        case rel => exact ⟨k, by omega, rfl, HC.out, HB.out⟩
        case measure => simp [intOf]
set_option linter.unusedSimpArgs false in
set_option maxHeartbeats 800000 in
theorem devRead (w : World) (d : Value) (st : DSt) (F R : List Nat) (a : Int) (h : DevIs w d st F R) (hp9 : st.pend.length ≤ 1099511627776) (hrd : st.rd < 4611686018427387904) :
    Calls Try.prog 52 #[d, .int .i64 a] w fun e w' => e = .returned (.tuple #[.agg (secA (rdSec st a)), .int .i64 (rdRes st a)]) ∧ ∃ F' R', DevIs w' d (rdSt st a) F' R' ∧ (∀ q ∈ F', q ∈ F ∨ w.heap.size ≤ q) ∧ (∀ q ∈ R', q ∈ R ∨ w.heap.size ≤ q) ∧ Keep F w w' := by
  obtain ⟨r, vl, vp, ps, sp, rfl, h⟩ := h
  obtain ⟨xl, cl, rfl⟩ := (h.last.isK secE_ok).len
  have b0 := below_alloc w (.cells (secA secZ) 44)
  have hZ := ScR.new w secZ 44
  have h0 := h.keeps (G := []) (Keep.of_below b0) (fun _ _ => by simp)
  have hRe := reach_any (w.alloc (.cells (secA secZ) 44)) r _ vp sp st xl cl a h0.row rfl
  have hri : reachI st a = rdRes st a := rfl
  rw [hri] at hRe
  have hrl := h.lt
  by_cases hr0 : rdRes st a = 0
  · have hQ : rdSec st a = ((over st.last st.pend)[a.toNat]?).getD secZ := by unfold rdSec; rw [if_pos hr0]
    have hS : rdSt st a = { st with rd := st.rd + 1 } := by unfold rdSt; rw [if_pos hr0]
    have ht : thereB st a = true := by
      unfold rdRes at hr0
      split at hr0
      · cases hr0
      · split at hr0
        · assumption
        · cases hr0
    have ht2 : 0 ≤ a ∧ a < (st.last.length : Int) := by unfold thereB at ht; simpa using ht
    obtain ⟨m, rfl⟩ : ∃ m : Nat, a = (m : Int) := ⟨a.toNat, by omega⟩
    have hml : m < st.last.length := by omega
    obtain ⟨r1, hr1⟩ : ∃ k, st.rd + 1 = k := ⟨_, rfl⟩
    have hQ2 : rdSec st (m : Int) = curS st m st.pend.length := by rw [hQ]; unfold curS; rw [List.take_of_length_le (Nat.le_refl _)]; rfl
    obtain ⟨s1, hs1⟩ : ∃ s, curS st m st.pend.length = s := ⟨_, rfl⟩
    rw [hQ2, hS, hr1, hs1]
    rw [hr0] at hRe ⊢
    go_enter Try.func52, Try.ntmps52
    go_wp2_with fail
    obtain ⟨z, hz⟩ : ∃ z, w.heap.size = z := ⟨_, rfl⟩
    simp only [hz]
    rw [hz] at hZ
    generalize w.alloc (.cells (secA secZ) 44) = W at b0 hZ h0 hRe ⊢
    refine hRe.mono ?_
    rintro e w1 ⟨rfl, hw1⟩
    rw [hw1]
    clear hRe hw1
    obtain ⟨-, -, -, -, c4, -⟩ := h0.row.cells
    have z4 := h0.row.frozen 4
    have w4 : IntKind.i64.wrap ((st.rd : Int) + 1) = (r1 : Int) := by rw [IntKind.wrap_i64]; omega
    have hr2 : DevRow (W.setCell ⟨r, 4, none⟩ (.int .i64 (r1 : Int))) r (.slice xl st.last.length cl) vp sp { st with rd := r1 } := h0.row.set 4 _ rfl
    have hg2 := grown_cell W r 4 (.int .i64 (r1 : Int))
    have hP2 := h0.turned (st' := { st with rd := r1 }) hg2 hr2 rfl rfl h.s0 h.s1 h.left h0.apart
    have hK2 := h0.keepF hg2
    have hzr : z ≠ r := fun e => by have := hrl r (h.sub r h.rF); omega
    have hZ2 : ScR (W.setCell ⟨r, 4, none⟩ (.int .i64 (r1 : Int))) z secZ := hZ.blk (hg2.block z hZ.lt (fun e => by cases e; exact hzr rfl))
    generalize (st.rd : Int) = rd0 at c4 w4
    have HK0 : Hid (Keep F w W) := Keep.of_below b0
    clear h0 hr2 hg2 hZ
    go_upto_region 7 with fail
    generalize W.setCell ⟨r, 4, none⟩ (.int .i64 (r1 : Int)) = X at hP2 hK2 hZ2 ⊢
    have hcu := current_any X r _ vp ps sp { st with rd := r1 } F R m hP2 hml hp9
    have hce : curS { st with rd := r1 } m ({ st with rd := r1 } : DSt).pend.length = curS st m st.pend.length := rfl
    rw [hce, hs1] at hcu
    clear c4 z4 w4
    go_wp2_with fail
    refine hcu.mono ?_
    rintro e X1 ⟨rfl, hB1⟩
    have hZ3 := hZ2.kept hB1
    have hE : ScR (X1.setRow z (secA s1)) z s1 := ⟨rowOk_setRow_same _ _ _ hZ3.1 (secA_size _), rowAt_setRow_same _ _ _ hZ3.1⟩
    have hKz : Keep [z] X (X1.setRow z (secA s1)) := (Keep.of_below hB1).trans (Keep.of_grown (setRow_grown X1 z _) (fun q hq => by cases hq; simp))
    have HP : Hid (DevP (X1.setRow z (secA s1)) r (.slice xl st.last.length cl) vp ps sp { st with rd := r1 } F R) := hP2.keeps hKz (fun q hq => by have := hrl q hq; simp; omega)
    have hKz2 : Keep (z :: F) w (X1.setRow z (secA s1)) := (((HK0.out).mono (fun q hq => .inl (List.mem_cons_of_mem _ hq))).trans (hK2.mono (fun q hq => .inl (List.mem_cons_of_mem _ hq)))).trans (hKz.mono (fun q hq => .inl (by simp only [List.mem_singleton] at hq; simp [hq])))
    have HK : Hid (Keep F w (X1.setRow z (secA s1))) := hKz2.mono (fun q hq => by
      rcases List.mem_cons.1 hq with rfl | hq
      · exact .inr (by omega)
      · exact .inl hq)
    have HE : Hid _ := hE
    obtain ⟨rok, rat⟩ := hZ3
    clear hcu hB1 hE hKz hKz2 hP2 hK2 HK0 hZ2 h hrl hce b0 hQ hQ2 hS
    go_wp2
    exact sec_bodyPost2 4 5 z s1 rfl rfl rfl HE.out ⟨rfl, F, R, ⟨r, _, vp, ps, sp, rfl, HP.out⟩, fun q hq => .inl hq, fun q hq => .inl hq, HK.out⟩
  · have hQ : rdSec st a = secZ := by unfold rdSec; rw [if_neg hr0]
    have hS : rdSt st a = st := by unfold rdSt; rw [if_neg hr0]
    rw [hQ, hS]
    generalize rdRes st a = e9 at hRe hr0 ⊢
    have HP : Hid (∀ X, Below w.heap.size w X → DevP X r (.slice xl st.last.length cl) vp ps sp st F R) := fun X hX => h.keeps (G := []) (Keep.of_below hX) (fun _ _ => by simp)
    go_enter Try.func52, Try.ntmps52
    go_wp2_with fail
    obtain ⟨z, hz⟩ : ∃ z, w.heap.size = z := ⟨_, rfl⟩
    simp only [hz]
    rw [hz] at hZ
    generalize w.alloc (.cells (secA secZ) 44) = W at b0 hZ h0 hRe ⊢
    refine hRe.mono ?_
    rintro e w1 ⟨rfl, hw1⟩
    rw [hw1]
    have hE : ScR (W.setRow z (secA secZ)) z secZ := ⟨rowOk_setRow_same _ _ _ hZ.1 (secA_size _), rowAt_setRow_same _ _ _ hZ.1⟩
    have HE : Hid _ := hE
    have HB : Hid (Below w.heap.size w (W.setRow z (secA secZ))) := setRow_bel b0 (by omega) _
    obtain ⟨rok, rat⟩ := hZ
    clear hRe hw1 h h0 hE hQ hS
    go_wp2
    exact sec_bodyPost2 4 5 z secZ rfl rfl rfl HE.out ⟨rfl, F, R, ⟨r, _, vp, ps, sp, rfl, HP.out _ HB.out⟩, fun q hq => .inl hq, fun q hq => .inl hq, Keep.of_below HB.out⟩
end Go.Proofs.Ytpckdkgbeemalaa
