import Derived.Test.YtadnfiikfhdphaaQDev4
import Derived.Test.YtadnfiikfhdphaaQNum
namespace Go.Proofs.Ytadnfiikfhdphaa
open Go.RowKit

/-! The document's device: Flush, Sectors, Restart, Stop -/
theorem secStore_mid {w : World} {B g n c : Nat} {ms : List Sc} (h : OwnK secE w B (.slice (some ⟨g, 0, none⟩) n c) ms) (K : Nat) (d : Sc) (hK : K < n) : (secStore (.pointer (some ⟨g, K * 64, none⟩)) (.agg (secA d))).run Try.prog w = .ok .skip (w.setCells g (K * 64) (secA d).toList) := by
  have hs := h.store secE_ok K d hK
  rw [secE_arr, secE_k, secE_enc] at hs
  have hT : secE.T = 27 := rfl
  rw [hT] at hs
  simp only [secStore, Sem.run_bind, hs]
  rfl
theorem secPut {w : World} {B g n c : Nat} {ms : List Sc} (h : OwnK secE w B (.slice (some ⟨g, 0, none⟩) n c) ms) (K : Nat) (d : Sc) (hK : K < n) : OwnK secE (w.setCells g (K * 64) (secA d).toList) B (.slice (some ⟨g, 0, none⟩) n c) (ms.set K d) := by
  have := h.put secE_ok K d hK
  rwa [secE_k, secE_enc] at this
theorem Below.grown {w w' : World} (h : Below w.heap.size w w') (row : Option Nat) : w.grownBy w' row := ⟨h.os, h.tape, h.output, h.size, fun k hk _ => h.block k hk⟩
theorem wrCells {w : World} {B g n c : Nat} {ms : List Wr} (h : OwnK wrE w B (.slice (some ⟨g, 0, none⟩) n c) ms) (i : Nat) (x : Wr) (hi : ms[i]? = some x) : w.cell? ⟨g, i * 65, none⟩ = some (.int .i64 x.1) ∧ rgOk w g (i * 65 + 1) 64 = true ∧ rg w g (i * 65 + 1) 64 = secA x.2 := by
  have hr := h.range wrE_ok i x hi
  rw [wrE_k, wrE_enc, wrA_list] at hr
  have h0 := hr 0 _ rfl
  rw [Nat.add_zero] at h0
  have h1 : w.rangeAt g (i * 65 + 1) (secA x.2).toList := fun j u hu => by
    have := hr (j + 1) u (by rw [List.getElem?_cons_succ]; exact hu)
    rwa [show i * 65 + (j + 1) = i * 65 + 1 + j by omega] at this
  have h2 := rg_of h1 (by simp : (secA x.2).toList.length = 64)
  rw [toA] at h2
  exact ⟨h0, h2⟩
theorem pend_at {st : DSt} (h : StOk st) {i : Nat} {x : Wr} (hx : st.pend[i]? = some x) : ∃ a : Nat, x.1 = (a : Int) ∧ a < st.last.length := by
  have := h.at_ x (List.mem_of_getElem? hx)
  exact ⟨x.1.toNat, by omega, by omega⟩
theorem over_step {l : List Sc} {p : List Wr} {i : Nat} {x : Wr} {a : Nat} (hx : p[i]? = some x) (ha : x.1 = (a : Int)) : over l (p.take (i + 1)) = (over l (p.take i)).set a x.2 := by
  rw [List.take_add_one, hx]
  show over l (p.take i ++ [x]) = _
  rw [over_snoc, ha]; rfl
/-- A device of the document's, and the blocks in which it lies. -/
def RefIs (w : World) (B r : Nat) (st : DSt) (F : List Nat) : Prop := ∃ vl vp, RefRow w r vl vp st ∧ OwnK secE w B vl st.last ∧ OwnK wrE w B vp st.pend ∧ r ∈ F ∧ (∀ q, vl.ownBlock = some q → q ∈ F ∧ q ≠ r ∧ vp.ownBlock ≠ some q) ∧ (∀ q, vp.ownBlock = some q → q ∈ F ∧ q ≠ r) ∧ (∀ q ∈ F, B ≤ q ∧ q < w.heap.size) ∧ StOk st
theorem RefIs.keeps {w w' : World} {B r : Nat} {st : DSt} {F G : List Nat} (h : RefIs w B r st F) (hK : Keep G w w') (hd : ∀ q ∈ F, q ∉ G) : RefIs w' B r st F := by
  obtain ⟨vl, vp, h1, h2, h3, h4, h5, h6, h7, h8⟩ := h
  exact ⟨vl, vp, h1.kept (hK.block r h1.lt (hd r h4)), h2.keeps hK (fun q hq => hd q (h5 q hq).1), h3.keeps hK (fun q hq => hd q (h6 q hq).1), h4, h5, h6, fun q hq => ⟨(h7 q hq).1, Nat.lt_of_lt_of_le (h7 q hq).2 hK.size⟩, h8⟩
theorem RefIs.later {w w' : World} {B r : Nat} {st : DSt} {F : List Nat} (h : RefIs w B r st F) (hb : Below w.heap.size w w') : RefIs w' B r st F := h.keeps (G := []) (Keep.of_below hb) (fun _ _ => by simp)
theorem RefIs.lt {w : World} {B r : Nat} {st : DSt} {F : List Nat} (h : RefIs w B r st F) : ∀ q ∈ F, B ≤ q ∧ q < w.heap.size := by
  obtain ⟨vl, vp, h1, h2, h3, h4, h5, h6, h7, h8⟩ := h
  exact h7
theorem RefIs.ok {w : World} {B r : Nat} {st : DSt} {F : List Nat} (h : RefIs w B r st F) : StOk st := by
  obtain ⟨vl, vp, h1, h2, h3, h4, h5, h6, h7, h8⟩ := h
  exact h8
set_option linter.unusedSimpArgs false in
theorem refStop_any (w : World) (B r : Nat) (st : DSt) (F : List Nat) (k : Int) (h : RefIs w B r st F) (hk : -9223372036854775808 ≤ k ∧ k ≤ 9223372036854775807) :
    Calls Try.prog 30 #[.pointer (some ⟨r, 0, none⟩), .int .i64 k] w fun e w' => e = .returned (.tuple #[]) ∧ RefIs w' B r (stSt st k) F ∧ Keep F w w' := by
  obtain ⟨vl, vp, h1, h2, h3, h4, h5, h6, h7, h8⟩ := h
  obtain ⟨-, -, c2, -⟩ := h1.cells
  have f2 := h1.frozen 2
  have hR1 : RefRow (w.setCell ⟨r, 2, none⟩ (.int .i64 k)) r vl vp { st with left := k } := h1.set 2 _ rfl
  have fin : ∀ (w' : World) (l : Int), RefRow w' r vl vp { st with left := l } → w.grownBy w' (some r) → -1 ≤ l → l ≤ 9223372036854775807 → RefIs w' B r { st with left := l } F ∧ Keep F w w' := fun w' l hr hg a1 a2 => by
    have hK : Keep [r] w w' := Keep.of_grown hg (fun q hq => by cases hq; simp)
    refine ⟨⟨vl, vp, hr, h2.keeps hK (fun q hq => by simpa using (h5 q hq).2.1), h3.keeps hK (fun q hq => by simpa using (h6 q hq).2), h4, h5, h6, fun q hq => ⟨(h7 q hq).1, Nat.lt_of_lt_of_le (h7 q hq).2 hg.size⟩, ⟨h8.at_, h8.lo, h8.hi, a1, a2⟩⟩, hK.mono (fun q hq => .inl (by simp only [List.mem_singleton] at hq; subst hq; exact h4))⟩
  by_cases hn : k < 0
  · have f2' := hR1.frozen 2
    obtain ⟨-, -, c2', -⟩ := hR1.cells
    have hR2 : RefRow ((w.setCell ⟨r, 2, none⟩ (.int .i64 k)).setCell ⟨r, 2, none⟩ (.int .i64 (-1))) r vl vp { st with left := -1 } := hR1.set 2 _ rfl
    have HF : Hid _ := fin _ (-1) hR2 (grown_two (grown_cell _ _ _ _) (grown_cell _ _ _ _)) (by omega) (by omega)
    have HS : Hid (stSt st k = { st with left := -1 }) := by show _ = _; unfold stSt; rw [if_pos hn]
    clear h1 h2 h3 h5 h6 h7 h8 hR1 hR2 fin
    generalize st.left = l0 at c2
    go_enter Try.func30, Try.ntmps30
    go_wp2
    go_end0
    exact ⟨rfl, by rw [HS.out]; exact HF.out.1, HF.out.2⟩
  · have HF : Hid _ := fin _ k hR1 (grown_cell _ _ _ _) (by omega) (by omega)
    have HS : Hid (stSt st k = { st with left := k }) := by show _ = _; unfold stSt; rw [if_neg hn]
    clear h1 h2 h3 h5 h6 h7 h8 hR1 fin
    generalize st.left = l0 at c2
    go_enter Try.func30, Try.ntmps30
    go_wp2
    go_end0
    exact ⟨rfl, by rw [HS.out]; exact HF.out.1, HF.out.2⟩
set_option linter.unusedSimpArgs false in
set_option maxHeartbeats 800000 in
set_option maxRecDepth 100000 in
theorem refSectors_any (w : World) (B r : Nat) (st : DSt) (F : List Nat) (h : RefIs w B r st F) (hp : st.pend.length ≤ 1099511627776) :
    Calls Try.prog 32 #[.pointer (some ⟨r, 0, none⟩)] w fun e w' => ∃ g n c, e = .returned (.slice (some ⟨g, 0, none⟩) n c) ∧ OwnK secE w' w.heap.size (.slice (some ⟨g, 0, none⟩) n c) (over st.last st.pend) ∧ Below w.heap.size w w' := by
  have h8 := h.ok
  obtain ⟨vl, vp, h1, h2, h3, h4, h5, h6, h7, -⟩ := h
  obtain ⟨xl, cl, rfl⟩ := (h2.isK secE_ok).len
  obtain ⟨xp, cp, rfl⟩ := (h3.isK wrE_ok).len
  obtain ⟨c0, c1, -⟩ := h1.cells
  have hlo := h8.lo
  have hhi := h8.hi
  obtain ⟨y, c', w1, hr, hO, hB⟩ := run_copyK secE_ok w (.slice none 0 0) xl cl st.last w.heap.size 24 (OwnK.nil _ _ _) (Nat.le_refl _) (h2.isK secE_ok) (by show st.last.length * 64 ≤ _; omega) (by unfold maxLen; omega)
  obtain ⟨g, rfl, hg⟩ := hO.form (by omega)
  have c1' := cell_later hB c1
  have hP1 := h3.keep hB
  obtain ⟨n, hn⟩ : ∃ n, st.last.length = n := ⟨_, rfl⟩
  obtain ⟨np, hnp⟩ : ∃ n, st.pend.length = n := ⟨_, rfl⟩
  have hT : secE.S = 24 := rfl
  rw [hT] at hr
  rw [hn] at hr hO c0
  rw [hnp] at c1 c1' hP1 hp
  have hgl : w.heap.size ≤ g := (World.ownsRow.lt hO g rfl).1
  have hrl := h1.lt
  have hgr : g ≠ r := by omega
  have hpl := fun q hq => (World.ownsRow.lt h3 q hq).2
  rw [hnp] at hpl
  clear h2 h3 h5 h6 h7 h4
  go_enter Try.func32, Try.ntmps32
  go_wp2_with (at_builtin; refine wpL_appT 24 rfl _ _ rfl _ w1 (by exact hr) ?_)
  clear hr c0 c1
  go_loopw [4] (fun v wr => ∃ i : Nat, i ≤ np ∧ v = .int .i64 i ∧ OwnK secE wr w.heap.size (.slice (some ⟨g, 0, none⟩) n c') (over st.last (st.pend.take i)) ∧ w1.grownBy wr (some g)) (fun v _ => np - (intOf v).toNat)
  case atStart => exact ⟨0, by omega, rfl, hO, grown_drew w1 0 _⟩
  case round =>
    clear hO
    obtain ⟨i, hi, rfl, hO, hG⟩ := hrel
    have hK : Keep [g] w1 wr := Keep.of_grown hG (fun q hq => by cases hq; simp)
    have k1 : wr.cell? ⟨r, 1, none⟩ = some (.slice xp np cp) := by
      rw [← c1']
      unfold World.cell?
      rw [hG.block r (Nat.lt_of_lt_of_le hrl hB.size) (fun e => by cases e; exact hgr rfl)]
    by_cases hlt : i < np
    · obtain ⟨x, hx⟩ : ∃ x, st.pend[i]? = some x := ⟨st.pend[i]'(by omega), List.getElem?_eq_getElem (by omega)⟩
      obtain ⟨a, ha, hal⟩ := pend_at h8 hx
      have hPw := hP1.keeps hK (fun q hq => by have := hpl q hq; simp only [List.mem_singleton]; omega)
      obtain ⟨gp, rfl, hgp⟩ := hPw.form (by omega)
      obtain ⟨d0, dok, drg⟩ := wrCells hPw i x hx
      rw [ha] at d0
      obtain ⟨s, hs⟩ : ∃ s, x.2 = s := ⟨_, rfl⟩
      rw [hs] at drg
      have HX : Hid (over st.last (st.pend.take (i + 1)) = (over st.last (st.pend.take i)).set a s) := by show _ = _; rw [over_step hx ha, hs]
      have i0 : (0 : Int) ≤ (i : Int) := by omega
      have i1 : (i : Int) < (np : Int) := by omega
      have a0 : (0 : Int) ≤ (a : Int) := by omega
      have a1 : (a : Int) < (n : Int) := by omega
      have hrw : r < wr.heap.size := Nat.lt_of_lt_of_le (Nat.lt_of_lt_of_le hrl hB.size) hG.size
      clear hx ha hs hK hPw c1' hP1 hpl
      go_upto_region 6 with fail
      refine wp_reliesT [Fx ((.slice (some ⟨g, 0, none⟩) n c')), Fx (.pointer (some ⟨r, 0, none⟩)), Fx (.pointer (some ⟨r, 0, none⟩)), Fx (.pointer (some ⟨r, 1, none⟩)), Fx (.slice (some ⟨gp, 0, none⟩) np cp), Fx (.int .i64 (i : Nat)), Fx (.pointer (some ⟨gp, i * 65, none⟩)), Fx (.pointer (some ⟨gp, i * 65, none⟩)), Fx (.int .i64 (a : Nat)), Fx (.pointer (some ⟨r, 0, none⟩)), Fx (.pointer (some ⟨r, 0, none⟩)), Fx (.pointer (some ⟨r, 1, none⟩)), Fx (.slice (some ⟨gp, 0, none⟩) np cp), Fx (.int .i64 (i : Nat)), Fx (.pointer (some ⟨gp, i * 65, none⟩)), Fx (.pointer (some ⟨gp, i * 65 + 1, none⟩)), Fx (.agg (secA s)), Fx (.pointer (some ⟨g, a * 64, none⟩))] (by kernel_rfl) (by kernel_rfl) ?_ ?_ ?_
      · repeat' (first | exact all_nil | apply all_cons)
        all_goals intro v y y' hv hb
        all_goals first | exact Fx_mono _ _ _ _ hv hb
      · refine ⟨?_, ?_, ?_, ?_, ?_, ?_, ?_, ?_, ?_, ?_, ?_, ?_, ?_, ?_, ?_, ?_, ?_, ?_, trivial⟩
        all_goals
          intro ρ x hp ρc ρg ρf ho hd
          have o0 : ρ (.tmp 0) = .pointer (some ⟨r, 0, none⟩) := ho 0 rfl
          have o3 : ρ (.tmp 3) = (.slice (some ⟨g, 0, none⟩) n c') := ho 3 rfl
          have o4 : ρ (.tmp 4) = .int .i64 (i : Nat) := ho 4 rfl
          clear ho
          have q1 := cell_later hp k1
          have q2 := cell_later hp d0
          have g1 := rg_later hp hgp (i * 65 + 1) 64
          have q3 := g1.1.trans dok
          have q4 := g1.2.trans drg
          clear g1
          simp only [depsR, depR, slotR, Fx, List.getElem?_cons_succ, List.getElem?_cons_zero, Region.binds, forall_const] at hd
          simp only [guardR]
          go_split_ands
        · go_simp
        · go_simp
        · go_simp
        · go_simp
        · go_simp
        · go_simp
        · go_simp
        · go_simp
        · go_simp
        · go_simp
        · go_simp
        · go_simp
        · go_simp
        · go_simp
        · go_simp
        · go_simp
        · go_simp
        · go_simp
      · intro vs x_1 hp hw
        simp only [owed, Fx] at hw
        obtain ⟨e0, e1, e2, e3, e4, e5, e6, e7, e8, e9, e10, e11, e12, e13, e14, e15, e16, e17, -⟩ := hw
        simp only [List.length_cons, List.length_nil, List.take_succ_cons, List.take_zero, List.drop_succ_cons, List.drop_zero, asg, List.cons_append, List.nil_append, e0, e1, e2, e3, e4, e5, e6, e7, e8, e9, e10, e11, e12, e13, e14, e15, e16, e17]
        clear e0 e1 e2 e3 e4 e5 e6 e7 e8 e9 e10 e11 e12 e13 e14 e15 e16 e17
        have hst := secStore_mid (hO.keep hp) a s (by omega)
        have hO2 := secPut (hO.keep hp) a s (by omega)
        rw [← HX.out] at hO2
        have HO : Hid _ := hO2
        have HG : Hid _ := grown_two (grown_two hG (Below.grown hp (some g))) (grown_setC x_1 g (a * 64) (secA s).toList)
        clear hO hG hO2 hp k1 d0 dok drg
        go_wp2
        go_roundw
        case rel => exact ⟨i + 1, by omega, by go_num, HO.out, HG.out⟩
        case measure => simp [intOf]; omega
    · obtain rfl : i = np := by omega
      rw [List.take_of_length_le (by omega)] at hO
      have HO : Hid _ := hO
      have HB : Hid (Below w.heap.size w wr) := hB.trans ⟨hG.os, hG.tape, hG.output, hG.size, fun q hq => hG.block q (Nat.lt_of_lt_of_le hq hB.size) (fun e => by cases e; omega)⟩
      clear hO hG
      go_wp2
      go_ret
      exact ⟨g, n, c', rfl, HO.out, HB.out⟩
set_option linter.unusedSimpArgs false in
set_option maxHeartbeats 800000 in
set_option maxRecDepth 100000 in
theorem refFlush_any (w : World) (B r : Nat) (st : DSt) (F : List Nat) (h : RefIs w B r st F) (hp : st.pend.length ≤ 1099511627776) (hf : st.fl < 4611686018427387904) :
    Calls Try.prog 28 #[.pointer (some ⟨r, 0, none⟩)] w fun e w' => e = .returned (.int .i64 (flRes st)) ∧ RefIs w' B r (flSt st) F ∧ Keep F w w' := by
  have h9 := h
  have h8 := h.ok
  obtain ⟨vl, vp, h1, h2, h3, h4, h5, h6, h7, -⟩ := h
  obtain ⟨-, -, -, c3, -⟩ := h1.cells
  by_cases hd : st.down = true
  · rw [hd] at c3
    have HR : Hid (flRes st = 21) := by show _ = _; unfold flRes; rw [if_pos hd]
    have HS : Hid (flSt st = st) := by show _ = _; unfold flSt; rw [if_pos hd]
    clear h1 h2 h3 h5 h6 h7
    go_enter Try.func28, Try.ntmps28
    go_wp2
    go_ret
    exact ⟨by rw [HR.out]; rfl, by rw [HS.out]; exact h9, Keep.refl _ _⟩
  · have hd' : st.down = false := by simpa using hd
    rw [hd'] at c3
    have hm := refMay_any r vl vp st w h1 ⟨h8.l0, h8.l1⟩
    have hsl := mayS_left st h8
    obtain ⟨e1, e2, e3, e4, e5⟩ := mayS_same st
    have fin1 : ∀ w', RefRow w' r vl vp (mayS st) → w.grownBy w' (some r) → RefIs w' B r (mayS st) F ∧ Keep F w w' := fun w' hr hg => by
      have hK : Keep [r] w w' := Keep.of_grown hg (fun q hq => by cases hq; simp)
      exact ⟨⟨vl, vp, hr, by rw [e1]; exact h2.keeps hK (fun q hq => by simpa using (h5 q hq).2.1), by rw [e2]; exact h3.keeps hK (fun q hq => by simpa using (h6 q hq).2), h4, h5, h6, fun q hq => ⟨(h7 q hq).1, Nat.lt_of_lt_of_le (h7 q hq).2 hg.size⟩, ⟨by rw [e1, e2]; exact h8.at_, by rw [e1]; exact h8.lo, by rw [e1]; exact h8.hi, hsl.1, hsl.2⟩⟩, hK.mono (fun q hq => .inl (by simp only [List.mem_singleton] at hq; subst hq; exact h4))⟩
    obtain ⟨mb, hmb⟩ : ∃ b, mayB st = b := ⟨_, rfl⟩
    rw [hmb] at hm
    cases mb with
    | false =>
      have HR : Hid (flRes st = 21) := by show _ = _; unfold flRes; rw [if_neg hd, hmb]; rfl
      have HS : Hid (flSt st = mayS st) := by show _ = _; unfold flSt; rw [if_neg hd, hmb]; rfl
      have FIN : Hid _ := fin1
      clear h1 h2 h3 h5 h6 h7 fin1 h9
      go_enter Try.func28, Try.ntmps28
      go_wp2_with fail
      refine hm.mono ?_
      rintro e w1 ⟨rfl, hr1, hg1⟩
      obtain ⟨f1, f2⟩ := FIN.out w1 hr1 hg1
      clear hm hr1 hg1 FIN
      go_wp2
      go_ret
      exact ⟨by rw [HR.out]; rfl, by rw [HS.out]; exact f1, f2⟩
    | true =>
      have HR : Hid (flRes st = 0) := by show _ = _; unfold flRes; rw [if_neg hd, hmb]; rfl
      obtain ⟨f1, hf1⟩ : ∃ m, st.fl + 1 = m := ⟨_, rfl⟩
      have HS : Hid (flSt st = { mayS st with last := over st.last st.pend, pend := [], fl := f1 }) := by show _ = _; unfold flSt; rw [if_neg hd, hmb, ← hf1]; rfl
      obtain ⟨xl, cl, rfl⟩ := (h2.isK secE_ok).len
      obtain ⟨xp, cp, rfl⟩ := (h3.isK wrE_ok).len
      have hlo := h8.lo
      obtain ⟨g, rfl, hg⟩ := h2.form (by omega)
      have hgr : g ≠ r := (h5 g rfl).2.1
      have hgF : g ∈ F := (h5 g rfl).1
      have hpg : ∀ q, (Value.slice xp st.pend.length cp).ownBlock = some q → q ≠ g := fun q hq e => (h5 g rfl).2.2 (by rw [hq, e])
      have hpr : ∀ q, (Value.slice xp st.pend.length cp).ownBlock = some q → q ≠ r := fun q hq => (h6 q hq).2
      obtain ⟨n, hn⟩ : ∃ n, st.last.length = n := ⟨_, rfl⟩
      obtain ⟨np, hnp⟩ : ∃ n, st.pend.length = n := ⟨_, rfl⟩
      have hK0 : ∀ w', w.grownBy w' (some r) → Keep [r] w w' := fun w' hg => Keep.of_grown hg (fun q hq => by cases hq; simp)
      rw [hn] at h1 h2 hm
      rw [hnp] at h1 h3 hp hpg hpr hm
      have hF2 : ∀ q ∈ F, B ≤ q ∧ q < w.heap.size := h7
      clear h5 h6 h7 fin1 h9
      go_enter Try.func28, Try.ntmps28
      go_wp2_with fail
      refine hm.mono ?_
      rintro e w1 ⟨rfl, hr1, hg1⟩
      have hL := h2.keeps (hK0 w1 hg1) (fun q hq => by cases hq; simpa using hgr)
      have hP := h3.keeps (hK0 w1 hg1) (fun q hq => by simpa using hpr q hq)
      obtain ⟨c0, c1, -, -, -, -, c6⟩ := hr1.cells
      have hr1l := hr1.lt
      clear hm h2 h3 h1 c3 hK0 hpr
      go_wp2_with fail
      go_loopw [3] (fun v wr => ∃ i : Nat, i ≤ np ∧ v = .int .i64 i ∧ OwnK secE wr B (.slice (some ⟨g, 0, none⟩) n cl) (over st.last (st.pend.take i)) ∧ w1.grownBy wr (some g)) (fun v _ => np - (intOf v).toNat)
      case atStart => exact ⟨0, by omega, rfl, hL, grown_drew w1 0 _⟩
      case round =>
        clear hL
        obtain ⟨i, hi, rfl, hO, hG⟩ := hrel
        have hK : Keep [g] w1 wr := Keep.of_grown hG (fun q hq => by cases hq; simp)
        have hrr : RefRow wr r (.slice (some ⟨g, 0, none⟩) n cl) (.slice xp np cp) (mayS st) := hr1.kept (hG.block r hr1l (fun e => by cases e; exact hgr rfl))
        obtain ⟨k0, k1, -, -, -, -, k6⟩ := hrr.cells
        by_cases hlt : i < np
        · obtain ⟨x, hx⟩ : ∃ x, st.pend[i]? = some x := ⟨st.pend[i]'(by omega), List.getElem?_eq_getElem (by omega)⟩
          obtain ⟨a, ha, hal⟩ := pend_at h8 hx
          have hPw := hP.keeps hK (fun q hq => by simpa using hpg q hq)
          obtain ⟨gp, rfl, hgp⟩ := hPw.form (by omega)
          obtain ⟨d0, dok, drg⟩ := wrCells hPw i x hx
          rw [ha] at d0
          obtain ⟨s, hs⟩ : ∃ s, x.2 = s := ⟨_, rfl⟩
          rw [hs] at drg
          have HX : Hid (over st.last (st.pend.take (i + 1)) = (over st.last (st.pend.take i)).set a s) := by show _ = _; rw [over_step hx ha, hs]
          have i0 : (0 : Int) ≤ (i : Int) := by omega
          have i1 : (i : Int) < (np : Int) := by omega
          have a0 : (0 : Int) ≤ (a : Int) := by omega
          have a1 : (a : Int) < (n : Int) := by omega
          clear hx ha hs hK hPw hP hpg hrr hr1 c0 c1 c6 k6 hF2
          go_upto_region 6 with fail
          refine wp_reliesT [Fx (.pointer (some ⟨r, 0, none⟩)), Fx (.pointer (some ⟨r, 0, none⟩)), Fx (.pointer (some ⟨r, 0, none⟩)), Fx ((.slice (some ⟨g, 0, none⟩) n cl)), Fx (.pointer (some ⟨r, 0, none⟩)), Fx (.pointer (some ⟨r, 0, none⟩)), Fx (.pointer (some ⟨r, 1, none⟩)), Fx (.slice (some ⟨gp, 0, none⟩) np cp), Fx (.int .i64 (i : Nat)), Fx (.pointer (some ⟨gp, i * 65, none⟩)), Fx (.pointer (some ⟨gp, i * 65, none⟩)), Fx (.int .i64 (a : Nat)), Fx (.pointer (some ⟨r, 0, none⟩)), Fx (.pointer (some ⟨r, 0, none⟩)), Fx (.pointer (some ⟨r, 1, none⟩)), Fx (.slice (some ⟨gp, 0, none⟩) np cp), Fx (.int .i64 (i : Nat)), Fx (.pointer (some ⟨gp, i * 65, none⟩)), Fx (.pointer (some ⟨gp, i * 65 + 1, none⟩)), Fx (.agg (secA s)), Fx (.pointer (some ⟨g, a * 64, none⟩))] (by kernel_rfl) (by kernel_rfl) ?_ ?_ ?_
          · repeat' (first | exact all_nil | apply all_cons)
            all_goals intro v y y' hv hb
            all_goals first | exact Fx_mono _ _ _ _ hv hb
          · refine ⟨?_, ?_, ?_, ?_, ?_, ?_, ?_, ?_, ?_, ?_, ?_, ?_, ?_, ?_, ?_, ?_, ?_, ?_, ?_, ?_, ?_, trivial⟩
            all_goals
              intro ρ x hp ρc ρg ρf ho hd
              have o0 : ρ (.tmp 0) = .pointer (some ⟨r, 0, none⟩) := ho 0 rfl
              have o3 : ρ (.tmp 3) = .int .i64 (i : Nat) := ho 3 rfl
              clear ho
              have q1 := cell_later hp k1
              have q2 := cell_later hp d0
              have g1 := rg_later hp hgp (i * 65 + 1) 64
              have q3 := g1.1.trans dok
              have q4 := g1.2.trans drg
              clear g1
              have q0 := cell_later hp k0
              simp only [depsR, depR, slotR, Fx, List.getElem?_cons_succ, List.getElem?_cons_zero, Region.binds, forall_const] at hd
              simp only [guardR]
              go_split_ands
            · go_simp
            · go_simp
            · go_simp
            · go_simp
            · go_simp
            · go_simp
            · go_simp
            · go_simp
            · go_simp
            · go_simp
            · go_simp
            · go_simp
            · go_simp
            · go_simp
            · go_simp
            · go_simp
            · go_simp
            · go_simp
            · go_simp
            · go_simp
            · go_simp
          · intro vs x_1 hp hw
            simp only [owed, Fx] at hw
            obtain ⟨e0, e1, e2, e3, e4, e5, e6, e7, e8, e9, e10, e11, e12, e13, e14, e15, e16, e17, e18, e19, e20, -⟩ := hw
            simp only [List.length_cons, List.length_nil, List.take_succ_cons, List.take_zero, List.drop_succ_cons, List.drop_zero, asg, List.cons_append, List.nil_append, e0, e1, e2, e3, e4, e5, e6, e7, e8, e9, e10, e11, e12, e13, e14, e15, e16, e17, e18, e19, e20]
            clear e0 e1 e2 e3 e4 e5 e6 e7 e8 e9 e10 e11 e12 e13 e14 e15 e16 e17 e18 e19 e20
            have hst := secStore_mid (hO.keep hp) a s (by omega)
            have hO2 := secPut (hO.keep hp) a s (by omega)
            rw [← HX.out] at hO2
            have HO : Hid _ := hO2
            have HG : Hid _ := grown_two (grown_two hG (Below.grown hp (some g))) (grown_setC x_1 g (a * 64) (secA s).toList)
            clear hO hG hO2 hp k0 k1 d0 dok drg
            go_wp2
            go_roundw
            case rel => exact ⟨i + 1, by omega, by go_num, HO.out, HG.out⟩
            case measure => simp [intOf]; omega
        · obtain rfl : i = np := by omega
          rw [List.take_of_length_le (by omega)] at hO
          have z1 := hrr.frozen 1
          have hr2 : RefRow (wr.setCell ⟨r, 1, none⟩ (.slice none 0 0)) r (.slice (some ⟨g, 0, none⟩) n cl) (.slice none 0 0) { mayS st with pend := [] } := hrr.set 1 _ rfl
          obtain ⟨-, -, -, -, -, -, y6⟩ := hr2.cells
          have z6 := hr2.frozen 6
          rw [show ({ mayS st with pend := [] } : DSt).fl = st.fl from e5] at y6
          have hr3 : RefRow ((wr.setCell ⟨r, 1, none⟩ (.slice none 0 0)).setCell ⟨r, 6, none⟩ (.int .i64 (f1 : Int))) r (.slice (some ⟨g, 0, none⟩) n cl) (.slice none 0 0) { mayS st with last := over st.last st.pend, pend := [], fl := f1 } := hr2.set 6 _ rfl
          have hGr : Keep [r] wr ((wr.setCell ⟨r, 1, none⟩ (.slice none 0 0)).setCell ⟨r, 6, none⟩ (.int .i64 (f1 : Int))) := Keep.of_grown (grown_two (grown_cell _ _ _ _) (grown_cell _ _ _ _)) (fun q hq => by cases hq; simp)
          have hO9 := hO.keeps hGr (fun q hq => by cases hq; simpa using hgr)
          have hKF : Keep F w ((wr.setCell ⟨r, 1, none⟩ (.slice none 0 0)).setCell ⟨r, 6, none⟩ (.int .i64 (f1 : Int))) :=
            ((Keep.of_grown hg1 (fun q hq => by cases hq; exact h4)).trans (Keep.of_grown hG (fun q hq => by cases hq; exact hgF))).trans (hGr.mono (fun q hq => .inl (by simp only [List.mem_singleton] at hq; subst hq; exact h4)))
          have HF : Hid (RefIs ((wr.setCell ⟨r, 1, none⟩ (.slice none 0 0)).setCell ⟨r, 6, none⟩ (.int .i64 (f1 : Int))) B r (flSt st) F) := by
            show RefIs _ _ _ _ _
            rw [HS.out]
            refine ⟨_, _, hr3, hO9, OwnK.nil _ _ _, h4, fun q hq => ?_, fun q hq => by simp [Value.ownBlock] at hq, fun q hq => ⟨(hF2 q hq).1, Nat.lt_of_lt_of_le (hF2 q hq).2 hKF.size⟩, ⟨fun x hx => (by cases hx), ?_, ?_, hsl.1, hsl.2⟩⟩
            · cases hq; exact ⟨hgF, hgr, by simp [Value.ownBlock]⟩
            · show 64 ≤ (over st.last st.pend).length; rw [over_len]; exact h8.lo
            · show (over st.last st.pend).length ≤ 1024; rw [over_len]; exact h8.hi
          have HK : Hid _ := hKF
          have wf : IntKind.i64.wrap ((st.fl : Int) + 1) = (f1 : Int) := by rw [IntKind.wrap_i64]; omega
          have wf' : (st.fl : Int) + 1 = (f1 : Int) := by omega
          clear hf1
          clear hO hG hr2 hr3 hrr hr1 hO9 hKF hGr hP hpg hF2 hK c0 c1 c6 k0 k6 h8
          go_wp2
          go_ret
          exact ⟨by rw [HR.out]; rfl, HF.out, HK.out⟩
theorem pick_step : ∀ (p : List Wr) (bs : List Bool) (i : Nat) (x : Wr) (b : Bool), p[i]? = some x → bs[i]? = some b → pickL (p.take (i + 1)) bs = pickL (p.take i) bs ++ (if b then [x] else [])
  | [], bs, i, x, b, h, _ => by simp at h
  | y :: p, [], i, x, b, _, h => by simp at h
  | y :: p, c :: bs, 0, x, b, h, k => by
    simp at h k
    subst h k
    simp [pickL]
  | y :: p, c :: bs, i + 1, x, b, h, k => by
    have := pick_step p bs i x b (by simpa using h) (by simpa using k)
    rw [List.take_succ_cons, List.take_succ_cons, pickL, pickL, this]
    split <;> simp
theorem pick_end : ∀ (p : List Wr) (bs : List Bool) (i : Nat), (p.length ≤ i ∨ bs.length ≤ i) → pickL (p.take i) bs = pickL p bs
  | [], bs, i, _ => by simp
  | y :: p, [], i, _ => by cases i <;> simp [pickL]
  | y :: p, c :: bs, 0, h => by simp at h
  | y :: p, c :: bs, i + 1, h => by
    have := pick_end p bs i (by simpa using h)
    rw [List.take_succ_cons, pickL, pickL, this]
set_option linter.unusedSimpArgs false in
set_option maxHeartbeats 800000 in
set_option maxRecDepth 100000 in
theorem refRestart_any (w : World) (B r : Nat) (st : DSt) (F : List Nat) (xb : Option Addr) (nb cb : Nat) (bs : List Bool) (h : RefIs w B r st F) (hp : st.pend.length ≤ 1099511627776) (hbl : bs.length = nb) (hbs : IsG w (.slice xb nb cb) (bs.map Value.bool)) (hbF : bs ≠ [] → ∀ x, xb = some x → x.block ∉ F) :
    Calls Try.prog 31 #[.pointer (some ⟨r, 0, none⟩), .slice xb nb cb] w fun e w' => e = .returned (.tuple #[]) ∧ RefIs w' B r (reSt st bs) F ∧ Keep F w w' := by
  have h8 := h.ok
  obtain ⟨vl, vp, h1, h2, h3, h4, h5, h6, h7, -⟩ := h
  obtain ⟨xl, cl, rfl⟩ := (h2.isK secE_ok).len
  obtain ⟨xp, cp, rfl⟩ := (h3.isK wrE_ok).len
  have hlo := h8.lo
  obtain ⟨g, rfl, hg⟩ := h2.form (by omega)
  have hgr : g ≠ r := (h5 g rfl).2.1
  have hgF : g ∈ F := (h5 g rfl).1
  have hpg : ∀ q, (Value.slice xp st.pend.length cp).ownBlock = some q → q ≠ g := fun q hq e => (h5 g rfl).2.2 (by rw [hq, e])
  obtain ⟨n, hn⟩ : ∃ n, st.last.length = n := ⟨_, rfl⟩
  obtain ⟨np, hnp⟩ : ∃ n, st.pend.length = n := ⟨_, rfl⟩
  rw [hn] at h1 h2
  rw [hnp] at h1 h3 hp hpg
  have hr1l := h1.lt
  clear h5 h6
  go_enter Try.func31, Try.ntmps31
  go_wp2_with fail
  go_loopw [4] (fun v wr => ∃ i : Nat, i ≤ np ∧ i ≤ nb ∧ v = .int .i64 i ∧ OwnK secE wr B (.slice (some ⟨g, 0, none⟩) n cl) (over st.last (pickL (st.pend.take i) bs)) ∧ w.grownBy wr (some g)) (fun v _ => np - (intOf v).toNat)
  case atStart => exact ⟨0, by omega, by omega, rfl, by simpa [pickL, over] using h2, grown_drew w 0 _⟩
  case round =>
    clear h2
    obtain ⟨i, hi, hib, rfl, hO, hG⟩ := hrel
    have hK : Keep [g] w wr := Keep.of_grown hG (fun q hq => by cases hq; simp)
    have hrr : RefRow wr r (.slice (some ⟨g, 0, none⟩) n cl) (.slice xp np cp) st := h1.kept (hG.block r hr1l (fun e => by cases e; exact hgr rfl))
    obtain ⟨k0, k1, -, -, -, -, -⟩ := hrr.cells
    have i0 : (0 : Int) ≤ (i : Int) := by omega
    by_cases hc : i < np ∧ i < nb
    · obtain ⟨hlt, hlb⟩ := hc
      have i1 : (i : Int) < (np : Int) := by omega
      have i2 : (i : Int) < (nb : Int) := by omega
      obtain ⟨b, hb⟩ : ∃ b, bs[i]? = some b := ⟨bs[i]'(by omega), List.getElem?_eq_getElem (by omega)⟩
      obtain ⟨bb, bo, hxb, hbb, hbc⟩ := hbs.spot i (by rw [List.length_map]; omega)
      have hbk := hbc i (.bool b) (by rw [List.getElem?_map, hb]; rfl)
      have hbg : bb ≠ g := fun e => hbF (List.ne_nil_of_length_pos (by omega)) _ hxb (by rw [e]; exact hgF)
      have hbk2 : wr.cell? ⟨bb, bo + i, none⟩ = some (.bool b) := by
        rw [← hbk]
        unfold World.cell?
        rw [hG.block bb hbb (fun e => by cases e; exact hbg rfl)]
      subst hxb
      obtain ⟨x, hx⟩ : ∃ x, st.pend[i]? = some x := ⟨st.pend[i]'(by omega), List.getElem?_eq_getElem (by omega)⟩
      have hps := pick_step st.pend bs i x b hx hb
      cases b with
      | false =>
        simp only [Bool.false_eq_true, if_false, List.append_nil] at hps
        rw [← hps] at hO
        have HO : Hid _ := hO
        have HG : Hid _ := hG
        clear hO hG hx hb hbk hbc hps hrr hK h3 hpg h7 h8 h1 hbs hbF
        go_wp2
        go_roundw
        case rel => exact ⟨i + 1, by omega, by omega, by go_num, HO.out, HG.out⟩
        case measure => simp [intOf]; omega
      | true =>
        simp only [if_true] at hps
        obtain ⟨a, ha, hal⟩ := pend_at h8 hx
        have hPw := h3.keeps hK (fun q hq => by simpa using hpg q hq)
        obtain ⟨gp, rfl, hgp⟩ := hPw.form (by omega)
        obtain ⟨d0, dok, drg⟩ := wrCells hPw i x hx
        rw [ha] at d0
        obtain ⟨s, hs⟩ : ∃ s, x.2 = s := ⟨_, rfl⟩
        rw [hs] at drg
        have HX : Hid (over st.last (pickL (st.pend.take (i + 1)) bs) = (over st.last (pickL (st.pend.take i) bs)).set a s) := by
          show _ = _
          rw [hps, over_snoc, ha, hs]; rfl
        have a0 : (0 : Int) ≤ (a : Int) := by omega
        have a1 : (a : Int) < (n : Int) := by omega
        clear hx hb ha hs hK hPw h3 hpg hrr h7 h8 h1 hbk hbc hps hbs hbF
        go_upto_region 4 with fail
        refine wp_reliesT [Fx (.pointer (some ⟨r, 0, none⟩)), Fx (.pointer (some ⟨r, 0, none⟩)), Fx (.pointer (some ⟨r, 0, none⟩)), Fx ((.slice (some ⟨g, 0, none⟩) n cl)), Fx (.pointer (some ⟨r, 0, none⟩)), Fx (.pointer (some ⟨r, 0, none⟩)), Fx (.pointer (some ⟨r, 1, none⟩)), Fx (.slice (some ⟨gp, 0, none⟩) np cp), Fx (.int .i64 (i : Nat)), Fx (.pointer (some ⟨gp, i * 65, none⟩)), Fx (.pointer (some ⟨gp, i * 65, none⟩)), Fx (.int .i64 (a : Nat)), Fx (.pointer (some ⟨r, 0, none⟩)), Fx (.pointer (some ⟨r, 0, none⟩)), Fx (.pointer (some ⟨r, 1, none⟩)), Fx (.slice (some ⟨gp, 0, none⟩) np cp), Fx (.int .i64 (i : Nat)), Fx (.pointer (some ⟨gp, i * 65, none⟩)), Fx (.pointer (some ⟨gp, i * 65 + 1, none⟩)), Fx (.agg (secA s)), Fx (.pointer (some ⟨g, a * 64, none⟩))] (by kernel_rfl) (by kernel_rfl) ?_ ?_ ?_
        · repeat' (first | exact all_nil | apply all_cons)
          all_goals intro v y y' hv hb
          all_goals first | exact Fx_mono _ _ _ _ hv hb
        · refine ⟨?_, ?_, ?_, ?_, ?_, ?_, ?_, ?_, ?_, ?_, ?_, ?_, ?_, ?_, ?_, ?_, ?_, ?_, ?_, ?_, ?_, trivial⟩
          all_goals
            intro ρ x hp ρc ρg ρf ho hd
            have o0 : ρ (.tmp 0) = .pointer (some ⟨r, 0, none⟩) := ho 0 rfl
            have o4 : ρ (.tmp 4) = .int .i64 (i : Nat) := ho 4 rfl
            clear ho
            have q1 := cell_later hp k1
            have q2 := cell_later hp d0
            have g1 := rg_later hp hgp (i * 65 + 1) 64
            have q3 := g1.1.trans dok
            have q4 := g1.2.trans drg
            clear g1
            have q0 := cell_later hp k0
            simp only [depsR, depR, slotR, Fx, List.getElem?_cons_succ, List.getElem?_cons_zero, Region.binds, forall_const] at hd
            simp only [guardR]
            go_split_ands
          · go_simp
          · go_simp
          · go_simp
          · go_simp
          · go_simp
          · go_simp
          · go_simp
          · go_simp
          · go_simp
          · go_simp
          · go_simp
          · go_simp
          · go_simp
          · go_simp
          · go_simp
          · go_simp
          · go_simp
          · go_simp
          · go_simp
          · go_simp
          · go_simp
        · intro vs x_1 hp hw
          simp only [owed, Fx] at hw
          obtain ⟨e0, e1, e2, e3, e4, e5, e6, e7, e8, e9, e10, e11, e12, e13, e14, e15, e16, e17, e18, e19, e20, -⟩ := hw
          simp only [List.length_cons, List.length_nil, List.take_succ_cons, List.take_zero, List.drop_succ_cons, List.drop_zero, asg, List.cons_append, List.nil_append, e0, e1, e2, e3, e4, e5, e6, e7, e8, e9, e10, e11, e12, e13, e14, e15, e16, e17, e18, e19, e20]
          clear e0 e1 e2 e3 e4 e5 e6 e7 e8 e9 e10 e11 e12 e13 e14 e15 e16 e17 e18 e19 e20
          have hst := secStore_mid (hO.keep hp) a s (by omega)
          have hO2 := secPut (hO.keep hp) a s (by omega)
          rw [← HX.out] at hO2
          have HO : Hid _ := hO2
          have HG : Hid _ := grown_two (grown_two hG (Below.grown hp (some g))) (grown_setC x_1 g (a * 64) (secA s).toList)
          clear hO hG hO2 hp k0 k1 d0 dok drg
          go_wp2
          go_roundw
          case rel => exact ⟨i + 1, by omega, by omega, by go_num, HO.out, HG.out⟩
          case measure => simp [intOf]; omega
    · have hor : st.pend.length ≤ i ∨ bs.length ≤ i := by omega
      rw [pick_end st.pend bs i hor] at hO
      have z1 := hrr.frozen 1
      have r1 : RefRow (wr.setCell ⟨r, 1, none⟩ (.slice none 0 0)) r (.slice (some ⟨g, 0, none⟩) n cl) (.slice none 0 0) { st with pend := [] } := hrr.set 1 _ rfl
      obtain ⟨-, -, y2, -⟩ := r1.cells
      have z2 := r1.frozen 2
      have r2 : RefRow ((wr.setCell ⟨r, 1, none⟩ (.slice none 0 0)).setCell ⟨r, 2, none⟩ (.int .i64 (-1))) r (.slice (some ⟨g, 0, none⟩) n cl) (.slice none 0 0) { st with pend := [], left := -1 } := r1.set 2 _ rfl
      obtain ⟨-, -, -, y3, -⟩ := r2.cells
      have z3 := r2.frozen 3
      have r3 : RefRow (((wr.setCell ⟨r, 1, none⟩ (.slice none 0 0)).setCell ⟨r, 2, none⟩ (.int .i64 (-1))).setCell ⟨r, 3, none⟩ (.bool false)) r (.slice (some ⟨g, 0, none⟩) n cl) (.slice none 0 0) (reSt st bs) := r2.set 3 _ rfl
      have hGr : Keep [r] wr (((wr.setCell ⟨r, 1, none⟩ (.slice none 0 0)).setCell ⟨r, 2, none⟩ (.int .i64 (-1))).setCell ⟨r, 3, none⟩ (.bool false)) := Keep.of_grown (grown_two (grown_two (grown_cell _ _ _ _) (grown_cell _ _ _ _)) (grown_cell _ _ _ _)) (fun q hq => by cases hq; simp)
      have hO9 := hO.keeps hGr (fun q hq => by cases hq; simpa using hgr)
      have hKF : Keep F w (((wr.setCell ⟨r, 1, none⟩ (.slice none 0 0)).setCell ⟨r, 2, none⟩ (.int .i64 (-1))).setCell ⟨r, 3, none⟩ (.bool false)) :=
        (Keep.of_grown hG (fun q hq => by cases hq; exact hgF)).trans (hGr.mono (fun q hq => .inl (by simp only [List.mem_singleton] at hq; subst hq; exact h4)))
      have HF : Hid (RefIs (((wr.setCell ⟨r, 1, none⟩ (.slice none 0 0)).setCell ⟨r, 2, none⟩ (.int .i64 (-1))).setCell ⟨r, 3, none⟩ (.bool false)) B r (reSt st bs) F) := by
        refine ⟨_, _, r3, hO9, OwnK.nil _ _ _, h4, fun q hq => ?_, fun q hq => by simp [Value.ownBlock] at hq, fun q hq => ⟨(h7 q hq).1, Nat.lt_of_lt_of_le (h7 q hq).2 hKF.size⟩, ⟨fun x hx => (by cases hx), ?_, ?_, by show -1 ≤ (-1 : Int); omega, by show (-1 : Int) ≤ _; omega⟩⟩
        · cases hq; exact ⟨hgF, hgr, by simp [Value.ownBlock]⟩
        · show 64 ≤ (over st.last _).length; rw [over_len]; exact h8.lo
        · show (over st.last _).length ≤ 1024; rw [over_len]; exact h8.hi
      have HK : Hid _ := hKF
      generalize hl0 : st.left = l0 at y2
      generalize hd0 : st.down = dn at y3
      clear hO hG hrr r1 r2 r3 hO9 hKF hGr hpg hK h3 h7 h8 h1 hbs hbF hl0 hd0
      by_cases hlt : i < np
      · have i1 : (i : Int) < (np : Int) := by omega
        have i2 : ¬ (i : Int) < (nb : Int) := by omega
        go_wp2
        go_end0
        exact ⟨rfl, HF.out, HK.out⟩
      · have i1 : ¬ (i : Int) < (np : Int) := by omega
        go_wp2
        go_end0
        exact ⟨rfl, HF.out, HK.out⟩
end Go.Proofs.Ytadnfiikfhdphaa
