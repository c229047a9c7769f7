import Derived.Test.YtklbdhpnbjhgkaaGreatDoorQFi9
namespace Go.Proofs.YtklbdhpnbjhgkaaGreatDoor
open Go.RowKit Go.Sort

/-! The document's own reader -/
abbrev Rs := Nat × Nat × Nat
def failS (e a : Nat) (S : Rs) : Rs := if S.2.1 = 0 then (S.1, e, a) else S
def takeS (k : Nat) (b : List UInt8) (S : Rs) : List UInt8 × Rs :=
  if S.2.1 = 0 then (if b.length < S.1 + k then (List.replicate k 0, (S.1, 10, S.1)) else ((b.drop S.1).take k, (S.1 + k, 0, S.2.2))) else (List.replicate k 0, S)
def numS (k : Nat) (b : List UInt8) (S : Rs) : Nat × Rs := (numN (lB (takeS k b S).1) 0 k, (takeS k b S).2)
theorem takeS_len (k : Nat) (b : List UInt8) (S : Rs) : (takeS k b S).1.length = k := by
  unfold takeS
  split
  · split
    · simp
    · simp; omega
  · simp
def rsA (v : Value) (S : Rs) : Array Value := rrA v (S.1 : Int) (S.2.1 : Int) (S.2.2 : Int)
structure RrI (w : World) (g : Nat) (x : Option Addr) (n c : Nat) (b : List UInt8) (S : Rs) : Prop where
  row : RowC w g (rsA (.slice x n c) S)
  isb : IsB w (.slice x n c) b
  len : b.length = n
  cap : n ≤ c
  far : ∀ a, x = some a → a.block < g
  small : n ≤ 140737488355328
  le : S.1 ≤ n
theorem RrI.later {w w' : World} {g : Nat} {x : Option Addr} {n c : Nat} {b : List UInt8} {S : Rs} (h : RrI w g x n c b S) (hb : Below w.heap.size w w') : RrI w' g x n c b S :=
  ⟨h.row.kept hb, h.isb.kept hb, h.len, h.cap, h.far, h.small, h.le⟩
theorem RrI.move {w w' : World} {g : Nat} {x : Option Addr} {n c : Nat} {b : List UInt8} {S S' : Rs} (h : RrI w g x n c b S) (hK : Keep [g] w w') (hr : RowC w' g (rsA (.slice x n c) S')) (hj : S'.1 ≤ n) : RrI w' g x n c b S' :=
  ⟨hr, h.isb.keepF hK (fun a ha => by have := h.far a ha; simp; omega), h.len, h.cap, h.far, h.small, hj⟩
set_option linter.unusedSimpArgs false in
set_option maxHeartbeats 1600000 in
theorem refFail22 (w : World) (g : Nat) (x : Option Addr) (n c : Nat) (b : List UInt8) (S : Rs) (e a : Nat) (h : RrI w g x n c b S) : Calls Tryz.prog 73 #[.pointer (some ⟨g, 0, none⟩), .int .i64 (e : Int), .int .i64 (a : Int)] w fun en w' => en = .returned (.tuple #[]) ∧ RrI w' g x n c b (failS e a S) ∧ Keep [g] w w' := by
  have c2 : w.cell? ⟨g, 2, none⟩ = some (.int .i64 (S.2.1 : Int)) := by rw [h.row.cell]; rfl
  by_cases he : S.2.1 = 0
  · have hS : failS e a S = (S.1, e, a) := by unfold failS; rw [if_pos he]
    rw [hS]
    rw [he] at c2
    have c3 : w.cell? ⟨g, 3, none⟩ = some (.int .i64 (S.2.2 : Int)) := by rw [h.row.cell]; rfl
    have f2 := h.row.frozen 2
    have k1 := Keep.cell1 w g 2 (.int .i64 (e : Int))
    have q1 : RowC (w.setCell ⟨g, 2, none⟩ (.int .i64 (e : Int))) g (rrA (.slice x n c) S.1 e S.2.2) := h.row.set 2 _
    have c3' : (w.setCell ⟨g, 2, none⟩ (.int .i64 (e : Int))).cell? ⟨g, 3, none⟩ = some (.int .i64 (S.2.2 : Int)) := by rw [q1.cell]; rfl
    have f3 := q1.frozen 3
    have HR : Hid (RowC ((w.setCell ⟨g, 2, none⟩ (.int .i64 (e : Int))).setCell ⟨g, 3, none⟩ (.int .i64 (a : Int))) g (rsA (.slice x n c) (S.1, e, a))) := q1.set 3 _
    have HK : Hid (Keep [g] w ((w.setCell ⟨g, 2, none⟩ (.int .i64 (e : Int))).setCell ⟨g, 3, none⟩ (.int .i64 (a : Int)))) := k1.trans (Keep.cell1 _ g 3 _)
    have HH : Hid _ := h
    clear h q1 k1 hS c3
    go_enter Tryz.func73, Tryz.ntmps73
    go_wp2
    refine bodyPost_end (results_none rfl _ _ _) rfl ?_
    exact ⟨rfl, HH.out.move HK.out HR.out HH.out.le, HK.out⟩
  · have hS : failS e a S = S := by unfold failS; rw [if_neg he]
    rw [hS]
    have he' : ¬ ((S.2.1 : Nat) : Int) = 0 := by omega
    have HH : Hid _ := h
    clear hS h
    go_enter Tryz.func73, Tryz.ntmps73
    go_wp2
    refine bodyPost_end (results_none rfl _ _ _) rfl ?_
    exact ⟨rfl, HH.out, Keep.refl _ _⟩
/-- What take leaves. -/
def TrP (w : World) (g : Nat) (x : Option Addr) (n c : Nat) (b : List UInt8) (S : Rs) (k : Nat) (e : Ending) (w' : World) : Prop :=
  ∃ y d, k ≤ d ∧ e = .returned (.slice y k d) ∧ IsB w' (.slice y k d) (takeS k b S).1 ∧ (∀ a, y = some a → a.block ≠ g) ∧ RrI w' g x n c b (takeS k b S).2 ∧ Keep [g] w w'
theorem zeros_isB {W : World} {k : Nat} : IsB (W.alloc (.cells (bytesA (List.replicate k 0)) 5)) (.slice (some ⟨W.heap.size, 0, none⟩) k k) (List.replicate k 0) := by
  have h := (show rowB (W.alloc (.cells (bytesA (List.replicate k 0)) 5)) W.heap.size (List.replicate k 0) from heap_alloc_last W _).isB k
  rwa [List.length_replicate] at h
set_option linter.unusedSimpArgs false in
set_option maxRecDepth 100000 in
set_option maxHeartbeats 4000000 in
theorem refTake22 (w : World) (g : Nat) (x : Option Addr) (n c : Nat) (b : List UInt8) (S : Rs) (k : Nat) (hk : k ≤ 64) (h : RrI w g x n c b S) : Calls Tryz.prog 72 #[.pointer (some ⟨g, 0, none⟩), .int .i64 (k : Int)] w fun e w' => TrP w g x n c b S k e w' := by
  obtain ⟨i, e, bad⟩ := S
  have hL := h.len
  have hN := h.small
  have hI : i ≤ n := h.le
  have c0 : w.cell? ⟨g, 0, none⟩ = some (.slice x n c) := by rw [h.row.cell]; rfl
  have c1 : w.cell? ⟨g, 1, none⟩ = some (.int .i64 (i : Int)) := by rw [h.row.cell]; rfl
  have c2 : w.cell? ⟨g, 2, none⟩ = some (.int .i64 (e : Int)) := by rw [h.row.cell]; rfl
  have wni : IntKind.i64.wrap ((n : Int) - (i : Int)) = (n : Int) - i := by rw [IntKind.wrap_i64]; omega
  have hmk : ∀ W : World, (Instr.makeSlice 33 (.int .i64 (k : Int)) (.int .i64 (k : Int))).run Tryz.prog W = .ok (.slice (some ⟨W.heap.size, 0, none⟩) k k) (W.alloc (.cells (bytesA (List.replicate k 0)) 5)) := fun W => run_mk W k (by omega)
  have hgl := h.row.lt
  by_cases he : e = 0
  · subst he
    by_cases hlt : n < i + k
    · have hgt : (n : Int) - (i : Int) < (k : Int) := by omega
      have HT : Hid (takeS k b (i, 0, bad) = (List.replicate k 0, (i, 10, i))) := by show _ = _; unfold takeS; rw [if_pos rfl, if_pos (by simp only; omega)]
      have HH : Hid (RrI w g x n c b (i, 0, bad)) := h
      clear hL hN hI h hlt
      go_enter Tryz.func72, Tryz.ntmps72
      go_upto_region 1 with fail
      refine wp_reliesT [Fx (.pointer (some ⟨g, 0, none⟩)), Fx (.pointer (some ⟨g, 0, none⟩)), Fx (.pointer (some ⟨g, 2, none⟩)), Fx (.int .i64 (0 : Int)), Fx (.bool true), Fx (.bool true), Fx (.pointer (some ⟨g, 0, none⟩)), Fx (.pointer (some ⟨g, 0, none⟩)), Fx (.pointer (some ⟨g, 0, none⟩)), Fx (.slice x n c), Fx (.int .i64 (n : Int)), Fx (.pointer (some ⟨g, 0, none⟩)), Fx (.pointer (some ⟨g, 0, none⟩)), Fx (.pointer (some ⟨g, 1, none⟩)), Fx (.int .i64 (i : Int)), Fx (.int .i64 ((n : Int) - (i : Int) : Int)), Fx (.int .i64 (k : Int)), Fx (.bool true)] (by kernel_rfl) (by kernel_rfl) ?_ ?_ ?_
      · repeat' (first | exact all_nil | apply all_cons)
        all_goals intro v y y' hv hb
        all_goals first | exact Fx_mono _ _ _ _ hv hb
      · refine ⟨?_, ?_, ?_, ?_, ?_, ?_, ?_, ?_, ?_, ?_, ?_, ?_, ?_, ?_, ?_, ?_, ?_, ?_, trivial⟩
        all_goals
          intro ρ y9 hp ρc ρg ρf ho hd
          have o0 : ρ (.tmp 0) = .pointer (some ⟨g, 0, none⟩) := ho 0 rfl
          have o1 : ρ (.tmp 1) = .int .i64 (k : Int) := ho 1 rfl
          clear ho
          replace c0 := cell_later hp c0
          replace c1 := cell_later hp c1
          replace c2 := cell_later hp c2
          simp only [depsR, depR, slotR, Fx, List.getElem?_cons_succ, List.getElem?_cons_zero, Region.binds, forall_const] at hd
          simp only [guardR]
          go_split_ands
        · go_simp
        · go_simp
        · go_simp
        · go_simp
        · go_simp
        · go_simp
        · refine ⟨fun _ => ?_, fun hy => absurd (by simp [yieldR, slotR, *]) hy⟩
          go_simp
        · refine ⟨fun _ => ?_, fun hy => absurd (by simp [yieldR, slotR, *]) hy⟩
          go_simp
        · refine ⟨fun _ => ?_, fun hy => absurd (by simp [yieldR, slotR, *]) hy⟩
          go_simp
        · refine ⟨fun _ => ?_, fun hy => absurd (by simp [yieldR, slotR, *]) hy⟩
          go_simp
        · refine ⟨fun _ => ?_, fun hy => absurd (by simp [yieldR, slotR, *]) hy⟩
          go_simp
        · refine ⟨fun _ => ?_, fun hy => absurd (by simp [yieldR, slotR, *]) hy⟩
          go_simp
        · refine ⟨fun _ => ?_, fun hy => absurd (by simp [yieldR, slotR, *]) hy⟩
          go_simp
        · refine ⟨fun _ => ?_, fun hy => absurd (by simp [yieldR, slotR, *]) hy⟩
          go_simp
        · refine ⟨fun _ => ?_, fun hy => absurd (by simp [yieldR, slotR, *]) hy⟩
          go_simp
        · refine ⟨fun _ => ?_, fun hy => absurd (by simp [yieldR, slotR, *]) hy⟩
          go_simp
        · refine ⟨fun _ => ?_, fun hy => absurd (by simp [yieldR, slotR, *]) hy⟩
          go_simp
        · refine ⟨fun _ => ?_, fun hy => absurd (by simp [yieldR, slotR, *]) hy⟩
          go_simp
          try (unfold Fx; simp; omega)
      · intro us x1 hp1 hw
        simp only [owed, Fx] at hw
        obtain ⟨e0, e1, e2, e3, e4, e5, e6, e7, e8, e9, e10, e11, e12, e13, e14, e15, e16, e17, -⟩ := hw
        simp only [List.length_cons, List.length_nil, List.take_succ_cons, List.take_zero, List.drop_succ_cons, List.drop_zero, asg, List.cons_append, List.nil_append, e0, e1, e2, e3, e4, e5, e6, e7, e8, e9, e10, e11, e12, e13, e14, e15, e16, e17]
        clear e0 e1 e2 e3 e4 e5 e6 e7 e8 e9 e10 e11 e12 e13 e14 e15 e16 e17
        replace c0 := cell_later hp1 c0
        replace c1 := cell_later hp1 c1
        have hF := refFail22 x1 g x n c b (i, 0, bad) 10 i (HH.out.later hp1)
        have K1 : Hid (Keep [g] w x1) := Keep.of_below hp1
        clear hp1 c2
        go_wp2_with fail
        refine hF.mono ?_
        rintro en w2 ⟨rfl, h2, k2⟩
        clear hF c0 c1
        have c2 : w2.cell? ⟨g, 2, none⟩ = some (.int .i64 10) := by rw [h2.row.cell]; rfl
        have bA := below_alloc w2 (.cells (bytesA (List.replicate k 0)) 5)
        have HQ : Hid (RrI (w2.alloc (.cells (bytesA (List.replicate k 0)) 5)) g x n c b (i, 10, i)) := h2.later bA
        have HK : Hid (Keep [g] w (w2.alloc (.cells (bytesA (List.replicate k 0)) 5))) := (K1.out.trans k2).trans (Keep.of_below bA)
        have HG : Hid (g < w2.heap.size) := h2.row.lt
        clear h2 k2 bA hgl
        go_wp2
        go_ret
        refine ⟨_, _, Nat.le_refl _, rfl, ?_, ?_, ?_, HK.out⟩
        · rw [HT.out]; exact zeros_isB
        · intro a ha; cases ha; have := HG.out; simp; omega
        · rw [HT.out]; exact HQ.out
    · have hgt : ¬ (n : Int) - (i : Int) < (k : Int) := by omega
      obtain ⟨y, d, hd, hyb, hyx, hcut⟩ := bCut_at9 h.isb hL h.cap i k (by omega)
      have hyf : ∀ a, y = some a → a.block ≠ g := fun a ha => by
        obtain ⟨a0, h1, h2⟩ := hyx a ha
        rw [h2]; have := h.far a0 h1; omega
      clear hyx
      have wik : IntKind.i64.wrap ((i : Int) + (k : Int)) = ((i + k : Nat) : Int) := by rw [IntKind.wrap_i64]; omega
      have HT : Hid (takeS k b (i, 0, bad) = ((b.drop i).take k, (i + k, 0, bad))) := by show _ = _; unfold takeS; rw [if_pos rfl, if_neg (by simp only; omega)]
      have HH : Hid (RrI w g x n c b (i, 0, bad)) := h
      have HN : Hid (i + k ≤ n) := by show _ ≤ _; omega
      have HD : Hid (k ≤ d) := hd
      have HY : Hid (IsB w (.slice y k d) ((b.drop i).take k)) := hyb
      have HYF : Hid (∀ a, y = some a → a.block ≠ g) := hyf
      clear hL hN hI h hlt hd hyb hyf
      go_enter Tryz.func72, Tryz.ntmps72
      go_upto_region 1 with fail
      refine wp_reliesT [Fx (.pointer (some ⟨g, 0, none⟩)), Fx (.pointer (some ⟨g, 0, none⟩)), Fx (.pointer (some ⟨g, 2, none⟩)), Fx (.int .i64 (0 : Int)), Fx (.bool true), Fx (.bool true), Fx (.pointer (some ⟨g, 0, none⟩)), Fx (.pointer (some ⟨g, 0, none⟩)), Fx (.pointer (some ⟨g, 0, none⟩)), Fx (.slice x n c), Fx (.int .i64 (n : Int)), Fx (.pointer (some ⟨g, 0, none⟩)), Fx (.pointer (some ⟨g, 0, none⟩)), Fx (.pointer (some ⟨g, 1, none⟩)), Fx (.int .i64 (i : Int)), Fx (.int .i64 ((n : Int) - (i : Int) : Int)), Fx (.int .i64 (k : Int)), Fx (.bool false)] (by kernel_rfl) (by kernel_rfl) ?_ ?_ ?_
      · repeat' (first | exact all_nil | apply all_cons)
        all_goals intro v y y' hv hb
        all_goals first | exact Fx_mono _ _ _ _ hv hb
      · refine ⟨?_, ?_, ?_, ?_, ?_, ?_, ?_, ?_, ?_, ?_, ?_, ?_, ?_, ?_, ?_, ?_, ?_, ?_, trivial⟩
        all_goals
          intro ρ y9 hp ρc ρg ρf ho hd
          have o0 : ρ (.tmp 0) = .pointer (some ⟨g, 0, none⟩) := ho 0 rfl
          have o1 : ρ (.tmp 1) = .int .i64 (k : Int) := ho 1 rfl
          clear ho
          replace c0 := cell_later hp c0
          replace c1 := cell_later hp c1
          replace c2 := cell_later hp c2
          simp only [depsR, depR, slotR, Fx, List.getElem?_cons_succ, List.getElem?_cons_zero, Region.binds, forall_const] at hd
          simp only [guardR]
          go_split_ands
        · go_simp
        · go_simp
        · go_simp
        · go_simp
        · go_simp
        · go_simp
        · refine ⟨fun _ => ?_, fun hy => absurd (by simp [yieldR, slotR, *]) hy⟩
          go_simp
        · refine ⟨fun _ => ?_, fun hy => absurd (by simp [yieldR, slotR, *]) hy⟩
          go_simp
        · refine ⟨fun _ => ?_, fun hy => absurd (by simp [yieldR, slotR, *]) hy⟩
          go_simp
        · refine ⟨fun _ => ?_, fun hy => absurd (by simp [yieldR, slotR, *]) hy⟩
          go_simp
        · refine ⟨fun _ => ?_, fun hy => absurd (by simp [yieldR, slotR, *]) hy⟩
          go_simp
        · refine ⟨fun _ => ?_, fun hy => absurd (by simp [yieldR, slotR, *]) hy⟩
          go_simp
        · refine ⟨fun _ => ?_, fun hy => absurd (by simp [yieldR, slotR, *]) hy⟩
          go_simp
        · refine ⟨fun _ => ?_, fun hy => absurd (by simp [yieldR, slotR, *]) hy⟩
          go_simp
        · refine ⟨fun _ => ?_, fun hy => absurd (by simp [yieldR, slotR, *]) hy⟩
          go_simp
        · refine ⟨fun _ => ?_, fun hy => absurd (by simp [yieldR, slotR, *]) hy⟩
          go_simp
        · refine ⟨fun _ => ?_, fun hy => absurd (by simp [yieldR, slotR, *]) hy⟩
          go_simp
        · refine ⟨fun _ => ?_, fun hy => absurd (by simp [yieldR, slotR, *]) hy⟩
          go_simp
          try (unfold Fx; simp; omega)
      · intro us x1 hp1 hw
        simp only [owed, Fx] at hw
        obtain ⟨e0, e1, e2, e3, e4, e5, e6, e7, e8, e9, e10, e11, e12, e13, e14, e15, e16, e17, -⟩ := hw
        simp only [List.length_cons, List.length_nil, List.take_succ_cons, List.take_zero, List.drop_succ_cons, List.drop_zero, asg, List.cons_append, List.nil_append, e0, e1, e2, e3, e4, e5, e6, e7, e8, e9, e10, e11, e12, e13, e14, e15, e16, e17]
        clear e0 e1 e2 e3 e4 e5 e6 e7 e8 e9 e10 e11 e12 e13 e14 e15 e16 e17
        replace c0 := cell_later hp1 c0
        replace c1 := cell_later hp1 c1
        replace c2 := cell_later hp1 c2
        have hH1 := HH.out.later hp1
        have HY1 : Hid (IsB x1 (.slice y k d) ((b.drop i).take k)) := HY.out.kept hp1
        have K1 : Hid (Keep [g] w x1) := Keep.of_below hp1
        clear hp1
        go_upto_region 5 with fail
        generalize x1 = W at c0 c1 c2 hH1 HY1 K1 ⊢
        refine wp_reliesT [Fx (.pointer (some ⟨g, 0, none⟩)), Fx (.pointer (some ⟨g, 0, none⟩)), Fx (.pointer (some ⟨g, 0, none⟩)), Fx (.slice x n c), Fx (.pointer (some ⟨g, 0, none⟩)), Fx (.pointer (some ⟨g, 0, none⟩)), Fx (.pointer (some ⟨g, 1, none⟩)), Fx (.int .i64 (i : Int)), Fx (.pointer (some ⟨g, 0, none⟩)), Fx (.pointer (some ⟨g, 0, none⟩)), Fx (.pointer (some ⟨g, 1, none⟩)), Fx (.int .i64 (i : Int)), Fx (.int .i64 (k : Int)), Fx (.int .i64 (((i + k : Nat)) : Int)), Fx (.slice y k d)] (by kernel_rfl) (by kernel_rfl) ?_ ?_ ?_
        · repeat' (first | exact all_nil | apply all_cons)
          all_goals intro v y y' hv hb
          all_goals first | exact Fx_mono _ _ _ _ hv hb
        · refine ⟨?_, ?_, ?_, ?_, ?_, ?_, ?_, ?_, ?_, ?_, ?_, ?_, ?_, ?_, ?_, trivial⟩
          all_goals
            intro ρ y9 hp ρc ρg ρf ho hd
            have o0 : ρ (.tmp 0) = .pointer (some ⟨g, 0, none⟩) := ho 0 rfl
            have o1 : ρ (.tmp 1) = .int .i64 (k : Int) := ho 1 rfl
            clear ho
            replace c0 := cell_later hp c0
            replace c1 := cell_later hp c1
            simp only [depsR, depR, slotR, Fx, List.getElem?_cons_succ, List.getElem?_cons_zero, Region.binds, forall_const] at hd
            simp only [guardR]
            go_split_ands
          · go_simp
          · go_simp
          · go_simp
          · go_simp
          · go_simp
          · go_simp
          · go_simp
          · go_simp
          · go_simp
          · go_simp
          · go_simp
          · go_simp
          · go_simp
          · go_simp
            try exact wik
          · have h9 := hcut y9 (i : Int) ((i + k : Nat) : Int) rfl rfl
            go_simp
        · intro us x1 hp1 hw
          simp only [owed, Fx] at hw
          obtain ⟨e0, e1, e2, e3, e4, e5, e6, e7, e8, e9, e10, e11, e12, e13, e14, -⟩ := hw
          simp only [List.length_cons, List.length_nil, List.take_succ_cons, List.take_zero, List.drop_succ_cons, List.drop_zero, asg, List.cons_append, List.nil_append, e0, e1, e2, e3, e4, e5, e6, e7, e8, e9, e10, e11, e12, e13, e14]
          clear e0 e1 e2 e3 e4 e5 e6 e7 e8 e9 e10 e11 e12 e13 e14
          replace c0 := cell_later hp1 c0
          replace c1 := cell_later hp1 c1
          have h2 := hH1.later hp1
          have HY2 : Hid (IsB x1 (.slice y k d) ((b.drop i).take k)) := HY1.out.kept hp1
          have KB2 : Hid (Keep [g] w x1) := K1.out.trans (Keep.of_below hp1)
          have fz := h2.row.frozen 1
          have K3 : Hid (Keep [g] x1 (x1.setCell ⟨g, 1, none⟩ (.int .i64 ((i + k : Nat) : Int)))) := Keep.cell1 _ _ _ _
          have hR : Hid (RowC (x1.setCell ⟨g, 1, none⟩ (.int .i64 ((i + k : Nat) : Int))) g (rsA (.slice x n c) (i + k, 0, bad))) := h2.row.set 1 _
          have HF : Hid _ := h2
          clear hH1 h2 hcut hp1
          go_wp2
          go_ret
          refine ⟨y, d, HD.out, rfl, ?_, HYF.out, ?_, KB2.out.trans K3.out⟩
          · rw [HT.out]; exact HY2.out.keepF K3.out (fun a ha => by simpa using HYF.out a ha)
          · rw [HT.out]; exact HF.out.move K3.out hR.out HN.out
  · have he' : ¬ ((e : Nat) : Int) = 0 := by omega
    have HT : Hid (takeS k b (i, e, bad) = (List.replicate k 0, (i, e, bad))) := by show _ = _; unfold takeS; rw [if_neg he]
    have HH : Hid (RrI w g x n c b (i, e, bad)) := h
    clear hL hN hI h
    go_enter Tryz.func72, Tryz.ntmps72
    go_upto_region 1 with fail
    refine wp_reliesT [Fx (.pointer (some ⟨g, 0, none⟩)), Fx (.pointer (some ⟨g, 0, none⟩)), Fx (.pointer (some ⟨g, 2, none⟩)), Fx (.int .i64 (e : Int)), Fx (.bool false), Fx (.bool false), Fx (undef), Fx (undef), Fx (undef), Fx (undef), Fx (undef), Fx (undef), Fx (undef), Fx (undef), Fx (undef), Fx (undef), Fx (undef), Fx (undef)] (by kernel_rfl) (by kernel_rfl) ?_ ?_ ?_
    · repeat' (first | exact all_nil | apply all_cons)
      all_goals intro v y y' hv hb
      all_goals first | exact Fx_mono _ _ _ _ hv hb
    · refine ⟨?_, ?_, ?_, ?_, ?_, ?_, ?_, ?_, ?_, ?_, ?_, ?_, ?_, ?_, ?_, ?_, ?_, ?_, trivial⟩
      all_goals
        intro ρ y9 hp ρc ρg ρf ho hd
        have o0 : ρ (.tmp 0) = .pointer (some ⟨g, 0, none⟩) := ho 0 rfl
        clear ho
        replace c2 := cell_later hp c2
        simp only [depsR, depR, slotR, Fx, List.getElem?_cons_succ, List.getElem?_cons_zero, Region.binds, forall_const] at hd
        simp only [guardR]
        go_split_ands
      · go_simp
      · go_simp
      · go_simp
      · go_simp
      · go_simp
        try (unfold Fx; simp; omega)
      · go_simp
      · refine ⟨fun hy => ?_, fun _ => rfl⟩
        exfalso; simp [yieldR, slotR, undef, *] at hy
      · refine ⟨fun hy => ?_, fun _ => rfl⟩
        exfalso; simp [yieldR, slotR, undef, *] at hy
      · refine ⟨fun hy => ?_, fun _ => rfl⟩
        exfalso; simp [yieldR, slotR, undef, *] at hy
      · refine ⟨fun hy => ?_, fun _ => rfl⟩
        exfalso; simp [yieldR, slotR, undef, *] at hy
      · refine ⟨fun hy => ?_, fun _ => rfl⟩
        exfalso; simp [yieldR, slotR, undef, *] at hy
      · refine ⟨fun hy => ?_, fun _ => rfl⟩
        exfalso; simp [yieldR, slotR, undef, *] at hy
      · refine ⟨fun hy => ?_, fun _ => rfl⟩
        exfalso; simp [yieldR, slotR, undef, *] at hy
      · refine ⟨fun hy => ?_, fun _ => rfl⟩
        exfalso; simp [yieldR, slotR, undef, *] at hy
      · refine ⟨fun hy => ?_, fun _ => rfl⟩
        exfalso; simp [yieldR, slotR, undef, *] at hy
      · refine ⟨fun hy => ?_, fun _ => rfl⟩
        exfalso; simp [yieldR, slotR, undef, *] at hy
      · refine ⟨fun hy => ?_, fun _ => rfl⟩
        exfalso; simp [yieldR, slotR, undef, *] at hy
      · refine ⟨fun hy => ?_, fun _ => rfl⟩
        exfalso; simp [yieldR, slotR, undef, *] at hy
    · intro us x1 hp1 hw
      simp only [owed, Fx] at hw
      obtain ⟨e0, e1, e2, e3, e4, e5, e6, e7, e8, e9, e10, e11, e12, e13, e14, e15, e16, e17, -⟩ := hw
      simp only [List.length_cons, List.length_nil, List.take_succ_cons, List.take_zero, List.drop_succ_cons, List.drop_zero, asg, List.cons_append, List.nil_append, e0, e1, e2, e3, e4, e5, e6, e7, e8, e9, e10, e11, e12, e13, e14, e15, e16, e17]
      clear e0 e1 e2 e3 e4 e5 e6 e7 e8 e9 e10 e11 e12 e13 e14 e15 e16 e17
      replace c2 := cell_later hp1 c2
      have bA := below_alloc x1 (.cells (bytesA (List.replicate k 0)) 5)
      have HQ : Hid (RrI (x1.alloc (.cells (bytesA (List.replicate k 0)) 5)) g x n c b (i, e, bad)) := (HH.out.later hp1).later bA
      have HK : Hid (Keep [g] w (x1.alloc (.cells (bytesA (List.replicate k 0)) 5))) := Keep.of_below (hp1.trans (bA.mono hp1.size))
      have HG : Hid (g < x1.heap.size) := Nat.lt_of_lt_of_le hgl hp1.size
      clear hp1 bA hgl
      go_wp2
      go_ret
      refine ⟨_, _, Nat.le_refl _, rfl, ?_, ?_, ?_, HK.out⟩
      · rw [HT.out]; exact zeros_isB
      · intro a ha; cases ha; have := HG.out; simp; omega
      · rw [HT.out]; exact HQ.out
theorem numN_front (s : Nat → UInt8) (a n : Nat) : numN s a (n + 1) = (s a).toNat + 256 * numN s (a + 1) n := by
  induction n with
  | zero => simp [numN]
  | succ n ih =>
    rw [numN, ih, numN, Nat.mul_add, Nat.pow_succ, show a + (n + 1) = a + 1 + n by omega]
    have : (s (a + 1 + n)).toNat * (256 ^ n * 256) = 256 * ((s (a + 1 + n)).toNat * 256 ^ n) := by rw [← Nat.mul_assoc, Nat.mul_comm]
    omega
set_option linter.unusedSimpArgs false in
set_option maxRecDepth 100000 in
set_option maxHeartbeats 4000000 in
theorem refNumber22 (w : World) (g : Nat) (x : Option Addr) (n c : Nat) (b : List UInt8) (S : Rs) (k : Nat) (hk : k ≤ 4) (h : RrI w g x n c b S) : Calls Tryz.prog 77 #[.pointer (some ⟨g, 0, none⟩), .int .i64 (k : Int)] w fun e w' => e = .returned (.int .i64 ((numS k b S).1 : Int)) ∧ RrI w' g x n c b (numS k b S).2 ∧ Keep [g] w w' := by
  have hT := refTake22 w g x n c b S k (by omega) h
  have HR : Hid ((numS k b S).1 = numN (lB (takeS k b S).1) 0 k ∧ (numS k b S).2 = (takeS k b S).2) := ⟨rfl, rfl⟩
  obtain ⟨R, hR⟩ : ∃ q, (numS k b S).1 = q := ⟨_, rfl⟩
  obtain ⟨S2, hS2⟩ : ∃ q, (numS k b S).2 = q := ⟨_, rfl⟩
  rw [hR, hS2] at HR
  rw [hR, hS2]
  clear hR hS2 h
  go_enter Tryz.func77, Tryz.ntmps77
  go_wp2_with fail
  refine hT.mono ?_
  rintro e w2 ⟨y, d, hd, rfl, hy, hyf, hI2, hK⟩
  clear hT
  obtain ⟨l, hl⟩ : ∃ q, (takeS k b S).1 = q := ⟨_, rfl⟩
  have hll : l.length = k := by rw [← hl]; exact takeS_len _ _ _
  rw [hl] at hy HR
  rw [← HR.out.2] at hI2
  have HI : Hid (RrI w2 g x n c b S2 ∧ Keep [g] w w2) := ⟨hI2, hK⟩
  clear hl hI2 hK hyf hd
  have wk : IntKind.i64.wrap ((k : Int) - 1) = (k : Int) - 1 := by rw [IntKind.wrap_i64]; omega
  go_wp2
  go_loopw [6, 7] (fun vv iv wr => ∃ m : Nat, m ≤ k ∧ iv = .int .i64 ((m : Int) - 1) ∧ vv = .int .i64 ((numN (lB l) m (k - m) : Nat) : Int) ∧ wr = w2) (fun _ iv _ => (intOf iv + 1).toNat)
  case atStart => exact ⟨k, by omega, rfl, by rw [Nat.sub_self]; rfl, rfl⟩
  case round =>
    obtain ⟨m, hm, rfl, rfl, rfl⟩ := hrel
    by_cases h0 : m = 0
    · subst h0
      have i0 : ¬ (0 : Int) ≤ ((0 : Nat) : Int) - 1 := by omega
      have HE : Hid (R = numN (lB l) 0 (k - 0)) := by show _ = _; rw [HR.out.1]; rfl
      go_wp2
      go_ret
      exact ⟨by rw [HE.out]; rfl, HI.out.1, HI.out.2⟩
    · obtain ⟨j, rfl⟩ : ∃ j, m = j + 1 := ⟨m - 1, by omega⟩
      have ej : ((j + 1 : Nat) : Int) - 1 = (j : Int) := by omega
      have HV : Hid (numN (lB l) j (k - j) = (lB l j).toNat + 256 * numN (lB l) (j + 1) (k - (j + 1))) := by
        show _ = _
        rw [show k - j = (k - (j + 1)) + 1 by omega, numN_front]
      have hV := numN_lt (lB l) (j + 1) (k - (j + 1))
      have hV2 : 256 ^ (k - (j + 1)) ≤ 256 ^ 3 := Nat.pow_le_pow_right (by omega) (by omega)
      generalize numN (lB l) (j + 1) (k - (j + 1)) = V at HV hV ⊢
      obtain ⟨g9, o9, rfl, -, hc⟩ := IsB.spot (l := l) (c := d) (by rw [hll]; exact hy) j (by omega)
      have hlb : (l[j]?.getD 0) = lB l j := rfl
      rw [hlb] at hc
      obtain ⟨t, ht⟩ : ∃ q, (lB l j).toNat = q := ⟨_, rfl⟩
      have ht9 : t < 256 := by rw [← ht]; exact (lB l j).toNat_lt
      rw [ht] at hc HV
      have i0 : (0 : Int) ≤ (j : Int) := by omega
      have i1 : (j : Int) < (k : Int) := by omega
      have w1 : IntKind.i64.wrap (256 * (V : Int)) = 256 * (V : Int) := by rw [IntKind.wrap_i64]; omega
      have w2 : IntKind.i64.wrap (256 * (V : Int) + (t : Int)) = 256 * (V : Int) + (t : Int) := by rw [IntKind.wrap_i64]; omega
      have w3 : IntKind.i64.wrap ((j : Int) - 1) = (j : Int) - 1 := by rw [IntKind.wrap_i64]; omega
      simp only [ej]
      clear ht hlb
      go_wp2
      go_roundw
      case rel => exact ⟨j, by omega, by first | rfl | go_num, by rw [HV.out]; first | (congr 1; omega) | go_num, by trivial⟩
      case measure => simp [intOf]
end Go.Proofs.YtklbdhpnbjhgkaaGreatDoor
