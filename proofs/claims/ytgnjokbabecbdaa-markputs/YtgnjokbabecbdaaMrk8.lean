
import Derived.Test.YtgnjokbabecbdaaMrk7
import Derived.Test.YtgnjokbabecbdaaMar3
namespace Go.Proofs.Ytgnjokbabecbdaa
open Go.RowKit

/-! mark.batchOf -/
theorem wL_B (s : Sc) (j : List Sc) (n : Nat) : WrB (wL s j n n) := fun i hi => by
  rw [wL_len] at hi
  have h := wL_get s j n n i hi
  rw [if_pos hi] at h
  have := (atW_get h).1
  rw [this]
  have hl := numI_lt s ((4 + 2 * i : Nat) : Int) 2
  have e : (256 : Nat) ^ (2 : Int).toNat = 65536 := by decide
  rw [e] at hl
  unfold wW
  simp only
  omega
/-- What batchOf decides. -/
def bZ (n : Int) (l : List Wr) : Int := bif batB n l then 11 else 24
def bOk (n : Int) (s : Sc) (l : List Wr) : Bool := batB n l && secEq (marS l) s
set_option linter.unusedSimpArgs false in
set_option maxHeartbeats 1600000 in
theorem batchOf_any (s : Sc) (j : List Sc) (x : Option Addr) (L c : Nat) (f : Nat → Int) (w : World) (hL : j.length = L) (h63 : L ≤ 2199023255552) (hj : IsK secE w (.slice x L c) j) (hf : f 0 ≤ 1024) :
    Calls Try.prog 21 #[.agg (secA s), .slice x L c, .agg (gA f)] w fun r w' =>
      (r = .panicked (gup (bZ (f 0) (wL s j (s 2).toNat (s 2).toNat))) ∧ Below w.heap.size w w' ∧ bOk (f 0) s (wL s j (s 2).toNat (s 2).toNat) = false) ∨
      (∃ g, r = .returned (.slice (some ⟨g, 0, none⟩) (s 2).toNat (s 2).toNat) ∧ OwnK wrE w' w.heap.size (.slice (some ⟨g, 0, none⟩) (s 2).toNat (s 2).toNat) (wL s j (s 2).toNat (s 2).toNat) ∧ Below w.heap.size w w' ∧ bOk (f 0) s (wL s j (s 2).toNat (s 2).toNat) = true) := by
  have hw0 := fun Y (h : IsK secE Y (.slice x L c) j) => writesOf_any s j x L c Y hL h63 h
  obtain ⟨m, hm⟩ : ∃ m, (s 2).toNat = m := ⟨_, rfl⟩
  have hm8 : m ≤ 255 := by have := (s 2).toNat_lt; omega
  have hl9 : (wL s j m m).length = m := wL_len s j m m
  have hlB := wL_B s j m
  obtain ⟨l, hl⟩ : ∃ l, wL s j m m = l := ⟨_, rfl⟩
  simp only [hm, hl] at hw0 ⊢
  rw [hl] at hl9 hlB
  clear hm hl
  go_enter Try.func21, Try.ntmps21
  go_upto_region 1 with fail
  have hB0 : Below w.heap.size w ((w.alloc (.cells (secA s) 28)).alloc (.cells (gA f) 50)) := (below_alloc w _).alloc (by simp) _
  have h30 : ScR ((w.alloc (.cells (secA s) 28)).alloc (.cells (gA f) 50)) w.heap.size s := (ScR.new w s 28).kept (below_alloc _ _)
  have h50 : RowC ((w.alloc (.cells (secA s) 28)).alloc (.cells (gA f) 50)) (w.heap.size + 1) (gA f) := by
    have := RowC.new (w.alloc (.cells (secA s) 28)) (gA f) 50
    rw [World.size_alloc] at this; exact this
  obtain ⟨g5, hg5⟩ : ∃ g, w.heap.size + 1 = g := ⟨_, rfl⟩
  obtain ⟨g3, hg3⟩ : ∃ g, w.heap.size = g := ⟨_, rfl⟩
  rw [hg5] at h50
  rw [hg3] at h30
  simp only [hg5]
  simp only [hg3]
  clear hg5
  have HG3 : Hid (w.heap.size = g3) := hg3
  clear hg3
  generalize (w.alloc (.cells (secA s) 28)).alloc (.cells (gA f) 50) = Y at hB0 h30 h50 ⊢
  have hw := hw0 Y (hj.kept hB0)
  have hH : Hid (Below w.heap.size w Y ∧ ScR Y g3 s ∧ RowC Y g5 (gA f)) := ⟨hB0, h30, h50⟩
  obtain ⟨k3, k4⟩ := h30
  clear hB0 h50 hj hw0
  go_upto_region 2 with (go_at_call 36; refine hw.mono ?_; rintro e X ⟨g, rfl, hO, hb1⟩)
  obtain ⟨hB0, h30, h50⟩ := hH.out
  have h3 := h30.kept hb1
  have h5 := h50.kept hb1
  have hBX := hB0.trans (hb1.mono hB0.size)
  replace hO := hO.le hB0.size
  clear hH hw k3 k4 hB0 h30 h50 hb1
  cases hbat : batB (f 0) l
  · skip
    refine wp_reliesP (fun ch w' => ch = gup 24 ∧ Below X.heap.size X w') [Fx (.slice (some ⟨g, 0, none⟩) m m), Fx (.agg (gA f)), (fun _ _ => False), Fx (.agg (secA s))] (by kernel_rfl) (by kernel_rfl) ?_ ?_ ?_ ?_
    · repeat' (first | exact all_nil | apply all_cons)
      all_goals intro v y y' hv hb
      all_goals first | exact Fx_mono _ _ _ _ hv hb | exact hv.elim
    · refine ⟨?_, ?_, ?_, ?_, trivial⟩
      all_goals
        intro ρ x9 hp ρc ρg ρf ho hd
        have o7 : ρ (.tmp 7) = .slice (some ⟨g, 0, none⟩) m m := ho 7 rfl
        have o5 : ρ (.tmp 5) = .pointer (some ⟨g5, 0, none⟩) := ho 5 rfl
        have o3 : ρ (.tmp 3) = .pointer (some ⟨g3, 0, none⟩) := ho 3 rfl
        clear ho
        have qa := h5.kept hp
        have qb := h3.kept hp
        obtain ⟨k1, k2⟩ := qa
        obtain ⟨k3, k4⟩ := qb
        simp only [depsR, depR, slotR, Fx, List.getElem?_cons_succ, List.getElem?_cons_zero, Region.binds, forall_const] at hd
        simp only [guardR]
        go_split_ands
      · go_simp
      · go_simp
      · go_simp
        refine (markOf_no l _ m m f x9 hl9 (by omega) ((hO.keep hp).isK wrE_ok) hlB hbat).mono ?_
        rintro e w' ⟨rfl, hw⟩
        first | exact .inr ⟨_, rfl, rfl, hp.trans (hw.mono hp.size)⟩ | exact ⟨_, rfl, rfl, hp.trans (hw.mono hp.size)⟩
      · go_simp
    · intro vs x2 hp hw
      simp only [owed, Fx] at hw
      exact (hw.2.2.1).elim
    · intro a9 ch w' hd hz
      obtain ⟨rfl, hz2⟩ := hz
      exact ⟨hd, .inl ⟨by unfold bZ; rw [hbat]; rfl, hBX.trans (hz2.mono hBX.size), by unfold bOk; rw [hbat]; rfl⟩⟩
  · skip
    refine wp_reliesP (fun _ _ => False) [Fx (.slice (some ⟨g, 0, none⟩) m m), Fx (.agg (gA f)), Fx (.agg (secA (marS l))), Fx (.agg (secA s))] (by kernel_rfl) (by kernel_rfl) ?_ ?_ ?_ ?_
    · repeat' (first | exact all_nil | apply all_cons)
      all_goals intro v y y' hv hb
      all_goals first | exact Fx_mono _ _ _ _ hv hb | exact hv.elim
    · refine ⟨?_, ?_, ?_, ?_, trivial⟩
      all_goals
        intro ρ x9 hp ρc ρg ρf ho hd
        have o7 : ρ (.tmp 7) = .slice (some ⟨g, 0, none⟩) m m := ho 7 rfl
        have o5 : ρ (.tmp 5) = .pointer (some ⟨g5, 0, none⟩) := ho 5 rfl
        have o3 : ρ (.tmp 3) = .pointer (some ⟨g3, 0, none⟩) := ho 3 rfl
        clear ho
        have qa := h5.kept hp
        have qb := h3.kept hp
        obtain ⟨k1, k2⟩ := qa
        obtain ⟨k3, k4⟩ := qb
        simp only [depsR, depR, slotR, Fx, List.getElem?_cons_succ, List.getElem?_cons_zero, Region.binds, forall_const] at hd
        simp only [guardR]
        go_split_ands
      · go_simp
      · go_simp
      · go_simp
        refine (markOf_yes l _ m m f x9 hl9 ((hO.keep hp).isK wrE_ok) hlB hbat hf).mono ?_
        rintro e w' ⟨rfl, hw⟩
        first | exact .inl ⟨_, rfl, rfl, hw⟩ | exact ⟨_, rfl, rfl, hw⟩
      · go_simp
    · intro vs x2 hp hw
      simp only [owed, Fx] at hw
      obtain ⟨e0, e1, e2, e3, -⟩ := hw
      simp only [List.length_cons, List.length_nil, List.take_succ_cons, List.take_zero, List.drop_succ_cons, List.drop_zero, asg, List.cons_append, List.nil_append, e0, e1, e2, e3]
      clear e0 e1 e2 e3
      have hO2 := hO.keep hp
      have hB2 := hBX.trans (hp.mono hBX.size)
      have HO2 : Hid _ := hO2
      have HB2 : Hid (Below w.heap.size w x2) := hB2
      have HBA : Hid (batB (f 0) l = true) := hbat
      cases hse : secEq (marS l) s
      · have HQ : Hid (secEq (marS l) s = false) := hse
        clear h3 h5 hO hp hO2 hB2 hBX hbat hlB hl9
        go_wp2_with (go_at_call 35; refine (giveUp_any _ _).mono ?_; rintro e w2 ⟨rfl, rfl⟩)
        exact ⟨rfl, .inl ⟨by unfold bZ; rw [HBA.out]; rfl, HB2.out, by unfold bOk; rw [HQ.out]; exact Bool.and_false _⟩⟩
      · have HQ : Hid (secEq (marS l) s = true) := hse
        clear h3 h5 hO hp hO2 hB2 hBX hbat hlB hl9
        go_wp2_with fail
        go_ret
        exact .inr ⟨g, rfl, HO2.out, HB2.out, by unfold bOk; rw [HQ.out, HBA.out]; rfl⟩
    · intro a9 ch w' hd hz
      exact hz.elim
end Go.Proofs.Ytgnjokbabecbdaa
