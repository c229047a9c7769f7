
import Derived.Test.YthkjfgncbmpllaaDsS
namespace Go.Proofs.Ythkjfgncbmpllaa
open Go.RowKit

/-! What digest's functions owe -/
def TextOk : Prop := ∀ (s : Dg) (w : World), Calls Try.prog 7 #[.agg (dg_secA s)] w fun e w' => e = .returned (.string ⟨(textL s).toArray⟩) ∧ Below w.heap.size w w'
def ParseOk : Prop := ∀ (l : List UInt8) (w : World), Calls Try.prog 8 #[.string ⟨l.toArray⟩] w fun e w' => (∃ d c, e = .returned (.tuple #[.agg (dg_secA d), .int .i64 c]) ∧ ParsedTo l d c) ∧ Below w.heap.size w w'
def CompareOk : Prop := ∀ (a b : Dg) (w : World), Calls Try.prog 10 #[.agg (dg_secA a), .agg (dg_secA b)] w fun e w' => e = .returned (.int .i64 (dcmp a b)) ∧ Below w.heap.size w w'
def KnownOk : Prop := ∀ (w : World), Calls Try.prog 9 #[] w fun e w' => e = .returned (.bool true) ∧ Below w.heap.size w w'
theorem ParsedTo.unique {l : List UInt8} {d e : Dg} {c f : Int} (h : ParsedTo l d c) (k : ParsedTo l e f) : e = d ∧ f = c := by
  rcases h with ⟨h1, rfl, rfl⟩ | ⟨h1, rfl, rfl⟩ <;> rcases k with ⟨k1, rfl, rfl⟩ | ⟨k1, rfl, rfl⟩
  · exact ⟨rfl, rfl⟩
  · exact absurd h1 k1
  · exact absurd k1 h1
  · exact ⟨rfl, rfl⟩
theorem secEq_self (d : Dg) : dg_secEq d d = true := (dg_secEq_iff d d).2 fun _ _ => rfl
set_option linter.unusedSimpArgs false in
set_option maxRecDepth 100000 in
set_option maxHeartbeats 800000 in
theorem lawDigSays_any (hT : TextOk) (hP : ParseOk) (hC : CompareOk) (hK : KnownOk) (a b : Dg) (l : List UInt8) (w : World) :
    Calls Try.prog 5 #[.agg (dg_secA a), .agg (dg_secA b), .string ⟨l.toArray⟩] w fun e w' => e = .returned (.bool true) ∧ Below w.heap.size w w' := by
  have hB0 : Below w.heap.size w ((w.alloc (.cells (dg_secA a) 23)).alloc (.cells (dg_secA b) 23)) := (below_alloc w _).alloc (by simp) _
  have hRa : DgR ((w.alloc (.cells (dg_secA a) 23)).alloc (.cells (dg_secA b) 23)) w.heap.size a := (DgR.new w a _).kept (below_alloc _ _)
  have hRb : DgR ((w.alloc (.cells (dg_secA a) 23)).alloc (.cells (dg_secA b) 23)) (w.heap.size + 1) b := by
    have := DgR.new (w.alloc (.cells (dg_secA a) 23)) b 23
    rw [World.size_alloc] at this
    exact this
  go_enter Try.func5, Try.ntmps5
  go_wp2_with fail
  obtain ⟨gb, hgb⟩ : ∃ g, w.heap.size + 1 = g := ⟨_, rfl⟩
  rw [hgb] at hRb
  simp only [hgb]
  clear hgb
  generalize (w.alloc (.cells (dg_secA a) 23)).alloc (.cells (dg_secA b) 23) = X at hB0 hRa hRb ⊢
  refine (hP l _).mono ?_
  rintro e w1 ⟨⟨d, c, rfl, hpd⟩, hw1⟩
  replace hRa := hRa.kept hw1
  replace hRb := hRb.kept hw1
  replace hB0 := hB0.trans (hw1.mono hB0.size)
  have hRd : DgR (w1.alloc (.cells (dg_secA d) 23)) w1.heap.size d := DgR.new _ _ _
  clear hw1
  go_wp2_with fail
  replace hRa := hRa.kept (below_alloc w1 (.cells (dg_secA d) 23))
  replace hRb := hRb.kept (below_alloc w1 (.cells (dg_secA d) 23))
  replace hB0 := hB0.alloc hB0.size (.cells (dg_secA d) 23)
  generalize w1.heap.size = gd at hRd ⊢
  generalize w1.alloc (.cells (dg_secA d) 23) = X1 at hB0 hRa hRb hRd ⊢
  refine (refParse_any l _).mono ?_
  rintro e w2 ⟨⟨d2, c2, rfl, hpd2⟩, hw2⟩
  obtain ⟨rfl, rfl⟩ := hpd.unique hpd2
  replace hRa := hRa.kept hw2
  replace hRb := hRb.kept hw2
  replace hRd := hRd.kept hw2
  replace hB0 := hB0.trans (hw2.mono hB0.size)
  have hRe : DgR (w2.alloc (.cells (dg_secA d2) 23)) w2.heap.size d2 := DgR.new _ _ _
  clear hw2 hpd2 hpd
  go_upto_region 3 with fail
  replace hRa := hRa.kept (below_alloc w2 (.cells (dg_secA d2) 23))
  replace hRb := hRb.kept (below_alloc w2 (.cells (dg_secA d2) 23))
  replace hRd := hRd.kept (below_alloc w2 (.cells (dg_secA d2) 23))
  replace hB0 := hB0.alloc hB0.size (.cells (dg_secA d2) 23)
  generalize w2.heap.size = ge at hRe ⊢
  generalize w2.alloc (.cells (dg_secA d2) 23) = X2 at hB0 hRa hRb hRd hRe ⊢
  have hdd := secEq_self d2
  obtain ⟨cm, hcm⟩ : ∃ cm, dcmp a b = cm := ⟨_, rfl⟩
  have HC : Hid _ := hcm
  clear hcm
  obtain ⟨S, hS⟩ : ∃ S, ByteArray.mk (textL a).toArray = S := ⟨_, rfl⟩
  have HS : Hid _ := hS
  clear hS
  refine wp_relies [Fx (.bool true), Fx (.bool true), Fx (.agg (dg_secA a)), Fx (.string S), Fx (.agg (dg_secA a)), Fx (.string S), Fx (.bool true), Fx (.bool true), Fx (.bool true), Fx (.agg (dg_secA d2)), Fx (.agg (dg_secA d2)), Fx (.bool true), Fx (.bool true), Fx (.bool true), Fx (.int .i64 c2), Fx (.int .i64 c2), Fx (.bool true), Fx (.bool true), Fx (.bool true), Fx (.agg (dg_secA a)), Fx (.agg (dg_secA b)), Fx (.int .i64 cm), Fx (.agg (dg_secA a)), Fx (.agg (dg_secA b)), Fx (.int .i64 cm), Fx (.bool true), Fx (.bool true), Fx (.bool true)] (by kernel_rfl) (by kernel_rfl) ?_ ?_ ?_
  · repeat' (first | exact all_nil | apply all_cons)
    all_goals intro v y y' hv hb
    all_goals first | exact Fx_mono _ _ _ _ hv hb
  · refine ⟨?_, ?_, ?_, ?_, ?_, ?_, ?_, ?_, ?_, ?_, ?_, ?_, ?_, ?_, ?_, ?_, ?_, ?_, ?_, ?_, ?_, ?_, ?_, ?_, ?_, ?_, ?_, ?_, trivial⟩
    all_goals
      intro ρ x hp ρc ρg ρf ho hd
      have o3 : ρ (.tmp 3) = .pointer (some ⟨w.heap.size, 0, none⟩) := ho 3 rfl
      have o4 : ρ (.tmp 4) = .pointer (some ⟨gb, 0, none⟩) := ho 4 rfl
      have o7 : ρ (.tmp 7) = .pointer (some ⟨gd, 0, none⟩) := ho 7 rfl
      have o8 : ρ (.tmp 8) = .int .i64 c2 := ho 8 rfl
      have o9 : ρ (.tmp 9) = .pointer (some ⟨ge, 0, none⟩) := ho 9 rfl
      have o10 : ρ (.tmp 10) = .int .i64 c2 := ho 10 rfl
      clear ho
      obtain ⟨r1, q1⟩ := hRa.kept hp
      obtain ⟨r2, q2⟩ := hRb.kept hp
      obtain ⟨r3, q3⟩ := hRd.kept hp
      obtain ⟨r4, q4⟩ := hRe.kept hp
      simp only [depsR, depR, slotR, Fx, List.getElem?_cons_succ, List.getElem?_cons_zero, Region.binds, forall_const] at hd
      simp only [guardR]
      go_split_ands
    · go_simp
      refine (hK x).mono ?_
      rintro e x' ⟨rfl, hb⟩
      exact ⟨_, rfl, rfl, hb⟩
    · go_simp
    · refine ⟨fun _ => ?_, fun hy => absurd (by simp [yieldR, slotR, *]) hy⟩
      go_simp
    · refine ⟨fun _ => ?_, fun hy => absurd (by simp [yieldR, slotR, *]) hy⟩
      go_simp
      refine (hT a x).mono ?_
      rintro e x' ⟨rfl, hb⟩
      exact ⟨_, rfl, by rw [HS.out]; rfl, hb⟩
    · refine ⟨fun _ => ?_, fun hy => absurd (by simp [yieldR, slotR, *]) hy⟩
      go_simp
    · refine ⟨fun _ => ?_, fun hy => absurd (by simp [yieldR, slotR, *]) hy⟩
      go_simp
      refine (refText_any a x).mono ?_
      rintro e x' ⟨rfl, hb⟩
      exact ⟨_, rfl, by rw [HS.out]; rfl, hb⟩
    · refine ⟨fun _ => ?_, fun hy => absurd (by simp [yieldR, slotR, *]) hy⟩
      go_simp
    · go_simp
    · go_simp
    · refine ⟨fun _ => ?_, fun hy => absurd (by simp [yieldR, slotR, *]) hy⟩
      go_simp
    · refine ⟨fun _ => ?_, fun hy => absurd (by simp [yieldR, slotR, *]) hy⟩
      go_simp
    · refine ⟨fun _ => ?_, fun hy => absurd (by simp [yieldR, slotR, *]) hy⟩
      have hq := hdd
      go_simp
    · go_simp
    · go_simp
    · refine ⟨fun _ => ?_, fun hy => absurd (by simp [yieldR, slotR, *]) hy⟩
      go_simp
    · refine ⟨fun _ => ?_, fun hy => absurd (by simp [yieldR, slotR, *]) hy⟩
      go_simp
    · refine ⟨fun _ => ?_, fun hy => absurd (by simp [yieldR, slotR, *]) hy⟩
      go_simp
    · go_simp
    · go_simp
    · refine ⟨fun _ => ?_, fun hy => absurd (by simp [yieldR, slotR, *]) hy⟩
      go_simp
    · refine ⟨fun _ => ?_, fun hy => absurd (by simp [yieldR, slotR, *]) hy⟩
      go_simp
    · refine ⟨fun _ => ?_, fun hy => absurd (by simp [yieldR, slotR, *]) hy⟩
      go_simp
      refine (hC a b x).mono ?_
      rintro e x' ⟨rfl, hb⟩
      exact ⟨_, rfl, by rw [HC.out]; rfl, hb⟩
    · refine ⟨fun _ => ?_, fun hy => absurd (by simp [yieldR, slotR, *]) hy⟩
      go_simp
    · refine ⟨fun _ => ?_, fun hy => absurd (by simp [yieldR, slotR, *]) hy⟩
      go_simp
    · refine ⟨fun _ => ?_, fun hy => absurd (by simp [yieldR, slotR, *]) hy⟩
      go_simp
      refine (refCompare_any a b x).mono ?_
      rintro e x' ⟨rfl, hb⟩
      exact ⟨_, rfl, by rw [HC.out]; rfl, hb⟩
    · refine ⟨fun _ => ?_, fun hy => absurd (by simp [yieldR, slotR, *]) hy⟩
      go_simp
    · go_simp
    · go_simp
  · intro vs x1 hp hw
    simp only [owed, Fx] at hw
    obtain ⟨e0, e1, e2, e3, e4, e5, e6, e7, e8, e9, e10, e11, e12, e13, e14, e15, e16, e17, e18, e19, e20, e21, e22, e23, e24, e25, e26, e27, -⟩ := hw
    simp only [List.length_cons, List.length_nil, List.take_succ_cons, List.take_nil, List.drop_succ_cons, List.drop_nil, asg, List.cons_append, List.nil_append, e0, e1, e2, e3, e4, e5, e6, e7, e8, e9, e10, e11, e12, e13, e14, e15, e16, e17, e18, e19, e20, e21, e22, e23, e24, e25, e26, e27]
    clear e0 e1 e2 e3 e4 e5 e6 e7 e8 e9 e10 e11 e12 e13 e14 e15 e16 e17 e18 e19 e20 e21 e22 e23 e24 e25 e26 e27
    have HB : Hid (Below w.heap.size w x1) := hB0.trans (hp.mono hB0.size)
    clear hB0 hp hRa hRb hRd hRe
    go_wp2
    go_ret
    exact ⟨rfl, HB.out⟩
end Go.Proofs.Ythkjfgncbmpllaa
