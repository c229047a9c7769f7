
import Derived.Test.YtajmlfcbppnpgaaShaG
namespace Go.Proofs.Ytajmlfcbppnpgaa
open Go.RowKit

set_option linter.unusedSimpArgs false in
set_option maxRecDepth 100000 in
set_option maxHeartbeats 800000 in
theorem told_any (w : World) (h : Nat) (u : Value) (l : List UInt8) (hH : HIs w (.pointer (some ⟨h, 0, none⟩)) l [h]) (hU : IsB w u l) (hl : l.length ≤ 140737488351232) :
    Calls Try.prog 13 #[.agg #[.pointer (some ⟨h, 0, none⟩), u]] w fun e w' => e = .returned (.bool true) ∧ Below w.heap.size w w' := by
  obtain ⟨y, c, rfl⟩ := hU.len
  have hB := below_alloc w (.cells #[.pointer (some ⟨h, 0, none⟩), .slice y l.length c] 37)
  have hH1 := hH.kept hB
  have hU1 := hU.kept hB
  have hc0 : (w.alloc (.cells #[.pointer (some ⟨h, 0, none⟩), .slice y l.length c] 37)).cell? ⟨w.heap.size, 0, none⟩ = some (.pointer (some ⟨h, 0, none⟩)) := World.cell?_alloc_at _ _ _ _ rfl
  have hc1 : (w.alloc (.cells #[.pointer (some ⟨h, 0, none⟩), .slice y l.length c] 37)).cell? ⟨w.heap.size, 1, none⟩ = some (.slice y l.length c) := World.cell?_alloc_at _ _ _ _ rfl
  obtain ⟨D, hD⟩ : ∃ D, shaL l = D := ⟨_, rfl⟩
  have HD : Hid _ := hD
  have hDD : dg_secEq D D = true := (dg_secEq_iff D D).2 fun _ _ => rfl
  clear hH hU hD
  go_enter Try.func13, Try.ntmps13
  go_upto_region 1 with fail
  generalize w.alloc (.cells #[.pointer (some ⟨h, 0, none⟩), .slice y l.length c] 37) = X at hB hH1 hU1 hc0 hc1 ⊢
  generalize w.heap.size = gx at hc0 hc1 ⊢
  refine wp_relies [Fx (.pointer (some ⟨gx, 0, none⟩)), Fx (.pointer (some ⟨h, 0, none⟩)), Fx (.agg (dg_secA D)), Fx (.pointer (some ⟨gx, 1, none⟩)), Fx (.slice y l.length c), Fx (.agg (dg_secA D)), Fx (.bool true), Fx (.bool true), Fx (.pointer (some ⟨gx, 0, none⟩)), Fx (.pointer (some ⟨h, 0, none⟩)), Fx (.int .i64 (l.length : Nat)), Fx (.pointer (some ⟨gx, 1, none⟩)), Fx (.slice y l.length c), Fx (.int .i64 (l.length : Nat)), Fx (.bool true), Fx (.bool true), Fx (.bool true), Fx (.pointer (some ⟨gx, 0, none⟩)), Fx (.pointer (some ⟨h, 0, none⟩)), Fx (.agg (dg_secA D)), Fx (.pointer (some ⟨gx, 1, none⟩)), Fx (.slice y l.length c), Fx (.agg (dg_secA D)), Fx (.bool true), Fx (.bool true), Fx (.bool true)] (by kernel_rfl) (by kernel_rfl) ?_ ?_ ?_
  · repeat' (first | exact all_nil | apply all_cons)
    all_goals intro v y y' hv hb
    all_goals first | exact Fx_mono _ _ _ _ hv hb
  · refine ⟨?_, ?_, ?_, ?_, ?_, ?_, ?_, ?_, ?_, ?_, ?_, ?_, ?_, ?_, ?_, ?_, ?_, ?_, ?_, ?_, ?_, ?_, ?_, ?_, ?_, ?_, trivial⟩
    all_goals
      intro ρ x hp ρc ρg ρf ho hd
      have o1 : ρ (.tmp 1) = .pointer (some ⟨gx, 0, none⟩) := ho 1 rfl
      clear ho
      have p0 := cell_later hp hc0
      have p1 := cell_later hp hc1
      have iH := hH1.kept hp
      have iU := hU1.kept hp
      simp only [depsR, depR, slotR, Fx, List.getElem?_cons_succ, List.getElem?_cons_zero, Region.binds, forall_const] at hd
      simp only [guardR]
      go_split_ands
    · go_simp
    · go_simp
    · go_simp
      refine (shaSum_any x _ l [h] iH (by omega)).mono ?_
      rintro e x' ⟨rfl, hb⟩
      exact ⟨_, rfl, by rw [HD.out]; rfl, hb⟩
    · go_simp
    · go_simp
    · go_simp
      refine (refSha_any _ l x (by omega) iU).mono ?_
      rintro e x' ⟨rfl, hb⟩
      exact ⟨_, rfl, by rw [HD.out]; rfl, hb⟩
    · have hq := hDD
      go_simp
    · go_simp
    · refine ⟨fun _ => ?_, fun hy => absurd (by simp [yieldR, slotR, *]) hy⟩
      go_simp
    · refine ⟨fun _ => ?_, fun hy => absurd (by simp [yieldR, slotR, *]) hy⟩
      go_simp
    · refine ⟨fun _ => ?_, fun hy => absurd (by simp [yieldR, slotR, *]) hy⟩
      go_simp
      refine (shaLen_any x _ l [h] iH).mono ?_
      rintro e x' ⟨rfl, hb⟩
      exact ⟨_, rfl, rfl, hb⟩
    · refine ⟨fun _ => ?_, fun hy => absurd (by simp [yieldR, slotR, *]) hy⟩
      go_simp
    · refine ⟨fun _ => ?_, fun hy => absurd (by simp [yieldR, slotR, *]) hy⟩
      go_simp
    · refine ⟨fun _ => ?_, fun hy => absurd (by simp [yieldR, slotR, *]) hy⟩
      go_simp
    · refine ⟨fun _ => ?_, fun hy => absurd (by simp [yieldR, slotR, *]) hy⟩
      go_simp
    · go_simp
    · go_simp
    · refine ⟨fun _ => ?_, fun hy => absurd (by simp [yieldR, slotR, *]) hy⟩
      go_simp
    · refine ⟨fun _ => ?_, fun hy => absurd (by simp [yieldR, slotR, *]) hy⟩
      go_simp
    · refine ⟨fun _ => ?_, fun hy => absurd (by simp [yieldR, slotR, *]) hy⟩
      go_simp
      refine (shaSum_any x _ l [h] iH (by omega)).mono ?_
      rintro e x' ⟨rfl, hb⟩
      exact ⟨_, rfl, by rw [HD.out]; rfl, hb⟩
    · refine ⟨fun _ => ?_, fun hy => absurd (by simp [yieldR, slotR, *]) hy⟩
      go_simp
    · refine ⟨fun _ => ?_, fun hy => absurd (by simp [yieldR, slotR, *]) hy⟩
      go_simp
    · refine ⟨fun _ => ?_, fun hy => absurd (by simp [yieldR, slotR, *]) hy⟩
      go_simp
      refine (refSha_any _ l x (by omega) iU).mono ?_
      rintro e x' ⟨rfl, hb⟩
      exact ⟨_, rfl, by rw [HD.out]; rfl, hb⟩
    · refine ⟨fun _ => ?_, fun hy => absurd (by simp [yieldR, slotR, *]) hy⟩
      have hq := hDD
      go_simp
    · go_simp
    · go_simp
  · intro vs x1 hp hw
    simp only [owed, Fx] at hw
    obtain ⟨e0, e1, e2, e3, e4, e5, e6, e7, e8, e9, e10, e11, e12, e13, e14, e15, e16, e17, e18, e19, e20, e21, e22, e23, e24, e25, -⟩ := hw
    simp only [List.length_cons, List.length_nil, List.take_succ_cons, List.take_nil, List.drop_succ_cons, List.drop_nil, asg, List.cons_append, List.nil_append, e0, e1, e2, e3, e4, e5, e6, e7, e8, e9, e10, e11, e12, e13, e14, e15, e16, e17, e18, e19, e20, e21, e22, e23, e24, e25]
    clear e0 e1 e2 e3 e4 e5 e6 e7 e8 e9 e10 e11 e12 e13 e14 e15 e16 e17 e18 e19 e20 e21 e22 e23 e24 e25
    have HB : Hid (Below w.heap.size w x1) := hB.trans (hp.mono hB.size)
    clear hB hp hH1 hU1 hc0 hc1
    go_wp2
    go_ret
    exact ⟨rfl, HB.out⟩
end Go.Proofs.Ytajmlfcbppnpgaa
