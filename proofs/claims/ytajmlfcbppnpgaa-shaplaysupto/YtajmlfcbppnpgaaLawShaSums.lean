
import Derived.Test.YtajmlfcbppnpgaaShaT
namespace Go.Proofs.Ytajmlfcbppnpgaa
open Go.RowKit

/-- A slice has room for what it holds. -/
def CapB (v : Value) : Prop := ∀ x n c, v = .slice x n c → n ≤ c
theorem CapB.mk {x : Option Addr} {n c : Nat} (h : n ≤ c) : CapB (.slice x n c) := fun y m d e => by
  simp only [Value.slice.injEq] at e
  obtain ⟨-, rfl, rfl⟩ := e
  exact h
theorem run_app_cap (w : World) (g : Nat) (x : Option Addr) (c : Nat) (l : List UInt8) (ty : TypeId) (h : IsB w (.slice x l.length c) l) (hl : l.length ≤ 140737488355328) :
    ∃ v w', (Builtin.append_ #[22, 22] ty #[.slice (some ⟨g, 0, none⟩) 0 0, .slice x l.length c]).run Try.prog w = .ok v w' ∧ IsB w' v l ∧ Below w.heap.size w w' ∧ CapB v := by
  by_cases hn : l = []
  · subst hn
    exact ⟨_, _, run_app_nil w g x c ty h, .inr ⟨_, _, rfl, fun i hi => by simp at hi⟩, Below.refl _ _, .mk (Nat.le_refl _)⟩
  · exact ⟨_, _, run_app w g x c l ty h hn hl, isB_app w w l _, (below_alloc w _).drew, .mk (grownCap_ge _ _ _ _)⟩
/-- What sha.Sum owes. -/
def ShaOk : Prop := ∀ (v : Value) (l : List UInt8) (w : World), l.length ≤ 140737488351232 → IsB w v l → CapB v →
  Calls Try.prog 10 #[v] w fun e w' => e = .returned (.agg (dg_secA (shaL l))) ∧ Below w.heap.size w w'
/-- What the law's taken owes. -/
def TakenOk : Prop := ∀ (w : World), Calls Try.prog 6 #[] w fun e w' => e = .returned (.bool true) ∧ Below w.heap.size w w'
/-- Two appends make a copy with a byte behind it. -/
theorem run_copyb (w : World) (x : Option Addr) (c : Nat) (l : List UInt8) (d : UInt8) (h : IsB w (.slice x l.length c) l) (hl : l.length + 1 ≤ 140737488355328) :
    ∃ v1 w1 g c2 w2, (Builtin.append_ #[22, 22] 22 #[.slice (some ⟨w.heap.size, 0, none⟩) 0 0, .slice x l.length c]).run Try.prog (w.alloc (.cells #[] 5)) = .ok v1 w1 ∧
      (Builtin.append_ #[22, 22] 22 #[v1, .slice (some ⟨w1.heap.size, 0, none⟩) 1 1]).run Try.prog (w1.alloc (.cells #[.int .u8 (d.toNat : Int)] 5)) = .ok (.slice (some ⟨g, 0, none⟩) (l.length + 1) c2) w2 ∧
      OwnB w2 w.heap.size (.slice (some ⟨g, 0, none⟩) (l ++ [d]).length c2) (l ++ [d]) ∧ l.length + 1 ≤ c2 ∧ c2 ≤ maxLen ∧ Below w.heap.size w w2 := by
  obtain ⟨v1, w1, hr1, hO1, hg1, -⟩ := run_app_more (w.alloc (.cells #[] 5)) w.heap.size (.slice (some ⟨w.heap.size, 0, none⟩) 0 0) [] x c l 22 (ownB_empty w) (h.kept (below_alloc _ _)) (by simp; omega) (by simp)
  rw [List.nil_append] at hO1
  have hB1 : Below w.heap.size w w1 := (below_alloc w _).trans (below_by (ownB_empty w) hg1 (by simp))
  obtain ⟨v2, w2, hr2, hO2, hB2, hs2⟩ := run_app1 (w1.alloc (.cells #[Value.int .u8 (d.toNat : Int)] 5)) w.heap.size w1.heap.size 1 v1 l d 22 (hO1.keep (below_alloc _ _)) (by go_simp) hl (by have := hB1.size; simp; omega)
  obtain ⟨g, c2, rfl, hg, hle, hm⟩ := hO2.form (by simp)
  refine ⟨v1, w1, g, c2, w2, hr1, ?_, hO2, by simpa using hle, hm, hB1.trans ((((Below.refl _ w1).alloc hB1.size _)).trans hB2)⟩
  simpa using hr2
theorem OwnB.front {w : World} {base g c : Nat} {l : List UInt8} {d : UInt8} (h : OwnB w base (.slice (some ⟨g, 0, none⟩) (l ++ [d]).length c) (l ++ [d])) : IsB w (.slice (some ⟨g, 0, none⟩) l.length c) l := by
  rcases h.isB with ⟨h, _⟩ | ⟨y, d', he, hc⟩
  · cases h
  · simp only [Value.slice.injEq, Option.some.injEq, true_and] at he
    obtain ⟨rfl, rfl⟩ := he
    refine .inr ⟨_, c, rfl, fun i hi => ?_⟩
    have := hc i (by simp; omega)
    rw [List.getElem_append_left hi] at this
    exact this
theorem subL_of3 (l : List UInt8) : subL (fun i => l[i]?.getD 0) 0 l.length = l := by
  apply List.ext_getElem
  · simp
  · intro i h1 h2
    rw [subL_get]; simp [h2]
theorem IsB.sub_cell3 {w : World} {g o n c : Nat} {f : Nat → UInt8} (h : IsB w (.slice (some ⟨g, o, none⟩) n c) (subL f 0 n)) (j : Nat) (hj : j < n) : w.cell? ⟨g, o + j, none⟩ = some (.int .u8 ((f j).toNat : Int)) := by
  rcases h with ⟨h, _⟩ | ⟨y, d, he, hc⟩
  · cases h
  · simp only [Value.slice.injEq, Option.some.injEq] at he
    obtain ⟨rfl, _, rfl⟩ := he
    have h1 := hc j (by simpa using hj)
    rw [addr_add] at h1
    rw [subL_get, Nat.zero_add] at h1
    exact h1
set_option linter.unusedSimpArgs false in
set_option maxRecDepth 100000 in
set_option maxHeartbeats 800000 in
theorem lawShaSums_any (hSum : ShaOk) (hT : TakenOk) (xb xo : Option Addr) (cb co : Nat) (l lo : List UInt8) (w : World) (hb : IsB w (.slice xb l.length cb) l) (ho : IsB w (.slice xo lo.length co) lo) (h1 : l.length ≤ 140737488351232) (h2 : lo.length ≤ 140737488351232) :
    Calls Try.prog 4 #[.slice xb l.length cb, .slice xo lo.length co] w fun e w' => e = .returned (.bool true) ∧ Below w.heap.size w w' := by
  go_enter Try.func4, Try.ntmps4
  go_wp2_with fail
  refine (hT _).mono ?_
  rintro e w1 ⟨rfl, hw1⟩
  have hb1 := hb.kept hw1
  have ho1 := ho.kept hw1
  obtain ⟨v1, w2, g, c2, w3, hr1, hr2, hOw, hcl, hcm, hB3⟩ := run_copyb w1 xb cb l 90 hb1 (by omega)
  have hb3 := hb1.kept hB3
  have ho3 := ho1.kept hB3
  have hBw : Below w.heap.size w w3 := hw1.trans (hB3.mono hw1.size)
  have hg : w.heap.size ≤ g ∧ g < w3.heap.size := by have := World.ownsRow.lt hOw g rfl; have := hw1.size; omega
  obtain ⟨D, hD⟩ : ∃ D, shaL l = D := ⟨_, rfl⟩
  obtain ⟨E, hE⟩ : ∃ E, shaL lo = E := ⟨_, rfl⟩
  have HD : Hid _ := hD
  have HE : Hid _ := hE
  have hDD : dg_secEq D D = true := (dg_secEq_iff D D).2 fun _ _ => rfl
  have hEE : dg_secEq E E = true := (dg_secEq_iff E E).2 fun _ _ => rfl
  clear hb ho hb1 ho1 hw1 hB3 hE
  unfold maxLen at hcm
  have hcl2 : (l.length : Int) ≤ (c2 : Int) := by omega
  have tok1 : True := trivial
  go_wp2_with (first | (at_builtin; have _t := tok1; refine wpL_app rfl _ _ rfl v1 w2 (by exact hr1) ?_; clear tok1 hr1) | (at_builtin; refine wpL_app rfl _ _ rfl _ w3 (by exact hr2) ?_))
  refine (refSha_any _ l _ h1 hb3).mono ?_
  rintro e w4 ⟨rfl, hw4⟩
  rw [hD]
  have hOw4 := hOw.keep hw4
  have hB1 := (hb3.kept hw4).kept (below_alloc w4 (.cells (dg_secA D) 29))
  have hO1 := (ho3.kept hw4).kept (below_alloc w4 (.cells (dg_secA D) 29))
  have hOw5 := hOw4.keep (below_alloc w4 (.cells (dg_secA D) 29))
  have hW1 := hOw5.front
  have h90 : (w4.alloc (.cells (dg_secA D) 29)).cell? ⟨g, l.length, none⟩ = some (.int .u8 90) := by
    have := World.ownsRow.cellAt hOw5 l.length (by simp)
    rw [this]; simp [bytesA]
  have hRd : DRow (w4.alloc (.cells (dg_secA D) 29)) w4.heap.size D := DRow.new w4 D _
  have hBw4 : Below w.heap.size w w4 := hBw.trans (hw4.mono hBw.size)
  have hBw5 : Below w.heap.size w (w4.alloc (.cells (dg_secA D) 29)) := hBw4.alloc hBw4.size _
  clear hOw hOw4 hb3 ho3 hw4 hBw hBw4 hD hr2
  go_upto_region 5 with fail
  generalize w4.heap.size = gd at hRd ⊢
  generalize w4.alloc (.cells (dg_secA D) 29) = W5 at *
  refine wp_relies [Fx (.slice (some ⟨g, 0, none⟩) l.length c2), Fx (.agg (dg_secA D)), Fx (.agg (dg_secA D)), Fx (.bool false), Fx (.bool false), fun v _ => ∃ q, v = .slice (some ⟨q, 0, none⟩) 0 0, Fx (.slice xo lo.length co), fun v x => IsB x v lo ∧ CapB v, Fx (.agg (dg_secA E)), Fx (.slice xo lo.length co), Fx (.agg (dg_secA E)), Fx (.bool false), Fx (.bool false), Fx (.bool false), Fx (.slice (some ⟨g, 0, none⟩) l.length c2), Fx (.agg (dg_secA D)), Fx (.agg (dg_secA D)), Fx (.bool false), Fx (.bool false), Fx (.bool false), Fx (.slice (some ⟨g, 0, none⟩) l.length c2), Fx (.string ⟨l.toArray⟩), Fx (.slice xb l.length cb), Fx (.string ⟨l.toArray⟩), Fx (.bool false), Fx (.bool false), Fx (.bool false), Fx (.slice (some ⟨g, 0, none⟩) l.length c2), Fx (.slice xb l.length cb), Fx (.int .i64 (l.length : Nat)), Fx (.int .i64 ((l.length + 1 : Nat) : Int)), Fx (.slice (some ⟨g, 0, none⟩) (l.length + 1) c2), Fx (.slice xb l.length cb), Fx (.int .i64 (l.length : Nat)), Fx (.pointer (some ⟨g, l.length, none⟩)), Fx (.int .u8 90), Fx (.bool false), Fx (.bool false)] (by kernel_rfl) (by kernel_rfl) ?_ ?_ ?_
  · repeat' (first | exact all_nil | apply all_cons)
    all_goals intro v y y' hv hb
    all_goals first | exact Fx_mono _ _ _ _ hv hb | exact ⟨IsB.kept hv.1 hb, hv.2⟩ | exact hv
  · refine ⟨?_, ?_, ?_, ?_, ?_, ?_, ?_, ?_, ?_, ?_, ?_, ?_, ?_, ?_, ?_, ?_, ?_, ?_, ?_, ?_, ?_, ?_, ?_, ?_, ?_, ?_, ?_, ?_, ?_, ?_, ?_, ?_, ?_, ?_, ?_, ?_, ?_, ?_, trivial⟩
    all_goals
      intro ρ x hp ρc ρg ρf ho hd
      have o0 : ρ (.tmp 0) = .slice xb l.length cb := ho 0 rfl
      have o1 : ρ (.tmp 1) = .slice xo lo.length co := ho 1 rfl
      have o5 : ρ (.tmp 5) = .slice (some ⟨g, 0, none⟩) l.length c2 := ho 5 rfl
      have o6 : ρ (.tmp 6) = .pointer (some ⟨gd, 0, none⟩) := ho 6 rfl
      clear ho
      obtain ⟨r1, q1⟩ := hRd.kept hp
      have iB := hB1.kept hp
      have iO := hO1.kept hp
      have iW := hW1.kept hp
      have q90 := cell_later hp h90
      have hc1 : l.length + 1 ≤ c2 := hcl
      have hc2 : (l.length : Int) + 1 ≤ (c2 : Int) := by omega
      have hc3 : (l.length : Int) < (l.length : Int) + 1 := by omega
      have hc4 : (0 : Int) ≤ (l.length : Int) + 1 := by omega
      simp only [depsR, depR, slotR, Fx, List.getElem?_cons_succ, List.getElem?_cons_zero, Region.binds, forall_const] at hd
      simp only [guardR]
      go_split_ands
    · go_simp
    · go_simp
      refine (hSum _ l _ (by omega) iW (.mk (by omega))).mono ?_
      rintro e x' ⟨rfl, hb⟩
      exact ⟨_, rfl, by rw [HD.out]; rfl, hb⟩
    · go_simp
    · have hq := hDD
      go_simp
    · go_simp
    · refine ⟨fun _ => ?_, fun hy => absurd (by simp [yieldR, slotR, *]) hy⟩
      go_simp
      exact below_alloc _ _
    · refine ⟨fun _ => ?_, fun hy => absurd (by simp [yieldR, slotR, *]) hy⟩
      go_simp
    · refine ⟨fun _ => ?_, fun hy => absurd (by simp [yieldR, slotR, *]) hy⟩
      obtain ⟨q, hq⟩ := ‹∃ q, ρ (.tmp 25) = .slice (some ⟨q, 0, none⟩) 0 0›
      obtain ⟨y, x', hr, hy, hb, hcap⟩ := run_app_cap x q xo co lo 22 iO (by omega)
      rw [BigFrame.execOp_builtin, BigFrame.builtin_append]
      simp only [List.map_toArray, List.map_cons, List.map_nil, hq, ‹ρ (.tmp 26) = _›, Sem.run_bind, hr, Result.andThen_ok, Sem.run_pure, okUpon_value]
      exact ⟨⟨hy, hcap⟩, hb⟩
    · refine ⟨fun _ => ?_, fun hy => absurd (by simp [yieldR, slotR, *]) hy⟩
      have hi : IsB x (ρ (.tmp 27)) lo := by assumption
      have hcap : CapB (ρ (.tmp 27)) := by assumption
      go_simp
      refine (hSum _ lo _ (by omega) hi hcap).mono ?_
      rintro e x' ⟨rfl, hb⟩
      exact ⟨_, rfl, by rw [HE.out]; rfl, hb⟩
    · refine ⟨fun _ => ?_, fun hy => absurd (by simp [yieldR, slotR, *]) hy⟩
      go_simp
    · refine ⟨fun _ => ?_, fun hy => absurd (by simp [yieldR, slotR, *]) hy⟩
      go_simp
      refine (refSha_any _ lo _ (by omega) iO).mono ?_
      rintro e x' ⟨rfl, hb⟩
      exact ⟨_, rfl, by rw [HE.out]; rfl, hb⟩
    · refine ⟨fun _ => ?_, fun hy => absurd (by simp [yieldR, slotR, *]) hy⟩
      have hq := hEE
      go_simp
    · go_simp
    · go_simp
    · refine ⟨fun _ => ?_, fun hy => absurd (by simp [yieldR, slotR, *]) hy⟩
      go_simp
    · refine ⟨fun _ => ?_, fun hy => absurd (by simp [yieldR, slotR, *]) hy⟩
      go_simp
      refine (hSum _ l _ (by omega) iW (.mk (by omega))).mono ?_
      rintro e x' ⟨rfl, hb⟩
      exact ⟨_, rfl, by rw [HD.out]; rfl, hb⟩
    · refine ⟨fun _ => ?_, fun hy => absurd (by simp [yieldR, slotR, *]) hy⟩
      go_simp
    · refine ⟨fun _ => ?_, fun hy => absurd (by simp [yieldR, slotR, *]) hy⟩
      have hq := hDD
      go_simp
    · go_simp
    · go_simp
    · refine ⟨fun _ => ?_, fun hy => absurd (by simp [yieldR, slotR, *]) hy⟩
      go_simp
    · refine ⟨fun _ => ?_, fun hy => absurd (by simp [yieldR, slotR, *]) hy⟩
      have hz := iW.str
      go_simp
    · refine ⟨fun _ => ?_, fun hy => absurd (by simp [yieldR, slotR, *]) hy⟩
      go_simp
    · refine ⟨fun _ => ?_, fun hy => absurd (by simp [yieldR, slotR, *]) hy⟩
      have hz := iB.str
      go_simp
    · refine ⟨fun _ => ?_, fun hy => absurd (by simp [yieldR, slotR, *]) hy⟩
      go_simp
    · go_simp
    · go_simp
    · refine ⟨fun _ => ?_, fun hy => absurd (by simp [yieldR, slotR, *]) hy⟩
      go_simp
    · refine ⟨fun _ => ?_, fun hy => absurd (by simp [yieldR, slotR, *]) hy⟩
      go_simp
    · refine ⟨fun _ => ?_, fun hy => absurd (by simp [yieldR, slotR, *]) hy⟩
      go_simp
    · refine ⟨fun _ => ?_, fun hy => absurd (by simp [yieldR, slotR, *]) hy⟩
      go_simp
      exact congrArg (Value.int .i64) (show IntKind.i64.wrap ((l.length : Int) + 1) = (l.length : Int) + 1 by rw [IntKind.wrap_i64]; omega)
    · refine ⟨fun _ => ?_, fun hy => absurd (by simp [yieldR, slotR, *]) hy⟩
      go_simp
    · refine ⟨fun _ => ?_, fun hy => absurd (by simp [yieldR, slotR, *]) hy⟩
      go_simp
    · refine ⟨fun _ => ?_, fun hy => absurd (by simp [yieldR, slotR, *]) hy⟩
      go_simp
    · refine ⟨fun _ => ?_, fun hy => absurd (by simp [yieldR, slotR, *]) hy⟩
      go_simp
    · refine ⟨fun _ => ?_, fun hy => absurd (by simp [yieldR, slotR, *]) hy⟩
      go_simp
    · refine ⟨fun _ => ?_, fun hy => absurd (by simp [yieldR, slotR, *]) hy⟩
      go_simp
    · go_simp
  · intro vs x5 hp hw
    simp only [owed, Fx] at hw
    obtain ⟨e0, e1, e2, e3, e4, e5, e6, e7, e8, e9, e10, e11, e12, e13, e14, e15, e16, e17, e18, e19, e20, e21, e22, e23, e24, e25, e26, e27, e28, e29, e30, e31, e32, e33, e34, e35, e36, e37, -⟩ := hw
    simp only [List.length_cons, List.length_nil, List.take_succ_cons, List.take_nil, List.drop_succ_cons, List.drop_nil, asg, List.cons_append, List.nil_append, e0, e1, e2, e3, e4, e6, e8, e9, e10, e11, e12, e13, e14, e15, e16, e17, e18, e19, e20, e21, e22, e23, e24, e25, e26, e27, e28, e29, e30, e31, e32, e33, e34, e35, e36, e37]
    clear e0 e1 e2 e3 e4 e6 e8 e9 e10 e11 e12 e13 e14 e15 e16 e17 e18 e19 e20 e21 e22 e23 e24 e25 e26 e27 e28 e29 e30 e31 e32 e33 e34 e35 e36 e37 e5 e7
    have hOw6 := hOw5.keep hp
    have hW6 := hOw6.front
    have hB6 : Below w.heap.size w x5 := hBw5.trans (hp.mono hBw5.size)
    have hs6 : ∀ j, x5.frozen? ⟨g, j, none⟩ = false := fun j => World.ownsRow.frozenAt hOw6 j
    have hI6 : IsB x5 (.slice (some ⟨g, 0, none⟩) l.length c2) (subL (fun i : Nat => l[i]?.getD 0) 0 l.length) := by rw [subL_of3]; exact hW6
    clear hOw5 hOw6 hW6 hW1 hB1 hO1 hRd h90 hBw5 hp
    go_wp2_with fail
    go_loopw [7] (fun i wr => ∃ (k : Nat) (f : Nat → UInt8), k ≤ l.length ∧ i = .int .i64 k ∧ IsB wr (.slice (some ⟨g, 0, none⟩) l.length c2) (subL f 0 l.length) ∧ (∀ j, wr.frozen? ⟨g, j, none⟩ = false) ∧ Below w.heap.size w wr) (fun i _ => l.length - (intOf i).toNat)
    case atStart => exact ⟨0, _, Nat.zero_le _, rfl, hI6, hs6, hB6⟩
    case round =>
      clear hI6 hs6 hB6
      obtain ⟨k, f, hk, rfl, hI, hs, hB⟩ := hrel
      by_cases hlt : k < l.length
      · have hc := hI.sub_cell3 k hlt
        rw [Nat.zero_add] at hc
        have hfz := hs k
        obtain ⟨b', hb'⟩ : ∃ b', f k + 1 = b' := ⟨_, rfl⟩
        have hbv : ((f k).toNat + 1 : Int) % 256 = (b'.toNat : Int) := by rw [← hb', UInt8.toNat_add]; simp
        have HI : Hid (IsB (wr.setCell ⟨g, k, none⟩ (.int .u8 (b'.toNat : Int))) (.slice (some ⟨g, 0, none⟩) l.length c2) (subL (upd f k b') 0 l.length)) := by
          have := hI.set k b' _ hlt rfl
          rw [Nat.zero_add] at this
          exact this
        have HS : Hid (∀ j, (wr.setCell ⟨g, k, none⟩ (.int .u8 (b'.toNat : Int))).frozen? ⟨g, j, none⟩ = false) := fun j => by rw [World.frozen?_setCell]; exact hs j
        have HB : Hid (Below w.heap.size w (wr.setCell ⟨g, k, none⟩ (.int .u8 (b'.toNat : Int)))) := hB.setCell hg.1 _
        have hk0 : (0 : Int) ≤ (k : Int) := by omega
        have hk1 : (k : Int) < (l.length : Int) := by omega
        clear hI hs hB hb'
        go_wp2
        go_roundw
        case rel => first | exact ⟨k + 1, _, by omega, by go_num, HI.out, HS.out, HB.out⟩ | ((repeat apply Exists.intro); refine ⟨⟨k + 1, _, by omega, ?_, HI.out, HS.out, HB.out⟩, rfl⟩; go_num)
        case measure => simp [intOf]; omega
      · obtain rfl : k = l.length := by omega
        have hFl : (subL f 0 l.length).length = l.length := by simp
        generalize subL f 0 l.length = F at hI hFl
        rw [← hFl] at hI
        have hS1 := hSum _ F wr (by omega) hI (.mk (by omega))
        rw [hFl] at hI hS1
        clear hs
        have HS1 := hS1
        clear hS1
        go_wp2_with fail
        refine HS1.mono ?_
        rintro e w6 ⟨rfl, hw6⟩
        have hI6 := hI.kept hw6
        obtain ⟨va, w7, hra, hIa, hB7⟩ := run_app_any (w6.alloc (.cells #[] 5)) w6.heap.size (some ⟨g, 0, none⟩) c2 F 22 (by rw [hFl]; exact hI6.kept (below_alloc _ _)) (by omega)
        rw [hFl] at hra
        have hBf : Below w.heap.size w w7 := by
          have h1 := hB.trans (hw6.mono hB.size)
          have h2 := h1.alloc h1.size (.cells #[] 5)
          exact h2.trans (hB7.mono h2.size)
        obtain ⟨G, hG⟩ : ∃ G, shaL F = G := ⟨_, rfl⟩
        have hGG : dg_secEq G G = true := (dg_secEq_iff G G).2 fun _ _ => rfl
        have hS3 := refSha_any va F w7 (by omega) hIa
        rw [hG] at hS3 ⊢
        have HS3 := hS3
        clear hS3 hI hI6 hB7 hw6 HS1 hIa hB hG
        go_wp2_with (at_builtin; refine wpL_app rfl _ _ rfl va w7 (by exact hra) ?_)
        refine HS3.mono ?_
        rintro e w8 ⟨rfl, hw8⟩
        go_wp2
        go_ret
        exact ⟨rfl, hBf.trans (hw8.mono hBf.size)⟩
end Go.Proofs.Ytajmlfcbppnpgaa
