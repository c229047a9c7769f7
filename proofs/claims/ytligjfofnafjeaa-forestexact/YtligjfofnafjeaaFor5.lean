
import Derived.Test.YtligjfofnafjeaaFor4
namespace Go.Proofs.Ytligjfofnafjeaa
open Go.RowKit

/-! assayref21.Of: the walk -/
theorem foA_one' {n : Nat} {w W : World} {ro : Option (Nat × Array Value)} {V : Nat → Value} {K : Nat → Bool} {P : Nat → Nat} {L : Nat → List Nat} (h : Fo n w W ro V K P L) : OneC (foA V) = true := by
  unfold OneC
  rw [Array.all_eq_true_iff_forall_mem]
  intro v hv
  simp only [foA] at hv
  simp at hv
  rcases hv with rfl | rfl | rfl | rfl | rfl | rfl
  · exact own_one h.kept
  · exact own_one h.par
  · exact own_one (h.list 2 (by omega) (by omega))
  · exact own_one (h.list 3 (by omega) (by omega))
  · exact own_one (h.list 4 (by omega) (by omega))
  · exact own_one (h.list 5 (by omega) (by omega))
/-- A new list of truths, of numbers; a new row. -/
def NwK (n0 n : Nat) (v : Value) (x : World) : Prop := OwnG 4 x n0 v (bF (fun _ => false) n)
def NwP (n0 n : Nat) (v : Value) (x : World) : Prop := OwnG 33 x n0 v (uF (fun _ => 0) n)
def NwB (n0 n : Nat) (v : Value) (x : World) : Prop := ∃ a b, v = .agg (foA (two21 a b)) ∧ NwK n0 n a x ∧ NwP n0 n b x
def NwR (n0 : Nat) (v : Value) (x : World) : Prop := ∃ q, v = .pointer (some ⟨q, 0, none⟩) ∧ n0 ≤ q ∧ x.heap[q]? = some (.cells (foA foZ) 43 (0, 0))
theorem NwK.later {n0 n : Nat} {v : Value} {x y : World} (h : NwK n0 n v x) (hb : Below x.heap.size x y) : NwK n0 n v y := OwnG.keep h hb
theorem NwP.later {n0 n : Nat} {v : Value} {x y : World} (h : NwP n0 n v x) (hb : Below x.heap.size x y) : NwP n0 n v y := OwnG.keep h hb
theorem NwB.later {n0 n : Nat} {v : Value} {x y : World} (h : NwB n0 n v x) (hb : Below x.heap.size x y) : NwB n0 n v y := by
  obtain ⟨a, b, h1, h2, h3⟩ := h
  exact ⟨a, b, h1, h2.later hb, h3.later hb⟩
theorem NwR.later {n0 : Nat} {v : Value} {x y : World} (h : NwR n0 v x) (hb : Below x.heap.size x y) : NwR n0 v y := by
  obtain ⟨q, h1, h2, h3⟩ := h
  exact ⟨q, h1, h2, by rw [hb.block q (Array.getElem?_eq_some_iff.1 h3).1]; exact h3⟩
theorem uF_zero (n : Nat) : uF (fun _ => 0) n = zerosU n := by
  unfold uF zerosU
  apply List.ext_getElem?
  intro i
  by_cases hi : i < n <;> simp [hi]
theorem nwK_new (n0 n : Nat) (x : World) (h : n0 ≤ x.heap.size) (h41 : n ≤ 3298534883328) : NwK n0 n (.slice (some ⟨x.heap.size, 0, none⟩) n n) (x.alloc (.cells (falses n).toArray 4)) := by
  have := OwnG.lit 4 x (falses n) (by unfold falses maxLen; rw [List.length_replicate]; omega)
  rw [show (falses n).length = n by unfold falses; rw [List.length_replicate]] at this
  unfold NwK
  rw [bF_false]
  exact this.le h
theorem nwP_new (n0 n : Nat) (x : World) (h : n0 ≤ x.heap.size) (h41 : n ≤ 3298534883328) : NwP n0 n (.slice (some ⟨x.heap.size, 0, none⟩) n n) (x.alloc (.cells (zerosU n).toArray 33)) := by
  have := OwnG.lit 33 x (zerosU n) (by unfold zerosU maxLen; rw [List.length_replicate]; omega)
  rw [show (zerosU n).length = n by unfold zerosU; rw [List.length_replicate]] at this
  unfold NwP
  rw [uF_zero]
  exact this.le h
set_option linter.unusedSimpArgs false in
set_option maxRecDepth 100000 in
set_option maxHeartbeats 8000000 in
theorem refOf21 (l : List Rw) (x : Option Addr) (n c : Nat) (w : World) (hn : l.length = n) (h41 : n ≤ 3298534883328) (hs : ∀ r ∈ l, r.sn.ok) (hl : IsK rwE w (.slice x n c) l) :
    Calls Try.prog 12 #[.slice x n c] w fun e w' => FoP l w e w' := by
  have hfn : (frO l).n = n := hn
  unfold FoP
  rw [hn]
  have bX := below_alloc w (.cells (foA foZ) 43)
  have h2 := RowC.new w (foA foZ) 43
  have hlX := hl.kept bX
  have H41 : Hid (n ≤ 3298534883328) := h41
  have HM : Hid ((n : Int) ≤ 70368744177664) := by show _ ≤ _; omega
  go_enter Try.func12, Try.ntmps12
  go_upto_region 1 with fail
  obtain ⟨g2, hg2⟩ : ∃ q, w.heap.size = q := ⟨_, rfl⟩
  have HG2 : Hid (w.heap.size = g2) := hg2
  rw [hg2] at h2
  simp only [hg2]
  generalize w.alloc (.cells (foA foZ) 43) = X at bX h2 hlX ⊢
  clear hg2 hl h41
  refine wp_reliesT [Fx (.slice x n c), Fx (.int .i64 (n : Int)), NwK X.heap.size n, Fx (.slice x n c), Fx (.int .i64 (n : Int)), NwP X.heap.size n, NwB X.heap.size n, NwR X.heap.size] (by kernel_rfl) (by kernel_rfl) ?_ ?_ ?_
  · repeat' (first | exact all_nil | apply all_cons)
    all_goals intro v y y' hv hb
    all_goals first | exact Fx_mono _ _ _ _ hv hb | exact NwK.later hv hb | exact NwP.later hv hb | exact NwB.later hv hb | exact NwR.later hv hb
  · refine ⟨?_, ?_, ?_, ?_, ?_, ?_, ?_, ?_, trivial⟩
    all_goals
      intro ρ x_1 hp ρc ρg ρf ho hd
      have o0 : ρ (.tmp 0) = .slice x n c := ho 0 rfl
      clear ho
      simp only [depsR, depR, slotR, Fx, List.getElem?_cons_succ, List.getElem?_cons_zero, Region.binds, forall_const] at hd
      simp only [guardR]
      go_split_ands
    · go_simp
    · go_simp
    · have m0 : (0 : Int) ≤ (n : Int) := by omega
      have m1 : (n : Int) ≤ 70368744177664 := HM.out
      have m1b : (n : Int) ≤ 281474976710656 := by omega
      have m2 : ((n : Int)).toNat = n := by omega
      go_simp
      exact ⟨nwK_new _ n _ hp.size H41.out, below_alloc _ _⟩
    · go_simp
    · go_simp
    · have m0 : (0 : Int) ≤ (n : Int) := by omega
      have m1 : (n : Int) ≤ 70368744177664 := HM.out
      have m1b : (n : Int) ≤ 281474976710656 := by omega
      have m2 : ((n : Int)).toNat = n := by omega
      go_simp
      exact ⟨nwP_new _ n _ hp.size H41.out, below_alloc _ _⟩
    · have s1 := ‹NwK X.heap.size n (ρ (.tmp 12)) x_1›
      have s2 := ‹NwP X.heap.size n (ρ (.tmp 15)) x_1›
      obtain ⟨xa, ca, u1⟩ := own_slice s1
      obtain ⟨xb, cb, u2⟩ := own_slice s2
      rw [u1] at s1
      rw [u2] at s2
      go_simp
      exact ⟨_, _, rfl, s1, s2⟩
    · go_simp
      exact ⟨⟨_, rfl, hp.size, heap_alloc_last _ _⟩, below_alloc _ _⟩
  · intro vs x1 hp hw
    simp only [owed, Fx] at hw
    obtain ⟨e0, e1, e2, e3, e4, e5, ⟨a, b, e6, ha, hb⟩, ⟨g3, e7, hg3, hr3⟩, -⟩ := hw
    simp only [List.length_cons, List.length_nil, List.take_succ_cons, List.take_zero, List.drop_succ_cons, List.drop_zero, asg, List.cons_append, List.nil_append, e0, e1, e3, e4, e6, e7]
    clear e0 e1 e3 e4 e6 e7 e2 e5

    have hF0 : Fo n X x1 (some (g3, foA foZ)) (two21 a b) (Kt (frO l) 0) (Pt (frO l) 0) (FL (frO l) 0 0) := by
      have e1 : Kt (frO l) 0 = fun _ => false := by funext k; unfold Kt; rw [decide_eq_false (by omega)]; rfl
      have e2 : Pt (frO l) 0 = fun _ => 0 := by funext k; unfold Pt; rw [if_neg (by omega)]
      have e3 : FL (frO l) 0 0 = fun _ => [] := by
        funext q; unfold FL
        split; · rfl
        split; · rfl
        split; · rfl
        split; · rfl
        rfl
      rw [e1, e2, e3]
      exact Fo.begin hp ha hb hr3 hg3 (by decide) (by decide)
    have hRo := hF0.row
    have hR2 := hRo.setRow (foA (two21 a b))
    have hF1 : Fo n X (x1.setRow g3 (foA (two21 a b))) (some (g3, foA (two21 a b))) (two21 a b) (Kt (frO l) 0) (Pt (frO l) 0) (FL (frO l) 0 0) := by
      have kr : Keep [g3] x1 (x1.setRow g3 (foA (two21 a b))) := ⟨rfl, rfl, rfl, by simp, fun k _ hn => setRow_other x1 g3 k _ (fun e => hn (by simp [e]))⟩
      have hG2 := hF0.ga.putRow (k := 6) (c := foA foZ) rfl kr hR2
      exact ⟨hG2.1.less T21_row, hF0.be.trans ((hG2.2 [] (fun a ha => by cases ha)).below hF0.ga.size)⟩
    have hon : OneC (foA (two21 a b)) = true := foA_one _ (fun q => by unfold two21; split; · exact own_one ha
                                                                       split; · exact own_one hb
                                                                       rfl)
    obtain ⟨r3, q3⟩ := hRo
    have z3 : (rowAt x1 g3).size = 6 := by rw [q3]; exact foA_size _
    clear hF0 ha hb hr3 hR2
    go_upto_region 2 with fail
    generalize x1.setRow g3 (foA (two21 a b)) = Y at hF1 ⊢
    generalize two21 a b = V0 at hF1
    clear r3 q3 z3 hon hp hg3
    go_wp2_with fail
    go_loopw [4] (fun iv wr => ∃ (i : Nat) (V : Nat → Value), i ≤ n ∧ iv = .int .i64 i ∧ Fo n X wr (some (g3, foA V)) V (Kt (frO l) i) (Pt (frO l) 0) (FL (frO l) i 0)) (fun iv _ => n - (intOf iv).toNat)
    case atStart => exact ⟨0, V0, by omega, rfl, hF1⟩
    case round =>
      clear hF1
      obtain ⟨i, V, hi, rfl, hF⟩ := hrel
      by_cases hlt : i < n
      · obtain ⟨r, hr⟩ : ∃ r, l[i]? = some r := ⟨_, List.getElem?_eq_getElem (by omega)⟩
        have hlk := hlX.kept hF.be
        obtain ⟨g, o, rfl, -, c0, c1, c2, -⟩ := rwE_cells hlk i r hr
        have hok := frO_ok hr
        have hla := frO_la hr
        have hid := frO_id hr
        have hrs := hs r (List.mem_of_getElem? hr)
        unfold Sn.ok at hrs
        obtain ⟨D, hD⟩ : ∃ q : Nat, r.sn.id = (q : Int) := ⟨r.sn.id.toNat, by omega⟩
        rw [hD] at c2 hok hid
        rw [Int.toNat_natCast] at hid
        have i0 : (i : Int) < (n : Int) := by omega
        have i1 : (0 : Int) ≤ (i : Int) := by omega
        have HI : Hid (i < n) := hlt
        have n41 : n ≤ 3298534883328 := H41.out
        clear hrs hD hi
        have hA : (frO l).ok i = false → Fo n X wr (some (g3, foA V)) V (Kt (frO l) (i + 1)) (Pt (frO l) 0) (FL (frO l) (i + 1) 0) := fun h => by
          rw [Kt_no _ _ (by unfold Fr.kp Fr.cd; rw [h]; rfl), FL_a _ _ _ (by unfold Fr.twice Fr.cd; rw [h]; rfl) (by unfold Fr.noLa; rw [h]; rfl)]
          exact hF
        cases hth : r.th
        · rw [hth] at c0 hok
          have HF : Hid _ := hA hok
          clear hA hF hlk c1 c2 hok hla hid hr hlt hth
          go_wp2
          go_roundw
          case rel => first | exact ⟨i + 1, V, by have := HI.out; omega, by go_num, HF.out⟩ | ((repeat apply Exists.intro); refine ⟨⟨i + 1, V, by have := HI.out; omega, ?_, HF.out⟩, rfl⟩; go_num)
          case measure => have := HI.out; simp [intOf]; omega
        · rw [hth] at c0 hok
          by_cases hz : D = 0
          · subst hz
            have HF : Hid _ := hA (by rw [hok]; rfl)
            have c2' : wr.cell? ⟨g, o + i * 36 + 2, none⟩ = some (.int .u32 0) := c2
            clear hA hF hlk c1 c2 hok hla hid hr hlt hth
            go_wp2
            go_roundw
            case rel => first | exact ⟨i + 1, V, by have := HI.out; omega, by go_num, HF.out⟩ | ((repeat apply Exists.intro); refine ⟨⟨i + 1, V, by have := HI.out; omega, ?_, HF.out⟩, rfl⟩; go_num)
            case measure => have := HI.out; simp [intOf]; omega
          · have hz9 : ((D : Int) == 0) = false := beq_eq_false_iff_ne.2 (by omega)
            have hok1 : (frO l).ok i = true := by rw [hok, hz9]; rfl
            clear hA hok
            cases hlr : r.la
            · rw [hlr] at c1 hla
              obtain ⟨cV, g', m', c', w', v', hv', hra, cV', fV', hF2⟩ := hF.app 3 (by omega) (by omega) i 26 (FL_len _ _ _ _ _ (by omega) (by omega))
              subst hv'
              have HF : Hid _ := hF2
              rw [← FL_a3 _ _ _ (by unfold Fr.twice Fr.cd; rw [hla, Bool.and_false]; rfl) (by unfold Fr.noLa; rw [hok1, hla]; rfl), ← Kt_no _ _ (by unfold Fr.kp Fr.cd; rw [hla, Bool.and_false]; rfl)] at HF
              clear hF hF2 hlk hla hid hr hlt hth hlr hok1
              go_wp2_with (at_builtin; refine wpL_appG 26 rfl _ _ rfl _ w' (by exact hra) ?_)
              go_roundw
              case rel => first | exact ⟨i + 1, _, by have := HI.out; omega, by go_num, HF.out⟩ | ((repeat apply Exists.intro); refine ⟨⟨i + 1, _, by have := HI.out; omega, ?_, HF.out⟩, rfl⟩; go_num)
              case measure => have := HI.out; simp [intOf]; omega
            · rw [hlr] at c1 hla
              have hcd : (frO l).cd i = true := by unfold Fr.cd; rw [hok1, hla]; rfl
              obtain ⟨y, d, hV⟩ := own_slice hF.kept
              rw [bF_len] at hV
              have cK := hF.row.cell 0
              rw [foA_get V 0 (by omega), hV] at cK
              have hKO := hF.kept.isG
              rw [hV] at hKO
              have hlow := Kt_low (frO l) i (by rw [hfn]; exact hlt)
              rw [hfn, hid] at hlow
              obtain ⟨Q9, hQ9⟩ : ∃ q, fnd (fun k => Kt (frO l) i k && (frO l).id k == D) n = q := ⟨_, rfl⟩
              have HFd : Hid (∀ x, Below wr.heap.size wr x → Calls Try.prog 24 #[.slice (some ⟨g, o, none⟩) n c, .slice y n d, .int .u32 (D : Int)] x fun e w' => e = .returned (.int .i64 Q9) ∧ w' = x) := fun x hb => by
                have := refFind21 l (some ⟨g, o, none⟩) y n c d D (Kt (frO l) i) x hn (by omega) hs (hlk.kept hb) (hKO.kept hb)
                rw [hQ9] at this; exact this
              rw [hQ9] at hlow
              have FK : Hid ((0 : Int) ≤ (i : Int) ∧ (i : Int) < (n : Int)) := ⟨i1, i0⟩
              clear hQ9 hKO hlk
              cases hlw : (frO l).lower i
              · have HQ9 : Hid (¬ (0 : Int) ≤ Q9) := fun h => by have := hlow.1 h; rw [hlw] at this; cases this
                have hkp : (frO l).kp i = true := by unfold Fr.kp; rw [hcd, hlw]; rfl
                have hF' : Fo n X wr (some (g3, foA V)) V (Kt (frO l) i) (Pt (frO l) 0) (FL (frO l) (i + 1) 0) := by
                  rw [FL_a _ _ _ (by unfold Fr.twice; rw [hlw, Bool.and_false]) (by unfold Fr.noLa; rw [hla]; simp)]; exact hF
                clear hF hlow hlw hcd hok1 hla hid hr hth hlr
                go_upto_region 9 with fail
                refine wp_relies [Fx (.slice (some ⟨g, o, none⟩) n c), Fx (.pointer (some ⟨g3, 0, none⟩)), Fx (.slice y n d), Fx (.slice (some ⟨g, o, none⟩) n c), Fx (.int .i64 (i : Int)), Fx (.pointer (some ⟨g, o + i * 36, none⟩)), Fx (.pointer (some ⟨g, o + i * 36 + 2, none⟩)), Fx (.pointer (some ⟨g, o + i * 36 + 2, none⟩)), Fx (.int .u32 (D : Int)), Fx (.int .i64 Q9), Fx (.bool false), Fx (.bool false)] (by kernel_rfl) (by kernel_rfl) ?_ ?_ ?_
                · repeat' (first | exact all_nil | apply all_cons)
                  all_goals intro v y y' hv hb
                  all_goals first | exact Fx_mono _ _ _ _ hv hb
                · refine ⟨?_, ?_, ?_, ?_, ?_, ?_, ?_, ?_, ?_, ?_, ?_, ?_, trivial⟩
                  all_goals
                    intro ρ x_1 hp ρc ρg ρf ho hd
                    have o0 : ρ (.tmp 0) = .slice (some ⟨g, o, none⟩) n c := ho 0 rfl
                    have o3 : ρ (.tmp 3) = .pointer (some ⟨g3, 0, none⟩) := ho 3 rfl
                    have o4 : ρ (.tmp 4) = .int .i64 (i : Int) := ho 4 rfl
                    clear ho
                    have c2' := cell_later hp c2
                    have cK' := cell_later hp cK
                    simp only [depsR, depR, slotR, Fx, List.getElem?_cons_succ, List.getElem?_cons_zero, Region.binds, forall_const] at hd
                    simp only [guardR]
                    go_split_ands
                  · go_simp
                  · go_simp
                  · go_simp
                  · go_simp
                  · go_simp
                  · obtain ⟨z1, z2⟩ := FK.out
                    go_simp
                  · go_simp
                  · go_simp
                  · go_simp
                  · go_simp
                    refine (HFd.out x_1 hp).mono ?_
                    rintro e x' ⟨rfl, rfl⟩
                    exact ⟨_, rfl, rfl, Below.refl _ _⟩
                  · have z := HQ9.out
                    go_simp
                  · go_simp
                · intro vs x1 hp hw
                  simp only [owed, Fx] at hw
                  obtain ⟨e0, e1, e2, e3, e4, e5, e6, e7, e8, e9, e10, e11, -⟩ := hw
                  simp only [List.length_cons, List.length_nil, List.take_succ_cons, List.take_nil, List.drop_succ_cons, List.drop_nil, asg, List.cons_append, List.nil_append, e0, e1, e2, e3, e4, e5, e6, e7, e8, e9, e10, e11]
                  clear e0 e1 e2 e3 e4 e5 e6 e7 e8 e9 e10 e11
                  have hF9 := hF'.later hp
                  obtain ⟨gk, ck, hVk, cK9, fK9, hF10⟩ := hF9.setK i HI.out true
                  rw [← Kt_yes _ _ hkp] at hF10
                  have HF : Hid _ := hF10
                  have cR := hF9.row.cell 0
                  rw [foA_get V 0 (by omega), hVk] at cR
                  clear hF' hF9 hF10 hkp c0 c1 c2 cK hp hV
                  go_wp2
                  go_roundw
                  case rel => first | exact ⟨i + 1, V, by have := HI.out; omega, by go_num, HF.out⟩ | ((repeat apply Exists.intro); refine ⟨⟨i + 1, V, by have := HI.out; omega, ?_, HF.out⟩, rfl⟩; go_num)
                  case measure => have := HI.out; simp [intOf]; omega
              · have HQ9 : Hid ((0 : Int) ≤ Q9) := hlow.2 hlw
                clear hlow
                go_upto_region 9 with fail
                refine wp_relies [Fx (.slice (some ⟨g, o, none⟩) n c), Fx (.pointer (some ⟨g3, 0, none⟩)), Fx (.slice y n d), Fx (.slice (some ⟨g, o, none⟩) n c), Fx (.int .i64 (i : Int)), Fx (.pointer (some ⟨g, o + i * 36, none⟩)), Fx (.pointer (some ⟨g, o + i * 36 + 2, none⟩)), Fx (.pointer (some ⟨g, o + i * 36 + 2, none⟩)), Fx (.int .u32 (D : Int)), Fx (.int .i64 Q9), Fx (.bool true), Fx (.bool true)] (by kernel_rfl) (by kernel_rfl) ?_ ?_ ?_
                · repeat' (first | exact all_nil | apply all_cons)
                  all_goals intro v y y' hv hb
                  all_goals first | exact Fx_mono _ _ _ _ hv hb
                · refine ⟨?_, ?_, ?_, ?_, ?_, ?_, ?_, ?_, ?_, ?_, ?_, ?_, trivial⟩
                  all_goals
                    intro ρ x_1 hp ρc ρg ρf ho hd
                    have o0 : ρ (.tmp 0) = .slice (some ⟨g, o, none⟩) n c := ho 0 rfl
                    have o3 : ρ (.tmp 3) = .pointer (some ⟨g3, 0, none⟩) := ho 3 rfl
                    have o4 : ρ (.tmp 4) = .int .i64 (i : Int) := ho 4 rfl
                    clear ho
                    have c2' := cell_later hp c2
                    have cK' := cell_later hp cK
                    simp only [depsR, depR, slotR, Fx, List.getElem?_cons_succ, List.getElem?_cons_zero, Region.binds, forall_const] at hd
                    simp only [guardR]
                    go_split_ands
                  · go_simp
                  · go_simp
                  · go_simp
                  · go_simp
                  · go_simp
                  · obtain ⟨z1, z2⟩ := FK.out
                    go_simp
                  · go_simp
                  · go_simp
                  · go_simp
                  · go_simp
                    refine (HFd.out x_1 hp).mono ?_
                    rintro e x' ⟨rfl, rfl⟩
                    exact ⟨_, rfl, rfl, Below.refl _ _⟩
                  · have z := HQ9.out
                    go_simp
                  · go_simp
                · intro vs x1 hp hw
                  simp only [owed, Fx] at hw
                  obtain ⟨e0, e1, e2, e3, e4, e5, e6, e7, e8, e9, e10, e11, -⟩ := hw
                  simp only [List.length_cons, List.length_nil, List.take_succ_cons, List.take_nil, List.drop_succ_cons, List.drop_nil, asg, List.cons_append, List.nil_append, e0, e1, e2, e3, e4, e5, e6, e7, e8, e9, e10, e11]
                  clear e0 e1 e2 e3 e4 e5 e6 e7 e8 e9 e10 e11
                  have hF9 := hF.later hp
                  obtain ⟨cV, g', m', c', w', v', hv', hra, cV', fV', hF2⟩ := hF9.app 2 (by omega) (by omega) i 26 (FL_len _ _ _ _ _ (by omega) (by omega))
                  subst hv'
                  have HF : Hid _ := hF2
                  rw [← FL_a2 _ _ _ (by unfold Fr.twice; rw [hlw, hcd]; rfl) (by unfold Fr.noLa; rw [hla]; simp), ← Kt_no _ _ (by unfold Fr.kp; rw [hlw]; simp)] at HF
                  clear hF hF9 hF2 hp c0 c1 c2 cK hV hlw hcd hok1 hla hid hr hth hlr
                  go_wp2_with (at_builtin; refine wpL_appG 26 rfl _ _ rfl _ w' (by exact hra) ?_)
                  go_roundw
                  case rel => first | exact ⟨i + 1, _, by have := HI.out; omega, by go_num, HF.out⟩ | ((repeat apply Exists.intro); refine ⟨⟨i + 1, _, by have := HI.out; omega, ?_, HF.out⟩, rfl⟩; go_num)
                  case measure => have := HI.out; simp [intOf]; omega
      · obtain rfl : n = i := by omega
        have i0 : ¬ (n : Int) < (n : Int) := by omega
        clear hlt hi
        obtain ⟨wo, hwo⟩ : ∃ wo, wo = wr := ⟨_, rfl⟩
        rw [← hwo] at hF ⊢
        clear hwo
        go_wp2_with fail
        clear i0
        go_loopw [5] (fun iv wr => ∃ (i : Nat) (V : Nat → Value), i ≤ n ∧ iv = .int .i64 i ∧ Fo n X wr (some (g3, foA V)) V (Kt (frO l) n) (Pt (frO l) i) (FL (frO l) n i)) (fun iv _ => n - (intOf iv).toNat)
        case atStart => exact ⟨0, V, by omega, rfl, hF⟩
        case round =>
          clear hF V
          obtain ⟨i, V, hi, rfl, hF⟩ := hrel
          by_cases hlt : i < n
          · obtain ⟨r, hr⟩ : ∃ r, l[i]? = some r := ⟨_, List.getElem?_eq_getElem (by omega)⟩
            have hlk := hlX.kept hF.be
            obtain ⟨g, o, rfl, -, -, -, c2, c3⟩ := rwE_cells hlk i r hr
            have hid := frO_id hr
            have hpa := frO_pa hr
            have hrs := hs r (List.mem_of_getElem? hr)
            unfold Sn.ok at hrs
            obtain ⟨D, hD⟩ : ∃ q : Nat, r.sn.id = (q : Int) := ⟨r.sn.id.toNat, by omega⟩
            obtain ⟨A, hA⟩ : ∃ q : Nat, r.sn.pa = (q : Int) := ⟨r.sn.pa.toNat, by omega⟩
            rw [hD] at c2 hid
            rw [hA] at c3 hpa
            rw [Int.toNat_natCast] at hid hpa
            have i0 : (i : Int) < (n : Int) := by omega
            have i1 : (0 : Int) ≤ (i : Int) := by omega
            have HI : Hid (i < n) := hlt
            have n41 : n ≤ 3298534883328 := H41.out
            have hD' : Hid (r.sn.id = (D : Int)) := hD
            clear hrs hD hA hi
            obtain ⟨gk, ck, hVk, cK, -, -⟩ := hF.setK i hlt true
            have hKi : Kt (frO l) n i = (frO l).kp i := by unfold Kt; rw [decide_eq_true hlt, Bool.true_and]
            rw [hKi] at cK
            have cR0 := hF.row.cell 0
            rw [foA_get V 0 (by omega), hVk] at cR0
            have hNo : (frO l).want i = false → Fo n X wr (some (g3, foA V)) V (Kt (frO l) n) (Pt (frO l) (i + 1)) (FL (frO l) n (i + 1)) := fun h => by
              rw [Pt_no _ _ (by unfold Fr.par; rw [h]; rfl), FL_b _ _ _ (by unfold Fr.noPa; rw [h]; rfl) (by unfold Fr.cyc; rw [h]; rfl)]
              exact hF
            cases hkp : (frO l).kp i
            · rw [hkp] at cK
              have HF : Hid _ := hNo (by unfold Fr.want; rw [hkp]; rfl)
              clear hNo hF hlk c2 hid hpa hr hlt hkp hKi
              go_wp2
              go_roundw
              case rel => first | exact ⟨i + 1, V, by have := HI.out; omega, by go_num, HF.out⟩ | ((repeat apply Exists.intro); refine ⟨⟨i + 1, V, by have := HI.out; omega, ?_, HF.out⟩, rfl⟩; go_num)
              case measure => have := HI.out; simp [intOf]; omega
            · rw [hkp] at cK
              by_cases hz : A = 0
              · subst hz
                have HF : Hid _ := hNo (by unfold Fr.want; rw [hpa]; simp)
                have c3' : wr.cell? ⟨g, o + i * 36 + 3, none⟩ = some (.int .u32 0) := c3
                clear hNo hF hlk c2 c3 hid hpa hr hlt hkp hKi
                go_wp2
                go_roundw
                case rel => first | exact ⟨i + 1, V, by have := HI.out; omega, by go_num, HF.out⟩ | ((repeat apply Exists.intro); refine ⟨⟨i + 1, V, by have := HI.out; omega, ?_, HF.out⟩, rfl⟩; go_num)
                case measure => have := HI.out; simp [intOf]; omega
              · have hz9 : ((A : Int) == 0) = false := beq_eq_false_iff_ne.2 (by omega)
                have hw : (frO l).want i = true := by unfold Fr.want; rw [hkp, hpa, beq_eq_false_iff_ne.2 hz]; rfl
                have hKO := hF.kept.isG
                rw [hVk] at hKO
                have hfd := refFind21 l (some ⟨g, o, none⟩) (some ⟨gk, 0, none⟩) n c ck A (Kt (frO l) n) wr hn (by omega) hs hlk hKO
                have hat := at_eq (frO l) (Kt (frO l) n) (fun k hk => by unfold Kt; rw [decide_eq_true (by rw [← hfn]; exact hk), Bool.true_and]) A
                rw [hfn] at hat
                rw [hat] at hfd
                have hnx : (frO l).nx i = (frO l).at_ A := by unfold Fr.nx; rw [hpa]
                clear hNo hat hz
                rcases Fr.at_spec (F := frO l) A with ⟨h1, -⟩ | ⟨b, h1, h2, -, -⟩
                · rw [h1] at hfd hnx
                  have hn0 : decide ((frO l).nx i < 0) = true := decide_eq_true (by omega)
                  obtain ⟨cV, g', m', c', w', v', hv', hra, cV', fV', hF2⟩ := hF.app 4 (by omega) (by omega) i 26 (FL_len _ _ _ _ _ (by omega) (by omega))
                  subst hv'
                  have HF : Hid _ := hF2
                  rw [← FL_b4 _ _ _ (by unfold Fr.noPa; rw [hw, hn0]; rfl) (by unfold Fr.cyc; rw [hw, hn0]; rfl), ← Pt_no _ _ (by unfold Fr.par; rw [hw, hn0]; rfl)] at HF
                  clear hF hF2 hlk c2 hid hpa hr hlt hkp hKi hKO hw hnx hn0 h1
                  go_wp2_with fail
                  refine hfd.mono ?_
                  rintro e w9 ⟨rfl, rfl⟩
                  clear hfd
                  go_wp2_with (at_builtin; refine wpL_appG 26 rfl _ _ rfl _ w' (by exact hra) ?_)
                  go_roundw
                  case rel => first | exact ⟨i + 1, _, by have := HI.out; omega, by go_num, HF.out⟩ | ((repeat apply Exists.intro); refine ⟨⟨i + 1, _, by have := HI.out; omega, ?_, HF.out⟩, rfl⟩; go_num)
                  case measure => have := HI.out; simp [intOf]; omega
                · rw [h1] at hfd hnx
                  have hn0 : decide ((frO l).nx i < 0) = false := decide_eq_false (by omega)
                  have n0 : ¬ (b : Int) < 0 := by omega
                  obtain ⟨gp, cp, hVp, cP, fP, hF2⟩ := hF.setP i hlt A
                  have cR1 := hF.row.cell 1
                  rw [foA_get V 1 (by omega), hVp] at cR1
                  have cR0' := hF2.row.cell 0
                  rw [foA_get V 0 (by omega), hVk] at cR0'
                  have hlk2 := hlX.kept hF2.be
                  have hKO2 := hF2.kept.isG
                  rw [hVk] at hKO2
                  have hrg := refRing21 l (some ⟨g, o, none⟩) (some ⟨gk, 0, none⟩) n c ck i (Kt (frO l) n) _ hn (by omega) hlt hs hlk2 hKO2 (fun k hk => by unfold Kt; rw [decide_eq_true hk, Bool.true_and])
                  clear hF hlk c2 hKO hKi hnx h1 h2
                  go_wp2_with fail
                  refine hfd.mono ?_
                  rintro e w9 ⟨rfl, rfl⟩
                  clear hfd
                  go_upto_region 19 with fail
                  generalize w9.setCell ⟨gp, i, none⟩ (.int .u32 (A : Int)) = Z at hF2 cR0' hlk2 hKO2 hrg ⊢
                  clear cK cR0 cP fP cR1 c3
                  go_wp2_with fail
                  refine hrg.mono ?_
                  rintro e Z1 ⟨⟨rv, rfl, hRO⟩, hb⟩
                  have hF3 := hF2.later hb
                  have hRG := hRO.isG
                  obtain ⟨xr, cr, hrv⟩ := own_slice hRO
                  rw [iF_len] at hrv
                  subst hrv
                  obtain ⟨M, hM⟩ : ∃ q, (frO l).ring i = q := ⟨_, rfl⟩
                  obtain ⟨m, hm⟩ : ∃ q, M.length = q := ⟨_, rfl⟩
                  have hlst : (frO l).least i = (!M.isEmpty && M.all fun k => decide (D ≤ (frO l).id k)) := by
                    unfold Fr.least
                    rw [hM, hid]
                  have hMlt : ∀ q ∈ M, q < n := fun q hq => by rw [← hM] at hq; rw [← hfn]; exact ring_lt (frO l) i (by rw [hfn]; exact hlt) q hq
                  have hm41 : m ≤ n + 1 := by
                    have := rg_len (frO l) ((frO l).n + 1) i i []
                    rw [hfn] at this
                    have e9 : (frO l).ring i = (frO l).rg (n + 1) i i [] := by unfold Fr.ring; rw [hfn]
                    rw [← hm, ← hM, e9]; simpa using this
                  rw [hM, hm] at hRG
                  simp only [hM, hm]
                  have hlk3 := hlX.kept hF3.be
                  rw [hM, hm] at hRO
                  have HRO : Hid (OwnG 3 Z1 Z.heap.size (.slice xr m cr) (iF M)) := hRO
                  have HF3 : Hid _ := hF3
                  have HLST : Hid _ := hlst
                  have HML : Hid _ := hMlt
                  obtain ⟨g9, o9, e9, -, -, -, c2, -⟩ := rwE_cells hlk3 i r hr
                  cases e9
                  have hD2 := hD'.out
                  rw [hD2] at c2
                  have HM2 : Hid (M.length = m ∧ m ≤ n + 1) := ⟨hm, hm41⟩
                  clear hrg hF2 hRO cR0' hlk2 hKO2 hb hM hF3 hlst hMlt hRG hm hm41 hD2
                  go_wp2_with fail
                  go_loopw [8, 9] (fun lv kv w9 => ∃ k : Nat, k ≤ m ∧ kv = .int .i64 k ∧ lv = .bool (decide ((0 : Int) < (m : Int)) && (M.take k).all fun q => decide (D ≤ (frO l).id q)) ∧ Below Z1.heap.size Z1 w9) (fun _ kv _ => m - (intOf kv).toNat)
                  case atStart => exact ⟨0, by omega, rfl, by simp, Below.refl _ _⟩
                  case round =>
                    obtain ⟨k, hk, rfl, rfl, hBw⟩ := hrel
                    have hlk4 := hlk3.kept hBw
                    replace c2 := cell_later hBw c2
                    have m41 : m ≤ n + 1 := HM2.out.2
                    by_cases hkm : k < m
                    · have m0 : (0 : Int) < (m : Int) := by omega
                      obtain ⟨q, hq⟩ : ∃ q, M[k]? = some q := ⟨_, List.getElem?_eq_getElem (by rw [HM2.out.1]; exact hkm)⟩
                      have hqn := HML.out q (List.mem_of_getElem? hq)
                      obtain ⟨r2, hr2⟩ : ∃ r, l[q]? = some r := ⟨_, List.getElem?_eq_getElem (by omega)⟩
                      obtain ⟨g9, o9, e9, -, -, -, d2, -⟩ := rwE_cells hlk4 q r2 hr2
                      cases e9
                      have hid2 := frO_id hr2
                      have hrs := hs r2 (List.mem_of_getElem? hr2)
                      unfold Sn.ok at hrs
                      obtain ⟨D2, hD2⟩ : ∃ z : Nat, r2.sn.id = (z : Int) := ⟨r2.sn.id.toNat, by omega⟩
                      rw [hD2] at d2 hid2
                      rw [Int.toNat_natCast] at hid2
                      have hO := HRO.out.keep hBw
                      obtain ⟨gr, cr', her, -⟩ := hO.form (fun e => by have := iF_len M; rw [e, HM2.out.1] at this; simp at this; omega)
                      rw [iF_len, HM2.out.1] at her
                      cases her
                      have cq := hO.cell k _ (iF_get M k q hq)
                      have htk : M.take (k + 1) = M.take k ++ [q] := by rw [List.take_add_one, hq]; rfl
                      have hall : ∀ p : Nat → Bool, (M.take (k + 1)).all p = ((M.take k).all p && p q) := fun p => by rw [htk, List.all_append]; simp
                      have FK : Hid ((0 : Int) ≤ (k : Int) ∧ (k : Int) < (m : Int) ∧ (0 : Int) ≤ (q : Int) ∧ (q : Int) < (n : Int) ∧ (0 : Int) ≤ (i : Int) ∧ (i : Int) < (n : Int)) := ⟨by omega, by omega, by omega, by omega, i1, i0⟩
                      have k0 : (k : Int) < (m : Int) := by omega
                      have HKM : Hid (k < m) := hkm
                      obtain ⟨B9, hB9⟩ : ∃ z, (decide ((0 : Int) < (m : Int)) && (M.take k).all fun q => decide (D ≤ (frO l).id q)) = z := ⟨_, rfl⟩
                      have HNX : Hid (∀ b, decide (D ≤ D2) = b → (B9 && b) = (decide ((0 : Int) < (m : Int)) && (M.take (k + 1)).all fun q => decide (D ≤ (frO l).id q))) := fun b hb => by
                        rw [hall, ← Bool.and_assoc, hB9, hid2, hb]
                      rw [hB9]
                      clear hq hqn hr2 hrs hD2 hO htk hall hB9 hid2 hk hkm m0
                      by_cases hcmp : D2 < D
                      · have HLT : Hid ((D2 : Int) < (D : Int)) := by show _ < _; omega
                        have HNY : Hid (false = (decide ((0 : Int) < (m : Int)) && (M.take (k + 1)).all fun q => decide (D ≤ (frO l).id q))) := by rw [← HNX.out false (decide_eq_false (by omega)), Bool.and_false]; exact rfl
                        clear HNX hcmp
                        go_upto_region 24 with fail
                        refine wp_relies [Fx (.slice (some ⟨g, o, none⟩) n c), Fx (.slice (some ⟨gr, 0, none⟩) m cr), Fx (.int .i64 (k : Int)), Fx (.pointer (some ⟨gr, k, none⟩)), Fx (.int .i64 (q : Int)), Fx (.pointer (some ⟨g, o + q * 36, none⟩)), Fx (.pointer (some ⟨g, o + q * 36 + 2, none⟩)), Fx (.pointer (some ⟨g, o + q * 36 + 2, none⟩)), Fx (.int .u32 (D2 : Int)), Fx (.slice (some ⟨g, o, none⟩) n c), Fx (.int .i64 (i : Int)), Fx (.pointer (some ⟨g, o + i * 36, none⟩)), Fx (.pointer (some ⟨g, o + i * 36 + 2, none⟩)), Fx (.pointer (some ⟨g, o + i * 36 + 2, none⟩)), Fx (.int .u32 (D : Int)), Fx (.bool true)] (by kernel_rfl) (by kernel_rfl) ?_ ?_ ?_
                        · repeat' (first | exact all_nil | apply all_cons)
                          all_goals intro v y y' hv hb
                          all_goals first | exact Fx_mono _ _ _ _ hv hb
                        · refine ⟨?_, ?_, ?_, ?_, ?_, ?_, ?_, ?_, ?_, ?_, ?_, ?_, ?_, ?_, ?_, ?_, trivial⟩
                          all_goals
                            intro ρ x_1 hp ρc ρg ρf ho hd
                            have o0 : ρ (.tmp 0) = .slice (some ⟨g, o, none⟩) n c := ho 0 rfl
                            have o5 : ρ (.tmp 5) = .int .i64 (i : Int) := ho 5 rfl
                            have o7 : ρ (.tmp 7) = .slice (some ⟨gr, 0, none⟩) m cr := ho 7 rfl
                            have o9 : ρ (.tmp 9) = .int .i64 (k : Int) := ho 9 rfl
                            clear ho
                            have cq' := cell_later hp cq
                            have c2' := cell_later hp c2
                            have d2' := cell_later hp d2
                            simp only [depsR, depR, slotR, Fx, List.getElem?_cons_succ, List.getElem?_cons_zero, Region.binds, forall_const] at hd
                            simp only [guardR]
                            go_split_ands
                          · go_simp
                          · go_simp
                          · go_simp
                          · obtain ⟨z1, z2, z3, z4⟩ := FK.out
                            go_simp
                          · go_simp
                          · obtain ⟨z1, z2, z3, z4, z5, z6⟩ := FK.out
                            go_simp
                          · go_simp
                          · go_simp
                          · go_simp
                          · go_simp
                          · go_simp
                          · obtain ⟨z1, z2, z3, z4, z5, z6⟩ := FK.out
                            go_simp
                          · go_simp
                          · go_simp
                          · go_simp
                          · have z := HLT.out
                            go_simp
                        · intro vs x2 hp hw
                          simp only [owed, Fx] at hw
                          obtain ⟨e0, e1, e2, e3, e4, e5, e6, e7, e8, e9, e10, e11, e12, e13, e14, e15, -⟩ := hw
                          simp only [List.length_cons, List.length_nil, List.take_succ_cons, List.take_nil, List.drop_succ_cons, List.drop_nil, asg, List.cons_append, List.nil_append, e0, e1, e2, e3, e4, e5, e6, e7, e8, e9, e10, e11, e12, e13, e14, e15]
                          clear e0 e1 e2 e3 e4 e5 e6 e7 e8 e9 e10 e11 e12 e13 e14 e15
                          have HBW : Hid _ := hBw.trans (hp.mono hBw.size)
                          clear hp hBw
                          go_wp2
                          go_roundw
                          case rel => first | exact ⟨k + 1, by have := HKM.out; omega, by go_num, congrArg Value.bool HNY.out, HBW.out⟩ | ((repeat apply Exists.intro); refine ⟨⟨k + 1, by have := HKM.out; omega, ?_, congrArg Value.bool HNY.out, HBW.out⟩, rfl⟩; go_num)
                          case measure => have := HKM.out; simp [intOf]; omega
                      · have HLT : Hid (¬ (D2 : Int) < (D : Int)) := by show ¬ _; omega
                        have HNY : Hid (B9 = (decide ((0 : Int) < (m : Int)) && (M.take (k + 1)).all fun q => decide (D ≤ (frO l).id q))) := by rw [← HNX.out true (decide_eq_true (by omega)), Bool.and_true]; exact rfl
                        clear HNX hcmp
                        go_upto_region 24 with fail
                        refine wp_relies [Fx (.slice (some ⟨g, o, none⟩) n c), Fx (.slice (some ⟨gr, 0, none⟩) m cr), Fx (.int .i64 (k : Int)), Fx (.pointer (some ⟨gr, k, none⟩)), Fx (.int .i64 (q : Int)), Fx (.pointer (some ⟨g, o + q * 36, none⟩)), Fx (.pointer (some ⟨g, o + q * 36 + 2, none⟩)), Fx (.pointer (some ⟨g, o + q * 36 + 2, none⟩)), Fx (.int .u32 (D2 : Int)), Fx (.slice (some ⟨g, o, none⟩) n c), Fx (.int .i64 (i : Int)), Fx (.pointer (some ⟨g, o + i * 36, none⟩)), Fx (.pointer (some ⟨g, o + i * 36 + 2, none⟩)), Fx (.pointer (some ⟨g, o + i * 36 + 2, none⟩)), Fx (.int .u32 (D : Int)), Fx (.bool false)] (by kernel_rfl) (by kernel_rfl) ?_ ?_ ?_
                        · repeat' (first | exact all_nil | apply all_cons)
                          all_goals intro v y y' hv hb
                          all_goals first | exact Fx_mono _ _ _ _ hv hb
                        · refine ⟨?_, ?_, ?_, ?_, ?_, ?_, ?_, ?_, ?_, ?_, ?_, ?_, ?_, ?_, ?_, ?_, trivial⟩
                          all_goals
                            intro ρ x_1 hp ρc ρg ρf ho hd
                            have o0 : ρ (.tmp 0) = .slice (some ⟨g, o, none⟩) n c := ho 0 rfl
                            have o5 : ρ (.tmp 5) = .int .i64 (i : Int) := ho 5 rfl
                            have o7 : ρ (.tmp 7) = .slice (some ⟨gr, 0, none⟩) m cr := ho 7 rfl
                            have o9 : ρ (.tmp 9) = .int .i64 (k : Int) := ho 9 rfl
                            clear ho
                            have cq' := cell_later hp cq
                            have c2' := cell_later hp c2
                            have d2' := cell_later hp d2
                            simp only [depsR, depR, slotR, Fx, List.getElem?_cons_succ, List.getElem?_cons_zero, Region.binds, forall_const] at hd
                            simp only [guardR]
                            go_split_ands
                          · go_simp
                          · go_simp
                          · go_simp
                          · obtain ⟨z1, z2, z3, z4⟩ := FK.out
                            go_simp
                          · go_simp
                          · obtain ⟨z1, z2, z3, z4, z5, z6⟩ := FK.out
                            go_simp
                          · go_simp
                          · go_simp
                          · go_simp
                          · go_simp
                          · go_simp
                          · obtain ⟨z1, z2, z3, z4, z5, z6⟩ := FK.out
                            go_simp
                          · go_simp
                          · go_simp
                          · go_simp
                          · have z := HLT.out
                            go_simp
                        · intro vs x2 hp hw
                          simp only [owed, Fx] at hw
                          obtain ⟨e0, e1, e2, e3, e4, e5, e6, e7, e8, e9, e10, e11, e12, e13, e14, e15, -⟩ := hw
                          simp only [List.length_cons, List.length_nil, List.take_succ_cons, List.take_nil, List.drop_succ_cons, List.drop_nil, asg, List.cons_append, List.nil_append, e0, e1, e2, e3, e4, e5, e6, e7, e8, e9, e10, e11, e12, e13, e14, e15]
                          clear e0 e1 e2 e3 e4 e5 e6 e7 e8 e9 e10 e11 e12 e13 e14 e15
                          have HBW : Hid _ := hBw.trans (hp.mono hBw.size)
                          clear hp hBw
                          go_wp2
                          go_roundw
                          case rel => first | exact ⟨k + 1, by have := HKM.out; omega, by go_num, congrArg Value.bool HNY.out, HBW.out⟩ | ((repeat apply Exists.intro); refine ⟨⟨k + 1, by have := HKM.out; omega, ?_, congrArg Value.bool HNY.out, HBW.out⟩, rfl⟩; go_num)
                          case measure => have := HKM.out; simp [intOf]; omega
                    · obtain rfl : m = k := by omega
                      have k0 : ¬ (m : Int) < (m : Int) := by omega
                      have hel : (decide ((0 : Int) < (m : Int)) && (M.take m).all fun q => decide (D ≤ (frO l).id q)) = (frO l).least i := by
                        rw [HLST.out, ← HM2.out.1, List.take_length]
                        congr 1
                        cases M with
                        | nil => rfl
                        | cons a t => exact decide_eq_true (by simp)
                      rw [hel]
                      clear hel hkm hk
                      cases hle : (frO l).least i
                      · have HF : Hid (Fo n X wr (some (g3, foA V)) V (Kt (frO l) n) (Pt (frO l) (i + 1)) (FL (frO l) n (i + 1))) := by
                          have hp9 : (frO l).par i = A := by unfold Fr.par; rw [hw, hn0, hle, hpa]; rfl
                          rw [Pt_set _ _ A hp9, FL_b _ _ _ (by unfold Fr.noPa; rw [hw, hn0]; rfl) (by unfold Fr.cyc; rw [hle, Bool.and_false])]
                          exact HF3.out.later hBw
                        clear hBw hlk4 HF3 HLST HML HRO hlk3 c2 hw hn0 hid hpa hle hr hD' hkp
                        go_wp2
                        go_roundw
                        case rel => first | exact ⟨i + 1, V, by have := HI.out; omega, by go_num, HF.out⟩ | ((repeat apply Exists.intro); refine ⟨⟨i + 1, V, by have := HI.out; omega, ?_, HF.out⟩, rfl⟩; go_num)
                        case measure => have := HI.out; simp [intOf]; omega
                      · obtain ⟨cV, g', m', c', w', v', hv', hra, cV', fV', hF4⟩ := (HF3.out.later hBw).app 5 (by omega) (by omega) i 26 (FL_len _ _ _ _ _ (by omega) (by omega))
                        subst hv'
                        obtain ⟨gp', cp', hVp', cP', fP', hF5⟩ := hF4.setP i hlt 0
                        have cR1 := hF4.row.cell 1
                        rw [foA_get _ 1 (by omega), hVp'] at cR1
                        have HF5 : Hid _ := hF5
                        have HF : Hid (Fo n X ((w'.setCell ⟨g3, 5, none⟩ (Value.slice (some ⟨g', 0, none⟩) m' c')).setCell ⟨gp', i, none⟩ (.int .u32 ((0 : Nat) : Int))) (some (g3, foA (updV V 5 (Value.slice (some ⟨g', 0, none⟩) m' c')))) (updV V 5 (Value.slice (some ⟨g', 0, none⟩) m' c')) (Kt (frO l) n) (Pt (frO l) (i + 1)) (FL (frO l) n (i + 1))) := by
                          have hp9 : (frO l).par i = 0 := by unfold Fr.par; rw [hle]; simp
                          rw [FL_b5 _ _ _ (by unfold Fr.noPa; rw [hw, hn0]; rfl) (by unfold Fr.cyc; rw [hw, hn0, hle]; rfl)]
                          have e9 : Pt (frO l) (i + 1) = fun j => if j = i then 0 else (fun j => if j = i then A else Pt (frO l) i j) j := by
                            rw [Pt_set _ _ 0 hp9]
                            funext j
                            by_cases e : j = i
                            · rw [if_pos e, if_pos e]
                            · rw [if_neg e, if_neg e]
                              show _ = (if j = i then A else Pt (frO l) i j)
                              rw [if_neg e]
                          rw [e9]
                          exact HF5.out
                        clear hBw hlk4 HF3 HLST HML HRO hlk3 c2 hw hn0 hid hpa hle hr hD' hkp HF5 hF4 hF5
                        go_upto_region 28 with (at_builtin; refine wpL_appG 26 rfl _ _ rfl _ w' (by exact hra) ?_)
                        generalize w'.setCell ⟨g3, 5, none⟩ (Value.slice (some ⟨g', 0, none⟩) m' c') = Z5 at HF cP' fP' cR1 ⊢
                        clear hra cV cV' fV'
                        go_wp2
                        go_roundw
                        case rel => first | exact ⟨i + 1, _, by have := HI.out; omega, by go_num, HF.out⟩ | ((repeat apply Exists.intro); refine ⟨⟨i + 1, _, by have := HI.out; omega, ?_, HF.out⟩, rfl⟩; go_num)
                        case measure => have := HI.out; simp [intOf]; omega
          · obtain rfl : n = i := by omega
            have i0 : ¬ (n : Int) < (n : Int) := by omega
            have eK : Kt (frO l) n = (frO l).kp ∨ True := .inr trivial
            have h2k := h2.kept hF.be
            have kr : Keep [g2] wr (wr.setRow g2 (foA V)) := ⟨rfl, rfl, rfl, by simp, fun k _ hn => setRow_other wr g2 k _ (fun e => hn (by simp [e]))⟩
            have hga := ga_down (ga_other hF.ga (by have := h2.lt; exact this) kr) bX.size
            have hB9 := bX.trans (hF.be.mono bX.size)
            have hB8 := hB9.trans (kr.below (B := w.heap.size) (fun q hq => by rw [List.mem_singleton] at hq; have := HG2.out; omega) hB9.size)
            have hT9 : ∀ k t, T21 w.heap.size n none V (frO l).kp (frO l).par (FL (frO l) n n) k = some t → T21 w.heap.size n (some (g3, foA V)) V (Kt (frO l) n) (Pt (frO l) n) (FL (frO l) n n) k = some t := fun k t hk => by
              unfold T21 at hk ⊢
              by_cases h0 : k = 0
              · rw [if_pos h0] at hk ⊢
                rw [bF_congr (g := (frO l).kp) (fun j hj => by unfold Kt; rw [decide_eq_true hj, Bool.true_and])]; exact hk
              · rw [if_neg h0] at hk ⊢
                by_cases h1 : k = 1
                · rw [if_pos h1] at hk ⊢
                  rw [uF_congr (g := (frO l).par) (fun j hj => by unfold Pt; rw [if_pos hj])]; exact hk
                · rw [if_neg h1] at hk ⊢
                  by_cases h6 : k < 6
                  · rw [if_pos h6] at hk ⊢; exact hk
                  · rw [if_neg h6] at hk
                    by_cases h7 : k = 6
                    · rw [if_pos h7] at hk; exact absurd hk (by simp)
                    · rw [if_neg h7] at hk; exact absurd hk (by simp)
            have HFF : Hid (Fo n w (wr.setRow g2 (foA V)) none V (frO l).kp (frO l).par (FL (frO l) n n)) := ⟨hga.less hT9, hB8⟩
            have hon : OneC (foA V) = true := foA_one' hF
            have HR : Hid _ := h2k.setRow (foA V)
            obtain ⟨r2, q2⟩ := h2k
            have z2 : (rowAt wr g2).size = 6 := by rw [q2]; exact foA_size _
            obtain ⟨r3, q3⟩ := hF.row
            have z3 : (rowAt wr g3).size = 6 := by rw [q3]; exact foA_size _
            have zV : (foA V).size = 6 := foA_size _
            clear hga hB9 hB8 hT9 kr hF hlt hi eK
            go_wp2
            exact fo_bodyPost1 2 g2 V rfl rfl rfl HR.out ⟨V, rfl, HFF.out⟩
end Go.Proofs.Ytligjfofnafjeaa
