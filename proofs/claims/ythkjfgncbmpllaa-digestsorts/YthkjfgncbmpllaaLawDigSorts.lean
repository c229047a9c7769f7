
import Derived.Test.YthkjfgncbmpllaaDsN
import Derived.Test.YthkjfgncbmpllaaDigZ
import Derived.Test.YthkjfgncbmpllaaDsR
namespace Go.Proofs.Ythkjfgncbmpllaa
open Go.RowKit Go.Sort

/-! DigestSorts -/
theorem sortedN (x : Option Addr) (c n : Nat) (ds : List Dg) (w : World) (hn : ds.length = n) (h : IsDs w (.slice x n c) ds) (hl : n * 32 + 64 ≤ 140737488355328) :
    Calls Try.prog 11 #[.slice x n c] w fun e w' => ∃ y d rs, e = .returned (.slice y rs.length d) ∧ OwnDs w' w.heap.size (.slice y rs.length d) rs ∧ SortedTo ds rs ∧ rs.length ≤ n ∧ Below w.heap.size w w' := by
  subst hn
  refine (sortedOk x c ds w h hl).mono ?_
  rintro e w' ⟨v, rs, rfl, hO, hS, hB⟩
  obtain ⟨y, d, rfl⟩ := hO.isDs.len
  have := asc_len _ _ hS.1 (fun z hz => (hS.2 z).1 hz)
  rw [nums_len, nums_len] at this
  exact ⟨y, d, rs, rfl, hO, hS, this, hB⟩
theorem refSortedN (x : Option Addr) (c n : Nat) (ds : List Dg) (w : World) (hn : ds.length = n) (h : IsDs w (.slice x n c) ds) (hl : n * 32 + 64 ≤ 140737488355328) :
    Calls Try.prog 18 #[.slice x n c] w fun e w' => ∃ y d rs, e = .returned (.slice y rs.length d) ∧ OwnDs w' w.heap.size (.slice y rs.length d) rs ∧ SortedTo ds rs ∧ rs.length ≤ n ∧ Below w.heap.size w w' := by
  subst hn
  refine (refSorted_any x c ds w h hl).mono ?_
  rintro e w' ⟨v, rs, rfl, hO, hS, hB⟩
  obtain ⟨y, d, rfl⟩ := hO.isDs.len
  have := asc_len _ _ hS.1 (fun z hz => (hS.2 z).1 hz)
  rw [nums_len, nums_len] at this
  exact ⟨y, d, rs, rfl, hO, hS, this, hB⟩
theorem sameN (xa xb : Option Addr) (ca cb na nb : Nat) (ds es : List Dg) (w : World) (hna : ds.length = na) (hnb : es.length = nb) (ha : IsDs w (.slice xa na ca) ds) (hb : IsDs w (.slice xb nb cb) es) (hlen : na ≤ 140737488355328) (he : nums ds = nums es) :
    Calls Try.prog 12 #[.slice xa na ca, .slice xb nb cb] w fun e w' => e = .returned (.bool true) ∧ Below w.heap.size w w' := by
  subst hna hnb
  have := same_any xa xb ca cb ds es w ha hb hlen
  rwa [decide_eq_true he] at this
theorem SortedTo.both {ds rs ts : List Dg} (h : SortedTo ds rs) (k : SortedTo ds ts) : nums rs = nums ts := h.unique k fun _ => Iff.rfl
theorem OwnDs.under {w w' : World} {B H : Nat} {v : Value} {ds : List Dg} (h : OwnDs w B v ds) (hb : Below H w w') (hl : ∀ g, v.ownBlock = some g → g < H) : OwnDs w' B v ds := by
  refine ⟨h.1, ?_⟩
  rcases h.2 with hn | ⟨g, cap, cur, rfl, hb', hg, r⟩
  · exact .inl hn
  · refine .inr ⟨g, cap, cur, rfl, hb', ?_, r⟩
    rw [hb.block g (hl g rfl)]; exact hg
theorem newDg (w : World) (M : Dg) : (w.alloc (.cells (dg_secA M) 23)).rangeAt w.heap.size 0 (dg_secA M).toList := fun j u hu => by
  rw [Nat.zero_add, World.cell?_alloc_at _ _ _ _ rfl]
  rwa [Array.getElem?_toList] at hu
theorem leDs {w : World} {B B' : Nat} {v : Value} {ds : List Dg} (h : OwnDs w B v ds) (hb : B' ≤ B) : OwnDs w B' v ds :=
  ⟨h.1, h.2.elim .inl fun ⟨g, cap, cur, hv, hg, r⟩ => .inr ⟨g, cap, cur, hv, Nat.le_trans hb hg, r⟩⟩
theorem keptBy {w w' : World} {B gi : Nat} {v : Value} {ds : List Dg} (h : OwnDs w B v ds) (hG : w.grownBy w' (some gi)) (hb : gi < B) : OwnDs w' B v ds := World.ownsRow.kept h hG (.inr (fun e => by have := (World.ownsRow.lt h gi e).1; omega))
theorem Five.of {w : World} {base gl : Nat} {vs : List Value} {f : Nat → List Dg} (lo hi : Nat → Nat) (hlt : gl < w.heap.size) (hrow : ∀ (i : Nat) v, vs[i]? = some v → w.cell? ⟨gl, i, none⟩ = some v)
    (hown : ∀ (i : Nat) v, vs[i]? = some v → OwnDs w base v (f i)) (hblk : ∀ (i : Nat) v, vs[i]? = some v → ∀ g, v.ownBlock = some g → lo i ≤ g ∧ g < hi i) (hmono : ∀ i j, i < j → j < vs.length → hi i ≤ lo j) (hgl : ∀ i, i < vs.length → hi i ≤ gl) : Five w base gl vs f := by
  refine ⟨hlt, hrow, hown, fun i v hv e => ?_, fun i j v u hij hv hu => ?_⟩
  · have h1 := (hblk i v hv gl e).2
    have h2 := hgl i (List.getElem?_eq_some_iff.1 hv).1
    omega
  · cases hx : v.ownBlock with
    | none => exact .inl rfl
    | some g =>
      refine .inr (fun e => ?_)
      have a1 := hblk i v hv g hx
      have a2 := hblk j u hu g e.symm
      rcases Nat.lt_or_gt_of_ne hij with h | h
      · have := hmono i j h (List.getElem?_eq_some_iff.1 hu).1
        omega
      · have := hmono j i h (List.getElem?_eq_some_iff.1 hv).1
        omega
theorem five_lists {P : Nat → Value → Prop} {v0 v1 v2 v3 v4 : Value} (h0 : P 0 v0) (h1 : P 1 v1) (h2 : P 2 v2) (h3 : P 3 v3) (h4 : P 4 v4) : ∀ (i : Nat) v, [v0, v1, v2, v3, v4][i]? = some v → P i v := fun i v hv => by
  rcases i with _ | _ | _ | _ | _ | i
  · simp at hv; subst hv; exact h0
  · simp at hv; subst hv; exact h1
  · simp at hv; subst hv; exact h2
  · simp at hv; subst hv; exact h3
  · simp at hv; subst hv; exact h4
  · simp at hv
def pick5 {α : Type} (a b c d e : α) : Nat → α | 0 => a | 1 => b | 2 => c | 3 => d | _ => e
theorem mark99 (W : World) : Calls Try.prog 17 #[.int .i64 9, .int .i64 9] W fun e w' => e = .returned (.agg (dg_secA (markD 9 9))) ∧ Below W.heap.size W w' := mark_any 9 9 W
set_option linter.unusedSimpArgs false in
set_option maxRecDepth 100000 in
set_option maxHeartbeats 1600000 in
theorem lawDigSorts_any (x1 x2 : Option Addr) (c1 c2 : Nat) (ls ms : List Dg) (w : World) (h1 : IsDs w (.slice x1 ls.length c1) ls) (h2 : IsDs w (.slice x2 ms.length c2) ms) (l1 : ls.length * 32 ≤ 140737488351232) (l2 : ms.length * 32 ≤ 140737488351232) :
    Calls Try.prog 6 #[.slice x1 ls.length c1, .slice x2 ms.length c2] w fun e w' => e = .returned (.bool true) ∧ Below w.heap.size w w' := by
  obtain ⟨n, hn⟩ : ∃ n, ls.length = n := ⟨_, rfl⟩
  obtain ⟨k, hk⟩ : ∃ n, ms.length = n := ⟨_, rfl⟩
  rw [hn] at h1 l1 ⊢
  rw [hk] at h2 l2 ⊢
  obtain ⟨M, hM99⟩ : ∃ d, markD 9 9 = d := ⟨_, rfl⟩
  have hm99 := mark99
  rw [hM99] at hm99
  clear hM99
  go_enter Try.func6, Try.ntmps6
  go_wp2_with fail
  refine (knownOk _).mono ?_
  rintro e w1 ⟨rfl, hw1⟩
  have hB0 : Below w.heap.size w w1 := hw1
  obtain ⟨g0, c0, w2, hr2, hO2, hw2⟩ := run_copyD w1 x1 c1 ls 31 (by rw [hn]; exact h1.kept hB0) (by omega)
  rw [hn] at hr2 hO2
  replace hB0 := hB0.trans (hw2.mono hB0.size)
  go_wp2_with (at_builtin; refine wpL_appD rfl _ _ rfl _ w2 (by exact hr2) ?_)
  refine (hm99 _).mono ?_
  rintro e w3 ⟨rfl, hw3⟩
  clear hr2
  replace hO2 := (hO2.keep hw3).keep (below_alloc w3 (.cells (dg_secA M) 23))
  replace hB0 := (hB0.trans (hw3.mono hB0.size))
  replace hB0 := hB0.alloc hB0.size (.cells (dg_secA M) 23)
  obtain ⟨v5, w5, hr5, hI, -, hw5, -⟩ := run_app1D (w3.alloc (.cells (dg_secA M) 23)) w1.heap.size w3.heap.size (.slice (some ⟨g0, 0, none⟩) n c0) ls M 31 hO2 (newDg w3 M) (by rw [hn]; omega) (by have := hw2.size; have := hw3.size; simp; omega)
  replace hB0 := hB0.trans (hw5.mono hw1.size)
  have hlI : (ls ++ [M]).length = n + 1 := by rw [List.length_append, hn]; rfl
  obtain ⟨gi, ci, rfl, -, hgi⟩ := World.ownsRow.form hI (by omega)
  obtain ⟨n1, hn1⟩ : ∃ m, n + 1 = m := ⟨_, rfl⟩
  rw [hlI, hn1] at hr5 hI
  have hnci : n ≤ ci := by obtain ⟨_, _, _, _, h9, _⟩ := hI.heap; omega
  have hgB : w.heap.size ≤ gi := Nat.le_trans hw1.size (World.ownsRow.lt hI gi rfl).1
  go_wp2_with (at_builtin; refine wpL_appD rfl _ _ rfl _ w5 (by exact hr5) ?_)
  clear hr5 hO2 hw2 hw3 hw5 hlI
  refine (refSortedN x1 c1 n ls _ hn (h1.kept hB0) (by omega)).mono ?_
  rintro e w6 ⟨xw, cw, rx, rfl, hW, hSw, hlw, hw6⟩
  have sW := World.ownsRow.lt hW
  have hcut : ∀ W, (cutD0 (.slice (some ⟨gi, 0, none⟩) n1 ci) (.int .i64 (n : Int))).run Try.prog W = .ok (.value (.slice (some ⟨gi, 0, none⟩) n ci)) W := fun W => run_cutD0 W gi 0 n1 ci n hnci
  have hIn : ∀ W B, OwnDs W B (.slice (some ⟨gi, 0, none⟩) n1 ci) (ls ++ [M]) → IsDs W (.slice (some ⟨gi, 0, none⟩) n ci) ls := fun W B h => by
    have h9 := (h.cut n (by omega)).isDs
    rwa [List.take_left' hn] at h9
  replace hI := hI.keep hw6
  replace hB0 := hB0.trans (hw6.mono hB0.size)
  go_wp2_with fail
  refine (sortedN _ ci n ls _ hn (hIn _ _ hI) (by omega)).mono ?_
  rintro e w7 ⟨xa, ca, ra, rfl, hA, hSa, hla, hw7⟩
  have sA := World.ownsRow.lt hA
  replace hI := hI.keep hw7
  replace hW := hW.keep hw7
  replace hB0 := hB0.trans (hw7.mono hB0.size)
  go_wp2_with fail
  refine (sortedN _ ci n ls _ hn (hIn _ _ hI) (by omega)).mono ?_
  rintro e w8 ⟨xb, cb, rb, rfl, hBb, hSb, hlb, hw8⟩
  have sB := World.ownsRow.lt hBb
  replace hI := hI.keep hw8
  replace hW := hW.keep hw8
  replace hA := hA.keep hw8
  replace hB0 := hB0.trans (hw8.mono hB0.size)
  go_wp2_with fail
  refine (sortedN x2 c2 k ms _ hk (h2.kept hB0) (by omega)).mono ?_
  rintro e w9 ⟨xc, cc, rc, rfl, hCc, hSc, hlc, hw9⟩
  have sC := World.ownsRow.lt hCc
  replace hI := hI.keep hw9
  replace hW := hW.keep hw9
  replace hA := hA.keep hw9
  replace hBb := hBb.keep hw9
  replace hB0 := hB0.trans (hw9.mono hB0.size)
  go_wp2_with fail
  refine (sortedN _ ci n ls _ hn (hIn _ _ hI) (by omega)).mono ?_
  rintro e wa ⟨xd, cd, rd, rfl, hDd, hSd, hld, hwa⟩
  have sD := World.ownsRow.lt hDd
  replace hI := hI.keep hwa
  replace hW := hW.keep hwa
  replace hA := hA.keep hwa
  replace hBb := hBb.keep hwa
  replace hCc := hCc.keep hwa
  replace hB0 := hB0.trans (hwa.mono hB0.size)
  have z6 := hw6.size
  have z7 := hw7.size
  have z8 := hw8.size
  have z9 := hw9.size
  have za := hwa.size
  have zI := World.ownsRow.lt hI gi rfl
  clear hw1 hw6 hw7 hw8 hw9 hwa
  have eAW := hSa.both hSw
  have eBW := hSb.both hSw
  have eDW := hSd.both hSw
  have IA := hA.isDs
  have IB := hBb.isDs
  have IC := hCc.isDs
  have ID := hDd.isDs
  have IW := hW.isDs
  have IN := hIn _ _ hI
  have IL := h1.kept hB0
  have IM := h2.kept hB0
  obtain ⟨ok9, rg9⟩ := hI.rng n M (by rw [List.getElem?_append_right (by omega), hn, Nat.sub_self]; rfl)
  obtain ⟨na, hna⟩ : ∃ m, ra.length = m := ⟨_, rfl⟩
  obtain ⟨nb, hnb⟩ : ∃ m, rb.length = m := ⟨_, rfl⟩
  obtain ⟨nc, hnc⟩ : ∃ m, rc.length = m := ⟨_, rfl⟩
  obtain ⟨nd, hnd⟩ : ∃ m, rd.length = m := ⟨_, rfl⟩
  obtain ⟨nw, hnw⟩ : ∃ m, rx.length = m := ⟨_, rfl⟩
  rw [hna] at IA hA hla sA
  rw [hnb] at IB hBb hlb sB
  rw [hnc] at IC hCc hlc sC
  rw [hnd] at ID hDd hld sD
  rw [hnw] at IW hW hlw sW
  simp only [hna, hnb, hnc, hnd, hnw]
  have hgiA : gi < wa.heap.size := by omega
  have hDD := secEq_self M
  have q0 : (0 : Int) ≤ (n : Int) := by omega
  have q1 : (n : Int) < (n1 : Int) := by omega
  go_upto_region 9 with fail
  refine wp_relies [Fx (.slice xa na ca), Fx (.slice xw nw cw), Fx (.bool true), Fx (.bool false), Fx (.bool false), Fx (.slice xb nb cb), Fx (.slice xw nw cw), Fx (.bool true), Fx (.bool false), Fx (.bool false), Fx (.bool false), Fx (.slice xd nd cd), Fx (.slice xw nw cw), Fx (.bool true), Fx (.bool false), Fx (.bool false), Fx (.bool false), Fx (.slice xc nc cc), Fx (.slice x2 k c2), fun v x => ∃ y d rs, v = .slice y rs.length d ∧ IsDs x (.slice y rs.length d) rs ∧ SortedTo ms rs, Fx (.bool true), Fx (.bool false), Fx (.bool false), Fx (.bool false), Fx (.slice (some ⟨gi, 0, none⟩) n1 ci), Fx (.slice x1 n c1), Fx (.int .i64 (n : Nat)), Fx (.slice (some ⟨gi, 0, none⟩) n ci), Fx (.slice x1 n c1), Fx (.bool true), Fx (.bool false), Fx (.bool false), Fx (.bool false), Fx (.slice (some ⟨gi, 0, none⟩) n1 ci), Fx (.slice x1 n c1), Fx (.int .i64 (n : Nat)), Fx (.pointer (some ⟨gi, n * 32, none⟩)), Fx (.agg (dg_secA M)), Fx (.agg (dg_secA M)), Fx (.bool false), Fx (.bool false)] (by kernel_rfl) (by kernel_rfl) ?_ ?_ ?_
  · repeat' (first | exact all_nil | apply all_cons)
    all_goals intro v y y' hv hb
    all_goals first | exact Fx_mono _ _ _ _ hv hb | (obtain ⟨y, d, rs, h1, h2, h3⟩ := hv; exact ⟨y, d, rs, h1, h2.kept hb, h3⟩)
  · refine ⟨?_, ?_, ?_, ?_, ?_, ?_, ?_, ?_, ?_, ?_, ?_, ?_, ?_, ?_, ?_, ?_, ?_, ?_, ?_, ?_, ?_, ?_, ?_, ?_, ?_, ?_, ?_, ?_, ?_, ?_, ?_, ?_, ?_, ?_, ?_, ?_, ?_, ?_, ?_, ?_, ?_, trivial⟩
    all_goals
      intro ρ x hp ρc ρg ρf ho hd
      have o0 : ρ (.tmp 0) = .slice x1 n c1 := ho 0 rfl
      have o1 : ρ (.tmp 1) = .slice x2 k c2 := ho 1 rfl
      have o5 : ρ (.tmp 5) = .slice (some ⟨gi, 0, none⟩) n1 ci := ho 5 rfl
      have o6 : ρ (.tmp 6) = .slice xw nw cw := ho 6 rfl
      have o7 : ρ (.tmp 7) = .slice xa na ca := ho 7 rfl
      have o8 : ρ (.tmp 8) = .slice xb nb cb := ho 8 rfl
      have o9 : ρ (.tmp 9) = .slice xc nc cc := ho 9 rfl
      have o10 : ρ (.tmp 10) = .slice xd nd cd := ho 10 rfl
      clear ho
      have iA := IA.kept hp
      have iB := IB.kept hp
      have iC := IC.kept hp
      have iD := ID.kept hp
      have iW := IW.kept hp
      have iN := IN.kept hp
      have iL := IL.kept hp
      have iM := IM.kept hp
      have g1 := rng_later hp hgiA (n * 32)
      have k1' := g1.1.trans ok9
      have k2' := g1.2.trans rg9
      clear g1
      simp only [depsR, depR, slotR, Fx, List.getElem?_cons_succ, List.getElem?_cons_zero, Region.binds, forall_const] at hd
      simp only [guardR]
      go_split_ands
    · go_simp
    · go_simp
    · go_simp
      refine (sameN _ _ _ _ na nw ra rx x hna hnw iA iW (by omega) eAW).mono ?_
      rintro e x' ⟨rfl, hb⟩
      exact ⟨_, rfl, rfl, hb⟩
    · go_simp
    · go_simp
    · refine ⟨fun _ => ?_, fun hy => absurd (by simp [yieldR, slotR, *]) hy⟩
      go_simp
    · refine ⟨fun _ => ?_, fun hy => absurd (by simp [yieldR, slotR, *]) hy⟩
      go_simp
    · refine ⟨fun _ => ?_, fun hy => absurd (by simp [yieldR, slotR, *]) hy⟩
      go_simp
      refine (sameN _ _ _ _ nb nw rb rx x hnb hnw iB iW (by omega) eBW).mono ?_
      rintro e x' ⟨rfl, hb⟩
      exact ⟨_, rfl, rfl, hb⟩
    · refine ⟨fun _ => ?_, fun hy => absurd (by simp [yieldR, slotR, *]) hy⟩
      go_simp
    · go_simp
    · go_simp
    · refine ⟨fun _ => ?_, fun hy => absurd (by simp [yieldR, slotR, *]) hy⟩
      go_simp
    · refine ⟨fun _ => ?_, fun hy => absurd (by simp [yieldR, slotR, *]) hy⟩
      go_simp
    · refine ⟨fun _ => ?_, fun hy => absurd (by simp [yieldR, slotR, *]) hy⟩
      go_simp
      refine (sameN _ _ _ _ nd nw rd rx x hnd hnw iD iW (by omega) eDW).mono ?_
      rintro e x' ⟨rfl, hb⟩
      exact ⟨_, rfl, rfl, hb⟩
    · refine ⟨fun _ => ?_, fun hy => absurd (by simp [yieldR, slotR, *]) hy⟩
      go_simp
    · go_simp
    · go_simp
    · refine ⟨fun _ => ?_, fun hy => absurd (by simp [yieldR, slotR, *]) hy⟩
      go_simp
    · refine ⟨fun _ => ?_, fun hy => absurd (by simp [yieldR, slotR, *]) hy⟩
      go_simp
    · refine ⟨fun _ => ?_, fun hy => absurd (by simp [yieldR, slotR, *]) hy⟩
      go_simp
      refine (refSortedN x2 c2 k ms x hk iM (by omega)).mono ?_
      rintro e x' ⟨y, d, rs, rfl, hO, hS, hl, hb⟩
      exact ⟨_, rfl, ⟨y, d, rs, rfl, hO.isDs, hS⟩, hb⟩
    · refine ⟨fun _ => ?_, fun hy => absurd (by simp [yieldR, slotR, *]) hy⟩
      obtain ⟨y, d, rs, h1, h2, h3⟩ := ‹∃ y d rs, ρ (.tmp 60) = _ ∧ _›
      go_simp
      refine (sameN _ _ _ _ nc rs.length rc rs x hnc rfl iC h2 (by omega) (hSc.both h3)).mono ?_
      rintro e x' ⟨rfl, hb⟩
      exact ⟨_, rfl, rfl, hb⟩
    · refine ⟨fun _ => ?_, fun hy => absurd (by simp [yieldR, slotR, *]) hy⟩
      go_simp
    · go_simp
    · go_simp
    · refine ⟨fun _ => ?_, fun hy => absurd (by simp [yieldR, slotR, *]) hy⟩
      go_simp
    · refine ⟨fun _ => ?_, fun hy => absurd (by simp [yieldR, slotR, *]) hy⟩
      go_simp
    · refine ⟨fun _ => ?_, fun hy => absurd (by simp [yieldR, slotR, *]) hy⟩
      go_simp
    · refine ⟨fun _ => ?_, fun hy => absurd (by simp [yieldR, slotR, *]) hy⟩
      go_simp
    · refine ⟨fun _ => ?_, fun hy => absurd (by simp [yieldR, slotR, *]) hy⟩
      go_simp
    · refine ⟨fun _ => ?_, fun hy => absurd (by simp [yieldR, slotR, *]) hy⟩
      go_simp
      refine (sameN _ _ _ _ n n ls ls x hn hn iN iL (by omega) rfl).mono ?_
      rintro e x' ⟨rfl, hb⟩
      exact ⟨_, rfl, rfl, hb⟩
    · refine ⟨fun _ => ?_, fun hy => absurd (by simp [yieldR, slotR, *]) hy⟩
      go_simp
    · go_simp
    · go_simp
    · refine ⟨fun _ => ?_, fun hy => absurd (by simp [yieldR, slotR, *]) hy⟩
      go_simp
    · refine ⟨fun _ => ?_, fun hy => absurd (by simp [yieldR, slotR, *]) hy⟩
      go_simp
    · refine ⟨fun _ => ?_, fun hy => absurd (by simp [yieldR, slotR, *]) hy⟩
      go_simp
    · refine ⟨fun _ => ?_, fun hy => absurd (by simp [yieldR, slotR, *]) hy⟩
      go_simp
    · refine ⟨fun _ => ?_, fun hy => absurd (by simp [yieldR, slotR, *]) hy⟩
      go_simp
    · refine ⟨fun _ => ?_, fun hy => absurd (by simp [yieldR, slotR, *]) hy⟩
      go_simp
      refine (hm99 x).mono ?_
      rintro e x' ⟨rfl, hb⟩
      exact ⟨_, rfl, rfl, hb⟩
    · refine ⟨fun _ => ?_, fun hy => absurd (by simp [yieldR, slotR, *]) hy⟩
      go_simp
    · go_simp
  · intro vs wz hp hw
    simp only [owed, Fx] at hw
    obtain ⟨e0, e1, e2, e3, e4, e5, e6, e7, e8, e9, e10, e11, e12, e13, e14, e15, e16, e17, e18, e19, e20, e21, e22, e23, e24, e25, e26, e27, e28, e29, e30, e31, e32, e33, e34, e35, e36, e37, e38, e39, e40, -⟩ := hw
    simp only [List.length_cons, List.length_nil, List.take_succ_cons, List.take_nil, List.drop_succ_cons, List.drop_nil, asg, List.cons_append, List.nil_append, e0, e1, e2, e3, e4, e5, e6, e7, e8, e9, e10, e11, e12, e13, e14, e15, e16, e17, e18, e20, e21, e22, e23, e24, e25, e26, e27, e28, e29, e30, e31, e32, e33, e34, e35, e36, e37, e38, e39, e40]
    clear e0 e1 e2 e3 e4 e5 e6 e7 e8 e9 e10 e11 e12 e13 e14 e15 e16 e17 e18 e20 e21 e22 e23 e24 e25 e26 e27 e28 e29 e30 e31 e32 e33 e34 e35 e36 e37 e38 e39 e40 e19
    replace hI := hI.keep hp
    replace hW := hW.keep hp
    replace hA := hA.keep hp
    replace hBb := hBb.keep hp
    replace hCc := hCc.keep hp
    replace hDd := hDd.keep hp
    replace hB0 := hB0.trans (hp.mono hB0.size)
    have zz := hp.size
    clear hp IA IB IC ID IW IN IL IM ok9 rg9 eAW eBW eDW hIn hDD
    go_wp2_with fail
    go_loopw [11] (fun i wr => ∃ (j : Nat) (cur : List Dg), j ≤ n ∧ i = .int .i64 j ∧ OwnDs wr w1.heap.size (.slice (some ⟨gi, 0, none⟩) n1 ci) cur ∧ wz.grownBy wr (some gi)) (fun i _ => n - (intOf i).toNat)
    case atStart => exact ⟨0, ls ++ [M], by omega, rfl, hI, grown_drewN wz 0 _⟩
    case round =>
      clear hI
      obtain ⟨j, cur, hj, rfl, hI, hG⟩ := hrel
      have hB9 : Below w.heap.size w wr := hB0.trans (below_grownD hG hB0.size hgB)
      have j0 : (0 : Int) ≤ (j : Int) := by omega
      by_cases hjn : j < n
      · have j1 : (j : Int) < (n : Int) := by omega
        have j2 : (j : Int) < (n1 : Int) := by omega
        by_cases hjk : j < k
        · have j3 : (j : Int) < (k : Int) := by omega
          obtain ⟨d, hd⟩ : ∃ d, ms[j]? = some d := ⟨ms[j]'(by omega), List.getElem?_eq_getElem (by omega)⟩
          obtain ⟨bm, om, rfl, hbm, okm, rgm⟩ := (h2.kept hB9).at j d hd
          have hst := hI.store j d (by omega)
          have HO : Hid _ := hI.put j d (by omega)
          have HG : Hid _ := grown_trans hG (grown_setCells wr gi (j * 32) (dg_secA d).toList)
          clear hI hG hB9 hd
          go_wp2
          go_roundw
          case rel => exact ⟨j + 1, _, by omega, by go_num, HO.out, HG.out⟩
          case measure => simp [intOf]; omega
        · have j3 : ¬ (j : Int) < (k : Int) := by omega
          have hcl : cur.length = n1 := by obtain ⟨_, h9, _⟩ := hI.heap; omega
          have hct : (cur.take n).length = n := by rw [List.length_take]; omega
          have hIc := (hI.cut n (by omega)).isDs
          obtain ⟨gn, cn, wb, hrb, hNow, hwb⟩ := run_copyD wr (some ⟨gi, 0, none⟩) ci (cur.take n) 31 (by rw [hct]; exact hIc) (by omega)
          rw [hct] at hrb hNow
          replace hW := (keptBy hW hG (by omega)).keep hwb
          replace hA := (keptBy hA hG (by omega)).keep hwb
          replace hBb := (keptBy hBb hG (by omega)).keep hwb
          replace hCc := (keptBy hCc hG (by omega)).keep hwb
          replace hDd := (keptBy hDd hG (by omega)).keep hwb
          have zr := hG.size
          have zb := hwb.size
          replace hIc := hIc.kept hwb
          replace hB9 := hB9.trans (hwb.mono hB9.size)
          clear hI hG hwb hcl
          go_wp2_with (at_builtin; refine wpL_appD rfl _ _ rfl _ wb (by exact hrb) ?_)
          clear hrb
          refine (sortedN _ ci n (cur.take n) _ hct hIc (by omega)).mono ?_
          rintro e wc ⟨xe, ce, re, rfl, hE, hSe, hle, hwc⟩
          obtain ⟨ne, hne⟩ : ∃ m, re.length = m := ⟨_, rfl⟩
          rw [hne] at hE hle
          simp only [hne]
          have sE := World.ownsRow.lt hE
          replace hW := hW.keep hwc
          replace hA := hA.keep hwc
          replace hBb := hBb.keep hwc
          replace hCc := hCc.keep hwc
          replace hDd := hDd.keep hwc
          replace hNow := hNow.keep hwc
          have zc := hwc.size
          replace hB9 := hB9.trans (hwc.mono hB9.size)
          clear hwc hIc
          go_wp2_with fail
          refine (refSortedN (some ⟨gn, 0, none⟩) cn n (cur.take n) _ hct hNow.isDs (by omega)).mono ?_
          rintro e wd ⟨xr, cr, rr, rfl, hR, hSr, hlr, hwd⟩
          replace hW := hW.keep hwd
          replace hA := hA.keep hwd
          replace hBb := hBb.keep hwd
          replace hCc := hCc.keep hwd
          replace hDd := hDd.keep hwd
          replace hE := hE.keep hwd
          have zd := hwd.size
          replace hB9 := hB9.trans (hwd.mono hB9.size)
          clear hwd hNow
          go_wp2_with fail
          refine (sameN _ _ _ _ ne rr.length re rr _ hne rfl hE.isDs hR.isDs (by omega) (hSe.both hSr)).mono ?_
          rintro e we ⟨rfl, hwe⟩
          have hwe2 := hwe.alloc (Nat.le_trans (Nat.le_refl _) hwe.size) (.cells #[.slice xa na ca, .slice xb nb cb, .slice xc nc cc, .slice xd nd cd, .slice xe ne ce] 31)
          replace hW := hW.keep hwe2
          replace hA := hA.keep hwe2
          replace hBb := hBb.keep hwe2
          replace hCc := hCc.keep hwe2
          replace hDd := hDd.keep hwe2
          replace hE := hE.keep hwe2
          have ze := hwe.size
          replace hB9 := hB9.trans (hwe2.mono hB9.size)
          have hF : Five (we.alloc (.cells #[.slice xa na ca, .slice xb nb cb, .slice xc nc cc, .slice xd nd cd, .slice xe ne ce] 31)) w6.heap.size we.heap.size [.slice xa na ca, .slice xb nb cb, .slice xc nc cc, .slice xd nd cd, .slice xe ne ce] (pick5 ra rb rc rd re) :=
            Five.of (pick5 w6.heap.size w7.heap.size w8.heap.size w9.heap.size wb.heap.size) (pick5 w7.heap.size w8.heap.size w9.heap.size wa.heap.size wc.heap.size) (by simp)
              (fun i v hv => by rw [World.cell?_alloc_at _ _ _ _ rfl]; simpa using hv)
              (five_lists (P := fun i v => OwnDs _ _ v (pick5 ra rb rc rd re i)) hA (leDs hBb (by omega)) (leDs hCc (by omega)) (leDs hDd (by omega)) (leDs hE (by omega)))
              (five_lists (P := fun i v => ∀ g, v.ownBlock = some g → pick5 w6.heap.size w7.heap.size w8.heap.size w9.heap.size wb.heap.size i ≤ g ∧ g < pick5 w7.heap.size w8.heap.size w9.heap.size wa.heap.size wc.heap.size i) sA sB sC sD sE)
              (fun i j hij hj => by
                have hj5 : j < 5 := hj
                rcases (by omega : i = 0 ∨ i = 1 ∨ i = 2 ∨ i = 3) with rfl | rfl | rfl | rfl <;> rcases (by omega : j = 1 ∨ j = 2 ∨ j = 3 ∨ j = 4) with rfl | rfl | rfl | rfl <;> simp only [pick5] <;> omega)
              (fun i hi => by
                have hi5 : i < 5 := hi
                rcases (by omega : i = 0 ∨ i = 1 ∨ i = 2 ∨ i = 3 ∨ i = 4) with rfl | rfl | rfl | rfl | rfl <;> simp only [pick5] <;> omega)
          have hap := apart_any _ _ w6.heap.size we.heap.size 5 _ hF rfl (by omega) (by omega) (fun i hi => by
            rcases (by omega : i = 0 ∨ i = 1 ∨ i = 2 ∨ i = 3 ∨ i = 4) with rfl | rfl | rfl | rfl | rfl <;> simp only [pick5] <;> omega) (by simp; omega)
          clear hwe hwe2 hF hA hBb hCc hDd hE hR hSr hSe sA sB sC sD sE
          go_wp2_with fail
          refine hap.mono ?_
          rintro e wf ⟨rfl, hwf⟩
          replace hW := hW.under hwf (fun g hg => (sW g hg).2)
          replace hB9 := hB9.trans (hwf.mono (by omega))
          clear hap hwf
          go_wp2_with fail
          refine (sortedN x1 c1 n ls _ hn (h1.kept hB9) (by omega)).mono ?_
          rintro e wg ⟨xs, cs, rs, rfl, hO9, hS9, hl9, hwg⟩
          replace hW := hW.keep hwg
          replace hB9 := hB9.trans (hwg.mono hB9.size)
          clear hwg
          go_wp2_with fail
          refine (sameN _ _ _ _ rs.length nw rs rx _ rfl hnw hO9.isDs hW.isDs (by omega) (hS9.both hSw)).mono ?_
          rintro e wh ⟨rfl, hwh⟩
          have HB : Hid _ := hB9.trans (hwh.mono hB9.size)
          clear hwh hB9 hO9 hW
          go_wp2
          go_ret
          exact ⟨rfl, HB.out⟩
      · have j1 : ¬ (j : Int) < (n : Int) := by omega
        have hcl : cur.length = n1 := by obtain ⟨_, h9, _⟩ := hI.heap; omega
        have hct : (cur.take n).length = n := by rw [List.length_take]; omega
        have hIc := (hI.cut n (by omega)).isDs
        obtain ⟨gn, cn, wb, hrb, hNow, hwb⟩ := run_copyD wr (some ⟨gi, 0, none⟩) ci (cur.take n) 31 (by rw [hct]; exact hIc) (by omega)
        rw [hct] at hrb hNow
        replace hW := (keptBy hW hG (by omega)).keep hwb
        replace hA := (keptBy hA hG (by omega)).keep hwb
        replace hBb := (keptBy hBb hG (by omega)).keep hwb
        replace hCc := (keptBy hCc hG (by omega)).keep hwb
        replace hDd := (keptBy hDd hG (by omega)).keep hwb
        have zr := hG.size
        have zb := hwb.size
        replace hIc := hIc.kept hwb
        replace hB9 := hB9.trans (hwb.mono hB9.size)
        clear hI hG hwb hcl
        go_wp2_with (at_builtin; refine wpL_appD rfl _ _ rfl _ wb (by exact hrb) ?_)
        clear hrb
        refine (sortedN _ ci n (cur.take n) _ hct hIc (by omega)).mono ?_
        rintro e wc ⟨xe, ce, re, rfl, hE, hSe, hle, hwc⟩
        obtain ⟨ne, hne⟩ : ∃ m, re.length = m := ⟨_, rfl⟩
        rw [hne] at hE hle
        simp only [hne]
        have sE := World.ownsRow.lt hE
        replace hW := hW.keep hwc
        replace hA := hA.keep hwc
        replace hBb := hBb.keep hwc
        replace hCc := hCc.keep hwc
        replace hDd := hDd.keep hwc
        replace hNow := hNow.keep hwc
        have zc := hwc.size
        replace hB9 := hB9.trans (hwc.mono hB9.size)
        clear hwc hIc
        go_wp2_with fail
        refine (refSortedN (some ⟨gn, 0, none⟩) cn n (cur.take n) _ hct hNow.isDs (by omega)).mono ?_
        rintro e wd ⟨xr, cr, rr, rfl, hR, hSr, hlr, hwd⟩
        replace hW := hW.keep hwd
        replace hA := hA.keep hwd
        replace hBb := hBb.keep hwd
        replace hCc := hCc.keep hwd
        replace hDd := hDd.keep hwd
        replace hE := hE.keep hwd
        have zd := hwd.size
        replace hB9 := hB9.trans (hwd.mono hB9.size)
        clear hwd hNow
        go_wp2_with fail
        refine (sameN _ _ _ _ ne rr.length re rr _ hne rfl hE.isDs hR.isDs (by omega) (hSe.both hSr)).mono ?_
        rintro e we ⟨rfl, hwe⟩
        have hwe2 := hwe.alloc (Nat.le_trans (Nat.le_refl _) hwe.size) (.cells #[.slice xa na ca, .slice xb nb cb, .slice xc nc cc, .slice xd nd cd, .slice xe ne ce] 31)
        replace hW := hW.keep hwe2
        replace hA := hA.keep hwe2
        replace hBb := hBb.keep hwe2
        replace hCc := hCc.keep hwe2
        replace hDd := hDd.keep hwe2
        replace hE := hE.keep hwe2
        have ze := hwe.size
        replace hB9 := hB9.trans (hwe2.mono hB9.size)
        have hF : Five (we.alloc (.cells #[.slice xa na ca, .slice xb nb cb, .slice xc nc cc, .slice xd nd cd, .slice xe ne ce] 31)) w6.heap.size we.heap.size [.slice xa na ca, .slice xb nb cb, .slice xc nc cc, .slice xd nd cd, .slice xe ne ce] (pick5 ra rb rc rd re) :=
          Five.of (pick5 w6.heap.size w7.heap.size w8.heap.size w9.heap.size wb.heap.size) (pick5 w7.heap.size w8.heap.size w9.heap.size wa.heap.size wc.heap.size) (by simp)
            (fun i v hv => by rw [World.cell?_alloc_at _ _ _ _ rfl]; simpa using hv)
            (five_lists (P := fun i v => OwnDs _ _ v (pick5 ra rb rc rd re i)) hA (leDs hBb (by omega)) (leDs hCc (by omega)) (leDs hDd (by omega)) (leDs hE (by omega)))
            (five_lists (P := fun i v => ∀ g, v.ownBlock = some g → pick5 w6.heap.size w7.heap.size w8.heap.size w9.heap.size wb.heap.size i ≤ g ∧ g < pick5 w7.heap.size w8.heap.size w9.heap.size wa.heap.size wc.heap.size i) sA sB sC sD sE)
            (fun i j hij hj => by
              have hj5 : j < 5 := hj
              rcases (by omega : i = 0 ∨ i = 1 ∨ i = 2 ∨ i = 3) with rfl | rfl | rfl | rfl <;> rcases (by omega : j = 1 ∨ j = 2 ∨ j = 3 ∨ j = 4) with rfl | rfl | rfl | rfl <;> simp only [pick5] <;> omega)
            (fun i hi => by
              have hi5 : i < 5 := hi
              rcases (by omega : i = 0 ∨ i = 1 ∨ i = 2 ∨ i = 3 ∨ i = 4) with rfl | rfl | rfl | rfl | rfl <;> simp only [pick5] <;> omega)
        have hap := apart_any _ _ w6.heap.size we.heap.size 5 _ hF rfl (by omega) (by omega) (fun i hi => by
          rcases (by omega : i = 0 ∨ i = 1 ∨ i = 2 ∨ i = 3 ∨ i = 4) with rfl | rfl | rfl | rfl | rfl <;> simp only [pick5] <;> omega) (by simp; omega)
        clear hwe hwe2 hF hA hBb hCc hDd hE hR hSr hSe sA sB sC sD sE
        go_wp2_with fail
        refine hap.mono ?_
        rintro e wf ⟨rfl, hwf⟩
        replace hW := hW.under hwf (fun g hg => (sW g hg).2)
        replace hB9 := hB9.trans (hwf.mono (by omega))
        clear hap hwf
        go_wp2_with fail
        refine (sortedN x1 c1 n ls _ hn (h1.kept hB9) (by omega)).mono ?_
        rintro e wg ⟨xs, cs, rs, rfl, hO9, hS9, hl9, hwg⟩
        replace hW := hW.keep hwg
        replace hB9 := hB9.trans (hwg.mono hB9.size)
        clear hwg
        go_wp2_with fail
        refine (sameN _ _ _ _ rs.length nw rs rx _ rfl hnw hO9.isDs hW.isDs (by omega) (hS9.both hSw)).mono ?_
        rintro e wh ⟨rfl, hwh⟩
        have HB : Hid _ := hB9.trans (hwh.mono hB9.size)
        clear hwh hB9 hO9 hW
        go_wp2
        go_ret
        exact ⟨rfl, HB.out⟩
end Go.Proofs.Ythkjfgncbmpllaa
