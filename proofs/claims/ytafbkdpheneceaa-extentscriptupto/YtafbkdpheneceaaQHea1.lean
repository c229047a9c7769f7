import Derived.Test.YtafbkdpheneceaaQSpn
import Derived.Test.YtafbkdpheneceaaQReli
import Derived.Test.YtafbkdpheneceaaQExtC
namespace Go.Proofs.Ytafbkdpheneceaa
open Go.RowKit

/-! A heap's box: the cell o of the block b holds the slice v, which holds l. -/
structure HpAt (w : World) (b o : Nat) (cur : Array Value) (T : TypeId) (v : Value) (l : List Pr) : Prop where
  box : w.heap[b]? = some (.cells (cur.setIfInBounds o v) T (0, 0))
  lt : o < cur.size
  own : OwnK spE w 0 v l
  ne : v.ownBlock ≠ some b
theorem HpAt.blt {w : World} {b o : Nat} {cur : Array Value} {T : TypeId} {v : Value} {l : List Pr} (h : HpAt w b o cur T v l) : b < w.heap.size := (Array.getElem?_eq_some_iff.1 h.box).1
theorem HpAt.cell {w : World} {b o : Nat} {cur : Array Value} {T : TypeId} {v : Value} {l : List Pr} (h : HpAt w b o cur T v l) : w.cell? ⟨b, o, none⟩ = some v := by
  unfold World.cell?
  rw [h.box]
  simp [h.lt]
theorem HpAt.keep {w w' : World} {b o : Nat} {cur : Array Value} {T : TypeId} {v : Value} {l : List Pr} {F : List Nat} (h : HpAt w b o cur T v l) (hk : Keep F w w') (hb : b ∉ F) (hv : ∀ q, v.ownBlock = some q → q ∉ F) : HpAt w' b o cur T v l :=
  ⟨by rw [hk.block b h.blt hb]; exact h.box, h.lt, h.own.keeps hk hv, h.ne⟩
theorem HpAt.later {w w' : World} {b o : Nat} {cur : Array Value} {T : TypeId} {v : Value} {l : List Pr} (h : HpAt w b o cur T v l) (hk : Below w.heap.size w w') : HpAt w' b o cur T v l := h.keep (F := []) (Keep.of_below hk) (by simp) (by simp)
theorem HpAt.rg {w : World} {b o g n c : Nat} {cur : Array Value} {T : TypeId} {l : List Pr} (h : HpAt w b o cur T (.slice (some ⟨g, 0, none⟩) n c) l) (i : Nat) (hi : i < n) : rgOk w g (i * 2) 2 = true ∧ rg w g (i * 2) 2 = prA (gp l i) := by
  obtain ⟨cur', hn, -⟩ := h.own.heap
  have hr := OwnK.range spE_ok h.own i (gp l i) (gp_get _ _ (by omega))
  obtain ⟨ok1, rg1⟩ := rg_of hr (spE_ok.len _)
  rw [spE_arr] at rg1
  exact ⟨ok1, rg1⟩
theorem HpAt.put {w : World} {b o g n c : Nat} {cur : Array Value} {T : TypeId} {l : List Pr} (h : HpAt w b o cur T (.slice (some ⟨g, 0, none⟩) n c) l) (i : Nat) (hi : i < n) (p : Pr) : HpAt (w.setCells g (i * 2) (spE.enc p)) b o cur T (.slice (some ⟨g, 0, none⟩) n c) (l.set i p) := by
  have hne : g ≠ b := fun e => h.ne (by rw [← e]; rfl)
  refine ⟨?_, h.lt, OwnK.put spE_ok h.own i p hi, h.ne⟩
  rw [(setC_frame g _ _ w).2.2.2.2 b (Ne.symm hne)]
  exact h.box
theorem run_sp_put {w : World} {b o g n c : Nat} {cur : Array Value} {T : TypeId} {l : List Pr} (h : HpAt w b o cur T (.slice (some ⟨g, 0, none⟩) n c) l) (i : Nat) (hi : i < n) (p : Pr) : (bigStore 56 (.pointer (some ⟨g, i * 2, none⟩)) (.agg (prA p))).run Try.prog w = .ok .skip (w.setCells g (i * 2) (spE.enc p)) := by
  have h1 := OwnK.store spE_ok h.own i p hi
  rw [spE_arr] at h1
  have h2 : (Instr.storeAt 56 (.pointer (some ⟨g, i * 2, none⟩)) (.agg (prA p))).run Try.prog w = .ok () (w.setCells g (i * 2) (spE.enc p)) := h1
  simp only [bigStore, Sem.run_bind, h2, Result.andThen_ok]
  rfl
def SwI (b o : Nat) (cur : Array Value) (T : TypeId) (v : Value) (l : List Pr) (i j : Nat) : List Value → World → Prop
  | [], w => HpAt w b o cur T v l
  | [_], w => HpAt w b o cur T v (l.set i (gp l j))
  | _, _ => True
theorem SwI_later (b o : Nat) (cur : Array Value) (T : TypeId) (v : Value) (l : List Pr) (i j : Nat) : ∀ vs w w', SwI b o cur T v l i j vs w → Below w.heap.size w w' → SwI b o cur T v l i j vs w'
  | [], _, _, h, hb => HpAt.later h hb
  | [_], _, _, h, hb => HpAt.later h hb
  | _ :: _ :: _, _, _, _, _ => trivial
set_option maxHeartbeats 1000000 in
set_option linter.unusedSimpArgs false in
theorem swap_any (w : World) (b o g n c : Nat) (cur : Array Value) (T : TypeId) (l : List Pr) (i j : Nat) (h : HpAt w b o cur T (.slice (some ⟨g, 0, none⟩) n c) l) (hi : i < n) (hj : j < n) :
    Calls Try.prog 44 #[.pointer (some ⟨b, o, none⟩), .int .i64 (i : Int), .int .i64 (j : Int)] w fun e w' => (∃ u, e = .returned u) ∧ HpAt w' b o cur T (.slice (some ⟨g, 0, none⟩) n c) (swapL l i j) ∧ Keep [g] w w' := by
  have hne : g ≠ b := fun e => h.ne (by rw [← e]; rfl)
  have kcell : ∀ x, Keep [g] w x → x.cell? ⟨b, o, none⟩ = some (.slice (some ⟨g, 0, none⟩) n c) := fun x hk => by
    have := h.cell
    unfold World.cell? at this ⊢
    rw [hk.block b h.blt (by simp; exact Ne.symm hne)]; exact this
  have hi1 : (i : Int) < (n : Int) := by omega
  have hj1 : (j : Int) < (n : Int) := by omega
  have hi0 : (0 : Int) ≤ (i : Int) := by omega
  have hj0 : (0 : Int) ≤ (j : Int) := by omega
  go_enter Try.func44, Try.ntmps44
  go_upto_region 0 with fail
  refine wp_reliesI (kokp8 (G := [g])) (SwI b o cur T (.slice (some ⟨g, 0, none⟩) n c) l i j) [25] [none, none, none, none, none, none, none, none, none, none, none, none, none, none, none, none, some (0, [], []), none, none, none, none, none, none, some (0, [], []), none, some (0, [], []), none] [Fx (.pointer (some ⟨b, o, none⟩)), Fx (.pointer (some ⟨b, o, none⟩)), Fx (.pointer (some ⟨b, o, none⟩)), Fx (.slice (some ⟨g, 0, none⟩) n c), Fx (.int .i64 ((i : Int))), Fx (.pointer (some ⟨b, o, none⟩)), Fx (.pointer (some ⟨b, o, none⟩)), Fx (.pointer (some ⟨b, o, none⟩)), Fx (.slice (some ⟨g, 0, none⟩) n c), Fx (.int .i64 ((j : Int))), Fx (.pointer (some ⟨b, o, none⟩)), Fx (.pointer (some ⟨b, o, none⟩)), Fx (.pointer (some ⟨b, o, none⟩)), Fx (.slice (some ⟨g, 0, none⟩) n c), Fx (.int .i64 ((j : Int))), Fx (.pointer (some ⟨g, j * 2, none⟩)), Fx (.agg (prA (gp l j))), Fx (.pointer (some ⟨b, o, none⟩)), Fx (.pointer (some ⟨b, o, none⟩)), Fx (.pointer (some ⟨b, o, none⟩)), Fx (.slice (some ⟨g, 0, none⟩) n c), Fx (.int .i64 ((i : Int))), Fx (.pointer (some ⟨g, i * 2, none⟩)), Fx (.agg (prA (gp l i))), Fx (.pointer (some ⟨g, i * 2, none⟩)), fun _ _ => True, Fx (.pointer (some ⟨g, j * 2, none⟩))] rfl (by decide) rfl (by kernel_rfl) (by kernel_rfl) (by kernel_rfl) h (SwI_later b o cur T _ l i j) ?_ ?_ ?_ ?_
  · repeat' (first | exact all_nil | apply all_cons)
    all_goals intro v y y' hv hb
    all_goals first | exact Fx_mono _ _ _ _ hv hb | exact trivial
  · intro i9 f9 hf9 hl9 v y y' hv hb
    rcases i9 with _ | i9
    · first | (cases hl9; done) | (cases hf9; first | exact hv | exact trivial)
    rcases i9 with _ | i9
    · first | (cases hl9; done) | (cases hf9; first | exact hv | exact trivial)
    rcases i9 with _ | i9
    · first | (cases hl9; done) | (cases hf9; first | exact hv | exact trivial)
    rcases i9 with _ | i9
    · first | (cases hl9; done) | (cases hf9; first | exact hv | exact trivial)
    rcases i9 with _ | i9
    · first | (cases hl9; done) | (cases hf9; first | exact hv | exact trivial)
    rcases i9 with _ | i9
    · first | (cases hl9; done) | (cases hf9; first | exact hv | exact trivial)
    rcases i9 with _ | i9
    · first | (cases hl9; done) | (cases hf9; first | exact hv | exact trivial)
    rcases i9 with _ | i9
    · first | (cases hl9; done) | (cases hf9; first | exact hv | exact trivial)
    rcases i9 with _ | i9
    · first | (cases hl9; done) | (cases hf9; first | exact hv | exact trivial)
    rcases i9 with _ | i9
    · first | (cases hl9; done) | (cases hf9; first | exact hv | exact trivial)
    rcases i9 with _ | i9
    · first | (cases hl9; done) | (cases hf9; first | exact hv | exact trivial)
    rcases i9 with _ | i9
    · first | (cases hl9; done) | (cases hf9; first | exact hv | exact trivial)
    rcases i9 with _ | i9
    · first | (cases hl9; done) | (cases hf9; first | exact hv | exact trivial)
    rcases i9 with _ | i9
    · first | (cases hl9; done) | (cases hf9; first | exact hv | exact trivial)
    rcases i9 with _ | i9
    · first | (cases hl9; done) | (cases hf9; first | exact hv | exact trivial)
    rcases i9 with _ | i9
    · first | (cases hl9; done) | (cases hf9; first | exact hv | exact trivial)
    rcases i9 with _ | i9
    · first | (cases hl9; done) | (cases hf9; first | exact hv | exact trivial)
    rcases i9 with _ | i9
    · first | (cases hl9; done) | (cases hf9; first | exact hv | exact trivial)
    rcases i9 with _ | i9
    · first | (cases hl9; done) | (cases hf9; first | exact hv | exact trivial)
    rcases i9 with _ | i9
    · first | (cases hl9; done) | (cases hf9; first | exact hv | exact trivial)
    rcases i9 with _ | i9
    · first | (cases hl9; done) | (cases hf9; first | exact hv | exact trivial)
    rcases i9 with _ | i9
    · first | (cases hl9; done) | (cases hf9; first | exact hv | exact trivial)
    rcases i9 with _ | i9
    · first | (cases hl9; done) | (cases hf9; first | exact hv | exact trivial)
    rcases i9 with _ | i9
    · first | (cases hl9; done) | (cases hf9; first | exact hv | exact trivial)
    rcases i9 with _ | i9
    · first | (cases hl9; done) | (cases hf9; first | exact hv | exact trivial)
    rcases i9 with _ | i9
    · first | (cases hl9; done) | (cases hf9; first | exact hv | exact trivial)
    rcases i9 with _ | i9
    · first | (cases hl9; done) | (cases hf9; first | exact hv | exact trivial)
    · simp at hf9
  · refine ⟨?_, ?_, ?_, ?_, ?_, ?_, ?_, ?_, ?_, ?_, ?_, ?_, ?_, ?_, ?_, ?_, ?_, ?_, ?_, ?_, ?_, ?_, ?_, ?_, ?_, ?_, ?_, trivial⟩
    all_goals
      intro ρ x hk hat ρc ρg ρf ho hd
      have o0 : ρ (.tmp 0) = .pointer (some ⟨b, o, none⟩) := ho 0 rfl
      have o1 : ρ (.tmp 1) = .int .i64 ((i : Int)) := ho 1 rfl
      have o2 : ρ (.tmp 2) = .int .i64 ((j : Int)) := ho 2 rfl
      clear ho
      have kc := kcell x hk
      simp only [depsR, depR, slotR, Fx, List.getElem?_cons_succ, List.getElem?_cons_zero, Region.binds, forall_const] at hd
      simp only [guardR, List.contains_cons, List.contains_nil, List.elem_cons, List.elem_nil, Nat.reduceBEq, Bool.or_false, Bool.false_or, Bool.or_true, Bool.true_or, cond_true, cond_false]
      go_split_ands
    · go_simp
    · go_simp
    · go_simp
    · go_simp
    · go_simp
    · go_simp
    · go_simp
    · go_simp
    · go_simp
    · go_simp
    · go_simp
    · go_simp
    · go_simp
    · go_simp
    · go_simp
    · go_simp
    · have hh := hat.rg j hj
      go_simp
    · go_simp
    · go_simp
    · go_simp
    · go_simp
    · go_simp
    · go_simp
    · have hh := hat.rg i hi
      go_simp
    · go_simp
    · have hr := run_sp_put hat i hi (gp l j)
      go_simp
      exact ⟨⟨trivial, hat.put i hi _⟩, Keep.of_grown (grown_setC x g (i * 2) _) (fun q hq => by cases hq; simp)⟩
    · go_simp
  · intro vs x1 hk hw hI
    simp only [owed, Fx] at hw
    obtain ⟨e0, e1, e2, e3, e4, e5, e6, e7, e8, e9, e10, e11, e12, e13, e14, e15, e16, e17, e18, e19, e20, e21, e22, e23, e24, e25, e26, -⟩ := hw
    simp only [List.length_cons, List.length_nil, List.take_succ_cons, List.take_zero, List.drop_succ_cons, List.drop_zero, asg, List.cons_append, List.nil_append, e0, e1, e2, e3, e4, e5, e6, e7, e8, e9, e10, e11, e12, e13, e14, e15, e16, e17, e18, e19, e20, e21, e22, e23, e24, e26]
    clear e0 e1 e2 e3 e4 e5 e6 e7 e8 e9 e10 e11 e12 e13 e14 e15 e16 e17 e18 e19 e20 e21 e22 e23 e24 e26 e25
    have hI' : HpAt x1 b o cur T (.slice (some ⟨g, 0, none⟩) n c) (l.set i (gp l j)) := hI
    have hr := run_sp_put hI' j hj (gp l i)
    have hfin := hI'.put j hj (gp l i)
    have hK2 : Keep [g] w (x1.setCells g (j * 2) (spE.enc (gp l i))) := hk.trans (Keep.of_grown (grown_setC x1 g (j * 2) _) (fun q hq => by cases hq; simp))
    go_wp2
    go_end0
    exact ⟨⟨_, rfl⟩, hfin, hK2⟩
end Go.Proofs.Ytafbkdpheneceaa
