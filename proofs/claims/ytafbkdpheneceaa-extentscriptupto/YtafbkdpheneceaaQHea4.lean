import Derived.Test.YtafbkdpheneceaaQHea3
namespace Go.Proofs.Ytafbkdpheneceaa
open Go.RowKit

/-! The heap's push -/
def spLit1 (x : Value) : Sem Next := do pure (.value (← Instr.buildSlice 57 1 #[(0, x)]))
theorem execOp_spLit1 (ρ : Operand → Value) (dst : Option Tmp) (ty : TypeId) (pos : String) (after : Array Edge) (guard : Option (Nat × Bool)) (x : Operand) : execOp ρ { dst, op := .buildSlice 57 1 #[(0, x)], type := ty, pos, after, guard } = spLit1 (ρ x) := by simp [execOp, spLit1]
theorem run_spLit1 (w : World) (p : Pr) : (spLit1 (.agg (prA p))).run Try.prog w = .ok (.value (.slice (some ⟨w.heap.size, 0, none⟩) 1 1)) (w.alloc (.cells (prA p) 56)) := by
  have h := run_litK1 spE_ok (by show 2 ≤ 1000; omega) w p
  rw [spE_arr] at h
  have h' : (Instr.buildSlice 57 1 #[(0, .agg (prA p))]).run Try.prog w = .ok (.slice (some ⟨w.heap.size, 0, none⟩) 1 1) (w.alloc (.cells (prA p) 56)) := h
  simp only [spLit1, Sem.run_bind, h', Result.andThen_ok]; rfl
theorem newSp (x : World) (y : Pr) : (x.alloc (.cells (prA y) 56)).rangeAt x.heap.size 0 (spE.enc y) := fun j u hu => by
  rw [Nat.zero_add, cell_of_row _ _ j _ _ _ (heap_alloc_last x _)]
  rw [spE_enc, Array.getElem?_toList] at hu; exact hu
theorem RowC.newB (w : World) (c : Array Value) (t : TypeId) : RowC (w.alloc (.cells c t)) w.heap.size c := ⟨rowL_new w _ c t rfl, by unfold rowAt; rw [heap_alloc_last]⟩
theorem Keep.trans2 {F G : List Nat} {w w1 w2 : World} (h : Keep F w w1) (k : Keep G w1 w2) (hG : ∀ q ∈ G, q ∈ F ∨ w.heap.size ≤ q) : Keep F w w2 :=
  ⟨k.os.trans h.os, k.tape.trans h.tape, k.output.trans h.output, Nat.le_trans h.size k.size, fun i hi hn => (k.block i (Nat.lt_of_lt_of_le hi h.size) (fun hm => (hG i hm).elim hn (fun h9 => by omega))).trans (h.block i hi hn)⟩
theorem HpAt.frozen {w : World} {b o : Nat} {cur : Array Value} {T : TypeId} {v : Value} {l : List Pr} (h : HpAt w b o cur T v l) : w.frozen? ⟨b, o, none⟩ = false := by
  refine frozen_rowL ?_ o
  unfold rowL
  rw [h.box]; rfl
theorem HpAt.turn {w : World} {b o : Nat} {cur : Array Value} {T : TypeId} {v v' : Value} {l' : List Pr} (hb : w.heap[b]? = some (.cells (cur.setIfInBounds o v) T (0, 0))) (hlt : o < cur.size) (hO : OwnK spE w 0 v' l') (hne : v'.ownBlock ≠ some b) : HpAt (w.setCell ⟨b, o, none⟩ v') b o cur T v' l' ∧ Keep [b] w (w.setCell ⟨b, o, none⟩ v') := by
  have hK : Keep [b] w (w.setCell ⟨b, o, none⟩ v') := Keep.of_grown (grown_setC w b o [v']) (fun q hq => by cases hq; simp)
  refine ⟨⟨?_, hlt, hO.keeps hK (fun q hq hm => hne (by simp only [List.mem_singleton] at hm; rw [← hm]; exact hq)), hne⟩, hK⟩
  rw [heap_setCell w b o v' _ _ _ hb]
  simp
set_option linter.unusedSimpArgs false in
set_option maxHeartbeats 2000000 in
theorem push_any (w : World) (b o : Nat) (cur : Array Value) (T : TypeId) (v : Value) (l : List Pr) (p : Pr) (h : HpAt w b o cur T v l) (hn : l.length ≤ 1048000) (hU : Hp l) :
    Calls Try.prog 37 #[.pointer (some ⟨b, o, none⟩), .agg (prA p)] w fun e w' => (∃ u, e = .returned u) ∧ (∃ v' l', HpAt w' b o cur T v' l' ∧ l'.Perm (p :: l) ∧ Hp l' ∧ ∀ q, v'.ownBlock = some q → v.ownBlock = some q ∨ w.heap.size ≤ q) ∧ Keep (b :: v.ownBlock.toList) w w' := by
  obtain ⟨xp, cp, rfl⟩ := (h.own.isK spE_ok).len
  obtain ⟨np, hnp⟩ : ∃ n, l.length = n := ⟨_, rfl⟩
  rw [hnp] at h hn ⊢
  have b0 := below_alloc w (.cells (prA p) 56)
  have hH := h.later b0
  have kb := RowC.newB w (prA p) 56
  have hszX : (w.alloc (.cells (prA p) 56)).heap.size = w.heap.size + 1 := by simp
  obtain ⟨gb, hgb⟩ : ∃ q, w.heap.size = q := ⟨_, rfl⟩
  rw [hgb] at kb
  have hFp : ∀ q ∈ (Value.slice xp np cp).ownBlock.toList, q < (w.alloc (.cells (prA p) 56)).heap.size := fun q hq => (World.ownsRow.lt hH.own q (by simpa using hq)).2
  have hbs : b < w.heap.size := h.blt
  go_enter Try.func37, Try.ntmps37
  go_upto_region 1 with fail
  try simp only [hgb]
  generalize w.alloc (.cells (prA p) 56) = X at hH kb b0 hszX hFp ⊢
  have kc := hH.cell
  have HS : Hid (X.heap.size = w.heap.size + 1) := hszX
  clear h hszX
  refine wp_reliesK (kokp8 (G := (Value.slice xp np cp).ownBlock.toList)) 7 [1, 2, 3, 4, 5, 6] [Fx (.pointer (some ⟨b, o, none⟩)), Fx (.pointer (some ⟨b, o, none⟩)), Fx (.pointer (some ⟨b, o, none⟩)), Fx (.pointer (some ⟨b, o, none⟩)), Fx (.slice xp np cp), Fx (.agg (prA p)), fun v x => ∃ y, v = .slice (some ⟨y, 0, none⟩) 1 1 ∧ x.rangeAt y 0 (spE.enc p) ∧ X.heap.size ≤ y ∧ y < x.heap.size, fun v x => ∃ g' c', v = .slice (some ⟨g', 0, none⟩) (np + 1) c' ∧ OwnK spE x 0 (.slice (some ⟨g', 0, none⟩) (np + 1) c') (l ++ [p]) ∧ ((Value.slice xp np cp).ownBlock = some g' ∨ X.heap.size ≤ g'), Fx (.pointer (some ⟨b, o, none⟩)), Fx (.pointer (some ⟨b, o, none⟩))] (by simp) (by kernel_rfl) (by kernel_rfl) (by kernel_rfl) ?_ ?_ ?_ ?_
  · repeat' (first | exact all_nil | apply all_cons)
    all_goals intro v y y' hv hb
    all_goals first | exact Fx_mono _ _ _ _ hv hb | (obtain ⟨y9, h1, h2, h3, h4⟩ := hv; exact ⟨y9, h1, range_later h2 hb, h3, Nat.lt_of_lt_of_le h4 hb.size⟩) | (obtain ⟨g', c', h1, h2, h3⟩ := hv; exact ⟨g', c', h1, h2.keep hb, h3⟩)
  · simp only [List.eraseIdx]
    repeat' (first | exact all_nil | apply all_cons)
    all_goals intro v y y' hv hb
    all_goals first | exact (show Fx _ _ _ from hv) | (obtain ⟨y9, h1, h2, h3, h4⟩ := hv; exact ⟨y9, h1, range_block h2 (hb.block y9 h4 (fun hm => by have := hFp y9 hm; omega)), h3, Nat.lt_of_lt_of_le h4 hb.size⟩)
  · refine ⟨?_, ?_, ?_, ?_, ?_, ?_, ?_, ?_, ?_, ?_, trivial⟩
    all_goals
      intro ρ x hk hp ρc ρg ρf ho hd
      first | (replace hp := hp (by decide)) | clear hp
      have o0 : ρ (.tmp 0) = .pointer (some ⟨b, o, none⟩) := ho 0 rfl
      have o3 : ρ (.tmp 3) = .pointer (some ⟨gb, 0, none⟩) := ho 3 rfl
      clear ho
      try (have q1 := cell_later hp kc)
      try (have qs := kb.kept hp)
      try (have rok := qs.1)
      try (have rat := qs.2)
      simp only [depsR, depR, slotR, Fx, List.getElem?_cons_succ, List.getElem?_cons_zero, Region.binds, forall_const] at hd
      simp only [guardR, Nat.reduceBEq, cond_true, cond_false]
      go_split_ands
    · go_simp
    · go_simp
    · go_simp
    · go_simp
    · go_simp
    · go_simp
    · rw [execOp_spLit1]
      simp only [*, run_spLit1, okUpon_value]
      exact ⟨⟨_, rfl, newSp x _, hp.size, by simp⟩, below_alloc _ _⟩
    · have oP := hH.own.keep hp
      obtain ⟨⟨y, hy0, hy1, hy2, hy3⟩, hd1⟩ : (∃ y, ρ (.tmp 10) = .slice (some ⟨y, 0, none⟩) 1 1 ∧ x.rangeAt y 0 (spE.enc p) ∧ X.heap.size ≤ y ∧ y < x.heap.size) ∧ ρ (.tmp 8) = .slice xp np cp := by first | exact ⟨hd.2.1, hd.1⟩ | (constructor <;> assumption)
      obtain ⟨g9, c9, x9, hr, o1, o2, o3, o4⟩ := run_app1K spE_ok x 0 y (.slice xp np cp) l p 57 oP hy1 hy3 (by rw [hnp]; show (np + 1) * 16 ≤ _; omega) (by rw [hnp]; unfold maxLen; omega) (Nat.zero_le _)
      rw [hnp] at hr o1
      have hT : spE.S = 57 := rfl
      rw [hT] at hr
      rw [BigFrame.execOp_builtin, BigFrame.builtin_append]
      simp only [List.map_toArray, List.map_cons, List.map_nil, hy0, hd1, hr, Sem.run_bind, Result.andThen_ok, Sem.run_pure, okUponK_value]
      exact ⟨⟨g9, c9, rfl, o1, by rcases o4 with o4 | o4; exact .inl o4; exact .inr (by have := hp.size; omega)⟩, Keep.of_grown o3 (fun q hq => by rw [hq]; simp)⟩
    · go_simp
    · go_simp
  · intro vs x1 hk hw
    simp only [owed, Fx] at hw
    obtain ⟨e0, e1, e2, e3, e4, e5, ⟨y9, e6, -⟩, ⟨g', c', e7, hO, hgg⟩, e8, e9, -⟩ := hw
    simp only [List.length_cons, List.length_nil, List.take_succ_cons, List.take_zero, List.drop_succ_cons, List.drop_zero, asg, List.cons_append, List.nil_append, e0, e1, e2, e3, e4, e5, e6, e7, e8, e9]
    clear e0 e1 e2 e3 e4 e5 e6 e7 e8 e9
    have hszX := HS.out
    have hb1 : b ∉ (Value.slice xp np cp).ownBlock.toList := fun hm => hH.ne (by simpa using hm)
    have hbx : x1.heap[b]? = some (.cells (cur.setIfInBounds o (.slice xp np cp)) T (0, 0)) := by rw [hk.block b hH.blt hb1]; exact hH.box
    have hg'b : g' ≠ b := fun e => by
      rcases hgg with hgg | hgg
      · exact hH.ne (by rw [← e]; exact hgg)
      · omega
    obtain ⟨hH2, hK2⟩ := HpAt.turn (v' := .slice (some ⟨g', 0, none⟩) (np + 1) c') hbx hH.lt hO (fun e => hg'b (by cases e; rfl))
    have hfz : x1.frozen? ⟨b, o, none⟩ = false := frozen_rowL (by unfold rowL; rw [hbx]; rfl) o
    have hcx : x1.cell? ⟨b, o, none⟩ = some (.slice xp np cp) := by
      unfold World.cell?
      rw [hbx]
      simp [hH.lt]
    have hup := hU.push p
    rw [hnp] at hup
    have hri := rise_any (x1.setCell ⟨b, o, none⟩ (.slice (some ⟨g', 0, none⟩) (np + 1) c')) b o g' (np + 1) c' cur T (l ++ [p]) np hH2 (by omega) (by omega) hup
    have kc2 := hH2.cell
    have hws : IntKind.i64.wrap ((np : Int) + 1 - 1) = (np : Int) := by rw [IntKind.wrap_i64]; omega
    have hK3 : Keep (b :: (Value.slice xp np cp).ownBlock.toList) w (x1.setCell ⟨b, o, none⟩ (.slice (some ⟨g', 0, none⟩) (np + 1) c')) := ((Keep.of_below b0).trans (hk.mono (fun q hq => .inl (List.mem_cons_of_mem _ hq)))).trans (hK2.mono (fun q hq => .inl (by simp only [List.mem_singleton] at hq; simp [hq])))
    have hsz1 := hk.size
    have hsz2 := hK2.size
    go_upto_region 2 with fail
    generalize x1.setCell ⟨b, o, none⟩ (.slice (some ⟨g', 0, none⟩) (np + 1) c') = Y at hri kc2 hK3 hsz2 ⊢
    clear hH2 hK2 hbx hfz hcx hk hO
    go_wp2_with fail
    go_at_call 39
    refine hri.mono ?_
    rintro e w4 ⟨⟨u, rfl⟩, ⟨l', hH4, hP4, hU4⟩, hK4⟩
    go_wp2
    go_end0
    refine ⟨⟨_, rfl⟩, ⟨_, l', hH4, hP4.trans (List.perm_append_comm (l₁ := l) (l₂ := [p])), hU4, fun q hq => ?_⟩, hK3.trans2 hK4 (fun q hq => ?_)⟩
    · have e9 : q = g' := by cases hq; rfl
      rw [e9]
      exact hgg.imp id (fun h9 => by omega)
    · simp only [List.mem_singleton] at hq
      subst hq
      rcases hgg with h9 | h9
      · exact .inl (List.mem_cons_of_mem _ (by simpa using h9))
      · exact .inr (by omega)
/-! The heap's remove -/
/-- What was there below B is as it was. -/
structure KN (B : Nat) (w w' : World) : Prop where
  os : w'.os = w.os
  tape : w'.tape = w.tape
  output : w'.output = w.output
  size : w.heap.size ≤ w'.heap.size
  block : ∀ k, k < B → k < w.heap.size → w'.heap[k]? = w.heap[k]?
theorem KN.of_below {B : Nat} {w w' : World} (h : Below w.heap.size w w') : KN B w w' := ⟨h.os, h.tape, h.output, h.size, fun k _ hk => h.block k hk⟩
theorem KN.trans {B : Nat} {w w1 w2 : World} (h : KN B w w1) (k : KN B w1 w2) : KN B w w2 :=
  ⟨k.os.trans h.os, k.tape.trans h.tape, k.output.trans h.output, Nat.le_trans h.size k.size, fun i hb hi => (k.block i hb (Nat.lt_of_lt_of_le hi h.size)).trans (h.block i hb hi)⟩
theorem KN.below {w w' : World} (h : KN w.heap.size w w') : Below w.heap.size w w' := ⟨h.os, h.tape, h.output, h.size, fun k hk => h.block k hk hk⟩
theorem kokN {B : Nat} : KOk (KN B) := ⟨fun h => KN.of_below h, fun h k => h.trans k⟩
theorem KN.setRow {B : Nat} {w : World} {g : Nat} {c : Array Value} (_ : rowL w g = true) (hg : B ≤ g) : KN B w (w.setRow g c) := by
  have hs : (w.setRow g c).heap.size = w.heap.size := by unfold World.setRow; simp
  refine ⟨rfl, rfl, rfl, by omega, fun k hk _ => setRow_other w g k c (by omega)⟩
def RmI (B : Nat) (p : Pr) : List Value → World → Prop
  | [], _ => True
  | [v], x => ∃ g5, v = .pointer (some ⟨g5, 0, none⟩) ∧ B ≤ g5 ∧ RowC x g5 (prA prZ)
  | v :: _, x => ∃ g5, v = .pointer (some ⟨g5, 0, none⟩) ∧ B ≤ g5 ∧ RowC x g5 (prA p)
theorem RmI_later (B : Nat) (p : Pr) : ∀ vs w w', RmI B p vs w → Below w.heap.size w w' → RmI B p vs w'
  | [], _, _, _, _ => trivial
  | [_], _, _, ⟨g5, h1, h2, h3⟩, hb => ⟨g5, h1, h2, h3.kept hb⟩
  | _ :: _ :: _, _, _, ⟨g5, h1, h2, h3⟩, hb => ⟨g5, h1, h2, h3.kept hb⟩
theorem sp_bodyPost {fn : Func} {R : Ending → World → Prop} {a : Act} {w : World} (p n : Nat) (q : Pr) (hres : fn.results = #[.cell p 56]) (hp : a.tmps.getD p undef = .pointer (some ⟨n, 0, none⟩)) (hd : a.defers = [])
    (hg : RowC w n (prA q)) (h : R (.returned (.agg (prA q))) w) : bodyPost Try.prog fn R .ret a w := by
  obtain ⟨t, ht⟩ := row_of_L hg.1
  rw [hg.2] at ht
  exact bodyPost_ret (results_cell_row hres a.tmps w n t (prA q) (0, 0) _ hp ht Try.underlying56 rfl (by rw [sizeT_sp]; rfl)) hd h
theorem RowC.keeps {w w' : World} {F : List Nat} {g : Nat} {c : Array Value} (h : RowC w g c) (hk : Keep F w w') (hg : g ∉ F) : RowC w' g c := by
  have := hk.block g (rowL_lt h.1) hg
  unfold RowC rowL rowAt at *
  rw [this]; exact h
set_option linter.unusedSimpArgs false in
set_option maxHeartbeats 4000000 in
theorem remove_any (w : World) (b o g n c : Nat) (cur : Array Value) (T : TypeId) (l : List Pr) (i : Nat) (h : HpAt w b o cur T (.slice (some ⟨g, 0, none⟩) n c) l) (hi : i < n) (hn : n ≤ 1048576) (hU : Hp l) :
    Calls Try.prog 27 #[.pointer (some ⟨b, o, none⟩), .int .i64 (i : Int)] w fun e w' => e = .returned (.agg (prA (gp l i))) ∧ (∃ l', HpAt w' b o cur T (.slice (some ⟨g, 0, none⟩) (n - 1) c) l' ∧ (gp l i :: l').Perm l ∧ Hp l') ∧ Keep [b, g] w w' := by
  obtain ⟨m, hm0⟩ : ∃ m, n - 1 = m := ⟨_, rfl⟩
  have HM : Hid (n - 1 = m) := hm0
  have hm : m < n := by omega
  have hlen : l.length = n := by
    obtain ⟨-, hn', -⟩ := h.own.heap
    exact hn'.symm
  have b0 := below_alloc w (.cells (prA prZ) 56)
  have hH := h.later b0
  have kb := RowC.newB w (prA prZ) 56
  have hszX : (w.alloc (.cells (prA prZ) 56)).heap.size = w.heap.size + 1 := by simp
  obtain ⟨g4, hg4⟩ : ∃ q, w.heap.size = q := ⟨_, rfl⟩
  rw [hg4] at kb
  have hbs : b < w.heap.size := h.blt
  have hgs : g < w.heap.size := (World.ownsRow.lt h.own g rfl).2
  have hne : g ≠ b := fun e => h.ne (by rw [← e]; rfl)
  have hi1 : (i : Int) < (n : Int) := by omega
  have hi0 : (0 : Int) ≤ (i : Int) := by omega
  have hm1 : (m : Int) < (n : Int) := by omega
  have hm2 : (0 : Int) ≤ (m : Int) := by omega
  rw [hm0]
  go_enter Try.func27, Try.ntmps27
  go_upto_region 1 with fail
  try simp only [hg4]
  generalize w.alloc (.cells (prA prZ) 56) = X at hH kb b0 hszX ⊢
  have HS : Hid (X.heap.size = w.heap.size + 1) := hszX
  clear h hszX hm0
  refine wp_reliesI (kokN (B := X.heap.size)) (RmI X.heap.size (gp l i)) [13, 14] [none, none, none, none, none, none, none, none, none, none, none, none, none, some (0, [], []), some (1, [], [])] [Fx (.pointer (some ⟨b, o, none⟩)), Fx (.pointer (some ⟨b, o, none⟩)), Fx (.pointer (some ⟨b, o, none⟩)), Fx (.slice (some ⟨g, 0, none⟩) n c), Fx (.int .i64 ((i : Int))), Fx (.pointer (some ⟨g, i * 2, none⟩)), Fx (.agg (prA (gp l i))), Fx (.pointer (some ⟨b, o, none⟩)), Fx (.pointer (some ⟨b, o, none⟩)), Fx (.pointer (some ⟨b, o, none⟩)), Fx (.slice (some ⟨g, 0, none⟩) n c), Fx (.int .i64 ((n : Int))), Fx (.int .i64 ((m : Int))), fun _ _ => True, fun _ _ => True] rfl (by decide) rfl (by kernel_rfl) (by kernel_rfl) (by kernel_rfl) trivial (RmI_later _ _) ?_ ?_ ?_ ?_
  · repeat' (first | exact all_nil | apply all_cons)
    all_goals intro v y y' hv hb
    all_goals first | exact Fx_mono _ _ _ _ hv hb | exact trivial
  · intro i9 f9 hf9 hl9 v y y' hv hb
    rcases i9 with _ | i9
    · first | (cases hl9; done) | (cases hf9; first | exact hv | exact trivial)
    rcases i9 with _ | i9
    · first | (cases hl9; done) | (cases hf9; first | exact hv | exact trivial)
    rcases i9 with _ | i9
    · first | (cases hl9; done) | (cases hf9; first | exact hv | exact trivial)
    rcases i9 with _ | i9
    · first | (cases hl9; done) | (cases hf9; first | exact hv | exact trivial)
    rcases i9 with _ | i9
    · first | (cases hl9; done) | (cases hf9; first | exact hv | exact trivial)
    rcases i9 with _ | i9
    · first | (cases hl9; done) | (cases hf9; first | exact hv | exact trivial)
    rcases i9 with _ | i9
    · first | (cases hl9; done) | (cases hf9; first | exact hv | exact trivial)
    rcases i9 with _ | i9
    · first | (cases hl9; done) | (cases hf9; first | exact hv | exact trivial)
    rcases i9 with _ | i9
    · first | (cases hl9; done) | (cases hf9; first | exact hv | exact trivial)
    rcases i9 with _ | i9
    · first | (cases hl9; done) | (cases hf9; first | exact hv | exact trivial)
    rcases i9 with _ | i9
    · first | (cases hl9; done) | (cases hf9; first | exact hv | exact trivial)
    rcases i9 with _ | i9
    · first | (cases hl9; done) | (cases hf9; first | exact hv | exact trivial)
    rcases i9 with _ | i9
    · first | (cases hl9; done) | (cases hf9; first | exact hv | exact trivial)
    rcases i9 with _ | i9
    · first | (cases hl9; done) | (cases hf9; first | exact hv | exact trivial)
    rcases i9 with _ | i9
    · first | (cases hl9; done) | (cases hf9; first | exact hv | exact trivial)
    · simp at hf9
  · refine ⟨?_, ?_, ?_, ?_, ?_, ?_, ?_, ?_, ?_, ?_, ?_, ?_, ?_, ?_, ?_, trivial⟩
    all_goals
      intro ρ x hk hat ρc ρg ρf ho hd
      have o0 : ρ (.tmp 0) = .pointer (some ⟨b, o, none⟩) := ho 0 rfl
      have o1 : ρ (.tmp 1) = .int .i64 ((i : Int)) := ho 1 rfl
      clear ho
      have hx := hH.later hk.below
      have kc := hx.cell
      simp only [depsR, depR, slotR, Fx, List.getElem?_cons_succ, List.getElem?_cons_zero, Region.binds, forall_const] at hd
      simp only [guardR, List.contains_cons, List.contains_nil, List.elem_cons, List.elem_nil, Nat.reduceBEq, Bool.or_false, Bool.false_or, Bool.or_true, Bool.true_or, cond_true, cond_false]
      go_split_ands
    · go_simp
    · go_simp
    · go_simp
    · go_simp
    · go_simp
    · go_simp
    · have hh := hx.rg i hi
      go_simp
    · go_simp
    · go_simp
    · go_simp
    · go_simp
    · go_simp
    · have hw := wrapSub1 n (by omega) (by omega)
      have hm9 := HM.out
      rw [hm9] at hw
      go_simp
    · go_simp
      refine ⟨⟨trivial, x.heap.size, rfl, ?_, RowC.newB x (prA prZ) 56⟩, KN.of_below (below_alloc _ _)⟩
      exact hk.below.size
    · obtain ⟨g5, e5, hg5, hrc⟩ := hat
      simp only [valR, slotR, List.getElem?_cons_succ, List.getElem?_cons_zero] at e5
      have rok := hrc.1
      have rat := hrc.2
      have rsz : (rowAt x g5).size = 2 := by rw [rat]; exact prA_size _
      go_simp
      refine ⟨⟨trivial, g5, ?_, hg5, rowL_setRow_same _ _ _ rok, rowAt_setRow_L _ _ _ rok⟩, KN.setRow rok hg5⟩
      exact e5
  · intro vs x1 hk hw hI
    simp only [owed, Fx] at hw
    obtain ⟨e0, e1, e2, e3, e4, e5, e6, e7, e8, e9, e10, e11, e12, e13, e14, -⟩ := hw
    simp only [List.length_cons, List.length_nil, List.take_succ_cons, List.take_zero, List.drop_succ_cons, List.drop_zero, asg, List.cons_append, List.nil_append, e0, e1, e2, e3, e4, e5, e6, e7, e8, e9, e10, e11, e12]
    clear e0 e1 e2 e3 e4 e5 e6 e7 e8 e9 e10 e11 e12 e13 e14
    have hszX := HS.out
    obtain ⟨g5, e13, hg5, hr5⟩ : ∃ g5, vs 13 = .pointer (some ⟨g5, 0, none⟩) ∧ X.heap.size ≤ g5 ∧ RowC x1 g5 (prA (gp l i)) := hI
    simp only [e13]
    have hH1 := hH.later hk.below
    have kb1 := kb.kept hk.below
    have b1 : Below w.heap.size w x1 := b0.trans (hk.below.mono b0.size)
    have hK1 : Keep [b, g] w x1 := Keep.of_below b1
    have h54 : g5 ≠ g4 := by omega
    have h5lt := rowL_lt hr5.1
    clear hk e13
    go_upto_region 2 with fail
    refine wp_reliesT [Fx (.pointer (some ⟨b, o, none⟩)), Fx (.pointer (some ⟨b, o, none⟩)), Fx (.pointer (some ⟨b, o, none⟩)), Fx (.slice (some ⟨g, 0, none⟩) n c), Fx (.int .i64 ((i : Int))), Fx (.pointer (some ⟨b, o, none⟩)), Fx (.pointer (some ⟨b, o, none⟩)), Fx (.pointer (some ⟨b, o, none⟩)), Fx (.slice (some ⟨g, 0, none⟩) n c), Fx (.int .i64 ((m : Int))), Fx (.pointer (some ⟨g, m * 2, none⟩)), Fx (.agg (prA (gp l m))), Fx (.pointer (some ⟨g, i * 2, none⟩))] (by kernel_rfl) (by kernel_rfl) ?_ ?_ ?_
    · repeat' (first | exact all_nil | apply all_cons)
      all_goals intro v y y' hv hb
      all_goals first | exact Fx_mono _ _ _ _ hv hb
    · refine ⟨?_, ?_, ?_, ?_, ?_, ?_, ?_, ?_, ?_, ?_, ?_, ?_, ?_, trivial⟩
      all_goals
        intro ρ x hp ρc ρg ρf ho hd
        have o0 : ρ (.tmp 0) = .pointer (some ⟨b, o, none⟩) := ho 0 rfl
        have o1 : ρ (.tmp 1) = .int .i64 ((i : Int)) := ho 1 rfl
        have o6 : ρ (.tmp 6) = .int .i64 ((m : Int)) := ho 6 rfl
        clear ho
        have hx := hH1.later hp
        have kc := hx.cell
        simp only [depsR, depR, slotR, Fx, List.getElem?_cons_succ, List.getElem?_cons_zero, Region.binds, forall_const] at hd
        simp only [guardR]
        go_split_ands
      · go_simp
      · go_simp
      · go_simp
      · go_simp
      · go_simp
      · go_simp
      · go_simp
      · go_simp
      · go_simp
      · go_simp
      · go_simp
      · have hh := hx.rg m hm
        go_simp
      · go_simp
    · intro vs x2 hp hw
      simp only [owed, Fx] at hw
      obtain ⟨e0, e1, e2, e3, e4, e5, e6, e7, e8, e9, e10, e11, e12, -⟩ := hw
      simp only [List.length_cons, List.length_nil, List.take_succ_cons, List.take_zero, List.drop_succ_cons, List.drop_zero, asg, List.cons_append, List.nil_append, e0, e1, e2, e3, e4, e5, e6, e7, e8, e9, e10, e11, e12]
      clear e0 e1 e2 e3 e4 e5 e6 e7 e8 e9 e10 e11 e12
      have hx2 := hH1.later hp
      have hr := run_sp_put hx2 i hi (gp l m)
      have hput := hx2.put i hi (gp l m)
      have hKp : Keep [b, g] w (x2.setCells g (i * 2) (spE.enc (gp l m))) := (hK1.trans (Keep.of_below hp)).trans (Keep.of_grown (grown_setC x2 g (i * 2) _) (fun q hq => by cases hq; simp))
      have hKg : Keep [g] x2 (x2.setCells g (i * 2) (spE.enc (gp l m))) := Keep.of_grown (grown_setC x2 g (i * 2) _) (fun q hq => by cases hq; simp)
      have hr5' := (hr5.kept hp).keeps hKg (by simp; omega)
      have kb2 := (kb1.kept hp).keeps hKg (by simp; omega)
      clear hH1 hr5 kb1 hx2 hp hKg hH kb
      go_upto_region 3 with fail
      generalize x2.setCells g (i * 2) (spE.enc (gp l m)) = Y at hput hKp hr5' kb2 ⊢
      have kc := hput.cell
      have hfz := hput.frozen
      have hcut : OwnK spE Y 0 (.slice (some ⟨g, 0, none⟩) m c) (outL l i) := by
        have := OwnK.cut spE_ok hput.own m (by omega)
        unfold outL
        rw [hlen, HM.out]; exact this
      obtain ⟨hH3, hK3⟩ := HpAt.turn (v' := .slice (some ⟨g, 0, none⟩) m c) hput.box hput.lt hcut (fun e => hne (by cases e; rfl))
      have hKq : Keep [b, g] w (Y.setCell ⟨b, o, none⟩ (.slice (some ⟨g, 0, none⟩) m c)) := hKp.trans (hK3.mono (fun q hq => .inl (by simp only [List.mem_singleton] at hq; simp [hq])))
      have hr6 := hr5'.keeps hK3 (by simp; omega)
      have kb3 := kb2.keeps hK3 (by simp; omega)
      have hcap : m ≤ c := by
        obtain ⟨-, -, -, -, hle, -⟩ := hcut.heap
        exact hle
      have hcap1 : (m : Int) ≤ (c : Int) := by omega
      clear hr5' kb2 hcut
      go_upto_region 4 with fail
      generalize Y.setCell ⟨b, o, none⟩ (.slice (some ⟨g, 0, none⟩) m c) = Z at hH3 hKq hr6 kb3 ⊢
      clear hput hKp kc hfz hK3
      have hperm := out_perm l i (by omega)
      by_cases hlt : i < m
      · have hlt1 : (i : Int) < (m : Int) := by omega
        have hdn := hU.out i (by rw [hlen]; omega)
        have hsk := sink_any Z b o g m c cur T (outL l i) i hH3 hlt (by omega) hdn
        go_wp2_with fail
        go_at_call 38
        refine hsk.mono ?_
        rintro e w5 ⟨⟨u, rfl⟩, ⟨l5, hH5, hP5, hU5⟩, hK5⟩
        have hri := rise_any w5 b o g m c cur T l5 i hH5 hlt (by omega) hU5
        have hr7 := hr6.keeps hK5 (by simp; omega)
        have kb4 := kb3.keeps hK5 (by simp; omega)
        have hK6 : Keep [b, g] w w5 := hKq.trans (hK5.mono (fun q hq => .inl (by simp only [List.mem_singleton] at hq; simp [hq])))
        clear hsk hr6 kb3 hK5 hKq hH3
        go_wp2_with fail
        go_at_call 39
        refine hri.mono ?_
        rintro e w6 ⟨⟨u6, rfl⟩, ⟨l6, hH6, hP6, hU6⟩, hK7⟩
        have hr8 := hr7.keeps hK7 (by simp; omega)
        have kb5 := kb4.keeps hK7 (by simp; omega)
        have hK8 : Keep [b, g] w w6 := hK6.trans (hK7.mono (fun q hq => .inl (by simp only [List.mem_singleton] at hq; simp [hq])))
        clear hri hr7 kb4 hK7 hK6 hH5
        have r1 := hr8.1
        have r2 := hr8.2
        have r3 : (rowAt w6 g5).size = 2 := by rw [r2]; exact prA_size _
        have q1 := kb5.1
        have q2 := kb5.2
        have q3 : (rowAt w6 g4).size = 2 := by rw [q2]; exact prA_size _
        have hK9 : Keep [g4] w6 (w6.setRow g4 (prA (gp l i))) := ⟨rfl, rfl, rfl, by unfold World.setRow; simp, fun k _ hk => setRow_other w6 g4 k _ (by simpa using hk)⟩
        have hrow : RowC (w6.setRow g4 (prA (gp l i))) g4 (prA (gp l i)) := ⟨rowL_setRow_same _ _ _ q1, rowAt_setRow_L _ _ _ q1⟩
        have hH7 := hH6.keep hK9 (by simp; omega) (fun q hq => by have e9 : q = g := (by cases hq; rfl); rw [e9]; simp; omega)
        go_wp2
        refine sp_bodyPost 4 g4 (gp l i) rfl rfl rfl hrow ?_
        exact ⟨rfl, ⟨l6, hH7, (List.Perm.cons _ (hP6.trans hP5)).trans hperm, hU6⟩, hK8.trans2 hK9 (fun q hq => .inr (by simp only [List.mem_singleton] at hq; omega))⟩
      · have hlt1 : ¬ (i : Int) < (m : Int) := by omega
        have hU6 := hU.out_last i (by have := HM.out; rw [hlen]; omega)
        have r1 := hr6.1
        have r2 := hr6.2
        have r3 : (rowAt Z g5).size = 2 := by rw [r2]; exact prA_size _
        have q1 := kb3.1
        have q2 := kb3.2
        have q3 : (rowAt Z g4).size = 2 := by rw [q2]; exact prA_size _
        have hK9 : Keep [g4] Z (Z.setRow g4 (prA (gp l i))) := ⟨rfl, rfl, rfl, by unfold World.setRow; simp, fun k _ hk => setRow_other Z g4 k _ (by simpa using hk)⟩
        have hrow : RowC (Z.setRow g4 (prA (gp l i))) g4 (prA (gp l i)) := ⟨rowL_setRow_same _ _ _ q1, rowAt_setRow_L _ _ _ q1⟩
        have hH7 := hH3.keep hK9 (by simp; omega) (fun q hq => by have e9 : q = g := (by cases hq; rfl); rw [e9]; simp; omega)
        go_wp2
        refine sp_bodyPost 4 g4 (gp l i) rfl rfl rfl hrow ?_
        exact ⟨rfl, ⟨_, hH7, hperm, hU6⟩, hKq.trans2 hK9 (fun q hq => .inr (by simp only [List.mem_singleton] at hq; omega))⟩
end Go.Proofs.Ytafbkdpheneceaa
