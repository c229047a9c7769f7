import Derived.Test.YtalnbddkhojjbaaGreatDoorQMza
import Derived.Test.YtalnbddkhojjbaaGreatDoorQMan3
import Derived.Test.YtalnbddkhojjbaaGreatDoorQJzd
import Derived.Shelf.Abstract
namespace Go.Proofs.YtalnbddkhojjbaaGreatDoor
open Go.RowKit

structure Kx (X : Nat → Prop) (w w' : World) : Prop where
  os : w'.os = w.os
  tape : w'.tape = w.tape
  output : w'.output = w.output
  size : w.heap.size ≤ w'.heap.size
  block : ∀ k, X k → w'.heap[k]? = w.heap[k]?
theorem Kx.refl (X : Nat → Prop) (w : World) : Kx X w w := ⟨rfl, rfl, rfl, Nat.le_refl _, fun _ _ => rfl⟩
theorem Kx.trans {X : Nat → Prop} {w w1 w2 : World} (h : Kx X w w1) (k : Kx X w1 w2) : Kx X w w2 :=
  ⟨k.os.trans h.os, k.tape.trans h.tape, k.output.trans h.output, Nat.le_trans h.size k.size, fun b hb => (k.block b hb).trans (h.block b hb)⟩
theorem Kx.below {X : Nat → Prop} {w w1 : World} (h : Below w.heap.size w w1) (hX : ∀ b, X b → b < w.heap.size) : Kx X w w1 := ⟨h.os, h.tape, h.output, h.size, fun b hb => h.block b (hX b hb)⟩
theorem Kx.grown {X : Nat → Prop} {w w1 : World} {r : Option Nat} (h : w.grownBy w1 r) (hX : ∀ b, X b → b < w.heap.size ∧ r ≠ some b) : Kx X w w1 := ⟨h.os, h.tape, h.output, h.size, fun b hb => h.block b (hX b hb).1 (fun e => (hX b hb).2 e.symm)⟩
theorem Kx.less {X Y : Nat → Prop} {w w1 : World} (h : Kx X w w1) (hX : ∀ b, Y b → X b) : Kx Y w w1 := ⟨h.os, h.tape, h.output, h.size, fun b hb => h.block b (hX b hb)⟩
theorem Kx.toBelow {X : Nat → Prop} {M : Nat} {w w1 : World} (h : Kx X w w1) (hX : ∀ b, b < M → X b) : Below M w w1 := ⟨h.os, h.tape, h.output, h.size, fun b hb => h.block b (hX b hb)⟩
def GaS (gn B : Nat) (X : Nat → Prop) (w : World) (ds : List Dc) : Prop := ∃ x n c, RowC w gn #[.slice x n c] ∧ OwnK dcE w B (.slice x n c) ds ∧ gn < B ∧ B ≤ w.heap.size ∧ ∀ b, X b → b < w.heap.size ∧ b ≠ gn ∧ (Value.slice x n c).ownBlock ≠ some b
theorem GaS.keep {gn B : Nat} {X : Nat → Prop} {w w1 : World} {ds : List Dc} (h : GaS gn B X w ds) (hb : Below w.heap.size w w1) : GaS gn B X w1 ds := by
  obtain ⟨x, n, c, h1, h2, h3, h4, h5⟩ := h
  exact ⟨x, n, c, h1.kept hb, h2.keep hb, h3, Nat.le_trans h4 hb.size, fun b hX => ⟨Nat.lt_of_lt_of_le (h5 b hX).1 hb.size, (h5 b hX).2⟩⟩
theorem GaS.lt {gn B : Nat} {X : Nat → Prop} {w : World} {ds : List Dc} (h : GaS gn B X w ds) : ∀ b, X b → b < w.heap.size := by
  obtain ⟨x, n, c, h1, h2, h3, h4, h5⟩ := h
  exact fun b hb => (h5 b hb).1
theorem GaS.less {gn B : Nat} {X Y : Nat → Prop} {w : World} {ds : List Dc} (h : GaS gn B X w ds) (hX : ∀ b, Y b → X b) : GaS gn B Y w ds := by
  obtain ⟨x, n, c, h1, h2, h3, h4, h5⟩ := h
  exact ⟨x, n, c, h1, h2, h3, h4, fun b hb => h5 b (hX b hb)⟩
theorem GaS.more {gn B : Nat} {X : Nat → Prop} {w w1 : World} {ds : List Dc} (h : GaS gn B X w ds) (hb : Below w.heap.size w w1) : GaS gn B (fun b => X b ∨ (w.heap.size ≤ b ∧ b < w1.heap.size)) w1 ds := by
  obtain ⟨x, n, c, h1, h2, h3, h4, h5⟩ := h
  refine ⟨x, n, c, h1.kept hb, h2.keep hb, h3, Nat.le_trans h4 hb.size, fun b hX => ?_⟩
  rcases hX with hX | ⟨l1, l2⟩
  · exact ⟨Nat.lt_of_lt_of_le (h5 b hX).1 hb.size, (h5 b hX).2⟩
  · refine ⟨l2, fun e => ?_, fun e => ?_⟩
    · have := h1.lt; omega
    · have := (World.ownsRow.lt h2 b e).2; omega
def ClQ (gn B : Nat) (X : Nat → Prop) (d : Nd) (ds : List Dc) (w : World) (e : Ending) (w' : World) : Prop := ∃ b, e = .returned (.bool b) ∧ Kx X w w' ∧ (b = true → ∃ x, dscN d = some x ∧ ds.length + 1 ≤ 32 ∧ GaS gn B X w' (ds ++ [x])) ∧ (b = false → dscN d = none ∨ 32 ≤ ds.length)
set_option linter.unusedSimpArgs false in
set_option maxRecDepth 100000 in
set_option maxHeartbeats 8000000 in
theorem gather16_any (hF : FldOk) (hP : ParseOk) (gn B : Nat) (X : Nat → Prop) (d : Nd) (F : Nat → Prop) (v : Value) (ds : List Dc) (w : World) (hv : VlG w F v d) (hd : depN d ≤ 60000) (hG : GaS gn B X w ds) (hl : ds.length ≤ 1000) :
    Calls Tryz.prog 17 #[v, .pointer (some ⟨gn, 0, none⟩)] w fun e w' => ClQ gn B X d ds w e w' := by
  have hD := descriptor16_any hF hP d F v w hv hd
  clear hv hd
  unfold DsP at hD
  go_enter Tryz.func17, Tryz.ntmps17
  go_wp2_with fail
  refine hD.mono ?_
  rintro e w1 ⟨⟨r, b, rfl, hy, hz⟩, hb1⟩
  clear hD
  obtain ⟨m1, hm1⟩ : ∃ q, w1.heap.size = q := ⟨_, rfl⟩
  have bC := below_alloc w1 (.cells (dcA r) 35)
  have rC := RowC.new w1 (dcA r) 35
  have hbz : Below w.heap.size w (w1.alloc (.cells (dcA r) 35)) := hb1.trans (bC.mono hb1.size)
  have hKz : Kx X w (w1.alloc (.cells (dcA r) 35)) := Kx.below hbz hG.lt
  have hGz := hG.keep hbz
  rw [hm1] at rC
  go_upto_region 2 with fail
  generalize w1.alloc (.cells (dcA r) 35) = Z at rC hKz hGz ⊢
  clear hb1 bC hbz hG hm1
  obtain ⟨x, n, c, h1, h2, h3, h4, h5⟩ := hGz
  have hnl : n = ds.length := (h2.isK dcE_ok).cap.1
  obtain ⟨p1, p2⟩ := id rC
  have p3 : (rowAt Z m1).size = 33 := by rw [p2]; exact dcA_size _
  have c0 : Z.cell? ⟨gn, 0, none⟩ = some (.slice x n c) := h1.cell 0
  have bD := below_alloc Z (.cells (dcA r) 35)
  have hO2 := h2.keep bD
  have hR2 := h1.kept bD
  have hrg := dc_lit_range Z r
  have hlt2 : Z.heap.size < (Z.alloc (.cells (dcA r) 35)).heap.size := by rw [alloc_sz15]; omega
  obtain ⟨z, hz9⟩ : ∃ q, Z.heap.size = q := ⟨_, rfl⟩
  obtain ⟨g, c', w3, hr3, hO3, -, hg3, hw3⟩ := run_app1K dcE_ok _ B Z.heap.size (.slice x n c) ds r 22 hO2 hrg hlt2 (by show (ds.length + 1) * 40 ≤ _; omega) (by unfold maxLen; omega) (by have := bD.size; omega)
  rw [← hnl, hz9] at hr3
  rw [← hnl] at hO3
  have hr3' : (Builtin.append_ #[22, 22] 22 #[.slice x n c, .slice (some ⟨z, 0, none⟩) 1 1]).run Tryz.prog (Z.alloc (.cells (dcA r) 35)) = .ok (.slice (some ⟨g, 0, none⟩) (n + 1) c') w3 := hr3
  have hgz : gn < Z.heap.size := h1.lt
  have hng : (Value.slice x n c).ownBlock ≠ some gn := fun e => by have := (World.ownsRow.lt h2 gn e).1; omega
  have hR3 : RowC w3 gn #[.slice x n c] := hR2.block (hg3.block gn (by rw [alloc_sz15]; omega) (fun e => hng e.symm))
  have hBg : B ≤ g := (World.ownsRow.lt hO3 g rfl).1
  have hK3 : Kx X w w3 := (hKz.trans (Kx.below bD (fun b hb => (h5 b hb).1))).trans (Kx.grown hg3 (fun b hb => ⟨by rw [alloc_sz15]; have := (h5 b hb).1; omega, (h5 b hb).2.2⟩))
  have hs3 : Z.heap.size ≤ w3.heap.size := Nat.le_trans bD.size hg3.size
  have hgs := grL_set w3 gn 0 (.slice (some ⟨g, 0, none⟩) (n + 1) c')
  have hK4 : Kx X w (w3.setCell ⟨gn, 0, none⟩ (.slice (some ⟨g, 0, none⟩) (n + 1) c')) := hK3.trans (Kx.grown hgs (fun b hb => ⟨by have := (h5 b hb).1; omega, fun e => (h5 b hb).2.1 (by cases e; rfl)⟩))
  have hR4 : RowC (w3.setCell ⟨gn, 0, none⟩ (.slice (some ⟨g, 0, none⟩) (n + 1) c')) gn #[.slice (some ⟨g, 0, none⟩) (n + 1) c'] := hR3.set 0 _
  have hO4 : OwnK dcE (w3.setCell ⟨gn, 0, none⟩ (.slice (some ⟨g, 0, none⟩) (n + 1) c')) B (.slice (some ⟨g, 0, none⟩) (n + 1) c') (ds ++ [r]) := hO3.other14 (fun q hq => heap_setCell_ne _ _ _ _ _ (fun e => by have h9 : some g = some q := hq; cases h9; omega))
  have hown : ∀ b, X b → (Value.slice (some ⟨g, 0, none⟩) (n + 1) c').ownBlock ≠ some b := fun b hb e => by
    have h9 : some g = some b := e
    cases h9
    rcases hw3 with h8 | h8
    · exact (h5 g hb).2.2 h8
    · rw [alloc_sz15] at h8; have := (h5 g hb).1; omega
  have HG4 : Hid (GaS gn B X (w3.setCell ⟨gn, 0, none⟩ (.slice (some ⟨g, 0, none⟩) (n + 1) c')) (ds ++ [r])) := ⟨_, _, _, hR4, hO4, h3, by have := hgs.size; omega, fun b hb => ⟨by have := (h5 b hb).1; have := hgs.size; omega, (h5 b hb).2.1, hown b hb⟩⟩
  have c3 : w3.cell? ⟨gn, 0, none⟩ = some (.slice x n c) := hR3.cell 0
  have z3 : w3.frozen? ⟨gn, 0, none⟩ = false := hR3.frozen 0
  have c4 : (w3.setCell ⟨gn, 0, none⟩ (.slice (some ⟨g, 0, none⟩) (n + 1) c')).cell? ⟨gn, 0, none⟩ = some (.slice (some ⟨g, 0, none⟩) (n + 1) c') := hR4.cell 0
  have HK4 : Hid (Kx X w (w3.setCell ⟨gn, 0, none⟩ (.slice (some ⟨g, 0, none⟩) (n + 1) c'))) := hK4
  have HNL : Hid (n = ds.length) := hnl
  clear hr3 h1 h2 h5 hO2 hR2 hrg hlt2 hO3 hg3 hw3 hgz hng hR3 hBg hK3 hs3 hgs hK4 hR4 hO4 hown bD hKz rC hnl
  go_upto_region 3 with (at_builtin; refine wpL_appG 22 rfl _ _ rfl _ w3 (by exact hr3') ?_)
  generalize w3.setCell ⟨gn, 0, none⟩ (.slice (some ⟨g, 0, none⟩) (n + 1) c') = W at HG4 HK4 c4 ⊢
  clear c3 z3 hr3' p1 p2 p3 c0
  cases b with
  | false =>
    have HN : Hid (dscN d = none) := by
      show _ = _
      cases h9 : dscN d with
      | none => rfl
      | some x => have := (hy x h9).2; cases this
    clear hy hz
    go_wp2
    go_ret
    exact ⟨false, rfl, HK4.out, fun h => (by cases h), fun _ => .inl HN.out⟩
  | true =>
    have HY : Hid (dscN d = some r) := by
      show _ = _
      cases h9 : dscN d with
      | none => have := (hz h9).2; cases this
      | some x => rw [(hy x h9).1]
    clear hy hz
    by_cases h32 : n + 1 ≤ 32
    · have i1 : ((n : Int) + 1 ≤ 32) := by omega
      go_wp2
      go_ret
      exact ⟨true, by simp [i1], HK4.out, fun _ => ⟨r, HY.out, by rw [← HNL.out]; exact h32, HG4.out⟩, fun h => (by cases h)⟩
    · have i1 : ¬ ((n : Int) + 1 ≤ 32) := by omega
      go_wp2
      go_ret
      exact ⟨false, by simp [i1], HK4.out, fun h => (by cases h), fun _ => .inr (by rw [← HNL.out]; omega)⟩
end Go.Proofs.YtalnbddkhojjbaaGreatDoor
namespace Go.Proofs.YtalnbddkhojjbaaGreatDoor
set_option linter.unusedSimpArgs false
open Go.RowKit

theorem entersR16 : ∀ args w, (callFunc 17 args).run Tryz.prog w = .ok (.enter 17 args) w := enters_of Tryz.func17 (by kernel_rfl) rfl
def GfQ (gn B : Nat) (X : Nat → Prop) (d : Nd) (key : List UInt8) (ds : List Dc) (w : World) (e : Ending) (w' : World) : Prop := ∃ b, e = .returned (.bool b) ∧ Kx X w w' ∧ (b = true → ∃ c x, fldN d key = some c ∧ dscN c = some x ∧ ds.length + 1 ≤ 32 ∧ GaS gn B X w' (ds ++ [x])) ∧ (b = false → ∀ c, fldN d key = some c → dscN c = none ∨ 32 ≤ ds.length)
set_option maxRecDepth 100000 in
set_option maxHeartbeats 8000000 in
theorem gatherField16_any (hF : FldOk) (hP : ParseOk) (gn B : Nat) (X : Nat → Prop) (d : Nd) (F : Nat → Prop) (v : Value) (s : ByteArray) (key : List UInt8) (hk : lS s = key) (ds : List Dc) (w : World) (hv : VlG w F v d) (hd : depN d ≤ 60000) (hdf : ∀ c, fldN d key = some c → depN c ≤ 60000) (hG : GaS gn B X w ds) (hl : ds.length ≤ 1000) :
    Calls Tryz.prog 40 #[v, .string s, .func (.func 17) #[] #[.pointer (some ⟨gn, 0, none⟩)]] w fun e w' => GfQ gn B X d key ds w e w' := by
  have hf := hF d F v s w hv hd
  rw [hk] at hf
  clear hk hv hd
  unfold FdQ at hf
  have hE := entersR16
  go_enter Tryz.func40, Tryz.ntmps40
  go_upto_region 1 with fail
  go_wp2_with fail
  refine hf.mono ?_
  rintro e w1 ⟨⟨x, b, rfl, hy, hno⟩, hb1⟩
  clear hf
  have hK1 : Kx X w w1 := Kx.below hb1 hG.lt
  have hG1 := hG.keep hb1
  cases hO : fldN d key with
  | none =>
    obtain ⟨rfl, rfl⟩ := hno hO
    have HO : Hid (fldN d key = none) := hO
    clear hy hno hO
    go_wp2
    go_ret
    exact ⟨false, rfl, hK1, fun h => (by cases h), fun _ c h => by rw [HO.out] at h; cases h⟩
  | some dd =>
    obtain ⟨rfl, hx⟩ := hy dd hO
    have hC := gather16_any hF hP gn B X dd _ x ds w1 hx (hdf dd hO) hG1 hl
    have HO : Hid (fldN d key = some dd) := hO
    clear hy hno hO hx hdf
    unfold ClQ at hC
    go_wp2_with fail
    refine hC.mono ?_
    rintro e w2 ⟨b, rfl, hK2, h1, h2⟩
    clear hC
    have HK : Hid (Kx X w w2) := hK1.trans hK2
    go_wp2
    go_ret
    refine ⟨b, rfl, HK.out, fun hb => ?_, fun hb c hc => ?_⟩
    · obtain ⟨y, q1, q2, q3⟩ := h1 hb
      exact ⟨dd, y, HO.out, q1, q2, q3⟩
    · rw [HO.out] at hc
      cases hc
      exact h2 hb
def GlQ (gn B : Nat) (X : Nat → Prop) (d : Nd) (key : List UInt8) (ds : List Dc) (w : World) (e : Ending) (w' : World) : Prop := ∃ b, e = .returned (.bool b) ∧ Kx X w w' ∧ (b = true → ∃ y L, fldN d key = some y ∧ dscL y = some L ∧ ds.length + L.length ≤ 32 ∧ GaS gn B X w' (ds ++ L)) ∧ (b = false → ∀ y, fldN d key = some y → dscL y = none ∨ ∃ L, dscL y = some L ∧ 32 < ds.length + L.length)
theorem dscA_len : ∀ (vs : List Nd) (L : List Dc), dscA vs = some L → L.length = vs.length
  | [], L, h => by rw [dscA] at h; cases h; rfl
  | a :: r, L, h => by
    rw [dscA] at h
    cases h1 : dscN a with
    | none => rw [h1] at h; cases h
    | some x =>
      cases h2 : dscA r with
      | none => rw [h1, h2] at h; cases h
      | some M =>
        rw [h1, h2] at h
        simp only [Option.some.injEq] at h
        subst h
        rw [List.length_cons, List.length_cons, dscA_len r M h2]
def LstQ (w w1 : World) (o : Option Nd) (x : Value) : Prop := ∃ sx m c ok us ys, (Instr.typeAssert x 42 73 true).run Tryz.prog w1 = .ok (.tuple #[.slice sx m c, .bool ok]) w1 ∧ IsG w1 (.slice sx m c) us ∧ us.length = m ∧ ys.length = m ∧ m ≤ 1759218604441 ∧ (0 < m → ∀ p, sx = some p → w.heap.size ≤ p.block) ∧ (∀ (i : Nat) u y, us[i]? = some u → ys[i]? = some y → VlG w1 (w.heap.size ≤ ·) u y) ∧ (∀ y ∈ ys, ∃ z, o = some z ∧ depN y ≤ depN z) ∧ (ok = true → ∃ y, o = some y ∧ dscL y = dscA ys) ∧ (ok = false → m = 0 ∧ ∀ y, o = some y → dscL y = none)
theorem isG_nilL (w : World) : IsG w (.slice none 0 0) [] := .inl ⟨rfl, rfl⟩
theorem lst_no {w w1 : World} {o : Option Nd} {x : Value} (h : (Instr.typeAssert x 42 73 true).run Tryz.prog w1 = .ok (.tuple #[.slice none 0 0, .bool false]) w1) (ho : ∀ y, o = some y → y.kd ≠ 5) : LstQ w w1 o x :=
  ⟨none, 0, 0, false, [], [], h, isG_nilL w1, rfl, rfl, by omega, fun h => absurd h (by omega), fun i u y h => (by simp at h), fun y h => (by simp at h), fun h => (by cases h), fun _ => ⟨rfl, fun y hy => by unfold dscL; rw [if_neg (ho y hy)]⟩⟩
theorem depL_in : ∀ (vs : List Nd) (d : Nd), d ∈ vs → depN d ≤ depL vs
  | a :: r, d, h => by
    rw [depL]
    rcases List.mem_cons.1 h with rfl | h
    · omega
    · have := depL_in r d h; omega
theorem lst_any {w w1 : World} {o : Option Nd} {x : Value} {b : Bool} (hy : ∀ d, o = some d → b = true ∧ VlG w1 (w.heap.size ≤ ·) x d) (hno : o = none → b = false ∧ x = .nilIface) : LstQ w w1 o x := by
  cases o with
  | none =>
    obtain ⟨-, rfl⟩ := hno rfl
    exact lst_no (ta_nil_List w1) (fun y h => (by cases h))
  | some dd =>
    obtain ⟨-, hx⟩ := hy dd rfl
    cases hx using VlG.rc with
    | nil k hk => exact lst_no (ta_nil_List w1) (fun y h => by cases h; exact fun h9 => hk (by have h8 : k = 5 := h9; omega))
    | null => exact lst_no (ta_Null_List _ w1) (fun y h => by cases h; show (1 : Int) ≠ 5; decide)
    | bool b => exact lst_no (ta_Bool_List _ w1) (fun y h => by cases h; show (2 : Int) ≠ 5; decide)
    | num n hn => exact lst_no (ta_Num_List _ w1) (fun y h => by cases h; show (3 : Int) ≠ 5; decide)
    | str s => exact lst_no (ta_Str_List _ w1) (fun y h => by cases h; show (4 : Int) ≠ 5; decide)
    | list a us ds hv hF hl hz he r9 =>
      clear r9
      obtain ⟨ax, an, ac⟩ := a
      have hnum : an = us.length := IsG.num (a := ⟨ax, an, ac⟩) hv
      refine ⟨ax, an, ac, true, us, ds, ta_List_List _ w1, hv, hnum.symm, by omega, hz, hF, he, fun y h => ⟨_, rfl, ?_⟩, fun _ => ⟨_, rfl, ?_⟩, fun h => (by cases h)⟩
      · rw [depN_mk, if_pos (.inl rfl)]
        have := depL_in ds y h
        omega
      · unfold dscL
        rw [if_pos (show (Nd.mk 5 0 [] [] ds).kd = 5 from rfl)]
        rfl
    | obj ks a kb us ds hk hkF hv hF hl hz he r9 => clear r9; exact lst_no (ta_Object_List _ w1) (fun y h => by cases h; show (6 : Int) ≠ 5; decide)
set_option maxRecDepth 100000 in
set_option maxHeartbeats 8000000 in
theorem gatherList16_any (hF : FldOk) (hP : ParseOk) (gn B : Nat) (X : Nat → Prop) (d : Nd) (F : Nat → Prop) (v : Value) (s : ByteArray) (key : List UInt8) (hk : lS s = key) (ds : List Dc) (w : World) (hv : VlG w F v d) (hd : depN d ≤ 60000) (hdf : ∀ c, fldN d key = some c → depN c ≤ 60000) (hG : GaS gn B X w ds) (hl : ds.length ≤ 32) :
    Calls Tryz.prog 41 #[v, .string s, .func (.func 17) #[] #[.pointer (some ⟨gn, 0, none⟩)]] w fun e w' => GlQ gn B X d key ds w e w' := by
  have hf := hF d F v s w hv hd
  rw [hk] at hf
  clear hk hv hd
  unfold FdQ at hf
  have hE := entersR16
  obtain ⟨O, hO⟩ : ∃ q, fldN d key = q := ⟨_, rfl⟩
  have HO : Hid (fldN d key = O) := hO
  rw [hO] at hf hdf
  clear hO
  go_enter Tryz.func41, Tryz.ntmps41
  go_upto_region 1 with fail
  go_wp2_with fail
  refine hf.mono ?_
  rintro e w1 ⟨⟨x, b, rfl, hy, hno⟩, hb1⟩
  clear hf
  obtain ⟨sx, m, c, ok, us, ys, hT, hI, hum, hym, hm, hbl, hel, hdp, hyes, hnot⟩ := lst_any hy hno
  have HK1 : Hid (Kx X w w1) := Kx.below hb1 hG.lt
  have hG1 := hG.more hb1
  have HH : Hid (IsG w1 (.slice sx m c) us ∧ us.length = m ∧ ys.length = m ∧ (0 < m → ∀ p, sx = some p → w.heap.size ≤ p.block) ∧ (∀ (i : Nat) u y, us[i]? = some u → ys[i]? = some y → VlG w1 (w.heap.size ≤ ·) u y) ∧ (∀ y ∈ ys, depN y ≤ 60000)) := ⟨hI, hum, hym, hbl, hel, fun y h => by
    obtain ⟨z, h1, h2⟩ := hdp y h
    exact Nat.le_trans h2 (hdf z h1)⟩
  have HY : Hid ((ok = true → ∃ y, O = some y ∧ dscL y = dscA ys) ∧ (ok = false → m = 0 ∧ ∀ y, O = some y → dscL y = none)) := ⟨hyes, hnot⟩
  have H0 : Hid (∃ L, dscA (ys.take 0) = some L ∧ L.length = 0 ∧ ds.length + 0 ≤ 32 ∧ GaS gn B (fun b => X b ∨ (w.heap.size ≤ b ∧ b < w1.heap.size)) w1 (ds ++ L) ∧ Kx (fun b => X b ∨ (w.heap.size ≤ b ∧ b < w1.heap.size)) w1 w1) := ⟨[], rfl, rfl, by omega, by rw [List.append_nil]; exact hG1, Kx.refl _ _⟩
  clear hy hno hI hum hym hbl hel hdp hyes hnot hG1 hb1 hG hdf hl
  go_wp2_with fail
  clear hT
  go_loopw [26] (fun iv wr => ∃ i : Nat, i ≤ m ∧ iv = .int .i64 i ∧ ∃ L, dscA (ys.take i) = some L ∧ L.length = i ∧ ds.length + i ≤ 32 ∧ GaS gn B (fun b => X b ∨ (w.heap.size ≤ b ∧ b < w1.heap.size)) wr (ds ++ L) ∧ Kx (fun b => X b ∨ (w.heap.size ≤ b ∧ b < w1.heap.size)) w1 wr) (fun iv _ => m - (intOf iv).toNat)
  case atStart => exact ⟨0, Nat.zero_le _, rfl, H0.out⟩
  case round =>
    clear H0
    obtain ⟨i, hi, rfl, L, hL, hLl, hdl, hGi, hKi⟩ := hrel
    have HL : Hid (dscA (ys.take i) = some L ∧ L.length = i ∧ ds.length + i ≤ 32) := ⟨hL, hLl, hdl⟩
    clear hL hLl hdl
    by_cases hlt : i < m
    · have i1 : (i : Int) < (m : Int) := by omega
      have i0 : (0 : Int) ≤ (i : Int) := by omega
      obtain ⟨hI, hum, hym, hbl, hel, hdp⟩ := HH.out
      obtain ⟨u, hu⟩ : ∃ q, us[i]? = some q := ⟨_, List.getElem?_eq_getElem (by omega)⟩
      obtain ⟨y, hyy⟩ : ∃ q, ys[i]? = some q := ⟨_, List.getElem?_eq_getElem (by omega)⟩
      obtain ⟨b, o, rfl, hbw, cu⟩ := IsG.spot hI i (by omega)
      have hbb : w.heap.size ≤ b := hbl (by omega) _ rfl
      have q1 : wr.cell? ⟨b, o + i, none⟩ = some u := by rw [World.cell?_of_block (a := ⟨b, o + i, none⟩) (hKi.block b (.inr ⟨hbb, hbw⟩))]; exact cu i u hu
      have hvl : VlG wr (w.heap.size ≤ ·) u y := (hel i u y hu hyy).ag (fun b h1 h2 => hKi.block b (.inr ⟨h1, h2⟩))
      have hC := gather16_any hF hP gn B _ y _ u (ds ++ L) wr hvl (hdp y (List.mem_of_getElem? hyy)) hGi (by rw [List.length_append]; have := HL.out; omega)
      have HYY : Hid (ys[i]? = some y ∧ ys.length = m) := ⟨hyy, hym⟩
      have hwr : IntKind.i64.wrap ((i : Int) + 1) = (i : Int) + 1 := by rw [IntKind.wrap_i64]; omega
      clear hI hum hym hbl hel hdp hu hyy cu hbw hbb hvl hGi
      unfold ClQ at hC
      go_wp2_with fail
      refine hC.mono ?_
      rintro e w2 ⟨r, rfl, hK2, h1, h2⟩
      clear hC q1
      have hK3 := hKi.trans hK2
      cases r with
      | false =>
        have HQ : Hid (∀ z, O = some z → dscL z = none ∨ ∃ L, dscL z = some L ∧ 32 < ds.length + L.length) := by
          intro z hz
          cases hok : ok with
          | false => exact .inl ((HY.out.2 hok).2 z hz)
          | true =>
            obtain ⟨z', e1, e2⟩ := HY.out.1 hok
            rw [hz] at e1
            cases e1
            rw [e2]
            rcases h2 rfl with h3 | h3
            · exact .inl (dscA_none ys i y HYY.out.1 h3)
            · cases hA : dscA ys with
              | none => exact .inl rfl
              | some M =>
                refine .inr ⟨M, rfl, ?_⟩
                have h4 := dscA_len ys M hA
                have h5 := HYY.out.2
                have h6 := HL.out.2.1
                rw [List.length_append] at h3
                omega
        have HK : Hid (Kx X w w2) := HK1.out.trans (hK3.less (fun b h => .inl h))
        clear h1 h2 hK2 hKi hK3
        go_wp2
        go_ret
        exact ⟨false, rfl, HK.out, fun h => (by cases h), fun _ z hz => HQ.out z (by rw [← HO.out]; exact hz)⟩
      | true =>
        obtain ⟨q, e1, e2, e3⟩ := h1 rfl
        have HR : Hid (∃ L, dscA (ys.take (i + 1)) = some L ∧ L.length = i + 1 ∧ ds.length + (i + 1) ≤ 32 ∧ GaS gn B (fun b => X b ∨ (w.heap.size ≤ b ∧ b < w1.heap.size)) w2 (ds ++ L) ∧ Kx (fun b => X b ∨ (w.heap.size ≤ b ∧ b < w1.heap.size)) w1 w2) := by
          refine ⟨L ++ [q], ?_, by rw [List.length_append, HL.out.2.1]; rfl, ?_, by rw [← List.append_assoc]; exact e3, hK3⟩
          · rw [List.take_add_one, HYY.out.1, Option.toList_some, dscA_snoc, HL.out.1, e1]
          · rw [List.length_append, HL.out.2.1] at e2; omega
        clear h1 h2 hK2 hKi hK3 e1 e2 e3
        go_wp2
        go_roundw
        case rel => first | exact ⟨i + 1, by omega, by go_num, HR.out⟩ | ((repeat apply Exists.intro); refine ⟨⟨i + 1, by omega, ?_, HR.out⟩, rfl⟩; go_num)
        case measure => simp [intOf]; omega
    · obtain rfl : i = m := by omega
      have i1 : ¬ (i : Int) < (i : Int) := by omega
      have HK : Hid (Kx X w wr) := HK1.out.trans (hKi.less (fun b h => .inl h))
      have hL : dscA ys = some L := by have h9 := HL.out.1; rw [List.take_of_length_le (by have := HH.out.2.2.1; omega)] at h9; exact h9
      have HG : Hid (GaS gn B X wr (ds ++ L)) := hGi.less (fun b h => .inl h)
      have HLL : Hid (dscA ys = some L) := hL
      clear hL hGi hKi
      go_wp2
      go_ret
      refine ⟨ok, rfl, HK.out, fun hok => ?_, fun hok z hz => ?_⟩
      · obtain ⟨z, e1, e2⟩ := HY.out.1 hok
        exact ⟨z, L, by rw [HO.out]; exact e1, by rw [e2]; exact HLL.out, by have := HL.out.2; omega, HG.out⟩
      · exact .inl ((HY.out.2 hok).2 z (by rw [← HO.out]; exact hz))
end Go.Proofs.YtalnbddkhojjbaaGreatDoor
