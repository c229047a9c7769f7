
import Derived.Test.YtmbkkdojjfdliaaBat6
import Derived.Test.YtmbkkdojjfdliaaPar
import Derived.Test.YtmbkkdojjfdliaaKlit
namespace Go.Proofs.Ytmbkkdojjfdliaa
open Go.RowKit

/-! What batch owes; assaylaw26's known -/
/-- A list of parts, each with its room its own, in a list of one's own. -/
structure CutP (w : World) (B : Nat) (v : Value) (C : List (List Wr)) (ps : List Pt) : Prop where
  own : OwnG 22 w B v (ps.map Pt.v)
  len : ps.length = C.length
  ok : ∀ (i : Nat) p, ps[i]? = some p → PtOk wrE w B p
  is : ∀ (i : Nat) p ds, ps[i]? = some p → C[i]? = some ds → PtIs wrE w p ds
  ap : ∀ (i j : Nat) p q, i ≠ j → ps[i]? = some p → ps[j]? = some q → ∀ b t, p.has 65 b t → ¬ q.has 65 b t
theorem CutP.isLL {w : World} {B : Nat} {v : Value} {C : List (List Wr)} {ps : List Pt} (h : CutP w B v C ps) : IsLL w v C := by
  refine ⟨_, h.own.isG, by rw [List.length_map]; exact h.len, fun i ds hi => ?_⟩
  obtain ⟨p, hp⟩ : ∃ p, ps[i]? = some p := ⟨_, List.getElem?_eq_getElem (by rw [h.len]; exact (List.getElem?_eq_some_iff.1 hi).1)⟩
  have hI := h.is i p ds hp hi
  refine ⟨some ⟨p.g, p.o, none⟩, p.c, ?_, ?_⟩
  · rw [List.getElem?_map, hp, hI.1]; rfl
  · have := hI.isK wrE_ok (h.ok i p hp)
    rw [hI.1]
    exact this
structure BatOk : Prop where
  cut : ∀ (l : List Wr) (x0 : Option Addr) (n c : Nat) (w : World), l.length = n → IsK wrE w (.slice x0 n c) l → (n + 1) * 72 ≤ 140737488355328 →
    Calls Try.prog 8 #[.slice x0 n c] w fun e w' => ∃ y k c' ps, e = .returned (.slice y k c') ∧ nbW (srtW l).length = k ∧ CutP w' w.heap.size (.slice y k c') (cutW (srtW l)) ps ∧ Below w.heap.size w w'
  left : ∀ (l : List Wr) (x0 : Option Addr) (n c : Nat) (D : List (List Wr)) (xd : Option Addr) (nd cd : Nat) (w : World), l.length = n → IsK wrE w (.slice x0 n c) l → (n + 1) * 72 ≤ 140737488355328 → D.length = nd → IsLL w (.slice xd nd cd) D → nd ≤ 140737488355328 → (∀ e ∈ D, e.length ≤ 140737488355328) →
    Calls Try.prog 9 #[.slice x0 n c, .slice xd nd cd] w fun e w' => ∃ y k c', e = .returned (.slice y k c') ∧ (leftW (srtW l) D).length = k ∧ OwnK wrE w' w.heap.size (.slice y k c') (leftW (srtW l) D) ∧ Below w.heap.size w w'
def s26 : Sc := upd secZ 0 1
def sec0B (x : Value) : Sem Next := do pure (.value (← Instr.build 27 #[(0, x)]))
def wrBS2 (x y : Value) : Sem Next := do pure (.value (← Instr.buildSlice 22 2 #[(0, x), (1, y)]))
def wrBS3 (x y z : Value) : Sem Next := do pure (.value (← Instr.buildSlice 22 3 #[(0, x), (1, y), (2, z)]))
def wrBS4 (x y z u : Value) : Sem Next := do pure (.value (← Instr.buildSlice 22 4 #[(0, x), (1, y), (2, z), (3, u)]))
section
variable (ρ : Operand → Value) (dst : Option Tmp) (ty : TypeId) (pos : String) (after : Array Edge) (guard : Option (Nat × Bool))
@[go_sem ↓] theorem execOp_sec0B (x : Operand) : execOp ρ { dst, op := .build 27 #[(0, x)], type := ty, pos, after, guard } = sec0B (ρ x) := by simp [execOp, sec0B]
@[go_sem ↓] theorem execOp_wrBS2 (x y : Operand) : execOp ρ { dst, op := .buildSlice 22 2 #[(0, x), (1, y)], type := ty, pos, after, guard } = wrBS2 (ρ x) (ρ y) := by simp [execOp, wrBS2]
@[go_sem ↓] theorem execOp_wrBS3 (x y z : Operand) : execOp ρ { dst, op := .buildSlice 22 3 #[(0, x), (1, y), (2, z)], type := ty, pos, after, guard } = wrBS3 (ρ x) (ρ y) (ρ z) := by simp [execOp, wrBS3]
@[go_sem ↓] theorem execOp_wrBS4 (x y z u : Operand) : execOp ρ { dst, op := .buildSlice 22 4 #[(0, x), (1, y), (2, z), (3, u)], type := ty, pos, after, guard } = wrBS4 (ρ x) (ρ y) (ρ z) (ρ u) := by simp [execOp, wrBS4]
end
@[go_sem] theorem run_sec0B (w : World) : (sec0B (.int .u8 1)).run Try.prog w = .ok (.value (.agg (secA s26))) w := by
  simp only [sec0B, Sem.run_bind]
  rw [run_build w 27 #[(0, .int .u8 1)] (secA s26) (by kernel_rfl)]; rfl
theorem lit26 (w : World) (ds : List Wr) (h0 : 0 < ds.length) (h1 : ds.length ≤ 1000) : (Instr.buildSlice 22 ds.length (kPs wrE ds 0).toArray).run Try.prog w = .ok (.slice (some ⟨w.heap.size, 0, none⟩) ds.length ds.length) (w.alloc (.cells (flK wrE ds).toArray 29)) :=
  run_litKn wrE_ok w ds h0 (by show ds.length * 65 ≤ _; omega)
@[go_sem] theorem run_wrBS2 (w : World) (a b : Wr) : (wrBS2 (.agg (wrA a)) (.agg (wrA b))).run Try.prog w = .ok (.value (.slice (some ⟨w.heap.size, 0, none⟩) 2 2)) (w.alloc (.cells (flK wrE [a, b]).toArray 29)) := by
  have h := lit26 w [a, b] (by simp) (by simp)
  simp only [kPs, wrE_arr] at h
  simp only [wrBS2, Sem.run_bind]
  exact (congrArg (fun r => Result.andThen r _) h).trans rfl
@[go_sem] theorem run_wrBS3 (w : World) (a b c : Wr) : (wrBS3 (.agg (wrA a)) (.agg (wrA b)) (.agg (wrA c))).run Try.prog w = .ok (.value (.slice (some ⟨w.heap.size, 0, none⟩) 3 3)) (w.alloc (.cells (flK wrE [a, b, c]).toArray 29)) := by
  have h := lit26 w [a, b, c] (by simp) (by simp)
  simp only [kPs, wrE_arr] at h
  simp only [wrBS3, Sem.run_bind]
  exact (congrArg (fun r => Result.andThen r _) h).trans rfl
@[go_sem] theorem run_wrBS4 (w : World) (a b c d : Wr) : (wrBS4 (.agg (wrA a)) (.agg (wrA b)) (.agg (wrA c)) (.agg (wrA d))).run Try.prog w = .ok (.value (.slice (some ⟨w.heap.size, 0, none⟩) 4 4)) (w.alloc (.cells (flK wrE [a, b, c, d]).toArray 29)) := by
  have h := lit26 w [a, b, c, d] (by simp) (by simp)
  simp only [kPs, wrE_arr] at h
  simp only [wrBS4, Sem.run_bind]
  exact (congrArg (fun r => Result.andThen r _) h).trans rfl
def kn1 : List Wr := [(5, secZ), (3, secZ), (9, secZ), (5, s26)]
def kn2 : List Wr := [(3, secZ), (5, s26), (9, secZ)]
def kn3 : List Wr := [(5, secZ), (3, secZ)]
theorem kn1_srt : srtW kn1 = kn2 := by simp [srtW, kn1, kn2, insW]
theorem kn1_cut : cutW (srtW kn1) = [kn2] := by rw [kn1_srt]; rfl
theorem kn3_left : leftW (srtW kn3) [[(5, secZ)]] = [(3, secZ)] := by simp [srtW, kn3, insW, leftW, hasW]
theorem new26 (w : World) (ds : List Wr) (h : ds.length ≤ 1000) : IsK wrE (w.alloc (.cells (flK wrE ds).toArray 29)) (.slice (some ⟨w.heap.size, 0, none⟩) ds.length ds.length) ds := (OwnK.lit wrE_ok w ds (by unfold maxLen; omega)).isK wrE_ok
set_option linter.unusedSimpArgs false in
set_option maxRecDepth 100000 in
set_option maxHeartbeats 16000000 in
theorem known26_any (H : BatOk) (w : World) : Calls Try.prog 7 #[] w fun e w' => e = .returned (.bool true) ∧ Below w.heap.size w w' := by
  have hC := H.cut kn1 (some ⟨w.heap.size, 0, none⟩) 4 4 _ rfl (new26 w kn1 (by decide)) (by omega)
  have b0 := below_alloc w (.cells (flK wrE kn1).toArray 29)
  go_enter Try.func7, Try.ntmps7
  go_wp2_with fail
  refine hC.mono ?_
  rintro e w1 ⟨ys, k, c', ps, rfl, hk, hP, b1⟩
  clear hC
  have hk1 : k = 1 := by rw [← hk, kn1_srt]; rfl
  subst hk1
  rw [kn1_cut] at hP
  have hI := hP.isLL
  have c1 : Below w.heap.size w w1 := b0.trans (b1.mono b0.size)
  clear hk hP b0 b1
  have d1 := below_alloc w1 (.cells (flK wrE kn3).toArray 29)
  have d2 := below_alloc (w1.alloc (.cells (flK wrE kn3).toArray 29)) (.cells (wrA (5, secZ)) 29)
  have d3 := below_alloc ((w1.alloc (.cells (flK wrE kn3).toArray 29)).alloc (.cells (wrA (5, secZ)) 29)) (.cells #[.slice (some ⟨(w1.alloc (.cells (flK wrE kn3).toArray 29)).heap.size, 0, none⟩) 1 1] 22)
  have k1 := ((new26 w1 kn3 (by decide)).kept d2).kept d3
  have k2 : IsK wrE ((w1.alloc (.cells (flK wrE kn3).toArray 29)).alloc (.cells (wrA (5, secZ)) 29)) (.slice (some ⟨(w1.alloc (.cells (flK wrE kn3).toArray 29)).heap.size, 0, none⟩) 1 1) [(5, secZ)] := by
    have := (OwnK.lit1 wrE_ok (w1.alloc (.cells (flK wrE kn3).toArray 29)) (5, secZ)).isK wrE_ok
    rw [wrE_arr] at this
    exact this
  have k3 : IsLL (((w1.alloc (.cells (flK wrE kn3).toArray 29)).alloc (.cells (wrA (5, secZ)) 29)).alloc (.cells #[.slice (some ⟨(w1.alloc (.cells (flK wrE kn3).toArray 29)).heap.size, 0, none⟩) 1 1] 22)) (.slice (some ⟨((w1.alloc (.cells (flK wrE kn3).toArray 29)).alloc (.cells (wrA (5, secZ)) 29)).heap.size, 0, none⟩) 1 1) [[(5, secZ)]] :=
    ⟨_, (OwnG.lit 22 _ [.slice (some ⟨(w1.alloc (.cells (flK wrE kn3).toArray 29)).heap.size, 0, none⟩) 1 1] (by show 1 ≤ maxLen; decide)).isG, rfl, fun i ds hi => by
      rcases i with _ | i
      · simp at hi; subst hi
        exact ⟨_, 1, rfl, k2.kept d3⟩
      · simp at hi⟩
  have d12 : Below w1.heap.size w1 (((w1.alloc (.cells (flK wrE kn3).toArray 29)).alloc (.cells (wrA (5, secZ)) 29)).alloc (.cells #[.slice (some ⟨(w1.alloc (.cells (flK wrE kn3).toArray 29)).heap.size, 0, none⟩) 1 1] 22)) := (d1.trans (d2.mono d1.size)).trans (d3.mono (Nat.le_trans d1.size d2.size))
  have hL := H.left kn3 (some ⟨w1.heap.size, 0, none⟩) 2 2 [[(5, secZ)]] _ 1 1 _ rfl k1 (by omega) rfl k3 (by omega) (fun e he => by simp at he; subst he; simp)
  have hI2 := hI.kept d12
  have C2 := c1.trans (d12.mono c1.size)
  clear d1 d2 d3 k1 k2 k3 hI c1 d12
  have hto : ∀ X : World, Below (((w1.alloc (.cells (flK wrE kn3).toArray 29)).alloc (.cells (wrA (5, secZ)) 29)).alloc (.cells #[.slice (some ⟨(w1.alloc (.cells (flK wrE kn3).toArray 29)).heap.size, 0, none⟩) 1 1] 22)).heap.size (((w1.alloc (.cells (flK wrE kn3).toArray 29)).alloc (.cells (wrA (5, secZ)) 29)).alloc (.cells #[.slice (some ⟨(w1.alloc (.cells (flK wrE kn3).toArray 29)).heap.size, 0, none⟩) 1 1] 22)) X → IsLL X (.slice ys 1 c') [kn2] ∧ Below w.heap.size w X := fun X hX => ⟨hI2.kept hX, C2.trans (hX.mono C2.size)⟩
  simp only [World.size_alloc] at hL hto
  clear hI2 C2
  go_wp2_with fail
  refine hL.mono ?_
  rintro e w3 ⟨ym, km, cm, rfl, hkm, oM, b3⟩
  clear hL
  have hk1 : km = 1 := by rw [← hkm, kn3_left]; rfl
  subst hk1
  rw [kn3_left] at oM
  obtain ⟨hI3, C3⟩ := hto w3 b3
  clear hto hkm b3
  obtain ⟨b, o, y, d, rfl, hb, q1, hK⟩ := hI3.at 0 kn2 rfl
  rw [Nat.add_zero] at q1
  have dA := below_alloc w3 (.cells (flK wrE kn2).toArray 29)
  have hS := same26_any y (some ⟨w3.heap.size, 0, none⟩) d 3 3 3 kn2 kn2 _ rfl rfl (hK.kept dA) (new26 w3 kn2 (by decide)) (by omega)
  have C4 := C3.trans (dA.mono C3.size)
  have oM4 := oM.keep dA
  clear hK C3 oM dA hI3
  rw [show kn2.length = 3 from rfl] at q1
  simp only [decide_true] at hS
  go_wp2_with fail
  refine hS.mono ?_
  rintro e w5 ⟨rfl, b5⟩
  clear hS q1
  have oM5 := oM4.keep b5
  have C5 := C4.trans (b5.mono C4.size)
  clear oM4 C4 b5
  have dB := below_alloc w5 (.cells (wrA (3, secZ)) 29)
  have kB : IsK wrE (w5.alloc (.cells (wrA (3, secZ)) 29)) (.slice (some ⟨w5.heap.size, 0, none⟩) 1 1) [(3, secZ)] := by
    have := (OwnK.lit1 wrE_ok w5 (3, secZ)).isK wrE_ok
    rw [wrE_arr] at this
    exact this
  have hS := same26_any ym (some ⟨w5.heap.size, 0, none⟩) cm 1 1 1 [(3, secZ)] [(3, secZ)] _ rfl rfl ((oM5.keep dB).isK wrE_ok) kB (by omega)
  have C6 := C5.trans (dB.mono C5.size)
  clear oM5 C5 dB kB
  simp only [decide_true] at hS
  go_wp2_with fail
  refine hS.mono ?_
  rintro e w6 ⟨rfl, b6⟩
  clear hS
  have C7 := C6.trans (b6.mono C6.size)
  clear C6 b6
  have hC := H.cut [] none 0 0 w6 rfl ((OwnK.nil wrE w6 0).isK wrE_ok) (by omega)
  go_wp2_with fail
  refine hC.mono ?_
  rintro e w7 ⟨ys, k, c'', ps2, rfl, hk, -, b7⟩
  clear hC
  have hk1 : k = 0 := by rw [← hk]; rfl
  subst hk1
  have C8 : Hid _ := C7.trans (b7.mono C7.size)
  clear C7 b7 hk
  go_wp2
  go_ret
  exact ⟨rfl, C8.out⟩
end Go.Proofs.Ytmbkkdojjfdliaa
