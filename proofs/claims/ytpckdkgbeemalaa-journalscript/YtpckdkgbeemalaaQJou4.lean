import Derived.Test.YtpckdkgbeemalaaQJouM
import Derived.Test.YtpckdkgbeemalaaQJou2
import Derived.Test.YtpckdkgbeemalaaQDv9
namespace Go.Proofs.Ytpckdkgbeemalaa
open Go.RowKit

/-! assaylaw10's known -/
def sBd10 (x : Value) : Sem Next := do pure (.value (← Instr.build 44 #[(0, x)]))
def wr2L (x y : Value) : Sem Next := do pure (.value (← Instr.buildSlice 23 2 #[(0, x), (1, y)]))
section
variable (ρ : Operand → Value) (dst : Option Tmp) (ty ty' : TypeId) (pos : String) (after : Array Edge) (guard : Option (Nat × Bool))
@[go_sem ↓] theorem execOp_sBd10 (x : Operand) : execOp ρ { dst, op := .build 44 #[(0, x)], type := ty, pos, after, guard } = sBd10 (ρ x) := by simp [execOp, sBd10]
@[go_sem ↓] theorem execOp_wr2L (x y : Operand) : execOp ρ { dst, op := .buildSlice 23 2 #[(0, x), (1, y)], type := ty, pos, after, guard } = wr2L (ρ x) (ρ y) := by simp [execOp, wr2L]
end
@[go_sem] theorem run_sBd7 (w : World) : (sBd10 (.int .u8 7)).run Try.prog w = .ok (.value (.agg (secA s7k))) w := by
  simp only [sBd10, Sem.run_bind]
  rw [run_build w 44 #[(0, .int .u8 7)] (secA s7k) (by kernel_rfl)]; rfl
@[go_sem] theorem run_sBd8 (w : World) : (sBd10 (.int .u8 8)).run Try.prog w = .ok (.value (.agg (secA s8k))) w := by
  simp only [sBd10, Sem.run_bind]
  rw [run_build w 44 #[(0, .int .u8 8)] (secA s8k) (by kernel_rfl)]; rfl
def l2A : Array Value := (flK wrE l2k).toArray
theorem fill2k : Instr.fill (fun i => some (i * 65, 65)) ((Array.range (2 * 65)).map ((Value.agg (wrA wrZ)).cells[· % (Value.agg (wrA wrZ)).cells.size]!)) [(0, .agg (wrA (20, s7k))), (1, .agg (wrA (21, s8k)))] = some l2A := by kernel_rfl
@[go_sem] theorem run_wr2L (w : World) : (wr2L (.agg (wrA (20, s7k))) (.agg (wrA (21, s8k)))).run Try.prog w = .ok (.value (.slice (some ⟨w.heap.size, 0, none⟩) 2 2)) (w.alloc (.cells l2A 54)) := by
  obtain ⟨i, hi, hzz⟩ := Option.map_eq_some_iff.1 wrE_ok.info
  simp only [Prod.mk.injEq] at hzz
  obtain ⟨hz, hs, hby⟩ := hzz
  have hk : wrE.k = 65 := rfl
  rw [hk] at hs
  have hz' : i.zero = some (.agg (wrA wrZ)) := by rw [hz]; rfl
  have h := run_buildSlice (P := Try.prog) w 23 54 2 #[(0, .agg (wrA (20, s7k))), (1, .agg (wrA (21, s8k)))] l2A i _ wrE_ok.und hi hz' (by rw [hs]; omega) (by rw [hs]; omega) (by rw [hs]; exact fill2k)
  simp only [wr2L, Sem.run_bind, h]
  rfl
theorem sec_self (s : Sc) : secEq s s = true := by rw [secEq_iff]; intro _ _; rfl
/-- A sector of a list of one's own, to be read. -/
theorem own_sec {w : World} {B n c i : Nat} {y : Option Addr} {l : List Sc} {s : Sc} (h : OwnK secE w B (.slice y n c) l) (hi : l[i]? = some s) : ∃ b o, y = some ⟨b, o, none⟩ ∧ rgOk w b (o + i * 64) 64 = true ∧ rg w b (o + i * 64) 64 = secA s := by
  obtain ⟨b, o, e, -, hr⟩ := (h.isK secE_ok).at i s hi
  have h1 := rg_of (k := 64) hr (by rw [secE_ok.len]; rfl)
  rw [secE_arr, secE_k] at h1
  exact ⟨b, o, e, h1.1, h1.2⟩
section
variable {DevIs : World → Value → DSt → List Nat → List Nat → Prop}
set_option linter.unusedSimpArgs false in
set_option maxRecDepth 100000 in
set_option maxHeartbeats 2000000 in
theorem known10_any (O : DvOk DevIs) (J : JOk DevIs) (Z : JNil) (w : World) : Calls Try.prog 8 #[] w fun e w' => e = .returned (.bool true) ∧ Below w.heap.size w w' := by
  have hmk := run_mkS10 w 64 (by omega)
  have hO0 := OwnK.lit secE_ok w (List.replicate 64 secZ) (by rw [List.length_replicate]; unfold maxLen; omega)
  rw [List.length_replicate] at hO0
  have hB0 : Below w.heap.size w (w.alloc (.cells (flK secE (List.replicate 64 secZ)).toArray 44)) := below_alloc w _
  have hNew := O.new (w.alloc (.cells (flK secE (List.replicate 64 secZ)).toArray 44)) (some ⟨w.heap.size, 0, none⟩) 64 64 (List.replicate 64 secZ) (by simp) (hO0.isK secE_ok) (by omega)
  have hmk' : (mkS10 (.int .i64 64) (.int .i64 64)).run Try.prog w = .ok (.value (.slice (some ⟨w.heap.size, 0, none⟩) 64 64)) (w.alloc (.cells (flK secE (List.replicate 64 secZ)).toArray 44)) := hmk
  clear hmk hO0
  go_enter Try.func8, Try.ntmps8
  go_upto_region 1 with fail
  generalize w.alloc (.cells (flK secE (List.replicate 64 secZ)).toArray 44) = X0 at hB0 hNew hmk'
  go_wp2_with fail
  go_at_call 6
  refine hNew.mono ?_
  intro e w1 hq
  obtain ⟨hb1, hq⟩ := hq
  obtain ⟨d, F, R, rfl, hd, hR⟩ : ∃ d F R, e = .returned (.tuple #[d, .int .i64 0]) ∧ DevIs w1 d (newS (List.replicate 64 secZ)) F R ∧ ∀ q ∈ R, X0.heap.size ≤ q := by
    rcases hq with ⟨-, -, d, F, R, h1, h2, h3⟩ | ⟨h, -⟩
    · exact ⟨d, F, R, h1, h2, h3⟩
    · exact absurd ⟨by omega, by omega⟩ h
  clear hq hNew hmk'
  obtain ⟨a, rfl⟩ := O.ptr hd
  have hB1 := hB0.trans (hb1.mono hB0.size)
  have hsm : StSm (newS (List.replicate 64 secZ)) := ⟨by simp [newS], by simp [newS], by simp [newS], by simp [newS]⟩
  have hA : DvAt DevIs w.heap.size w [] w1 (.pointer (some a)) st0k F R := ⟨hd, fun q hq => Nat.le_trans hB0.size (hR q hq), fun q _ h => by simp at h, fun q h => by simp at h, hB1, hB1.size⟩
  clear hd hR hb1 hB0 hB1
  go_upto_region 4 with fail
  have hAl : DvAt DevIs w.heap.size w [w1.heap.size] (w1.alloc (.cells l2A 54)) (.pointer (some a)) st0k F R := hA.add O (below_alloc _ _) w1.heap.size (Nat.le_refl _) (by simp)
  have hl2 : IsK wrE (w1.alloc (.cells l2A 54)) (.slice (some ⟨w1.heap.size, 0, none⟩) 2 2) l2k := (OwnK.lit wrE_ok w1 l2k (by decide)).isK wrE_ok
  have hDo := J.do_ (w1.alloc (.cells l2A 54)) (.pointer (some a)) st0k F R (some ⟨w1.heap.size, 0, none⟩) 2 2 l2k hAl.is hsm rfl (by omega) hl2 (fun b hb hm => by cases hb; exact hAl.no _ (O.sub hAl.is _ hm) (by simp)) (fun i hi => by
    have : i < 2 := hi
    rcases i with _ | _ | i
    · decide
    · decide
    · omega)
  rw [kn_do] at hDo
  clear hl2 hA
  go_wp2_with fail
  go_at_call 17
  refine hDo.mono ?_
  rintro e w2 ⟨rfl, F1, R1, k1, k2, k3, k4⟩
  have hA1 := (hAl.turn O k1 k3 k4).1
  clear hDo hAl k1 k2 k3 k4
  obtain ⟨u1, u2, u3⟩ := kn_acts
  have uP := kn_pend
  have u20 := kn_20
  have u4 := kn_4
  have uz := kn_2
  have uL := kn_len
  obtain ⟨rE, rK⟩ := kn_rep
  have hRS := (rep_reads (st := doS st0k l2k) kn_up.1 kn_pend (disk_empty (by rw [kn_len]; omega) (by rw [kn_len]; omega) kn_2 (sec_self _))).2.2
  obtain ⟨st1, hst1⟩ : ∃ s, doS st0k l2k = s := ⟨_, rfl⟩
  rw [hst1] at u1 u2 u3 uP u20 u4 uz uL rE rK hRS hA1
  clear hst1 hsm
  have hsm1 : StSm st1 := ⟨by rw [uP]; simp, by omega, by omega, by omega⟩
  have hAc := O.acts _ _ _ _ _ hA1.is
  rw [u1, u2, u3] at hAc
  go_upto_region 5 with fail
  go_wp2_with fail
  go_at_call 15
  refine hAc.mono ?_
  rintro e w3 ⟨rfl, hb⟩
  replace hA1 := hA1.later O hb
  clear hAc hb
  have hD1 := O.durable _ _ _ _ _ hA1.is
  rw [uL] at hD1
  go_upto_region 6 with fail
  have q7 := sec_self s7k
  have q8 := sec_self s8k
  have qz := sec_self secZ
  go_wp2_with fail
  go_at_call 13
  refine hD1.mono ?_
  rintro e w4 ⟨y4, c4, rfl, o4, hb⟩
  replace hA1 := hA1.later O hb
  obtain ⟨b4, f4, rfl, rk4, rv4⟩ := own_sec o4 u20
  clear hD1 hb o4
  have hD2 := O.durable _ _ _ _ _ hA1.is
  rw [uL] at hD2
  go_wp2_with fail
  go_at_call 13
  refine hD2.mono ?_
  rintro e w5 ⟨y5, c5, rfl, o5, hb⟩
  replace hA1 := hA1.later O hb
  obtain ⟨b5, f5, rfl, rk5, rv5⟩ := own_sec o5 u4
  clear hD2 hb o5 rk4 rv4
  have hD3 := O.durable _ _ _ _ _ hA1.is
  rw [uL] at hD3
  go_wp2_with fail
  go_at_call 13
  refine hD3.mono ?_
  rintro e w6 ⟨y6, c6, rfl, o6, hb⟩
  replace hA1 := hA1.later O hb
  obtain ⟨b6, f6, rfl, rk6, rv6⟩ := own_sec o6 uz
  clear hD3 hb o6 rk5 rv5
  go_upto_region 8 with fail
  clear rk6 rv6
  have hRp := J.replay _ _ _ _ _ hA1.is hsm1
  rw [rE, rK] at hRp
  go_wp2_with fail
  go_at_call 10
  refine hRp.mono ?_
  rintro e w7 ⟨rfl, F2, R2, k1, k2, k3, k4⟩
  have hA2 := (hA1.turn O k1 k3 k4).1
  clear hRp k1 k2 k3 k4
  have hB7 := hA2.bel
  clear hA1 hA2
  go_upto_region 9 with fail
  have hz1 := Z.replay w7
  go_wp2_with fail
  go_at_call 10
  refine hz1.mono ?_
  rintro e w8 ⟨rfl, hb8⟩
  replace hB7 := hB7.trans (hb8.mono hB7.size)
  clear hz1 hb8
  go_upto_region 10 with fail
  have hz2 := Z.do_ w8 none 0 0
  go_wp2_with fail
  go_at_call 17
  refine hz2.mono ?_
  rintro e w9 ⟨rfl, hb9⟩
  replace hB7 := hB7.trans (hb9.mono hB7.size)
  clear hz2 hb9
  have hz3 := Z.clear_ w9
  go_wp2_with fail
  go_at_call 25
  refine hz3.mono ?_
  rintro e w10 ⟨rfl, hb10⟩
  have HB : Hid (Below w.heap.size w w10) := hB7.trans (hb10.mono hB7.size)
  clear hz3 hb10 hB7
  go_wp2_with fail
  go_ret
  exact ⟨rfl, HB.out⟩
end
end Go.Proofs.Ytpckdkgbeemalaa
