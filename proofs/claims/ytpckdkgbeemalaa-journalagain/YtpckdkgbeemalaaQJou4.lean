import Derived.Test.YtpckdkgbeemalaaQJouM
import Derived.Test.YtpckdkgbeemalaaQJou2
import Derived.Test.YtpckdkgbeemalaaQDv9
namespace Go.Proofs.Ytpckdkgbeemalaa
open Go.RowKit

/-! assaylaw10's known -/
def sBd10 (x : Value) : Sem Next := do pure (.value (← Instr.build 44 #[(0, x)]))
def wr2L (x y : Value) : Sem Next := do pure (.value (← Instr.buildSlice 23 2 #[(0, x), (1, y)]))
section
variable (ρ : Operand → Value) (dst : Option Tmp) (ty ty' : TypeId) (pos : String) (after : Array Edge) (guard : Option (Nat × Bool))
@[go_sem ↓] theorem execOp_sBd10 (x : Operand) : execOp ρ { dst, op := .build 44 #[(0, x)], type := ty, pos, after, guard } = sBd10 (ρ x) := by simp [execOp, sBd10]
@[go_sem ↓] theorem execOp_wr2L (x y : Operand) : execOp ρ { dst, op := .buildSlice 23 2 #[(0, x), (1, y)], type := ty, pos, after, guard } = wr2L (ρ x) (ρ y) := by simp [execOp, wr2L]
end
@[go_sem] theorem run_sBd7 (w : World) : (sBd10 (.int .u8 7)).run Try.prog w = .ok (.value (.agg (secA s7k))) w := by
  simp only [sBd10, Sem.run_bind]
  rw [run_build w 44 #[(0, .int .u8 7)] (secA s7k) (by kernel_rfl)]; rfl
@[go_sem] theorem run_sBd8 (w : World) : (sBd10 (.int .u8 8)).run Try.prog w = .ok (.value (.agg (secA s8k))) w := by
  simp only [sBd10, Sem.run_bind]
  rw [run_build w 44 #[(0, .int .u8 8)] (secA s8k) (by kernel_rfl)]; rfl
def l2A : Array Value := (flK wrE l2k).toArray
theorem fill2k : Instr.fill (fun i => some (i * 65, 65)) ((Array.range (2 * 65)).map ((Value.agg (wrA wrZ)).cells[· % (Value.agg (wrA wrZ)).cells.size]!)) [(0, .agg (wrA (20, s7k))), (1, .agg (wrA (21, s8k)))] = some l2A := by kernel_rfl
@[go_sem] theorem run_wr2L (w : World) : (wr2L (.agg (wrA (20, s7k))) (.agg (wrA (21, s8k)))).run Try.prog w = .ok (.value (.slice (some ⟨w.heap.size, 0, none⟩) 2 2)) (w.alloc (.cells l2A 54)) := by
  obtain ⟨i, hi, hzz⟩ := Option.map_eq_some_iff.1 wrE_ok.info
  simp only [Prod.mk.injEq] at hzz
  obtain ⟨hz, hs, hby⟩ := hzz
  have hk : wrE.k = 65 := rfl
  rw [hk] at hs
  have hz' : i.zero = some (.agg (wrA wrZ)) := by rw [hz]; rfl
  have h := run_buildSlice (P := Try.prog) w 23 54 2 #[(0, .agg (wrA (20, s7k))), (1, .agg (wrA (21, s8k)))] l2A i _ wrE_ok.und hi hz' (by rw [hs]; omega) (by rw [hs]; omega) (by rw [hs]; exact fill2k)
  simp only [wr2L, Sem.run_bind, h]
  rfl
theorem sec_self (s : Sc) : secEq s s = true := by rw [secEq_iff]; intro _ _; rfl
/-- A sector of a list of one's own, to be read. -/
theorem own_sec {w : World} {B n c i : Nat} {y : Option Addr} {l : List Sc} {s : Sc} (h : OwnK secE w B (.slice y n c) l) (hi : l[i]? = some s) : ∃ b o, y = some ⟨b, o, none⟩ ∧ rgOk w b (o + i * 64) 64 = true ∧ rg w b (o + i * 64) 64 = secA s := by
  obtain ⟨b, o, e, -, hr⟩ := (h.isK secE_ok).at i s hi
  have h1 := rg_of (k := 64) hr (by rw [secE_ok.len]; rfl)
  rw [secE_arr, secE_k] at h1
  exact ⟨b, o, e, h1.1, h1.2⟩
section
variable {DevIs : World → Value → DSt → List Nat → List Nat → Prop}
set_option linter.unusedSimpArgs false in
set_option maxRecDepth 100000 in
set_option maxHeartbeats 2000000 in
theorem known10_any (O : DvOk DevIs) (J : JOk DevIs) (Z : JNil) (w : World) : Calls Try.prog 8 #[] w fun e w' => e = .returned (.bool true) ∧ Below w.heap.size w w' := by
  have hmk := run_mkS10 w 64 (by omega)
  have hO0 := OwnK.lit secE_ok w (List.replicate 64 secZ) (by rw [List.length_replicate]; unfold maxLen; omega)
  rw [List.length_replicate] at hO0
  have hB0 : Below w.heap.size w (w.alloc (.cells (flK secE (List.replicate 64 secZ)).toArray 44)) := below_alloc w _
  have hNew := O.new (w.alloc (.cells (flK secE (List.replicate 64 secZ)).toArray 44)) (some ⟨w.heap.size, 0, none⟩) 64 64 (List.replicate 64 secZ) (by simp) (hO0.isK secE_ok) (by omega)
  have hmk' : (mkS10 (.int .i64 64) (.int .i64 64)).run Try.prog w = .ok (.value (.slice (some ⟨w.heap.size, 0, none⟩) 64 64)) (w.alloc (.cells (flK secE (List.replicate 64 secZ)).toArray 44)) := hmk
  clear hmk hO0
  go_enter Try.func8, Try.ntmps8
  go_upto_region 1 with fail
  generalize w.alloc (.cells (flK secE (List.replicate 64 secZ)).toArray 44) = X0 at hB0 hNew hmk'
  go_wp2_with fail
  go_at_call 6
  refine hNew.mono ?_
  intro e w1 hq
  obtain ⟨hb1, hq⟩ := hq
  obtain ⟨d, F, R, rfl, hd, hR⟩ : ∃ d F R, e = .returned (.tuple #[d, .int .i64 0]) ∧ DevIs w1 d (newS (List.replicate 64 secZ)) F R ∧ ∀ q ∈ R, X0.heap.size ≤ q := by
    rcases hq with ⟨-, -, d, F, R, h1, h2, h3⟩ | ⟨h, -⟩
    · exact ⟨d, F, R, h1, h2, h3⟩
    · exact absurd ⟨by omega, by omega⟩ h
  clear hq hNew hmk'
  obtain ⟨a, rfl⟩ := O.ptr hd
  have hB1 := hB0.trans (hb1.mono hB0.size)
  have hsm : StSm (newS (List.replicate 64 secZ)) := ⟨by simp [newS], by simp [newS], by simp [newS], by simp [newS]⟩
  have hA : DvAt DevIs w.heap.size w [] w1 (.pointer (some a)) st0k F R := ⟨hd, fun q hq => Nat.le_trans hB0.size (hR q hq), fun q _ h => by simp at h, fun q h => by simp at h, hB1, hB1.size⟩
  clear hd hR hb1 hB0 hB1
  go_upto_region 4 with fail
  have hAl : DvAt DevIs w.heap.size w [w1.heap.size] (w1.alloc (.cells l2A 54)) (.pointer (some a)) st0k F R := hA.add O (below_alloc _ _) w1.heap.size (Nat.le_refl _) (by simp)
  have hl2 : IsK wrE (w1.alloc (.cells l2A 54)) (.slice (some ⟨w1.heap.size, 0, none⟩) 2 2) l2k := (OwnK.lit wrE_ok w1 l2k (by decide)).isK wrE_ok
  have hDo := J.do_ (w1.alloc (.cells l2A 54)) (.pointer (some a)) st0k F R (some ⟨w1.heap.size, 0, none⟩) 2 2 l2k hAl.is hsm rfl (by omega) hl2 (fun b hb hm => by cases hb; exact hAl.no _ (O.sub hAl.is _ hm) (by simp)) (fun i hi => by
    have : i < 2 := hi
    rcases i with _ | _ | i
    · decide
    · decide
    · omega)
  rw [kn_do] at hDo
  clear hl2 hA
  go_wp2_with fail
  go_at_call 17
  refine hDo.mono ?_
  rintro e w2 ⟨rfl, F1, R1, k1, k2, k3, k4⟩
  have hA1 := (hAl.turn O k1 k3 k4).1
  clear hDo hAl k1 k2 k3 k4
  obtain ⟨u1, u2, u3⟩ := kn_acts
  have uP := kn_pend
  have u20 := kn_20
  have u4 := kn_4
  have uz := kn_2
  have uL := kn_len
  obtain ⟨rE, rK⟩ := kn_rep
  have hRS := (rep_reads (st := doS st0k l2k) kn_up.1 kn_pend (disk_empty (by rw [kn_len]; omega) (by rw [kn_len]; omega) kn_2 (sec_self _))).2.2
  obtain ⟨st1, hst1⟩ : ∃ s, doS st0k l2k = s := ⟨_, rfl⟩
  rw [hst1] at u1 u2 u3 uP u20 u4 uz uL rE rK hRS hA1
  clear hst1 hsm
  have hsm1 : StSm st1 := ⟨by rw [uP]; simp, by omega, by omega, by omega⟩
  have hAc := O.acts _ _ _ _ _ hA1.is
  rw [u1, u2, u3] at hAc
  go_upto_region 5 with fail
  go_wp2_with fail
  go_at_call 15
  refine hAc.mono ?_
  rintro e w3 ⟨rfl, hb⟩
  replace hA1 := hA1.later O hb
  clear hAc hb
  have hD1 := O.durable _ _ _ _ _ hA1.is
  rw [uL] at hD1
  go_upto_region 6 with fail
  have q7 := sec_self s7k
  have q8 := sec_self s8k
  have qz := sec_self secZ
  go_wp2_with fail
  go_at_call 13
  refine hD1.mono ?_
  rintro e w4 ⟨y4, c4, rfl, o4, hb⟩
  replace hA1 := hA1.later O hb
  obtain ⟨b4, f4, rfl, rk4, rv4⟩ := own_sec o4 u20
  clear hD1 hb o4
  have hD2 := O.durable _ _ _ _ _ hA1.is
  rw [uL] at hD2
  go_wp2_with fail
  go_at_call 13
  refine hD2.mono ?_
  rintro e w5 ⟨y5, c5, rfl, o5, hb⟩
  replace hA1 := hA1.later O hb
  obtain ⟨b5, f5, rfl, rk5, rv5⟩ := own_sec o5 u4
  clear hD2 hb o5 rk4 rv4
  have hD3 := O.durable _ _ _ _ _ hA1.is
  rw [uL] at hD3
  go_wp2_with fail
  go_at_call 13
  refine hD3.mono ?_
  rintro e w6 ⟨y6, c6, rfl, o6, hb⟩
  replace hA1 := hA1.later O hb
  obtain ⟨b6, f6, rfl, rk6, rv6⟩ := own_sec o6 uz
  clear hD3 hb o6 rk5 rv5
  go_upto_region 8 with fail
  clear rk6 rv6
  have hRp := J.replay _ _ _ _ _ hA1.is hsm1
  rw [rE, rK] at hRp
  go_wp2_with fail
  go_at_call 10
  refine hRp.mono ?_
  rintro e w7 ⟨rfl, F2, R2, k1, k2, k3, k4⟩
  have hA2 := (hA1.turn O k1 k3 k4).1
  clear hRp k1 k2 k3 k4
  have hB7 := hA2.bel
  clear hA1 hA2
  go_upto_region 9 with fail
  have hz1 := Z.replay w7
  go_wp2_with fail
  go_at_call 10
  refine hz1.mono ?_
  rintro e w8 ⟨rfl, hb8⟩
  replace hB7 := hB7.trans (hb8.mono hB7.size)
  clear hz1 hb8
  go_upto_region 10 with fail
  have hz2 := Z.do_ w8 none 0 0
  go_wp2_with fail
  go_at_call 17
  refine hz2.mono ?_
  rintro e w9 ⟨rfl, hb9⟩
  replace hB7 := hB7.trans (hb9.mono hB7.size)
  clear hz2 hb9
  have hz3 := Z.clear_ w9
  go_wp2_with fail
  go_at_call 25
  refine hz3.mono ?_
  rintro e w10 ⟨rfl, hb10⟩
  have HB : Hid (Below w.heap.size w w10) := hB7.trans (hb10.mono hB7.size)
  clear hz3 hb10 hB7
  go_wp2_with fail
  go_ret
  exact ⟨rfl, HB.out⟩
end
end Go.Proofs.Ytpckdkgbeemalaa
namespace Go.Proofs.Ytpckdkgbeemalaa
open Go.RowKit

/-! JournalWhole -/
def stpA (K : Int) (x : Option Addr) (n c : Nat) : Array Value := #[.int .i64 K, .slice x n c]
@[go_sem] theorem stpA_size (K : Int) (x : Option Addr) (n c : Nat) : (stpA K x n c).size = 2 := rfl
@[go_sem] theorem stpA_one (K : Int) (x : Option Addr) (n c : Nat) : OneC (stpA K x n c) = true := by simp [OneC, stpA, Value.oneCell']
section
variable (ρ : Operand → Value) (dst : Option Tmp) (ty : TypeId) (pos : String) (after : Array Edge) (guard : Option (Nat × Bool))
@[go_sem ↓] theorem execOp_load_stp (x : Operand) : execOp ρ { dst, op := .load 47 x, type := ty, pos, after, guard } = bigLoad 47 (ρ x) := rfl
@[go_sem ↓] theorem execOp_store_stp (x y : Operand) : execOp ρ { dst, op := .store 47 x y, type := ty, pos, after, guard } = bigStore 47 (ρ x) (ρ y) := rfl
@[go_sem ↓] theorem execOp_alloc_stp : execOp ρ { dst, op := .alloc 47, type := ty, pos, after, guard } = bigAlloc 47 := rfl
@[go_sem ↓] theorem execOp_box_stp (x : Operand) : execOp ρ { dst, op := .box 47 x, type := ty, pos, after, guard } = bigBox 47 (ρ x) := rfl
end
theorem info_stp : (Try.prog.info? 47).map (fun i => (i.zero, i.size)) = some (some (.agg (stpA 0 none 0 0)), 2) := by kernel_rfl
theorem sizeT_stp : (Try.prog.info? 47).map (·.size) = some 2 := (zero_of_info info_stp).2
@[go_sem] theorem run_load_stp (w : World) (g : Nat) (h : rowL w g = true) (hs : (rowAt w g).size = 2) : (bigLoad 47 (.pointer (some ⟨g, 0, none⟩))).run Try.prog w = .ok (.value (.agg (rowAt w g))) w := by
  rw [run_bigLoad 47 _ 2 Try.underlying47 rfl sizeT_stp w g 0 h (by omega), Nat.zero_add, Array.extract_eq_self_of_le (by omega)]
@[go_sem] theorem run_store_stp (w : World) (g : Nat) (c : Array Value) (h : rowL w g = true) (hs : (rowAt w g).size = 2) (hc : c.size = 2) (h1 : OneC c = true) : (bigStore 47 (.pointer (some ⟨g, 0, none⟩)) (.agg c)).run Try.prog w = .ok .skip (w.setRow g c) := by
  rw [run_bigStore 47 2 sizeT_stp w g 0 c h hc (by omega) h1, layC_all _ _ (by omega)]
@[go_sem] theorem run_alloc_stp (w : World) : (bigAlloc 47).run Try.prog w = .ok (.value (.pointer (some ⟨w.heap.size, 0, none⟩))) (w.alloc (.cells (stpA 0 none 0 0) 47)) := by
  simp only [bigAlloc, Instr.alloc, Sem.run_bind, (zero_of_info info_stp).1 w, Result.andThen_ok]
  rfl
@[go_sem] theorem run_box_stp (w : World) (c : Array Value) : (bigBox 47 (.agg c)).run Try.prog w = .ok (.value (.pointer (some ⟨w.heap.size, 0, none⟩))) (w.alloc (.cells c 47)) := run_bigBox _ c w
theorem rg_later9 {w w1 : World} {b o : Nat} {s : Sc} (hb : Below w.heap.size w w1) (hk : rgOk w b o 64 = true) (hv : rg w b o 64 = secA s) : rgOk w1 b o 64 = true ∧ rg w1 b o 64 = secA s := by
  have h1 := rangeAt_rg hk
  rw [hv] at h1
  have h2 := rg_of (k := 64) (range_later h1 hb) (by simp)
  rw [Array.toArray_toList] at h2
  exact h2
theorem RowC.held10 {w w' : World} {g : Nat} {c : Array Value} (h : RowC w g c) (hb : w'.heap[g]? = w.heap[g]?) : RowC w' g c := h.block hb
theorem OwnK.held10 {α : Type} {E : EK α} {w w' : World} {B g n c : Nat} {ds : List α} (h : OwnK E w B (.slice (some ⟨g, 0, none⟩) n c) ds) (hb : w'.heap[g]? = w.heap[g]?) : OwnK E w' B (.slice (some ⟨g, 0, none⟩) n c) ds := by
  obtain ⟨h1, h2⟩ := h
  refine ⟨h1, ?_⟩
  rcases h2 with hn | ⟨q, cap, cur, hv, hb', hg, r⟩
  · exact .inl hn
  · refine .inr ⟨q, cap, cur, hv, hb', ?_, r⟩
    simp only [Value.slice.injEq, Option.some.injEq, Addr.mk.injEq] at hv
    obtain ⟨⟨rfl, -⟩, -⟩ := hv
    rw [hb]; exact hg
theorem isG_lt10 {w : World} {x : Addr} {n c : Nat} {xs : List Value} (h : IsG w (.slice (some x) n c) xs) (h0 : xs ≠ []) : x.block < w.heap.size := by
  rcases h with ⟨h1, -⟩ | ⟨y, d, he, hc⟩
  · cases h1
  · simp only [Value.slice.injEq, Option.some.injEq] at he
    obtain ⟨rfl, -, -⟩ := he
    have := hc 0 (List.length_pos_iff.2 h0)
    exact World.block_lt_of_cell? w _ this
theorem copyE10 {α : Type} {E : EK α} (O : E.Ok) (w : World) (x : Option Addr) (n c : Nat) (ds : List α) (ty : TypeId) (hn : ds.length = n) (h : IsK E w (.slice x n c) ds) (hl : n * E.bytes ≤ 140737488355328) (h63 : n ≤ maxLen) :
    ∃ y c1 w1, (Builtin.append_ #[E.S, E.S] ty #[.slice (some ⟨w.heap.size, 0, none⟩) 0 0, .slice x n c]).run Try.prog (w.alloc (.cells #[] E.T)) = .ok (.slice y n c1) w1 ∧ OwnK E w1 w.heap.size (.slice y n c1) ds ∧ Below w.heap.size w w1 := by
  have hb := below_alloc w (.cells #[] E.T)
  have hO := OwnK.lit0 E w
  have hI := h.kept hb
  subst hn
  obtain ⟨y, c1, w1, hr, hO1, hB1⟩ := run_copyK O (w.alloc (.cells #[] E.T)) _ x c ds w.heap.size ty hO (by simp) hI hl h63
  exact ⟨y, c1, w1, hr, hO1, hb.trans hB1⟩
theorem lentIs10 {w : World} {B g n c : Nat} {l : List Wr} {d : Wr} (h : OwnK wrE w B (.slice (some ⟨g, 0, none⟩) (n + 1) c) (l ++ [d])) (hn : l.length = n) : IsK wrE w (.slice (some ⟨g, 0, none⟩) n c) l := lentIs wrE_ok h hn
section
variable {DevIs : World → Value → DSt → List Nat → List Nat → Prop}
set_option linter.unusedSimpArgs false in
set_option maxRecDepth 100000 in
set_option maxHeartbeats 4000000 in
theorem lawJWhole_any (O : DvOk DevIs) (J : JOk DevIs) (Z : JNil) (N : Int) (xb : Option Addr) (nb cb : Nat) (M : Int) (xw : Option Addr) (nw cw : Nat) (lb : List UInt8) (lw l : List Wr) (xl : Option Addr) (L cl : Nat) (K : Int) (xs : Option Addr) (ns cs : Nat) (bs : List Bool) (w : World)
    (hlb : lb.length = nb) (hnb : nb ≤ 4611686018427387904) (hb : IsB w (.slice xb nb cb) lb) (hlw : lw.length = nw) (hnw : nw ≤ 2199023255552) (hw9 : IsK wrE w (.slice xw nw cw) lw) (hwB : WrB lw)
    (hL : l.length = L) (hL9 : L ≤ 1954687338211) (hl : IsK wrE w (.slice xl L cl) l) (hlB : WrB l) (hK : i64w K) (hbs : bs.length = ns) (hcs : ns ≤ cs) (hs : IsG w (.slice xs ns cs) (bs.map Value.bool)) :
    Calls Try.prog 4 #[.agg (dkA N xb nb cb M xw nw cw), .slice xl L cl, .agg (stpA K xs ns cs)] w fun r w' => r = .returned (.bool true) ∧ Below w.heap.size w w' := by
  have hSec := fun W (h : Below w.heap.size w W) => sectors10_any N xb nb cb 1 xw nw cw lb lw W hlb hnb (hb.kept h) hlw hnw (hw9.kept h) hwB
  have h2 := dskS_two N lb lw
  have hfl := dskS_len N lb 1 lw
  have hm64 := dskN_le N
  obtain ⟨first, hfe⟩ : ∃ f, dskS N lb 1 lw = f := ⟨_, rfl⟩
  obtain ⟨m, hme⟩ : ∃ q, dskN N = q := ⟨_, rfl⟩
  simp only [hfe, hme] at hSec h2 hfl hm64
  clear hfe hme
  go_enter Try.func4, Try.ntmps4
  go_upto_region 1 with fail
  have hB0 : Below w.heap.size w ((w.alloc (.cells (dkA N xb nb cb M xw nw cw) 25)).alloc (.cells (stpA K xs ns cs) 47)) := (below_alloc w _).alloc (by simp) _
  have hC3 : RowC ((w.alloc (.cells (dkA N xb nb cb M xw nw cw) 25)).alloc (.cells (stpA K xs ns cs) 47)) w.heap.size (dkA N xb nb cb M xw nw cw) := (RowC.new w _ _).kept (below_alloc _ _)
  have hC5 : RowC ((w.alloc (.cells (dkA N xb nb cb M xw nw cw) 25)).alloc (.cells (stpA K xs ns cs) 47)) (w.heap.size + 1) (stpA K xs ns cs) := by
    have := RowC.new (w.alloc (.cells (dkA N xb nb cb M xw nw cw) 25)) (stpA K xs ns cs) 47
    rw [World.size_alloc] at this; exact this
  obtain ⟨g5, hg5⟩ : ∃ g, w.heap.size + 1 = g := ⟨_, rfl⟩
  obtain ⟨g3, hg3⟩ : ∃ g, w.heap.size = g := ⟨_, rfl⟩
  have hne35 : g3 ≠ g5 := by omega
  have hg3w : w.heap.size ≤ g3 := by omega
  rw [hg5] at hC5
  rw [hg3] at hC3
  simp only [hg5]
  simp only [hg3]
  have HG3 : Hid (w.heap.size = g3) := hg3
  clear hg5 hg3
  generalize (w.alloc (.cells (dkA N xb nb cb M xw nw cw) 25)).alloc (.cells (stpA K xs ns cs) 47) = X0 at hB0 hC3 hC5 ⊢
  have c2 : X0.cell? ⟨g3, 2, none⟩ = some (.int .i64 M) := hC3.cell 2
  have f2 := hC3.frozen 2
  have hC3' : RowC (X0.setCell ⟨g3, 2, none⟩ (.int .i64 1)) g3 (dkA N xb nb cb 1 xw nw cw) := hC3.set 2 (.int .i64 1)
  have hC5' : RowC (X0.setCell ⟨g3, 2, none⟩ (.int .i64 1)) g5 (stpA K xs ns cs) := hC5.set_ne 2 _ hne35
  have hB1 : Below w.heap.size w (X0.setCell ⟨g3, 2, none⟩ (.int .i64 1)) := hB0.setCell (p := ⟨g3, 2, none⟩) hg3w _
  clear hC3 hC5 hB0
  go_upto_region 2 with fail
  generalize X0.setCell ⟨g3, 2, none⟩ (.int .i64 1) = X1 at hC3' hC5' hB1 ⊢
  clear c2 f2
  have hS1 := hSec X1 hB1
  have H3 : Hid (RowC X1 g3 (dkA N xb nb cb 1 xw nw cw)) := hC3'
  obtain ⟨k3, v3⟩ := hC3'
  go_wp2_with fail
  go_at_call 7
  refine hS1.mono ?_
  rintro e w2 ⟨gf, rfl, hF, hb2⟩
  clear hS1 k3 v3
  have hC3 := H3.out.kept hb2
  have hC5 := hC5'.kept hb2
  have hB2 := hB1.trans (hb2.mono hB1.size)
  replace hF := OwnK.le hF hB1.size
  clear hb2 hB1 hC5' H3
  go_upto_region 3 with fail
  have hS2 := hSec w2 hB2
  obtain ⟨k3, v3⟩ := hC3
  go_wp2_with fail
  go_at_call 7
  refine hS2.mono ?_
  rintro e w3 ⟨gh, rfl, hG, hb3⟩
  clear hS2 k3 v3
  replace hF := OwnK.keep hF hb3
  replace hC5 := hC5.kept hb3
  have hB3 := hB2.trans (hb3.mono hB2.size)
  clear hb3 hB2 hSec
  have hNew := O.new w3 (some ⟨gh, 0, none⟩) m m first hfl (hG.isK secE_ok) (by omega)
  clear hG
  go_wp2_with fail
  go_at_call 6
  refine hNew.mono ?_
  intro e w4 hq
  obtain ⟨hb4, hq⟩ := hq
  obtain ⟨d, F, R, rfl, hd, hR⟩ : ∃ d F R, e = .returned (.tuple #[d, .int .i64 0]) ∧ DevIs w4 d (newS first) F R ∧ ∀ q ∈ R, w3.heap.size ≤ q := by
    rcases hq with ⟨-, -, d, F, R, q1, q2, q3⟩ | ⟨q, -⟩
    · exact ⟨d, F, R, q1, q2, q3⟩
    · exact absurd ⟨by omega, by omega⟩ q
  clear hq hNew
  obtain ⟨a, rfl⟩ := O.ptr hd
  have hgf : gf < w3.heap.size := (World.ownsRow.lt hF gf rfl).2
  have hg5l : g5 < w3.heap.size := hC5.lt
  replace hF := OwnK.keep hF hb4
  replace hC5 := hC5.kept hb4
  have hB4 := hB3.trans (hb4.mono hB3.size)
  have hA : DvAt DevIs w.heap.size w [gf, g5] w4 (.pointer (some a)) (newS first) F R := ⟨hd, fun q hq => Nat.le_trans hB3.size (hR q hq), fun q hq hm => by
      have := hR q hq
      simp only [List.mem_cons, List.not_mem_nil, or_false] at hm
      omega, fun q hm => by
      have := hb4.size
      simp only [List.mem_cons, List.not_mem_nil, or_false] at hm
      omega, hB4, hB4.size⟩
  clear hd hR hb4 hB3 hB4 hgf hg5l
  go_upto_region 4 with fail
  have hKn := known10_any O J Z w4
  go_wp2_with fail
  go_at_call 8
  refine hKn.mono ?_
  rintro e w5 ⟨rfl, hb5⟩
  replace hF := OwnK.keep hF hb5
  replace hC5 := hC5.kept hb5
  replace hA := hA.later O hb5
  clear hKn hb5
  go_upto_region 6 with fail
  have hPt := rPut9_any l xl L cl (m : Int) w5 hL (by omega) (hl.kept hA.bel) hlB (by omega) (by omega)
  obtain ⟨MS, hMS⟩ : ∃ q, mPutS l (m : Int) = q := ⟨_, rfl⟩
  obtain ⟨ME, hME⟩ : ∃ q, mPutE l (m : Int) = q := ⟨_, rfl⟩
  rw [hMS, hME] at hPt
  go_wp2_with fail
  go_at_call 16
  refine hPt.mono ?_
  rintro e w6 ⟨rfl, hb6⟩
  clear hPt hMS
  have hb7 := hb6.trans ((below_alloc w6 (.cells (secA MS) 44)).mono hb6.size)
  replace hF := OwnK.keep hF hb7
  replace hC5 := hC5.kept hb7
  replace hA := hA.later O hb7
  clear hb6 hb7
  go_upto_region 7 with fail
  generalize w6.alloc (.cells (secA MS) 44) = X7 at hF hC5 hA ⊢
  generalize w6.heap.size = g10
  have c5 : X7.cell? ⟨g5, 0, none⟩ = some (.int .i64 K) := hC5.cell 0
  have hSt := O.stop X7 _ _ _ _ K hA.is hK.1 hK.2
  go_wp2_with fail
  go_at_call 9
  refine hSt.mono ?_
  rintro e w8 ⟨rfl, F1, R1, k1, k2, k3, k4⟩
  obtain ⟨hA1, hh⟩ := hA.turn O k1 k3 k4
  replace hF := hF.held10 (hh gf (by simp))
  replace hC5 := hC5.held10 (hh g5 (by simp))
  clear hSt k1 k2 k3 k4 hh hA c5
  obtain ⟨st0, hst0⟩ : ∃ s, stSt (newS first) K = s := ⟨_, rfl⟩
  rw [hst0] at hA1
  have hsm0 : StSm st0 := by rw [← hst0]; exact ⟨by simp [stSt, newS], by simp [stSt, newS], by simp [stSt, newS], by simp [stSt, newS]⟩
  go_upto_region 8 with fail
  have hLe := lent10_any xl L cl l w8 hL (hl.kept hA1.bel) hL9
  go_wp2_with fail
  go_at_call 18
  refine hLe.mono ?_
  rintro e w9 ⟨gl, c9, rfl, hOl, hb9⟩
  have hgl := OwnK.ge hOl
  have hgll : gl < w9.heap.size := (World.ownsRow.lt hOl gl rfl).2
  replace hF := OwnK.keep hF hb9
  replace hC5 := hC5.kept hb9
  have hA2 := hA1.add O hb9 gl hgl hgll
  clear hLe hb9 hA1
  have hDo := J.do_ w9 _ st0 _ _ (some ⟨gl, 0, none⟩) L c9 l hA2.is hsm0 hL (by omega) (lentIs10 hOl hL) (fun b hb hm => by cases hb; exact hA2.no _ (O.sub hA2.is _ hm) (by simp)) hlB
  go_wp2_with fail
  go_at_call 17
  refine hDo.mono ?_
  rintro e w10 ⟨rfl, F2, R2, k1, k2, k3, k4⟩
  obtain ⟨hA3, hh⟩ := hA2.turn O k1 k3 k4
  replace hF := hF.held10 (hh gf (by simp))
  replace hC5 := hC5.held10 (hh g5 (by simp))
  clear hDo k1 k2 k3 k4 hh hA2 hOl hgl hgll hsm0
  have hn0 : dnI st0 = (m : Int) := by rw [← hst0]; unfold dnI; show ((newS first).last.length : Int) = _; rw [← hfl]; rfl
  go_upto_region 9 with fail
  by_cases hE : ME = 0
  · subst hE
    obtain ⟨cP, cR, cW, cE, cKk, cPp, cZ, cLn, cTWO, cALL⟩ := whole_all first l K bs (by omega) (by omega) h2 (by rw [hfl]; exact hME)
    rw [hst0] at cP cR cW cE cKk cPp cZ cLn cTWO cALL
    have hbt : batB (m : Int) l = true := by
      rcases mPut_bat (n := m) (by omega) (by omega) l with ⟨-, -, h⟩ | ⟨h, -⟩
      · exact h
      · omega
    have hl8 := bat_len hbt
    rw [hL] at hl8
    obtain ⟨f9, hf9⟩ : ∃ q, doR st0 l = q := ⟨_, rfl⟩
    obtain ⟨st1, hst1⟩ : ∃ q, doS st0 l = q := ⟨_, rfl⟩
    rw [hf9, hst1] at cALL
    rw [hst1] at cP cR cW cE cKk cPp cZ cLn cTWO hA3
    rw [hf9]
    clear hf9 hst1 hst0 hn0 hME
    have hAc := O.acts _ _ _ _ _ hA3.is
    rw [cR] at hAc
    go_upto_region 11 with fail
    go_wp2_with fail
    go_at_call 15
    refine hAc.mono ?_
    rintro e w11 ⟨rfl, hb11⟩
    replace hF := OwnK.keep hF hb11
    replace hC5 := hC5.kept hb11
    replace hA3 := hA3.later O hb11
    clear hAc hb11
    go_upto_region 12 with fail
    have c51 : w11.cell? ⟨g5, 1, none⟩ = some (.slice xs ns cs) := hC5.cell 1
    have hRe := O.restart w11 _ _ _ _ xs ns cs bs hA3.is (by omega) hbs hcs (IsG.kept hs hA3.bel) (fun h0 x hx hm => by
      subst hx
      have h9 := isG_lt10 hs (by simpa using h0)
      have h8 := hA3.ge _ (O.sub hA3.is _ hm)
      omega)
    go_wp2_with fail
    go_at_call 11
    refine hRe.mono ?_
    rintro e w12 ⟨rfl, F4, R4, k1, k2, k3, k4⟩
    obtain ⟨hA4, hh⟩ := hA3.turn O k1 k3 k4
    replace hF := hF.held10 (hh gf (by simp))
    clear hRe k1 k2 k3 k4 hh hA3 c51 hC5
    have hsm2 : StSm (reSt st1 bs) := ⟨by show ([] : List Wr).length ≤ _; simp, by show st1.rd ≤ _; omega, by show st1.wt ≤ _; omega, by show st1.fl ≤ _; omega⟩
    obtain ⟨st2, hst2⟩ : ∃ q, reSt st1 bs = q := ⟨_, rfl⟩
    rw [hst2] at hA4 hsm2 cE cKk cPp cZ cLn cTWO cALL
    clear hst2
    have hRp := J.replay _ _ _ _ _ hA4.is hsm2
    rw [cE] at hRp
    obtain ⟨n9, hn9⟩ : ∃ q, repK st2 = q := ⟨_, rfl⟩
    obtain ⟨st3, hst3⟩ : ∃ q, repS st2 = q := ⟨_, rfl⟩
    rw [hn9, hst3] at hRp
    rw [hn9] at cKk
    rw [hst3] at cPp cZ cLn cTWO cALL
    clear hn9 hst3 cE
    go_upto_region 13 with fail
    go_wp2_with fail
    go_at_call 10
    refine hRp.mono ?_
    rintro e w13 ⟨rfl, F5, R5, k1, k2, k3, k4⟩
    obtain ⟨hA5, hh⟩ := hA4.turn O k1 k3 k4
    replace hF := hF.held10 (hh gf (by simp))
    clear hRp k1 k2 k3 k4 hh hA4 hsm2
    have r4 := cPp
    have c5l : st3.last.length = m := by rw [cLn, hfl]
    have c5z := cZ
    rw [hL] at cALL
    obtain ⟨A9, hA9⟩ : ∃ q, [gl, gf, g5] = q := ⟨_, rfl⟩
    rw [hA9] at hA5
    clear cPp cZ cLn hA9
    go_upto_region 14 with fail
    rcases cKk with rfl | rfl
    · skip
      have hPe := O.pending _ _ _ _ _ hA5.is (by rw [r4]; simp)
      rw [r4] at hPe
      go_wp2_with fail
      go_at_call 14
      refine hPe.mono ?_
      rintro e w14 ⟨yp, cp, rfl, -, hb14⟩
      replace hF := OwnK.keep hF hb14
      replace hA5 := hA5.later O hb14
      clear hPe hb14
      have hDu := O.durable _ _ _ _ _ hA5.is
      rw [c5l] at hDu
      have qz := sec_self secZ
      have hm2 : (2 : Int) < (m : Int) := by omega
      go_wp2_with fail
      go_at_call 13
      refine hDu.mono ?_
      rintro e w15 ⟨yd, cd, rfl, od, hb15⟩
      obtain ⟨bd, fd, rfl, rkd, rvd⟩ := own_sec od c5z
      replace hF := OwnK.keep hF hb15
      replace hA5 := hA5.later O hb15
      clear hDu hb15 od
      go_upto_region 16 with fail
      clear rkd rvd qz hm2
      have hTS : secE.S = 32 := rfl
      have hTT : secE.T = 44 := rfl
      have hgf15 : gf < w15.heap.size := (World.ownsRow.lt hF gf rfl).2
      obtain ⟨y1, c1, w16, hr1, o1, hb16⟩ := copyE10 secE_ok w15 (some ⟨gf, 0, none⟩) m m first 32 hfl (OwnK.isK secE_ok hF) (by show m * 64 ≤ _; omega) (by unfold maxLen; omega)
      rw [hTS, hTT] at hr1
      obtain ⟨gn, rfl, hgnl⟩ := OwnK.form o1 (by omega)
      have hgn := OwnK.ge o1
      have hgnw : w.heap.size ≤ gn := Nat.le_trans hA5.sz hgn
      replace hF := OwnK.keep hF hb16
      replace hA5 := hA5.add O hb16 gn hgn hgnl
      have hBu := but10_any w16 0 gn m c1 first (OwnK.le o1 (Nat.zero_le _)) (by omega)
      clear hb16 o1
      go_wp2_with (at_builtin; refine wpL_appT 32 rfl _ _ rfl (.slice (some ⟨gn, 0, none⟩) m c1) w16 (by exact hr1) ?_)
      go_at_call 20
      refine hBu.mono ?_
      rintro e w17 ⟨rfl, hNo, hK17⟩
      replace hF := OwnK.keeps hF hK17 (fun q hq => by cases hq; simp; omega)
      replace hA5 := hA5.aside O hK17 (fun q hq => by simp at hq; subst hq; exact ⟨by simp, hgnw⟩)
      have hgf17 : gf < w17.heap.size := (World.ownsRow.lt hF gf rfl).2
      have hgn17 : gn < w17.heap.size := (World.ownsRow.lt hNo gn rfl).2
      clear hr1 hBu hK17 hgn hgnl hgf15
      go_upto_region 17 with fail
      obtain ⟨y2, ca, w18, hr2, o2, hb18⟩ := copyE10 secE_ok w17 (some ⟨gf, 0, none⟩) m m first 32 hfl (OwnK.isK secE_ok hF) (by show m * 64 ≤ _; omega) (by unfold maxLen; omega)
      rw [hTS, hTT] at hr2
      obtain ⟨ga, rfl, hgal⟩ := OwnK.form o2 (by omega)
      have hga := OwnK.ge o2
      have hgaw : w.heap.size ≤ ga := Nat.le_trans hA5.sz hga
      replace hNo := OwnK.keep hNo hb18
      replace hA5 := hA5.add O hb18 ga hga hgal
      have hBu := but10_any w18 0 ga m ca first (OwnK.le o2 (Nat.zero_le _)) (by omega)
      clear hb18 o2 hF
      go_wp2_with (at_builtin; refine wpL_appT 32 rfl _ _ rfl (.slice (some ⟨ga, 0, none⟩) m ca) w18 (by exact hr2) ?_)
      go_at_call 20
      refine hBu.mono ?_
      rintro e V ⟨rfl, hAl, hK19⟩
      have hgna : gn ≠ ga := by omega
      replace hNo := OwnK.keeps hNo hK19 (fun q hq => by cases hq; simp; omega)
      replace hA5 := hA5.aside O hK19 (fun q hq => by simp at hq; subst hq; exact ⟨by simp, hgaw⟩)
      clear hr2 hBu hK19 hga hgal hgf17 hgn17
      go_upto_region 18 with fail
      have HNo : Hid (OwnK secE V 0 (.slice (some ⟨gn, 0, none⟩) m c1) (butL first)) := hNo
      have HA5 : Hid (DvAt DevIs w.heap.size w (ga :: gn :: A9) V (.pointer (some a)) st3 F5 R5) := hA5
      have HBv : Hid (Below w.heap.size w V) := hA5.bel
      have hgaV : ga < V.heap.size := (World.ownsRow.lt hAl ga rfl).2
      clear hNo hA5
      go_wp2_with fail
      go_loopw [20] (fun iv wr => ∃ i : Nat, i ≤ L ∧ iv = .int .i64 i ∧ OwnK secE wr 0 (.slice (some ⟨ga, 0, none⟩) m ca) (over (butL first) (l.take i)) ∧ Keep [ga] V wr) (fun iv _ => L - (intOf iv).toNat)
      case atStart => exact ⟨0, by omega, rfl, hAl, Keep.refl _ _⟩
      case round =>
        clear hAl
        obtain ⟨i, hi, rfl, hO, hKw⟩ := hrel
        by_cases hlt : i < L
        · have hBr : Below w.heap.size w wr := HBv.out.trans (hKw.below (fun q hq => by simp at hq; subst hq; exact hgaw) HBv.out.size)
          have hg9 : l[i]? = some (atW l i, dtW l i) := by rw [List.getElem?_eq_getElem (by omega), l_eta (by omega)]
          obtain ⟨bl, of, rfl, hbl, hrw⟩ := (hl.kept hBr).at i _ hg9
          rw [wrE_k] at hrw
          have cI := (wr_at hrw).1
          have hdt := rg_of (k := 64) (w := wr) (b := bl) (o := of + i * 65 + 1) (cs := (secA (dtW l i)).toList) (fun j u hu => by
            rw [wrE_enc, wrA_list] at hrw
            have := hrw (j + 1) u (by rw [List.getElem?_cons_succ]; exact hu)
            rwa [show of + i * 65 + (j + 1) = of + i * 65 + 1 + j by omega] at this) (by simp)
          obtain ⟨rk, rv⟩ := hdt
          rw [Array.toArray_toList] at rv
          have hat := bat_at hbt i (by omega)
          obtain ⟨at9, hat9⟩ : ∃ q : Nat, atW l i = (q : Int) := ⟨(atW l i).toNat, by omega⟩
          have hstep := over_step (l := butL first) (p := l) (i := i) (x := (atW l i, dtW l i)) (a := at9) hg9 hat9
          rw [hat9] at cI hat
          obtain ⟨dt, hdte⟩ : ∃ q, dtW l i = q := ⟨_, rfl⟩
          simp only [hdte] at rv hstep
          have HSt : Hid (over (butL first) (l.take (i + 1)) = (over (butL first) (l.take i)).set at9 dt) := hstep
          have FK : Hid ((i : Int) < (L : Int)) := by show _ < _; omega
          have FA : Hid ((at9 : Int) < (m : Int)) := hat.2
          have hat9m : at9 < m := by omega
          clear hg9 hrw hdte hstep hat hat9 hbl
          go_upto_region 21 with fail
          refine wp_reliesT [Fx (.slice (some ⟨ga, 0, none⟩) m ca), Fx (.slice (some ⟨bl, of, none⟩) L cl), Fx (.int .i64 ((i : Int))), Fx (.pointer (some ⟨bl, of + i * 65, none⟩)), Fx (.pointer (some ⟨bl, of + i * 65, none⟩)), Fx (.int .i64 ((at9 : Int))), Fx (.slice (some ⟨bl, of, none⟩) L cl), Fx (.int .i64 ((i : Int))), Fx (.pointer (some ⟨bl, of + i * 65, none⟩)), Fx (.pointer (some ⟨bl, of + i * 65 + 1, none⟩)), Fx (.agg (secA dt)), Fx (.pointer (some ⟨ga, at9 * 64, none⟩))] (by kernel_rfl) (by kernel_rfl) ?_ ?_ ?_
          · repeat' (first | exact all_nil | apply all_cons)
            all_goals intro v y y' hv hb
            all_goals first | exact Fx_mono _ _ _ _ hv hb
          · refine ⟨?_, ?_, ?_, ?_, ?_, ?_, ?_, ?_, ?_, ?_, ?_, ?_, trivial⟩
            all_goals
              intro ρ x hp ρc ρg ρf ho hd
              have o19 : ρ (.tmp 19) = .slice (some ⟨ga, 0, none⟩) m ca := ho 19 rfl
              have o1 : ρ (.tmp 1) = .slice (some ⟨bl, of, none⟩) L cl := ho 1 rfl
              have o20 : ρ (.tmp 20) = .int .i64 ((i : Int)) := ho 20 rfl
              clear ho
              have kc := cell_later hp cI
              obtain ⟨kk1, kk2⟩ := rg_later9 hp rk rv
              simp only [depsR, depR, slotR, Fx, List.getElem?_cons_succ, List.getElem?_cons_zero, Region.binds, forall_const] at hd
              simp only [guardR]
              go_split_ands
            · go_simp
            · go_simp
            · go_simp
            · have hq := FK.out
              go_simp
            · go_simp
            · go_simp
            · go_simp
            · go_simp
            · have hq := FK.out
              go_simp
            · go_simp
            · go_simp
            · have hq := FA.out
              go_simp
          · intro vs x1 hp hw
            simp only [owed, Fx] at hw
            obtain ⟨e0, e1, e2, e3, e4, e5, e6, e7, e8, e9, e10, e11, -⟩ := hw
            simp only [List.length_cons, List.length_nil, List.take_succ_cons, List.take_zero, List.drop_succ_cons, List.drop_zero, asg, List.cons_append, List.nil_append, e0, e1, e2, e3, e4, e5, e6, e7, e8, e9, e10, e11]
            clear e0 e1 e2 e3 e4 e5 e6 e7 e8 e9 e10 e11
            have hO1 := OwnK.keep hO hp
            have hst := secStore_mid hO1 at9 dt hat9m
            have HO2 : Hid (OwnK secE (x1.setCells ga (at9 * 64) (secA dt).toList) 0 (.slice (some ⟨ga, 0, none⟩) m ca) (over (butL first) (l.take (i + 1)))) := by
              show OwnK _ _ _ _ _
              rw [HSt.out]; exact secPut hO1 at9 dt hat9m
            have HK2 : Hid (Keep [ga] V (x1.setCells ga (at9 * 64) (secA dt).toList)) := (hKw.trans (Keep.of_below hp)).trans (Keep.of_grown (grown_setC x1 ga (at9 * 64) (secA dt).toList) (fun q hq => by simp at hq; subst hq; simp))
            clear hO hO1 hKw hp HSt FK FA cI rk rv hBr
            go_wp2_with fail
            go_roundw
            case rel => exact ⟨i + 1, by omega, by go_num, HO2.out, HK2.out⟩
            case measure => simp [intOf]; omega
        · obtain rfl : L = i := by omega
          rw [show l.take L = l from List.take_of_length_le (by omega)] at hO
          have hNo := OwnK.keeps HNo.out hKw (fun q hq => by cases hq; simpa using hgna)
          have hA5 := HA5.out.aside O hKw (fun q hq => by simp at hq; subst hq; exact ⟨by simp, hgaw⟩)
          clear HNo HA5 HBv hKw
          go_upto_region 22 with fail
          have hDu := O.durable _ _ _ _ _ hA5.is
          rw [c5l] at hDu
          have hgaw9 : ga < wr.heap.size := (World.ownsRow.lt hO ga rfl).2
          have hgnw9 : gn < wr.heap.size := (World.ownsRow.lt hNo gn rfl).2
          go_wp2_with fail
          go_at_call 13
          refine hDu.mono ?_
          rintro e w20 ⟨yg, cg, rfl, og, hb20⟩
          obtain ⟨gd, rfl, hgdl⟩ := OwnK.form og (by rw [c5l]; omega)
          have hgd := OwnK.ge og
          have hBu := but10_any w20 0 gd m cg st3.last (OwnK.le og (Nat.zero_le _)) (by omega)
          replace hO := OwnK.keep hO hb20
          replace hNo := OwnK.keep hNo hb20
          have hB20 := hA5.bel.trans (hb20.mono hA5.sz)
          have hgdw : w.heap.size ≤ gd := Nat.le_trans hA5.sz hgd
          clear hDu hb20 og hA5
          go_wp2_with fail
          go_at_call 20
          refine hBu.mono ?_
          rintro e w21 ⟨rfl, hGo, hK21⟩
          replace hO := OwnK.keeps hO hK21 (fun q hq => by cases hq; simp; omega)
          replace hNo := OwnK.keeps hNo hK21 (fun q hq => by cases hq; simp; omega)
          have hB21 : Below w.heap.size w w21 := hB20.trans (hK21.below (fun q hq => by simp at hq; subst hq; exact hgdw) hB20.size)
          clear hBu hK21 hB20 hgd hgdl
          have hbl9 : (butL st3.last).length = m := by unfold butL; rw [butN_len, c5l]
          have hal9 : (over (butL first) l).length = m := by rw [over_len]; unfold butL; rw [butN_len, hfl]
          have hnl9 : (butL first).length = m := by unfold butL; rw [butN_len, hfl]
          have sA := fun w h1 h2 => same10_any (some ⟨gd, 0, none⟩) (some ⟨ga, 0, none⟩) cg ca m m (butL st3.last) (over (butL first) l) w hbl9 hal9 h1 h2 (by omega)
          have sN := same10_any (some ⟨gd, 0, none⟩) (some ⟨gn, 0, none⟩) cg c1 m m (butL st3.last) (butL first) w21 hbl9 hnl9 (OwnK.isK secE_ok hGo) (OwnK.isK secE_ok hNo) (by omega)
          have wm1 : IntKind.i64.wrap ((st1.wt : Int) + (st1.fl : Int)) = ((st1.wt + st1.fl : Nat) : Int) := by rw [IntKind.wrap_i64]; omega
          have wm2 : IntKind.i64.wrap ((L : Int) + 3) = ((L + 3 : Nat) : Int) := by rw [IntKind.wrap_i64]; omega
          obtain ⟨T9, hT9⟩ : ∃ q, st1.wt + st1.fl = q := ⟨_, rfl⟩
          obtain ⟨L3, hL3⟩ : ∃ q, L + 3 = q := ⟨_, rfl⟩
          rw [hT9] at wm1 cALL
          rw [hL3] at wm2 cALL
          have HG : Hid (OwnK secE w21 0 (.slice (some ⟨gd, 0, none⟩) m cg) (butL st3.last)) := hGo
          have HO9 : Hid (OwnK secE w21 0 (.slice (some ⟨ga, 0, none⟩) m ca) (over (butL first) l)) := hO
          have HB21 : Hid (Below w.heap.size w w21) := hB21
          clear hGo hO hNo hB21 hL3 hT9
          go_upto_region 23 with fail
          have tail9 : ∀ W, Below w21.heap.size w21 W → butL st3.last = over (butL first) l → Calls Try.prog 12 #[.slice (some ⟨gd, 0, none⟩) m cg, .slice (some ⟨ga, 0, none⟩) m ca] W fun e w' => e = .returned (.bool true) ∧ Below W.heap.size W w' := fun W hW he => by
            have := sA W (OwnK.isK secE_ok (OwnK.keep HG.out hW)) (OwnK.isK secE_ok (OwnK.keep HO9.out hW))
            rw [he, decide_eq_true rfl] at this
            exact this
          by_cases hf0 : f9 = 0
          · subst hf0
            have hsa := tail9 w21 (Below.refl _ _) (cALL (.inl rfl))
            clear tail9 sA sN
            go_wp2_with fail
            go_at_call 12
            refine hsa.mono ?_
            rintro e w22 ⟨rfl, hb22⟩
            have HB : Hid (Below w.heap.size w w22) := HB21.out.trans (hb22.mono HB21.out.size)
            clear hsa hb22
            go_wp2_with fail
            go_ret
            exact ⟨rfl, HB.out⟩
          · by_cases hge : (L3 : Int) ≤ (T9 : Int)
            · have hsa := tail9 w21 (Below.refl _ _) (cALL (.inr (by omega)))
              clear tail9 sA sN
              go_wp2_with fail
              go_at_call 12
              refine hsa.mono ?_
              rintro e w22 ⟨rfl, hb22⟩
              have HB : Hid (Below w.heap.size w w22) := HB21.out.trans (hb22.mono HB21.out.size)
              clear hsa hb22
              go_wp2_with fail
              go_ret
              exact ⟨rfl, HB.out⟩
            · obtain ⟨bq, hbq⟩ : ∃ b, decide ((butL st3.last).map kS = (butL first).map kS) = b := ⟨_, rfl⟩
              rw [hbq] at sN
              clear sA
              go_upto_region 25 with fail
              cases bq
              · have heq : butL st3.last = over (butL first) l := by
                  rcases cTWO with h | h
                  · rw [h] at hbq; simp at hbq
                  · exact h
                clear hbq
                go_wp2_with fail
                go_at_call 12
                refine sN.mono ?_
                rintro e w22 ⟨rfl, hb22⟩
                have hsa := tail9 w22 hb22 heq
                have hB22 := HB21.out.trans (hb22.mono HB21.out.size)
                clear sN hb22 tail9 heq
                go_wp2_with fail
                go_at_call 12
                refine hsa.mono ?_
                rintro e w23 ⟨rfl, hb23⟩
                have HB : Hid (Below w.heap.size w w23) := hB22.trans (hb23.mono hB22.size)
                clear hsa hb23 hB22
                go_wp2_with fail
                go_ret
                exact ⟨rfl, HB.out⟩
              · clear hbq tail9
                go_wp2_with fail
                go_at_call 12
                refine sN.mono ?_
                rintro e w22 ⟨rfl, hb22⟩
                have HB : Hid (Below w.heap.size w w22) := HB21.out.trans (hb22.mono HB21.out.size)
                clear sN hb22
                go_wp2_with fail
                go_ret
                exact ⟨rfl, HB.out⟩
    · skip
      have hPe := O.pending _ _ _ _ _ hA5.is (by rw [r4]; simp)
      rw [r4] at hPe
      go_wp2_with fail
      go_at_call 14
      refine hPe.mono ?_
      rintro e w14 ⟨yp, cp, rfl, -, hb14⟩
      replace hF := OwnK.keep hF hb14
      replace hA5 := hA5.later O hb14
      clear hPe hb14
      have hDu := O.durable _ _ _ _ _ hA5.is
      rw [c5l] at hDu
      have qz := sec_self secZ
      have hm2 : (2 : Int) < (m : Int) := by omega
      go_wp2_with fail
      go_at_call 13
      refine hDu.mono ?_
      rintro e w15 ⟨yd, cd, rfl, od, hb15⟩
      obtain ⟨bd, fd, rfl, rkd, rvd⟩ := own_sec od c5z
      replace hF := OwnK.keep hF hb15
      replace hA5 := hA5.later O hb15
      clear hDu hb15 od
      go_upto_region 16 with fail
      clear rkd rvd qz hm2
      have hTS : secE.S = 32 := rfl
      have hTT : secE.T = 44 := rfl
      have hgf15 : gf < w15.heap.size := (World.ownsRow.lt hF gf rfl).2
      obtain ⟨y1, c1, w16, hr1, o1, hb16⟩ := copyE10 secE_ok w15 (some ⟨gf, 0, none⟩) m m first 32 hfl (OwnK.isK secE_ok hF) (by show m * 64 ≤ _; omega) (by unfold maxLen; omega)
      rw [hTS, hTT] at hr1
      obtain ⟨gn, rfl, hgnl⟩ := OwnK.form o1 (by omega)
      have hgn := OwnK.ge o1
      have hgnw : w.heap.size ≤ gn := Nat.le_trans hA5.sz hgn
      replace hF := OwnK.keep hF hb16
      replace hA5 := hA5.add O hb16 gn hgn hgnl
      have hBu := but10_any w16 0 gn m c1 first (OwnK.le o1 (Nat.zero_le _)) (by omega)
      clear hb16 o1
      go_wp2_with (at_builtin; refine wpL_appT 32 rfl _ _ rfl (.slice (some ⟨gn, 0, none⟩) m c1) w16 (by exact hr1) ?_)
      go_at_call 20
      refine hBu.mono ?_
      rintro e w17 ⟨rfl, hNo, hK17⟩
      replace hF := OwnK.keeps hF hK17 (fun q hq => by cases hq; simp; omega)
      replace hA5 := hA5.aside O hK17 (fun q hq => by simp at hq; subst hq; exact ⟨by simp, hgnw⟩)
      have hgf17 : gf < w17.heap.size := (World.ownsRow.lt hF gf rfl).2
      have hgn17 : gn < w17.heap.size := (World.ownsRow.lt hNo gn rfl).2
      clear hr1 hBu hK17 hgn hgnl hgf15
      go_upto_region 17 with fail
      obtain ⟨y2, ca, w18, hr2, o2, hb18⟩ := copyE10 secE_ok w17 (some ⟨gf, 0, none⟩) m m first 32 hfl (OwnK.isK secE_ok hF) (by show m * 64 ≤ _; omega) (by unfold maxLen; omega)
      rw [hTS, hTT] at hr2
      obtain ⟨ga, rfl, hgal⟩ := OwnK.form o2 (by omega)
      have hga := OwnK.ge o2
      have hgaw : w.heap.size ≤ ga := Nat.le_trans hA5.sz hga
      replace hNo := OwnK.keep hNo hb18
      replace hA5 := hA5.add O hb18 ga hga hgal
      have hBu := but10_any w18 0 ga m ca first (OwnK.le o2 (Nat.zero_le _)) (by omega)
      clear hb18 o2 hF
      go_wp2_with (at_builtin; refine wpL_appT 32 rfl _ _ rfl (.slice (some ⟨ga, 0, none⟩) m ca) w18 (by exact hr2) ?_)
      go_at_call 20
      refine hBu.mono ?_
      rintro e V ⟨rfl, hAl, hK19⟩
      have hgna : gn ≠ ga := by omega
      replace hNo := OwnK.keeps hNo hK19 (fun q hq => by cases hq; simp; omega)
      replace hA5 := hA5.aside O hK19 (fun q hq => by simp at hq; subst hq; exact ⟨by simp, hgaw⟩)
      clear hr2 hBu hK19 hga hgal hgf17 hgn17
      go_upto_region 18 with fail
      have HNo : Hid (OwnK secE V 0 (.slice (some ⟨gn, 0, none⟩) m c1) (butL first)) := hNo
      have HA5 : Hid (DvAt DevIs w.heap.size w (ga :: gn :: A9) V (.pointer (some a)) st3 F5 R5) := hA5
      have HBv : Hid (Below w.heap.size w V) := hA5.bel
      have hgaV : ga < V.heap.size := (World.ownsRow.lt hAl ga rfl).2
      clear hNo hA5
      go_wp2_with fail
      go_loopw [20] (fun iv wr => ∃ i : Nat, i ≤ L ∧ iv = .int .i64 i ∧ OwnK secE wr 0 (.slice (some ⟨ga, 0, none⟩) m ca) (over (butL first) (l.take i)) ∧ Keep [ga] V wr) (fun iv _ => L - (intOf iv).toNat)
      case atStart => exact ⟨0, by omega, rfl, hAl, Keep.refl _ _⟩
      case round =>
        clear hAl
        obtain ⟨i, hi, rfl, hO, hKw⟩ := hrel
        by_cases hlt : i < L
        · have hBr : Below w.heap.size w wr := HBv.out.trans (hKw.below (fun q hq => by simp at hq; subst hq; exact hgaw) HBv.out.size)
          have hg9 : l[i]? = some (atW l i, dtW l i) := by rw [List.getElem?_eq_getElem (by omega), l_eta (by omega)]
          obtain ⟨bl, of, rfl, hbl, hrw⟩ := (hl.kept hBr).at i _ hg9
          rw [wrE_k] at hrw
          have cI := (wr_at hrw).1
          have hdt := rg_of (k := 64) (w := wr) (b := bl) (o := of + i * 65 + 1) (cs := (secA (dtW l i)).toList) (fun j u hu => by
            rw [wrE_enc, wrA_list] at hrw
            have := hrw (j + 1) u (by rw [List.getElem?_cons_succ]; exact hu)
            rwa [show of + i * 65 + (j + 1) = of + i * 65 + 1 + j by omega] at this) (by simp)
          obtain ⟨rk, rv⟩ := hdt
          rw [Array.toArray_toList] at rv
          have hat := bat_at hbt i (by omega)
          obtain ⟨at9, hat9⟩ : ∃ q : Nat, atW l i = (q : Int) := ⟨(atW l i).toNat, by omega⟩
          have hstep := over_step (l := butL first) (p := l) (i := i) (x := (atW l i, dtW l i)) (a := at9) hg9 hat9
          rw [hat9] at cI hat
          obtain ⟨dt, hdte⟩ : ∃ q, dtW l i = q := ⟨_, rfl⟩
          simp only [hdte] at rv hstep
          have HSt : Hid (over (butL first) (l.take (i + 1)) = (over (butL first) (l.take i)).set at9 dt) := hstep
          have FK : Hid ((i : Int) < (L : Int)) := by show _ < _; omega
          have FA : Hid ((at9 : Int) < (m : Int)) := hat.2
          have hat9m : at9 < m := by omega
          clear hg9 hrw hdte hstep hat hat9 hbl
          go_upto_region 21 with fail
          refine wp_reliesT [Fx (.slice (some ⟨ga, 0, none⟩) m ca), Fx (.slice (some ⟨bl, of, none⟩) L cl), Fx (.int .i64 ((i : Int))), Fx (.pointer (some ⟨bl, of + i * 65, none⟩)), Fx (.pointer (some ⟨bl, of + i * 65, none⟩)), Fx (.int .i64 ((at9 : Int))), Fx (.slice (some ⟨bl, of, none⟩) L cl), Fx (.int .i64 ((i : Int))), Fx (.pointer (some ⟨bl, of + i * 65, none⟩)), Fx (.pointer (some ⟨bl, of + i * 65 + 1, none⟩)), Fx (.agg (secA dt)), Fx (.pointer (some ⟨ga, at9 * 64, none⟩))] (by kernel_rfl) (by kernel_rfl) ?_ ?_ ?_
          · repeat' (first | exact all_nil | apply all_cons)
            all_goals intro v y y' hv hb
            all_goals first | exact Fx_mono _ _ _ _ hv hb
          · refine ⟨?_, ?_, ?_, ?_, ?_, ?_, ?_, ?_, ?_, ?_, ?_, ?_, trivial⟩
            all_goals
              intro ρ x hp ρc ρg ρf ho hd
              have o19 : ρ (.tmp 19) = .slice (some ⟨ga, 0, none⟩) m ca := ho 19 rfl
              have o1 : ρ (.tmp 1) = .slice (some ⟨bl, of, none⟩) L cl := ho 1 rfl
              have o20 : ρ (.tmp 20) = .int .i64 ((i : Int)) := ho 20 rfl
              clear ho
              have kc := cell_later hp cI
              obtain ⟨kk1, kk2⟩ := rg_later9 hp rk rv
              simp only [depsR, depR, slotR, Fx, List.getElem?_cons_succ, List.getElem?_cons_zero, Region.binds, forall_const] at hd
              simp only [guardR]
              go_split_ands
            · go_simp
            · go_simp
            · go_simp
            · have hq := FK.out
              go_simp
            · go_simp
            · go_simp
            · go_simp
            · go_simp
            · have hq := FK.out
              go_simp
            · go_simp
            · go_simp
            · have hq := FA.out
              go_simp
          · intro vs x1 hp hw
            simp only [owed, Fx] at hw
            obtain ⟨e0, e1, e2, e3, e4, e5, e6, e7, e8, e9, e10, e11, -⟩ := hw
            simp only [List.length_cons, List.length_nil, List.take_succ_cons, List.take_zero, List.drop_succ_cons, List.drop_zero, asg, List.cons_append, List.nil_append, e0, e1, e2, e3, e4, e5, e6, e7, e8, e9, e10, e11]
            clear e0 e1 e2 e3 e4 e5 e6 e7 e8 e9 e10 e11
            have hO1 := OwnK.keep hO hp
            have hst := secStore_mid hO1 at9 dt hat9m
            have HO2 : Hid (OwnK secE (x1.setCells ga (at9 * 64) (secA dt).toList) 0 (.slice (some ⟨ga, 0, none⟩) m ca) (over (butL first) (l.take (i + 1)))) := by
              show OwnK _ _ _ _ _
              rw [HSt.out]; exact secPut hO1 at9 dt hat9m
            have HK2 : Hid (Keep [ga] V (x1.setCells ga (at9 * 64) (secA dt).toList)) := (hKw.trans (Keep.of_below hp)).trans (Keep.of_grown (grown_setC x1 ga (at9 * 64) (secA dt).toList) (fun q hq => by simp at hq; subst hq; simp))
            clear hO hO1 hKw hp HSt FK FA cI rk rv hBr
            go_wp2_with fail
            go_roundw
            case rel => exact ⟨i + 1, by omega, by go_num, HO2.out, HK2.out⟩
            case measure => simp [intOf]; omega
        · obtain rfl : L = i := by omega
          rw [show l.take L = l from List.take_of_length_le (by omega)] at hO
          have hNo := OwnK.keeps HNo.out hKw (fun q hq => by cases hq; simpa using hgna)
          have hA5 := HA5.out.aside O hKw (fun q hq => by simp at hq; subst hq; exact ⟨by simp, hgaw⟩)
          clear HNo HA5 HBv hKw
          go_upto_region 22 with fail
          have hDu := O.durable _ _ _ _ _ hA5.is
          rw [c5l] at hDu
          have hgaw9 : ga < wr.heap.size := (World.ownsRow.lt hO ga rfl).2
          have hgnw9 : gn < wr.heap.size := (World.ownsRow.lt hNo gn rfl).2
          go_wp2_with fail
          go_at_call 13
          refine hDu.mono ?_
          rintro e w20 ⟨yg, cg, rfl, og, hb20⟩
          obtain ⟨gd, rfl, hgdl⟩ := OwnK.form og (by rw [c5l]; omega)
          have hgd := OwnK.ge og
          have hBu := but10_any w20 0 gd m cg st3.last (OwnK.le og (Nat.zero_le _)) (by omega)
          replace hO := OwnK.keep hO hb20
          replace hNo := OwnK.keep hNo hb20
          have hB20 := hA5.bel.trans (hb20.mono hA5.sz)
          have hgdw : w.heap.size ≤ gd := Nat.le_trans hA5.sz hgd
          clear hDu hb20 og hA5
          go_wp2_with fail
          go_at_call 20
          refine hBu.mono ?_
          rintro e w21 ⟨rfl, hGo, hK21⟩
          replace hO := OwnK.keeps hO hK21 (fun q hq => by cases hq; simp; omega)
          replace hNo := OwnK.keeps hNo hK21 (fun q hq => by cases hq; simp; omega)
          have hB21 : Below w.heap.size w w21 := hB20.trans (hK21.below (fun q hq => by simp at hq; subst hq; exact hgdw) hB20.size)
          clear hBu hK21 hB20 hgd hgdl
          have hbl9 : (butL st3.last).length = m := by unfold butL; rw [butN_len, c5l]
          have hal9 : (over (butL first) l).length = m := by rw [over_len]; unfold butL; rw [butN_len, hfl]
          have hnl9 : (butL first).length = m := by unfold butL; rw [butN_len, hfl]
          have sA := fun w h1 h2 => same10_any (some ⟨gd, 0, none⟩) (some ⟨ga, 0, none⟩) cg ca m m (butL st3.last) (over (butL first) l) w hbl9 hal9 h1 h2 (by omega)
          have sN := same10_any (some ⟨gd, 0, none⟩) (some ⟨gn, 0, none⟩) cg c1 m m (butL st3.last) (butL first) w21 hbl9 hnl9 (OwnK.isK secE_ok hGo) (OwnK.isK secE_ok hNo) (by omega)
          have wm1 : IntKind.i64.wrap ((st1.wt : Int) + (st1.fl : Int)) = ((st1.wt + st1.fl : Nat) : Int) := by rw [IntKind.wrap_i64]; omega
          have wm2 : IntKind.i64.wrap ((L : Int) + 3) = ((L + 3 : Nat) : Int) := by rw [IntKind.wrap_i64]; omega
          obtain ⟨T9, hT9⟩ : ∃ q, st1.wt + st1.fl = q := ⟨_, rfl⟩
          obtain ⟨L3, hL3⟩ : ∃ q, L + 3 = q := ⟨_, rfl⟩
          rw [hT9] at wm1 cALL
          rw [hL3] at wm2 cALL
          have HG : Hid (OwnK secE w21 0 (.slice (some ⟨gd, 0, none⟩) m cg) (butL st3.last)) := hGo
          have HO9 : Hid (OwnK secE w21 0 (.slice (some ⟨ga, 0, none⟩) m ca) (over (butL first) l)) := hO
          have HB21 : Hid (Below w.heap.size w w21) := hB21
          clear hGo hO hNo hB21 hL3 hT9
          go_upto_region 23 with fail
          have tail9 : ∀ W, Below w21.heap.size w21 W → butL st3.last = over (butL first) l → Calls Try.prog 12 #[.slice (some ⟨gd, 0, none⟩) m cg, .slice (some ⟨ga, 0, none⟩) m ca] W fun e w' => e = .returned (.bool true) ∧ Below W.heap.size W w' := fun W hW he => by
            have := sA W (OwnK.isK secE_ok (OwnK.keep HG.out hW)) (OwnK.isK secE_ok (OwnK.keep HO9.out hW))
            rw [he, decide_eq_true rfl] at this
            exact this
          by_cases hf0 : f9 = 0
          · subst hf0
            have hsa := tail9 w21 (Below.refl _ _) (cALL (.inl rfl))
            clear tail9 sA sN
            go_wp2_with fail
            go_at_call 12
            refine hsa.mono ?_
            rintro e w22 ⟨rfl, hb22⟩
            have HB : Hid (Below w.heap.size w w22) := HB21.out.trans (hb22.mono HB21.out.size)
            clear hsa hb22
            go_wp2_with fail
            go_ret
            exact ⟨rfl, HB.out⟩
          · by_cases hge : (L3 : Int) ≤ (T9 : Int)
            · have hsa := tail9 w21 (Below.refl _ _) (cALL (.inr (by omega)))
              clear tail9 sA sN
              go_wp2_with fail
              go_at_call 12
              refine hsa.mono ?_
              rintro e w22 ⟨rfl, hb22⟩
              have HB : Hid (Below w.heap.size w w22) := HB21.out.trans (hb22.mono HB21.out.size)
              clear hsa hb22
              go_wp2_with fail
              go_ret
              exact ⟨rfl, HB.out⟩
            · obtain ⟨bq, hbq⟩ : ∃ b, decide ((butL st3.last).map kS = (butL first).map kS) = b := ⟨_, rfl⟩
              rw [hbq] at sN
              clear sA
              go_upto_region 25 with fail
              cases bq
              · have heq : butL st3.last = over (butL first) l := by
                  rcases cTWO with h | h
                  · rw [h] at hbq; simp at hbq
                  · exact h
                clear hbq
                go_wp2_with fail
                go_at_call 12
                refine sN.mono ?_
                rintro e w22 ⟨rfl, hb22⟩
                have hsa := tail9 w22 hb22 heq
                have hB22 := HB21.out.trans (hb22.mono HB21.out.size)
                clear sN hb22 tail9 heq
                go_wp2_with fail
                go_at_call 12
                refine hsa.mono ?_
                rintro e w23 ⟨rfl, hb23⟩
                have HB : Hid (Below w.heap.size w w23) := hB22.trans (hb23.mono hB22.size)
                clear hsa hb23 hB22
                go_wp2_with fail
                go_ret
                exact ⟨rfl, HB.out⟩
              · clear hbq tail9
                go_wp2_with fail
                go_at_call 12
                refine sN.mono ?_
                rintro e w22 ⟨rfl, hb22⟩
                have HB : Hid (Below w.heap.size w w22) := HB21.out.trans (hb22.mono HB21.out.size)
                clear sN hb22
                go_wp2_with fail
                go_ret
                exact ⟨rfl, HB.out⟩
  · have hdR : doR st0 l = 24 := by
      unfold doR
      rw [hn0, hME, if_neg hE]
      rcases mPut_bat (n := m) (by omega) (by omega) l with ⟨h, -⟩ | ⟨h, -⟩
      · rw [hME] at h; exact absurd h hE
      · rw [hME] at h; exact h
    have hdS : doS st0 l = st0 := by unfold doS; rw [hn0, hME, if_neg hE]
    rw [hdR]
    rw [hdS, ← hst0] at hA3
    clear hdR hdS hst0 hn0
    have hSe := O.sectors w10 _ _ _ _ hA3.is (by simp [stSt, newS])
    have hSe2 : Calls Try.prog 19 #[.pointer (some a)] w10 fun e w' => ∃ y c, e = .returned (.slice y m c) ∧ OwnK secE w' w10.heap.size (.slice y m c) first ∧ Below w10.heap.size w10 w' := by
      have e1 : (stSt (newS first) K).last.length = m := hfl
      rw [e1] at hSe
      exact hSe
    clear hSe
    go_wp2_with fail
    go_at_call 19
    refine hSe2.mono ?_
    rintro e w11 ⟨y, c, rfl, hO, hb11⟩
    replace hF := OwnK.keep hF hb11
    have hB := hA3.bel.trans (hb11.mono hA3.sz)
    clear hSe2 hb11 hA3
    have hsa := same10_any y (some ⟨gf, 0, none⟩) c m m m first first w11 hfl hfl (OwnK.isK secE_ok hO) (OwnK.isK secE_ok hF) (by omega)
    rw [decide_eq_true rfl] at hsa
    go_wp2_with fail
    go_at_call 12
    refine hsa.mono ?_
    rintro e w12 ⟨rfl, hb12⟩
    have HB : Hid (Below w.heap.size w w12) := hB.trans (hb12.mono hB.size)
    clear hsa hb12 hB
    go_wp2_with fail
    go_ret
    exact ⟨rfl, HB.out⟩
end
end Go.Proofs.Ytpckdkgbeemalaa
namespace Go.Proofs.Ytpckdkgbeemalaa
open Go.RowKit

/-! JournalAgain: two devices apart -/
section
variable {DevIs : World → Value → DSt → List Nat → List Nat → Prop}
structure Two10 (DevIs : World → Value → DSt → List Nat → List Nat → Prop) (B : Nat) (w0 w : World) (d : Value) (sd : DSt) (F R : List Nat) (c : Value) (sc : DSt) (G S : List Nat) : Prop where
  d : DvAt DevIs B w0 S w d sd F R
  c : DevIs w c sc G S
  ge : ∀ q ∈ S, B ≤ q
variable {B : Nat} {w0 w w' : World} {d c : Value} {sd sc st' : DSt} {F R G S : List Nat}
theorem Two10.later (O : DvOk DevIs) (h : Two10 DevIs B w0 w d sd F R c sc G S) (hb : Below w.heap.size w w') : Two10 DevIs B w0 w' d sd F R c sc G S := ⟨h.d.later O hb, O.later h.c hb, h.ge⟩
theorem Two10.turn1 (O : DvOk DevIs) (h : Two10 DevIs B w0 w d sd F R c sc G S) {F' R' : List Nat} (k1 : DevIs w' d st' F' R') (k3 : ∀ q ∈ R', q ∈ R ∨ w.heap.size ≤ q) (k4 : Keep F w w') : Two10 DevIs B w0 w' d st' F' R' c sc G S :=
  ⟨(h.d.turn O k1 k3 k4).1, O.keeps h.c k4 fun q hq hm => h.d.no q (O.sub h.d.is q hm) hq, h.ge⟩
theorem Two10.turn2 (O : DvOk DevIs) (h : Two10 DevIs B w0 w d sd F R c sc G S) {G' S' : List Nat} (k1 : DevIs w' c st' G' S') (k3 : ∀ q ∈ S', q ∈ S ∨ w.heap.size ≤ q) (k4 : Keep G w w') : Two10 DevIs B w0 w' d sd F R c st' G' S' := by
  have hs := O.sub h.c
  refine ⟨⟨O.keeps h.d.is k4 fun q hq hm => h.d.no q hq (hs q hm), h.d.ge, fun q hq hm => ?_, fun q hq => O.lt k1 q hq, h.d.bel.trans (k4.below (fun q hq => h.ge q (hs q hq)) h.d.sz), Nat.le_trans h.d.sz k4.size⟩, k1, fun q hq => ?_⟩
  · rcases k3 q hm with hm | hm
    · exact h.d.no q hq hm
    · have := O.lt h.d.is q hq; omega
  · rcases k3 q hq with hq | hq
    · exact h.ge q hq
    · have := h.d.sz; omega
set_option linter.unusedSimpArgs false in
set_option maxRecDepth 100000 in
set_option maxHeartbeats 4000000 in
theorem lawJAgain_any (O : DvOk DevIs) (J : JOk DevIs) (Z : JNil) (N : Int) (xb : Option Addr) (nb cb : Nat) (M : Int) (xw : Option Addr) (nw cw : Nat) (lb : List UInt8) (lw : List Wr) (xz : Option Addr) (nz cz : Nat) (zs : List Int) (xs : Option Addr) (ns cs : Nat) (bs : List Bool) (w : World)
    (hlb : lb.length = nb) (hnb : nb ≤ 4611686018427387904) (hb : IsB w (.slice xb nb cb) lb) (hlw : lw.length = nw) (hnw : nw ≤ 2199023255552) (hw9 : IsK wrE w (.slice xw nw cw) lw) (hwB : WrB lw)
    (hzl : zs.length = nz) (hnz : nz ≤ 140737488355328) (hz : IsG w (.slice xz nz cz) (zs.map fun z => Value.int .i64 z)) (hzb : ∀ z ∈ zs, i64w z) (hbs : bs.length = ns) (hcs : ns ≤ cs) (hs : IsG w (.slice xs ns cs) (bs.map Value.bool)) :
    Calls Try.prog 3 #[.agg (dkA N xb nb cb M xw nw cw), .slice xz nz cz, .slice xs ns cs] w fun r w' => r = .returned (.bool true) ∧ Below w.heap.size w w' := by
  have hSec := fun W (h : Below w.heap.size w W) => sectors10_any N xb nb cb M xw nw cw lb lw W hlb hnb (hb.kept h) hlw hnw (hw9.kept h) hwB
  have hfl := dskS_len N lb M lw
  have hm64 := dskN_le N
  obtain ⟨first, hfe⟩ : ∃ f, dskS N lb M lw = f := ⟨_, rfl⟩
  obtain ⟨m, hme⟩ : ∃ q, dskN N = q := ⟨_, rfl⟩
  simp only [hfe, hme] at hSec hfl hm64
  clear hfe hme
  go_enter Try.func3, Try.ntmps3
  go_upto_region 1 with fail
  have hB1 : Below w.heap.size w (w.alloc (.cells (dkA N xb nb cb M xw nw cw) 25)) := below_alloc w _
  have hC3' : RowC (w.alloc (.cells (dkA N xb nb cb M xw nw cw) 25)) w.heap.size (dkA N xb nb cb M xw nw cw) := RowC.new w _ _
  obtain ⟨g3, hg3⟩ : ∃ g, w.heap.size = g := ⟨_, rfl⟩
  rw [hg3] at hC3'
  simp only [hg3]
  have HG3 : Hid (w.heap.size = g3) := hg3
  clear hg3
  generalize w.alloc (.cells (dkA N xb nb cb M xw nw cw) 25) = X1 at hB1 hC3' ⊢
  have hS1 := hSec X1 hB1
  have H3 : Hid (RowC X1 g3 (dkA N xb nb cb M xw nw cw)) := hC3'
  obtain ⟨k3, v3⟩ := hC3'
  go_wp2_with fail
  go_at_call 7
  refine hS1.mono ?_
  rintro e w2 ⟨gf, rfl, hG, hb2⟩
  clear hS1 k3 v3
  have hC3 := H3.out.kept hb2
  have hB2 := hB1.trans (hb2.mono hB1.size)
  clear hb2 hB1 H3
  have hNew := O.new w2 (some ⟨gf, 0, none⟩) m m first hfl (hG.isK secE_ok) (by omega)
  clear hG
  go_wp2_with fail
  go_at_call 6
  refine hNew.mono ?_
  intro e w3 hq
  obtain ⟨hb3, hq⟩ := hq
  obtain ⟨d, F, R, rfl, hd, hR⟩ : ∃ d F R, e = .returned (.tuple #[d, .int .i64 0]) ∧ DevIs w3 d (newS first) F R ∧ ∀ q ∈ R, w2.heap.size ≤ q := by
    rcases hq with ⟨-, -, d, F, R, q1, q2, q3⟩ | ⟨q, -⟩
    · exact ⟨d, F, R, q1, q2, q3⟩
    · exact absurd ⟨by omega, by omega⟩ q
  clear hq hNew
  obtain ⟨a, rfl⟩ := O.ptr hd
  replace hC3 := hC3.kept hb3
  have hB3 := hB2.trans (hb3.mono hB2.size)
  have hRw : ∀ q ∈ R, w.heap.size ≤ q := fun q hq => Nat.le_trans hB2.size (hR q hq)
  clear hb3 hB2 hR
  go_upto_region 2 with fail
  have hS2 := hSec w3 hB3
  obtain ⟨k3, v3⟩ := hC3
  go_wp2_with fail
  go_at_call 7
  refine hS2.mono ?_
  rintro e w4 ⟨gh, rfl, hG, hb4⟩
  clear hS2 k3 v3
  replace hd := O.later hd hb4
  have hB4 := hB3.trans (hb4.mono hB3.size)
  clear hb4 hB3 hSec
  have hNew := O.new w4 (some ⟨gh, 0, none⟩) m m first hfl (hG.isK secE_ok) (by omega)
  clear hG
  go_wp2_with fail
  go_at_call 6
  refine hNew.mono ?_
  intro e w5 hq
  obtain ⟨hb5, hq⟩ := hq
  obtain ⟨c, G, S, rfl, hc, hS⟩ : ∃ d F R, e = .returned (.tuple #[d, .int .i64 0]) ∧ DevIs w5 d (newS first) F R ∧ ∀ q ∈ R, w4.heap.size ≤ q := by
    rcases hq with ⟨-, -, d, F, R, q1, q2, q3⟩ | ⟨q, -⟩
    · exact ⟨d, F, R, q1, q2, q3⟩
    · exact absurd ⟨by omega, by omega⟩ q
  clear hq hNew
  obtain ⟨ac, rfl⟩ := O.ptr hc
  have hB5 := hB4.trans (hb5.mono hB4.size)
  have hT : Two10 DevIs w.heap.size w w5 (.pointer (some a)) (newS first) F R (.pointer (some ac)) (newS first) G S := ⟨⟨O.later hd hb5, hRw, fun q hq hm => by
      have h1 := hS q hm
      have h2 := O.lt hd q hq
      omega, fun q hq => O.lt hc q hq, hB5, hB5.size⟩, hc, fun q hq => Nat.le_trans hB4.size (hS q hq)⟩
  clear hd hc hS hRw hb5 hB4 hB5
  go_upto_region 3 with fail
  have hKn := known10_any O J Z w5
  go_wp2_with fail
  go_at_call 8
  refine hKn.mono ?_
  rintro e w6 ⟨rfl, hb6⟩
  replace hT := hT.later O hb6
  clear hKn hb6
  have hn0 : (newS first).last.length = m := hfl
  obtain ⟨stc, hstc⟩ : ∃ s, newS first = s := ⟨_, rfl⟩
  go_upto_region 5 with fail
  go_wp2_with fail
  have hT0 : ∃ F R, Two10 DevIs w.heap.size w w6 (.pointer (some a)) (newS first) F R (.pointer (some ac)) stc G S := ⟨F, R, by rw [← hstc]; rw [hstc] at hT; rw [hstc]; exact hT⟩
  clear hT
  have hcf : stc.last = first ∧ stc.pend = [] ∧ stc.down = false ∧ stc.left < 0 ∧ stc.rd = 0 ∧ stc.wt + stc.fl = 0 := by rw [← hstc]; exact ⟨rfl, rfl, rfl, by show (-1 : Int) < 0; omega, rfl, rfl⟩
  go_loopw [11] (fun iv wr => ∃ (k : Nat) (sd : DSt), k ≤ nz ∧ iv = .int .i64 k ∧ (∃ F R, Two10 DevIs w.heap.size w wr (.pointer (some a)) sd F R (.pointer (some ac)) stc G S) ∧ sd.pend = [] ∧ sd.down = false ∧ sd.left < 0 ∧ sd.last.length = m ∧ repD sd.last = repD first ∧ sd.rd = 9 * k ∧ sd.wt + sd.fl ≤ 11 * k) (fun iv _ => nz - (intOf iv).toNat)
  case atStart => exact ⟨0, newS first, by omega, rfl, hT0, rfl, rfl, by show (-1 : Int) < 0; omega, hfl, rfl, rfl, by show 0 + 0 ≤ _; omega⟩
  case round =>
    clear hT0 hstc
    obtain ⟨k, sd, hk, rfl, ⟨F, R, hT⟩, s1, s2, s3, s4, s5, s6, s7⟩ := hrel
    by_cases hlt : k < nz
    · have hlt' : (k : Int) < (nz : Int) := by omega
      obtain ⟨z9, hz9⟩ : ∃ z, zs[k]? = some z := ⟨_, List.getElem?_eq_getElem (by omega)⟩
      have hzi := hzb z9 (List.mem_of_getElem? hz9)
      obtain ⟨bz, oz, rfl, hbz, hzc⟩ := (IsG.kept hz hT.d.bel).spot k (by rw [List.length_map]; omega)
      have cz9 : wr.cell? ⟨bz, oz + k, none⟩ = some (.int .i64 z9) := hzc k _ (by rw [List.getElem?_map, hz9]; rfl)
      have hst := again_step sd z9 bs s2 s1 (by omega) (by omega)
      obtain ⟨a1, a2, a3, a4, a5, a6, a7, a8⟩ := hst
      have hSt := O.stop wr _ _ _ _ z9 hT.d.is hzi.1 hzi.2
      clear hzc hz9
      go_wp2_with fail
      go_at_call 9
      refine hSt.mono ?_
      rintro e w7 ⟨rfl, F1, R1, k1, k2, k3, k4⟩
      have hT1 := hT.turn1 O k1 k3 k4
      clear hSt k1 k2 k3 k4 hT cz9
      have hsm1 : StSm (stSt sd z9) := ⟨by show sd.pend.length ≤ _; rw [s1]; simp, by show sd.rd ≤ _; omega, by show sd.wt ≤ _; omega, by show sd.fl ≤ _; omega⟩
      have hRp := J.replay _ _ _ _ _ hT1.d.is hsm1
      go_wp2_with fail
      go_at_call 10
      refine hRp.mono ?_
      rintro e w8 ⟨rfl, F2, R2, k1, k2, k3, k4⟩
      have hT2 := hT1.turn1 O k1 k3 k4
      clear hRp k1 k2 k3 k4 hT1 hsm1
      have hRe := O.restart w8 _ _ _ _ xs ns cs bs hT2.d.is (by omega) hbs hcs (IsG.kept hs hT2.d.bel) (fun h0 x hx hm => by
        subst hx
        have h9 := isG_lt10 hs (by simpa using h0)
        have h8 := hT2.d.ge _ (O.sub hT2.d.is _ hm)
        omega)
      go_wp2_with fail
      go_at_call 11
      refine hRe.mono ?_
      rintro e w9 ⟨rfl, F3, R3, k1, k2, k3, k4⟩
      have hT3 := hT2.turn1 O k1 k3 k4
      clear hRe k1 k2 k3 k4 hT2
      obtain ⟨sd', hsd'⟩ : ∃ q, reSt (repS (stSt sd z9)) bs = q := ⟨_, rfl⟩
      rw [hsd'] at hT3 a2 a3 a4 a5 a6 a7 a8
      have H : Hid ((∃ F R, Two10 DevIs w.heap.size w w9 (.pointer (some a)) sd' F R (.pointer (some ac)) stc G S) ∧ sd'.pend = [] ∧ sd'.down = false ∧ sd'.left < 0 ∧ sd'.last.length = m ∧ repD sd'.last = repD first ∧ sd'.rd = 9 * (k + 1) ∧ sd'.wt + sd'.fl ≤ 11 * (k + 1)) := ⟨⟨F3, R3, hT3⟩, a2, a3, a4, by omega, a6.trans s5, by omega, by omega⟩
      clear hT3 a1 a2 a3 a4 a5 a6 a7 a8 s1 s2 s3 s4 s5 s6 s7 hsd'
      go_wp2_with fail
      go_roundw
      case rel => exact ⟨k + 1, sd', by omega, by go_num, H.out⟩
      case measure => simp [intOf]; omega
    · obtain rfl : nz = k := by omega
      have hlt' : ¬ (nz : Int) < (nz : Int) := by omega
      obtain ⟨p1, p2, p3, p4, p5, p6⟩ := hcf
      have hr1 := rep_whole s2 s1 s3 (by omega)
      obtain ⟨rE1, rK1, rL1, rP1, -⟩ := hr1
      have hr2 := rep_whole p3 p2 p4 (by rw [p1]; omega)
      obtain ⟨rE2, rK2, rL2, rP2, rD2, rF2, rR2, rW2⟩ := hr2
      rw [s5] at rL1
      rw [p1] at rK2 rL2
      have hkr := dK_range (L := first) (by omega) (by omega)
      have hsm1 : StSm sd := ⟨by rw [s1]; simp, by omega, by omega, by omega⟩
      have hsmc : StSm stc := ⟨by rw [p2]; simp, by omega, by omega, by omega⟩
      have hRp := J.replay _ _ _ _ _ hT.d.is hsm1
      rw [rE1] at hRp
      go_upto_region 11 with fail
      go_wp2_with fail
      go_at_call 10
      refine hRp.mono ?_
      rintro e w7 ⟨rfl, F1, R1, k1, k2, k3, k4⟩
      have hT1 := hT.turn1 O k1 k3 k4
      clear hRp k1 k2 k3 k4 hT
      have hRp := J.replay _ _ _ _ _ hT1.c hsmc
      obtain ⟨n9, hn9⟩ : ∃ q, repK stc = q := ⟨_, rfl⟩
      rw [rE2, hn9] at hRp
      rw [hn9] at rK2
      go_upto_region 12 with fail
      go_wp2_with fail
      go_at_call 10
      refine hRp.mono ?_
      rintro e w8 ⟨rfl, G1, S1, k1, k2, k3, k4⟩
      have hT2 := hT1.turn2 O k1 k3 k4
      clear hRp k1 k2 k3 k4 hT1 hn9
      have h1n : ¬ n9 < 1 := by omega
      have h3n : ¬ (3 : Int) < n9 := by omega
      obtain ⟨s9, hs9⟩ : ∃ q, repS sd = q := ⟨_, rfl⟩
      obtain ⟨c9, hc9⟩ : ∃ q, repS stc = q := ⟨_, rfl⟩
      rw [hs9] at hT2 rL1 rP1
      rw [hc9] at hT2 rL2 rP2 rD2 rF2 rR2 rW2
      have hln : (repD first).length = m := by rw [repD_len, hfl]
      have hl9 : s9.last.length = m := by rw [rL1, hln]
      have hlc : c9.last.length = m := by rw [rL2, hln]
      clear hs9 hc9
      have hD1 := O.durable _ _ _ _ _ hT2.d.is
      rw [hl9, rL1] at hD1
      go_upto_region 13 with fail
      go_wp2_with fail
      go_at_call 13
      refine hD1.mono ?_
      rintro e w9 ⟨y9, e9, rfl, o9, hb9⟩
      replace hT2 := hT2.later O hb9
      clear hD1 hb9
      have hD2 := O.durable _ _ _ _ _ hT2.c
      rw [hlc, rL2] at hD2
      go_wp2_with fail
      go_at_call 13
      refine hD2.mono ?_
      rintro e w10 ⟨y10, e10, rfl, o10, hb10⟩
      replace hT2 := hT2.later O hb10
      replace o9 := OwnK.keep o9 hb10
      clear hD2 hb10
      have hsa := same10_any y9 y10 e9 e10 m m (repD first) (repD first) w10 hln hln (OwnK.isK secE_ok o9) (OwnK.isK secE_ok o10) (by omega)
      rw [decide_eq_true rfl] at hsa
      go_wp2_with fail
      go_at_call 12
      refine hsa.mono ?_
      rintro e w11 ⟨rfl, hb11⟩
      replace hT2 := hT2.later O hb11
      clear hsa hb11 o9 o10
      have hP1 := O.pending _ _ _ _ _ hT2.d.is (by rw [rP1]; simp)
      rw [rP1] at hP1
      go_wp2_with fail
      go_at_call 14
      refine hP1.mono ?_
      rintro e w12 ⟨y12, e12, rfl, -, hb12⟩
      replace hT2 := hT2.later O hb12
      clear hP1 hb12
      have hP2 := O.pending _ _ _ _ _ hT2.c (by rw [rP2]; simp)
      rw [rP2] at hP2
      go_wp2_with fail
      go_at_call 14
      refine hP2.mono ?_
      rintro e w13 ⟨y13, e13, rfl, -, hb13⟩
      replace hT2 := hT2.later O hb13
      clear hP2 hb13
      go_upto_region 15 with fail
      have hAc := O.acts _ _ _ _ _ hT2.c
      go_wp2_with fail
      go_at_call 15
      refine hAc.mono ?_
      rintro e w14 ⟨rfl, hb14⟩
      replace hT2 := hT2.later O hb14
      clear hAc hb14
      have hk1 : dK c9.last = 1 := by rw [rL2]; exact repD_empty (by omega) (by omega)
      obtain ⟨t1, t2, t3⟩ := rep_reads rD2 rP2 hk1
      have hln9 : (acLs (rpLs stc)).length ≤ 11 := by
        have he : over stc.last stc.pend = first := by rw [p1, p2]; rfl
        unfold rpLs rpK rpL
        rw [he]
        by_cases h2 : dK first = 2
        · rw [if_pos h2, acLs_len]
          have := (bat_len (dK_two h2)).2
          simp [clrL]; omega
        · rw [if_neg h2]
          split
          · rw [acLs_len]; simp [clrL]
          · simp [acLs]
      have hsm9 : StSm c9 := ⟨by rw [rP2]; simp, by omega, by omega, by omega⟩
      have hRp := J.replay _ _ _ _ _ hT2.c hsm9
      rw [t1, t2, t3] at hRp
      have hzq : secEq ((c9.last[2]?).getD secZ) secZ = true := dK_one (by omega) (by omega) hk1
      clear t1 t2 t3
      go_upto_region 16 with fail
      go_wp2_with fail
      go_at_call 10
      refine hRp.mono ?_
      rintro e w15 ⟨rfl, G2, S2, k1, k2, k3, k4⟩
      have hT3 := hT2.turn2 O k1 k3 k4
      clear hRp k1 k2 k3 k4 hT2
      have hAc := O.acts _ _ _ _ _ hT3.c
      go_upto_region 17 with fail
      go_wp2_with fail
      go_at_call 15
      refine hAc.mono ?_
      rintro e w16 ⟨rfl, hb16⟩
      replace hT3 := hT3.later O hb16
      clear hAc hb16
      have hD3 := O.durable _ _ _ _ _ hT3.c
      have hlc2 : (rd9 c9).last.length = m := hlc
      rw [hlc2] at hD3
      have hrd : (rd9 c9).rd = c9.rd + 9 := rfl
      have hwt : (rd9 c9).wt = c9.wt := rfl
      have hfl9 : (rd9 c9).fl = c9.fl := rfl
      have hlast : (rd9 c9).last = c9.last := rfl
      rw [hrd, hwt, hfl9]
      rw [hlast] at hD3
      have wm : IntKind.i64.wrap ((c9.rd : Int) + 9) = ((c9.rd + 9 : Nat) : Int) := by rw [IntKind.wrap_i64]; omega
      obtain ⟨s2c, hs2c⟩ : ∃ q, c9.last[2]? = some q := ⟨_, List.getElem?_eq_getElem (by omega)⟩
      rw [hs2c] at hzq
      have hzq' : secEq s2c secZ = true := hzq
      obtain ⟨r9, hr9⟩ : ∃ q, c9.rd + 9 = q := ⟨_, rfl⟩
      rw [hr9] at wm ⊢
      have hm2 : (2 : Int) < (m : Int) := by omega
      go_upto_region 18 with fail
      go_wp2_with fail
      go_at_call 13
      refine hD3.mono ?_
      rintro e w17 ⟨y17, e17, rfl, o17, hb17⟩
      obtain ⟨b17, f17, rfl, rk17, rv17⟩ := own_sec o17 hs2c
      have HB : Hid (Below w.heap.size w w17) := hT3.d.bel.trans (hb17.mono hT3.d.sz)
      clear hD3 hb17 o17 hT3
      go_wp2_with fail
      go_ret
      exact ⟨rfl, HB.out⟩
end
end Go.Proofs.Ytpckdkgbeemalaa
