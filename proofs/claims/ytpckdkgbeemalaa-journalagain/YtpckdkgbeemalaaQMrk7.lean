import Derived.Test.YtpckdkgbeemalaaQMrk2
import Derived.Test.YtpckdkgbeemalaaQKbt
namespace Go.Proofs.Ytpckdkgbeemalaa
open Go.RowKit

/-! mark.writesOf -/
section
variable {α : Type} {E : EK α}
/-- Some cells of an element are stored. -/
theorem OwnK.partPut (O : E.Ok) {w : World} {B g n c : Nat} {ms : List α} (h : OwnK E w B (.slice (some ⟨g, 0, none⟩) n c) ms) (K j : Nat) (d d' : α) (vs : List Value) (hd : ms[K]? = some d)
    (he : ∀ t, t < E.k → (E.enc d')[t]? = if j ≤ t ∧ t < j + vs.length then vs[t - j]? else (E.enc d)[t]?) (hjk : j + vs.length ≤ E.k) : OwnK E (w.setCells g (K * E.k + j) vs) B (.slice (some ⟨g, 0, none⟩) n c) (ms.set K d') := by
  obtain ⟨cur, hn, hb, hg, hle, hm, hs, ht⟩ := h.heap
  subst hn
  have hK : K < ms.length := (List.getElem?_eq_some_iff.1 hd).1
  refine ⟨by rw [flK_len O], .inr ⟨g, c, _, by rw [List.length_set], hb, heap_setC g _ _ w cur _ _ hg, by rw [List.length_set]; exact hle, hm, by simpa using hs, ?_⟩⟩
  rw [List.length_set]
  apply List.ext_getElem?
  intro t
  by_cases hj : t < ms.length * E.k
  · have hjc : t < cur.size := by rw [hs]; have := Nat.mul_le_mul_right E.k hle; omega
    have h1 : t / E.k < ms.length := (Nat.div_lt_iff_lt_mul O.kp).2 hj
    have hdm := Nat.div_add_mod t E.k
    have hml := Nat.mod_lt t O.kp
    have hcur : ∀ y, ms[t / E.k]? = some y → cur[t]? = (E.enc y)[t % E.k]? := fun y hy => by
      rw [← flK_at O ms t y hy, ← ht, List.getElem?_take_of_lt hj, Array.getElem?_toList]
    rw [List.getElem?_take_of_lt hj, Array.getElem?_toList, setM_get _ _ _ t hjc]
    by_cases e : t / E.k = K
    · have eK : K * E.k + t % E.k = t := by rw [← e, Nat.mul_comm]; exact hdm
      rw [flK_at O (ms.set K d') t d' (by rw [e]; simp [hK]), he _ hml]
      by_cases hin : j ≤ t % E.k ∧ t % E.k < j + vs.length
      · rw [if_pos (by omega), if_pos hin, show t - (K * E.k + j) = t % E.k - j by omega]
      · rw [if_neg (by omega), if_neg hin]
        exact hcur d (by rw [e]; exact hd)
    · have hno : ¬ (K * E.k + j ≤ t ∧ t < K * E.k + j + vs.length) := fun ⟨a1, a2⟩ => e (by
        exact Nat.div_eq_of_lt_le (by omega) (by rw [Nat.add_mul, Nat.one_mul]; omega))
      rw [if_neg hno]
      have e1 := flK_at O (ms.set K d') t ms[t / E.k] (by rw [List.getElem?_set_ne (fun x => e x.symm)]; exact List.getElem?_eq_getElem h1)
      rw [e1]
      exact hcur _ (List.getElem?_eq_getElem h1)
  · rw [List.getElem?_take_eq_none (by omega), List.getElem?_eq_none (by rw [flK_len O, List.length_set]; omega)]
end
theorem wrE_data (x : Wr) (s : Sc) (t : Nat) (ht : t < 65) : (wrE.enc (x.1, s))[t]? = if 1 ≤ t ∧ t < 1 + (secA s).toList.length then (secA s).toList[t - 1]? else (wrE.enc x)[t]? := by
  rw [wrE_enc, wrE_enc, wrA_list, wrA_list]
  rcases t with _ | t
  · simp
  · rw [if_pos (by simp; omega)]; simp
theorem dataPut {w : World} {B g n c : Nat} {ms : List Wr} (h : OwnK wrE w B (.slice (some ⟨g, 0, none⟩) n c) ms) (K : Nat) (x : Wr) (s : Sc) (hd : ms[K]? = some x) : OwnK wrE (w.setCells g (K * 65 + 1) (secA s).toList) B (.slice (some ⟨g, 0, none⟩) n c) (ms.set K (x.1, s)) :=
  h.partPut wrE_ok K 1 x (x.1, s) (secA s).toList hd (fun t ht => wrE_data x s t ht) (by rw [wrE_k]; simp)
theorem run_dataStore {w : World} {B g n c : Nat} {ms : List Wr} (h : OwnK wrE w B (.slice (some ⟨g, 0, none⟩) n c) ms) (K : Nat) (s : Sc) (hK : K < n) : (secStore (.pointer (some ⟨g, K * 65 + 1, none⟩)) (.agg (secA s))).run Try.prog w = .ok .skip (w.setCells g (K * 65 + 1) (secA s).toList) := by
  have ht := h.there (K * 65 + 1) 64 (by rw [wrE_k]; have := mul_fit (k := 65) hK; omega)
  have hs := run_storeAt_mid (P := Try.prog) w g (K * 65 + 1) 44 (secA s) (by rw [secA_size]; exact ht) (by rw [size44, secA_size]) (secA_one s)
  simp only [secStore, Sem.run_bind, hs]
  rfl
theorem wrE_put0 (x : Wr) (a : Int) : (wrE.enc x).set 0 (.int .i64 a) = wrE.enc (a, x.2) := by
  rw [wrE_enc, wrE_enc, wrA_list, wrA_list]; rfl
theorem ScR.setC9 {w : World} {g k : Nat} {s : Sc} (h : ScR w k s) (o : Nat) (vs : List Value) (hn : g ≠ k) : ScR (w.setCells g o vs) k s := by
  have := (setC_frame g vs o w).2.2.2.2 k (fun e => hn e.symm)
  unfold ScR rowOk rowAt at *
  rw [this]; exact h
theorem below_setC {B g : Nat} {w0 w : World} (hb : Below B w0 w) (h : B ≤ g) (o : Nat) (vs : List Value) : Below B w0 (w.setCells g o vs) := by
  obtain ⟨h1, h2, h3, h4, h5⟩ := setC_frame g vs o w
  exact ⟨by rw [h2]; exact hb.os, by rw [h3]; exact hb.tape, by rw [h4]; exact hb.output, by rw [h1]; exact hb.size, fun k hk => by rw [h5 k (by omega)]; exact hb.block k hk⟩
/-! The writes that a sector tells of -/
def wW (s : Sc) (j : List Sc) (k : Nat) : Wr := ((numI s ((4 + 2 * k : Nat) : Int) 2 : Nat), if k < j.length then j.getD k secZ else secZ)
def wL (s : Sc) (j : List Sc) (n i : Nat) : List Wr := (List.range n).map fun k => if k < i then wW s j k else wrZ
theorem wL_len (s : Sc) (j : List Sc) (n i : Nat) : (wL s j n i).length = n := by simp [wL]
theorem wL_get (s : Sc) (j : List Sc) (n i k : Nat) (h : k < n) : (wL s j n i)[k]? = some (if k < i then wW s j k else wrZ) := by simp [wL, h]
theorem wL_set (s : Sc) (j : List Sc) (n i : Nat) : (wL s j n i).set i (wW s j i) = wL s j n (i + 1) := by
  apply List.ext_getElem?
  intro k
  by_cases hk : k < n
  · rw [List.getElem?_set, wL_len, wL_get _ _ _ _ _ hk, wL_get _ _ _ _ _ hk]
    by_cases hik : i = k
    · subst hik; simp [hk]
    · rw [if_neg hik]
      by_cases h3 : k < i
      · rw [if_pos h3, if_pos (by omega)]
      · rw [if_neg h3, if_neg (by omega)]
  · rw [List.getElem?_eq_none (by rw [List.length_set, wL_len]; omega), List.getElem?_eq_none (by rw [wL_len]; omega)]
theorem wL_zero (s : Sc) (j : List Sc) (n : Nat) : wL s j n 0 = List.replicate n wrZ := by
  unfold wL
  simp [List.map_const']
def mkW9 (x y : Value) : Sem Next := do pure (.value (← Instr.makeSlice 23 x y))
@[go_sem ↓] theorem execOp_mkW9 (ρ : Operand → Value) (dst : Option Tmp) (ty : TypeId) (pos : String) (after : Array Edge) (guard : Option (Nat × Bool)) (x y : Operand) : execOp ρ { dst, op := .makeSlice 23 x y, type := ty, pos, after, guard } = mkW9 (ρ x) (ρ y) := rfl
theorem info_wr9 : (Try.prog.info? 54).map (fun i => (i.zero, i.size, i.bytes)) = some (some (.agg (wrA wrZ)), 65, 72) := by kernel_rfl
theorem made_wr9 (n : Nat) : madeCells (wrA wrZ) (n * 65) = (flK wrE (List.replicate n wrZ)).toArray := by
  have hl : (flK wrE (List.replicate n wrZ)).length = n * 65 := by rw [flK_len wrE_ok, List.length_replicate, wrE_k]
  apply Array.ext_getElem?
  intro t
  by_cases ht : t < n * 65
  · have h1 : t / 65 < n := (Nat.div_lt_iff_lt_mul (by omega)).2 ht
    have e := flK_at wrE_ok (List.replicate n wrZ) t wrZ (by rw [wrE_k]; simp [h1])
    rw [wrE_k, wrE_enc] at e
    rw [show (flK wrE (List.replicate n wrZ)).toArray[t]? = (flK wrE (List.replicate n wrZ))[t]? from by simp, e]
    have hm : t % 65 < 65 := Nat.mod_lt _ (by omega)
    unfold madeCells
    rw [Array.getElem?_map, Array.getElem?_range, if_pos ht, Option.map_some, wrA_size, Array.getElem?_toList, getElem!_pos (wrA wrZ) (t % 65) (by rw [wrA_size]; exact hm), Array.getElem?_eq_getElem (by rw [wrA_size]; exact hm)]
  · rw [Array.getElem?_eq_none (by rw [size_madeCells]; omega), Array.getElem?_eq_none (by rw [List.size_toArray, hl]; omega)]
theorem run_mkW9 (w : World) (n : Nat) (h : n ≤ 255) : (mkW9 (.int .u8 (n : Int)) (.int .u8 (n : Int))).run Try.prog w =
    .ok (.value (.slice (some ⟨w.heap.size, 0, none⟩) n n)) (w.alloc (.cells (flK wrE (List.replicate n wrZ)).toArray 54)) := by
  obtain ⟨i, hi, hzz⟩ := Option.map_eq_some_iff.1 info_wr9
  simp only [Prod.mk.injEq] at hzz
  simp only [mkW9, Sem.run_bind]
  rw [run_make (P := Try.prog) w 23 54 i _ Try.underlying23 hi hzz.1 .u8 .u8 n n (by omega) (Int.le_refl _) (by rw [hzz.2.2]; omega) (by omega)]
  rw [hzz.2.1, Int.toNat_natCast, show (Value.agg (wrA wrZ)).cells = wrA wrZ from rfl, made_wr9]
  rfl
set_option linter.unusedSimpArgs false in
set_option maxHeartbeats 1600000 in
theorem writesOf_any (s : Sc) (j : List Sc) (x : Option Addr) (L c : Nat) (w : World) (hL : j.length = L) (h63 : L ≤ 2199023255552) (hj : IsK secE w (.slice x L c) j) :
    Calls Try.prog 74 #[.agg (secA s), .slice x L c] w fun r w' => ∃ g, r = .returned (.slice (some ⟨g, 0, none⟩) (s 2).toNat (s 2).toNat) ∧ OwnK wrE w' w.heap.size (.slice (some ⟨g, 0, none⟩) (s 2).toNat (s 2).toNat) (wL s j (s 2).toNat (s 2).toNat) ∧ Below w.heap.size w w' := by
  obtain ⟨n, hn⟩ : ∃ n, (s 2).toNat = n := ⟨_, rfl⟩
  have hn8 : n ≤ 255 := by have := (s 2).toNat_lt; omega
  go_enter Try.func74, Try.ntmps74
  go_upto_region 1 with fail
  have hB0 : Below w.heap.size w (w.alloc (.cells (secA s) 44)) := below_alloc w _
  have h20 : ScR (w.alloc (.cells (secA s) 44)) w.heap.size s := ScR.new w s 44
  obtain ⟨g2, hg2⟩ : ∃ g, w.heap.size = g := ⟨_, rfl⟩
  rw [hg2] at h20
  simp only [hg2]
  generalize w.alloc (.cells (secA s) 44) = X at hB0 h20 ⊢
  have c2 := h20.cell 2 (by omega)
  rw [hn] at c2
  have hmk := run_mkW9 X n hn8
  have hO0 := OwnK.lit wrE_ok X (List.replicate n wrZ) (by rw [List.length_replicate]; unfold maxLen; omega)
  rw [List.length_replicate, ← wL_zero s j] at hO0
  have hO0' : OwnK wrE (X.alloc (.cells (flK wrE (List.replicate n wrZ)).toArray 54)) w.heap.size (.slice (some ⟨X.heap.size, 0, none⟩) n n) (wL s j n 0) := by
    rw [wL_zero] at hO0 ⊢; exact hO0.le hB0.size
  have h21 := h20.kept (below_alloc X (.cells (flK wrE (List.replicate n wrZ)).toArray 54))
  have hB1 : Below w.heap.size w (X.alloc (.cells (flK wrE (List.replicate n wrZ)).toArray 54)) := hB0.alloc hB0.size _
  have hne : X.heap.size ≠ g2 := by have := h20.lt; omega
  clear hO0
  go_upto_region 2 with fail
  obtain ⟨g, hg⟩ : ∃ g, X.heap.size = g := ⟨_, rfl⟩
  rw [hg] at hO0' hne
  simp only [hg]
  generalize X.alloc (.cells (flK wrE (List.replicate n wrZ)).toArray 54) = Y at hO0' h21 hB1 ⊢
  clear hmk c2 hg hB0 h20
  have hgw : w.heap.size ≤ g := hO0'.ge
  go_wp2_with fail
  go_loopw [12] (fun iv wr => ∃ i : Nat, i ≤ n ∧ iv = .int .i64 i ∧ OwnK wrE wr w.heap.size (.slice (some ⟨g, 0, none⟩) n n) (wL s j n i) ∧ ScR wr g2 s ∧ Below w.heap.size w wr) (fun iv _ => n - (intOf iv).toNat)
  case atStart => exact ⟨0, by omega, rfl, hO0', h21, hB1⟩
  case round =>
    clear hO0' h21 hB1
    obtain ⟨i, hi, rfl, hO, h2, hB⟩ := hrel
    by_cases hlt : i < n
    · have hk9 : (i : Int) < (n : Int) := by omega
      have m1 : IntKind.i64.wrap (2 * (i : Int)) = ((2 * i : Nat) : Int) := by rw [IntKind.wrap_i64]; omega
      have m2 : IntKind.i64.wrap (4 + ((2 * i : Nat) : Int)) = ((4 + 2 * i : Nat) : Int) := by rw [IntKind.wrap_i64]; omega
      have hu := u16_any s ((4 + 2 * i : Nat) : Int) wr (by omega) (by omega)
      obtain ⟨v, hv⟩ : ∃ v, numI s ((4 + 2 * i : Nat) : Int) 2 = v := ⟨_, rfl⟩
      have hvl : v < 65536 := by rw [← hv]; exact numI_lt s _ 2
      have hw1 : (wW s j i).1 = (v : Int) := by unfold wW; rw [hv]
      rw [hv] at hu
      obtain ⟨j0, hj0⟩ : ∃ j, 2 * i = j := ⟨_, rfl⟩
      obtain ⟨j1, hj1⟩ : ∃ j, 4 + 2 * i = j := ⟨_, rfl⟩
      rw [hj1] at m2 hu
      rw [hj0] at m1 m2
      have m3 : IntKind.i64.wrap (v : Int) = (v : Int) := by rw [IntKind.wrap_i64]; omega
      clear hj0 hj1 hv
      have H2 : Hid (ScR wr g2 s) := h2
      obtain ⟨r2, q2⟩ := h2
      go_wp2_with fail
      go_at_call 84
      refine hu.mono ?_
      rintro e w3 ⟨rfl, hb3⟩
      clear hu m1 m2 r2 q2
      have h23 := H2.out.kept hb3
      have hO3 := hO.keep hb3
      have hB3 := hB.trans (hb3.mono hB.size)
      have hz := wL_get s j n i i hlt
      rw [if_neg (by omega)] at hz
      have hO4 := hO3.cellPut wrE_ok i 0 wrZ ((v : Int), wrZ.2) (.int .i64 (v : Int)) hz (by rw [wrE_k]; omega) (wrE_put0 _ _)
      have cA := (wr_at (hO3.range wrE_ok i wrZ hz)).1
      have fA := hO3.frz (i * 65)
      rw [wrE_k] at cA hO4
      rw [Nat.add_zero] at hO4
      have h24 := h23.set_ne (i * 65) (.int .i64 (v : Int)) hne
      have hB4 : Below w.heap.size w (w3.setCell ⟨g, i * 65, none⟩ (.int .i64 (v : Int))) := hB3.setCell (p := ⟨g, i * 65, none⟩) hgw _
      have HO4 : Hid (OwnK wrE (w3.setCell ⟨g, i * 65, none⟩ (.int .i64 (v : Int))) w.heap.size (.slice (some ⟨g, 0, none⟩) n n) ((wL s j n i).set i ((v : Int), wrZ.2))) := hO4
      have H24 : Hid (ScR (w3.setCell ⟨g, i * 65, none⟩ (.int .i64 (v : Int))) g2 s) := h24
      have HB4 : Hid (Below w.heap.size w (w3.setCell ⟨g, i * 65, none⟩ (.int .i64 (v : Int)))) := hB4
      clear hb3 hO hB hO3 hO4 h23 h24 hB3 hB4 hz
      go_upto_region 6 with fail
      generalize w3.setCell ⟨g, i * 65, none⟩ (.int .i64 (v : Int)) = V at HO4 H24 HB4 ⊢
      clear cA fA m3
      by_cases hij : i < L
      · have hij1 : (i : Int) < (L : Int) := by omega
        obtain ⟨d, hd⟩ : ∃ d, j.getD i secZ = d := ⟨_, rfl⟩
        have hjg : j[i]? = some d := by rw [← hd, List.getD_eq_getElem?_getD, List.getElem?_eq_getElem (by omega)]; rfl
        obtain ⟨b, o, rfl, hbl, hr⟩ := (hj.kept HB4.out).at i d hjg
        have hrg := rg_of (k := 64) hr (by rw [secE_ok.len]; rfl)
        rw [secE_arr] at hrg
        obtain ⟨rk, rv⟩ := hrg
        rw [secE_k] at rk rv
        have hst := run_dataStore HO4.out i d hlt
        have hg5 : ((wL s j n i).set i ((v : Int), wrZ.2))[i]? = some ((v : Int), wrZ.2) := List.getElem?_set_self (by rw [wL_len]; exact hlt)
        have hO5 := dataPut HO4.out i ((v : Int), wrZ.2) d hg5
        have hww : ((v : Int), d) = wW s j i := by rw [← hw1]; unfold wW; rw [if_pos (by omega), hd]
        rw [List.set_set, hww, wL_set] at hO5
        have HO5 : Hid (OwnK wrE (V.setCells g (i * 65 + 1) (secA d).toList) w.heap.size (.slice (some ⟨g, 0, none⟩) n n) (wL s j n (i + 1))) := hO5
        have H25 : Hid (ScR (V.setCells g (i * 65 + 1) (secA d).toList) g2 s) := H24.out.setC9 _ _ hne
        have HB5 : Hid (Below w.heap.size w (V.setCells g (i * 65 + 1) (secA d).toList)) := below_setC HB4.out hgw _ _
        clear hO5 hww hg5 hd hjg hr HO4 H24 HB4 hw1
        go_wp2_with fail
        go_roundw
        case rel => exact ⟨i + 1, by omega, by go_num, HO5.out, H25.out, HB5.out⟩
        case measure => simp [intOf]; omega
      · have hij1 : ¬ (i : Int) < (L : Int) := by omega
        have hww : ((v : Int), wrZ.2) = wW s j i := by rw [← hw1]; unfold wW; rw [if_neg (by omega)]; rfl
        have HO5 : Hid (OwnK wrE V w.heap.size (.slice (some ⟨g, 0, none⟩) n n) (wL s j n (i + 1))) := by
          show OwnK _ _ _ _ _
          rw [← wL_set, ← hww]; exact HO4.out
        clear hww hw1
        go_wp2_with fail
        go_roundw
        case rel => exact ⟨i + 1, by omega, by go_num, HO5.out, H24.out, HB4.out⟩
        case measure => simp [intOf]; omega
    · obtain rfl : n = i := by omega
      have HO : Hid _ := hO
      have HB : Hid (Below w.heap.size w wr) := hB
      clear hO h2 hB
      go_wp2_with fail
      go_ret
      rw [hn]
      exact ⟨g, rfl, HO.out, HB.out⟩
end Go.Proofs.Ytpckdkgbeemalaa
