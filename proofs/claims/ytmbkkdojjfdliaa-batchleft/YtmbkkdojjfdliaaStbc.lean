
import Derived.Test.YtmbkkdojjfdliaaStbb
namespace Go.Proofs.Ytmbkkdojjfdliaa
open Go.RowKit

/-! batch.Cut -/
attribute [local go_sem ↓] execOp_cutW1 execOp_cutW3
theorem run_cutW3 (w : World) (b o n c k : Nat) (h1 : k ≤ n) (h2 : n ≤ c) : (cutW3 (.slice (some ⟨b, o, none⟩) n c) (.int .i64 (k : Int)) (.int .i64 (k : Int))).run Try.prog w = .ok (.value (.slice (some ⟨b, o, none⟩) k k)) w := by
  have b1 : ∀ (W : World) (m : Nat) (cd : BoundsCode), k ≤ m → (Instr.sliceBound (.int .i64 (k : Int)) m cd).run Try.prog W = .ok k W := fun W m cd hm => by
    have := run_sliceBound (P := Try.prog) W .i64 (k : Int) m cd (by omega) (by omega)
    simpa using this
  have b2 := fun W cd => b1 W c cd (by omega)
  have b3 := fun W cd => b1 W k cd (Nat.le_refl _)
  simp [cutW3, Instr.sliceAt, Instr.slice, run_underlying Try.underlying22, Instr.sliceBounds, b2, b3, addr_add]
theorem run_cutW1' (w : World) (b o n c k r d : Nat) (h1 : k + r = n) (h2 : k + d = c) : ∃ a, (cutW1 (.slice (some ⟨b, o, none⟩) n c) (.int .i64 (k : Int))).run Try.prog w = .ok (.value (.slice a r d)) w ∧ (0 < d → a = some ⟨b, o + k * 65, none⟩) := by
  rcases Nat.eq_zero_or_pos d with h0 | h0
  · have b1 : ∀ W : World, (Instr.sliceBound (.int .i64 (k : Int)) n BoundsCode.sliceB).run Try.prog W = .ok k W := fun W => by
      have := run_sliceBound (P := Try.prog) W .i64 (k : Int) n BoundsCode.sliceB (by omega) (by omega)
      simpa using this
    have e1 : c = k := by omega
    have e2 : n - k = r := by omega
    have e3 : c - k = d := by omega
    refine ⟨some ⟨b, o, none⟩, ?_, fun h => by omega⟩
    subst h0
    simp [cutW1, Instr.sliceAt, Instr.slice, run_underlying Try.underlying22, Instr.sliceBounds, b1, e1, e2, Try.sizeOf29]
  · exact ⟨_, run_cutW1 w b o n c k r d h1 h2 h0, fun _ => rfl⟩
def ptC (g K i : Nat) : Pt := ⟨g, 8 * i * 65, min 8 (K - 8 * i), min 8 (K - 8 * i)⟩
def ptsC (g K i : Nat) : List Pt := (List.range i).map (ptC g K)
theorem ptsC_succ (g K i : Nat) : (ptsC g K (i + 1)).map Pt.v = (ptsC g K i).map Pt.v ++ [(ptC g K i).v] := by simp [ptsC, List.range_succ]
theorem ptsC_get {g K m i : Nat} {p : Pt} (h : (ptsC g K m)[i]? = some p) : p = ptC g K i ∧ i < m := by
  have hi : i < m := by
    have := (List.getElem?_eq_some_iff.1 h).1
    simpa [ptsC] using this
  unfold ptsC at h
  rw [List.getElem?_map, List.getElem?_range hi] at h
  exact ⟨(Option.some.inj h).symm, hi⟩
theorem flK_part {S : List Wr} (a b : Nat) (h : a ≤ S.length) (j : Nat) (u : Value) (hj : (flK wrE ((S.drop a).take b))[j]? = some u) : (flK wrE S)[a * 65 + j]? = some u := by
  have e : S = S.take a ++ ((S.drop a).take b ++ (S.drop a).drop b) := by rw [List.take_append_drop, List.take_append_drop]
  have hl : (flK wrE (S.take a)).length = a * 65 := by rw [flK_len wrE_ok, List.length_take, Nat.min_eq_left h]; rfl
  have e2 : flK wrE S = flK wrE (S.take a) ++ (flK wrE ((S.drop a).take b) ++ flK wrE ((S.drop a).drop b)) := by rw [← flK_app, ← flK_app, ← e]
  rw [e2, List.getElem?_append_right (by rw [hl]; omega), hl, Nat.add_sub_cancel_left, List.getElem?_append_left (List.getElem?_eq_some_iff.1 hj).1]
  exact hj
theorem cutP_of {W : World} {B g K c : Nat} {S : List Wr} {v : Value} (h : OwnK wrE W B (.slice (some ⟨g, 0, none⟩) K c) S) (hv : OwnG 22 W B v ((ptsC g K (nbW K)).map Pt.v)) : CutP W B v (cutW S) (ptsC g K (nbW K)) := by
  obtain ⟨cur, hn, hb, hg, hle, hm, hs, ht⟩ := h.heap
  have hs' : cur.size = c * 65 := hs
  refine ⟨hv, by rw [cutW_len, ← hn]; simp [ptsC], fun i p hp => ?_, fun i p ds hp hd => ?_, fun i j p q hij hp hq b t ⟨e1, e2, e3⟩ ⟨k1, k2, k3⟩ => ?_⟩
  · obtain ⟨rfl, hi⟩ := ptsC_get hp
    refine ⟨hb, Nat.le_refl _, ?_, cur, hg, ?_⟩
    · show min 8 (K - 8 * i) ≤ maxLen
      unfold maxLen
      omega
    · show 8 * i * 65 + min 8 (K - 8 * i) * 65 ≤ cur.size
      unfold nbW at hi
      have : 8 * i + min 8 (K - 8 * i) ≤ c := by omega
      omega
  · obtain ⟨rfl, hi⟩ := ptsC_get hp
    rw [cutW_get S i (by rw [← hn]; exact hi)] at hd
    cases hd
    refine ⟨by rw [List.length_take, List.length_drop, ← hn]; rfl, fun j u hu => ?_⟩
    unfold nbW at hi
    have := (h.isK wrE_ok).cells wrE_ok _ _ (flK_part (8 * i) 8 (by omega) j u hu)
    rw [Nat.zero_add] at this
    exact this
  · obtain ⟨rfl, hi⟩ := ptsC_get hp
    obtain ⟨rfl, hj⟩ := ptsC_get hq
    have e2' : 8 * i * 65 ≤ t := e2
    have e3' : t < 8 * i * 65 + min 8 (K - 8 * i) * 65 := e3
    have k2' : 8 * j * 65 ≤ t := k2
    have k3' : t < 8 * j * 65 + min 8 (K - 8 * j) * 65 := k3
    omega
set_option linter.unusedSimpArgs false in
set_option maxHeartbeats 4000000 in
theorem cut26 (l : List Wr) (x0 : Option Addr) (n c : Nat) (w : World) (hn : l.length = n) (hl : IsK wrE w (.slice x0 n c) l) (hb : (n + 1) * 72 ≤ 140737488355328) :
    Calls Try.prog 8 #[.slice x0 n c] w fun e w' => ∃ y k c' ps, e = .returned (.slice y k c') ∧ nbW (srtW l).length = k ∧ CutP w' w.heap.size (.slice y k c') (cutW (srtW l)) ps ∧ Below w.heap.size w w' := by
  have hC := counting26 l x0 n c w hn hl hb
  have hSl := srtW_len l
  obtain ⟨S, hS⟩ : ∃ S, srtW l = S := ⟨_, rfl⟩
  rw [hS] at hC hSl ⊢
  clear hS hl
  go_enter Try.func8, Try.ntmps8
  go_wp2_with fail
  refine hC.mono ?_
  rintro e w1 ⟨y, K, cc, rfl, hK, hO, hB⟩
  clear hC
  have hKn : K ≤ 1954687338267 := by omega
  have hcc : K ≤ cc := (hO.isK wrE_ok).cap.2
  obtain ⟨g, hyg⟩ : ∃ g, 0 < K → y = some ⟨g, 0, none⟩ ∧ g < w1.heap.size ∧ w.heap.size ≤ g := by
    rcases Nat.eq_zero_or_pos K with h0 | h0
    · exact ⟨0, fun h => by omega⟩
    · obtain ⟨g, h1, h2⟩ := hO.form (by omega)
      subst h1
      exact ⟨g, fun _ => ⟨rfl, h2, (World.ownsRow.lt hO g rfl).1⟩⟩
  have HY : Hid (0 < K → y = some ⟨g, 0, none⟩ ∧ g < w1.heap.size ∧ w.heap.size ≤ g) := hyg
  have HW : Hid (OwnK wrE w1 w.heap.size (.slice y K cc) S ∧ Below w.heap.size w w1 ∧ S.length = K) := ⟨hO, hB, hK⟩
  clear hyg hO hB hK hSl hn
  go_wp2_with fail
  go_loopw [3, 4] (fun bv rv wr => ∃ (i : Nat) (yb ra : Option Addr) (cb r rc : Nat), bv = .slice yb i cb ∧ rv = .slice ra r rc ∧ i ≤ nbW K ∧ r = K - 8 * i ∧ (0 < r → ra = some ⟨g, 8 * i * 65, none⟩ ∧ rc = cc - 8 * i) ∧ OwnG 22 wr w1.heap.size (.slice yb i cb) ((ptsC g K i).map Pt.v) ∧ Below w1.heap.size w1 wr) (fun _ rv _ => (match rv with | .slice _ r _ => r | _ => 0))
  case atStart => exact ⟨0, none, y, 0, K, cc, rfl, rfl, by omega, by omega, fun h => ⟨by rw [(HY.out h).1], by omega⟩, OwnG.nil _ _ _, Below.refl _ _⟩
  case round =>
    obtain ⟨i, yb, ra, cb, r, rc, rfl, rfl, hi, hr, hra, hG, hBw⟩ := hrel
    by_cases h0 : 0 < r
    · obtain ⟨rfl, hrc⟩ := hra h0
      have hc : (r : Int) > 0 := by omega
      obtain ⟨m, hm⟩ : ∃ m, min 8 r = m := ⟨_, rfl⟩
      have hmr : m ≤ r := by omega
      have hm0 : 0 < m := by omega
      have hrc2 : r ≤ rc := by omega
      have hmin : (if (8 : Int) < (r : Int) then (8 : Int) else (r : Int)) = (m : Int) := by split <;> omega
      have hc3 : ∀ W, (cutW3 (.slice (some ⟨g, 8 * i * 65, none⟩) r rc) (.int .i64 (m : Int)) (.int .i64 (m : Int))).run Try.prog W = .ok (.value (.slice (some ⟨g, 8 * i * 65, none⟩) m m)) W := fun W => run_cutW3 W g (8 * i * 65) r rc m hmr hrc2
      have hal := below_alloc wr (.cells #[.slice (some ⟨g, 8 * i * 65, none⟩) m m] 22)
      have hcl : (wr.alloc (.cells #[.slice (some ⟨g, 8 * i * 65, none⟩) m m] 22)).cell? ⟨wr.heap.size, 0, none⟩ = some (.slice (some ⟨g, 8 * i * 65, none⟩) m m) := by
        rw [cell_of_row _ _ _ _ _ _ (heap_alloc_new wr _)]; rfl
      have hlx : ((ptsC g K i).map Pt.v).length = i := by simp [ptsC]
      have hnb : nbW K ≤ 300000000000 := by unfold nbW; omega
      obtain ⟨v', w', hap, hG2, -, hB2⟩ := run_app1G eltLL (wr.alloc (.cells #[.slice (some ⟨g, 8 * i * 65, none⟩) m m] 22)) w1.heap.size wr.heap.size 1 (.slice yb i cb) _ (.slice (some ⟨g, 8 * i * 65, none⟩) m m) 24 (hG.keep hal) hcl rfl (by rw [hlx]; omega) (by rw [hlx]; unfold maxLen; omega) (by rw [World.size_alloc]; have := hBw.size; omega)
      obtain ⟨r2, hr2⟩ : ∃ q, m + q = r := ⟨r - m, by omega⟩
      obtain ⟨d2, hd2⟩ : ∃ q, m + q = rc := ⟨rc - m, by omega⟩
      obtain ⟨a2, hcA, ha2⟩ := run_cutW1' w' g (8 * i * 65) r rc m r2 d2 hr2 hd2
      have hptc : Value.slice (some ⟨g, 8 * i * 65, none⟩) m m = (ptC g K i).v := by
        show _ = Value.slice (some ⟨g, 8 * i * 65, none⟩) (min 8 (K - 8 * i)) (min 8 (K - 8 * i))
        rw [← hr, hm]
      rw [hptc, ← ptsC_succ] at hG2
      obtain ⟨y', c', hv'⟩ : ∃ y' c', v' = .slice y' (i + 1) c' := by
        obtain ⟨y', c', h9, -⟩ := OwnG.form hG2 (by rw [ptsC_succ]; simp)
        exact ⟨some ⟨y', 0, none⟩, c', by rw [h9]; simp [ptsC]⟩
      subst hv'
      have HE : Hid (OwnG 22 w' w1.heap.size (.slice y' (i + 1) c') ((ptsC g K (i + 1)).map Pt.v) ∧ Below w1.heap.size w1 w' ∧ i + 1 ≤ nbW K ∧ r2 = K - 8 * (i + 1) ∧ (0 < r2 → a2 = some ⟨g, 8 * (i + 1) * 65, none⟩ ∧ d2 = cc - 8 * (i + 1)) ∧ r2 < r) := by
        refine ⟨hG2, hBw.trans ((hal.mono hBw.size).trans hB2), by unfold nbW; omega, by omega, fun h9 => ⟨?_, by omega⟩, by omega⟩
        rw [ha2 (by omega), show 8 * i * 65 + m * 65 = 8 * (i + 1) * 65 by omega]
      clear hal hcl hG hBw hG2 hB2 hptc hr hi hra hrc hr2 hd2 ha2 hlx hnb hm hmr hm0 hrc2 h0
      go_wp2_with (at_builtin; refine wpL_appG 24 rfl _ _ rfl _ w' (by exact hap) ?_)
      go_roundw
      case rel =>
        obtain ⟨q1, q2, q3, q4, q5, q6⟩ := HE.out
        exact ⟨i + 1, y', a2, c', r2, d2, rfl, rfl, q3, q4, q5, q1, q2⟩
      case measure => exact HE.out.2.2.2.2.2
    · obtain rfl : r = 0 := by omega
      have HE : Hid (i = nbW K) := by show _ = _; unfold nbW at hi ⊢; omega
      have HG : Hid _ := hG
      clear hi hr hra h0 hG
      go_wp2
      go_ret
      obtain ⟨q1, q2, q3⟩ := HW.out
      have hBe : Below w.heap.size w wr := q2.trans (hBw.mono q2.size)
      have hG1 := OwnG.le HG.out q2.size
      have hi := HE.out
      subst hi
      rcases Nat.eq_zero_or_pos K with h0 | h0
      · subst h0
        obtain rfl : S = [] := List.eq_nil_of_length_eq_zero q3
        exact ⟨yb, _, cb, [], rfl, rfl, ⟨hG1, rfl, fun i p hp => by simp at hp, fun i p ds hp => by simp at hp, fun i j p q _ hp => by simp at hp⟩, hBe⟩
      · obtain ⟨e1, e2, e3⟩ := HY.out h0
        subst e1
        exact ⟨yb, _, cb, _, rfl, by rw [q3], cutP_of (q1.keep hBw) hG1, hBe⟩
end Go.Proofs.Ytmbkkdojjfdliaa
