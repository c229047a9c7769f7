import Derived.Test.YtddmmmfpdmejbaaGreatDoorQJzp
import Derived.Test.YtddmmmfpdmejbaaGreatDoorQJzt
namespace Go.Proofs.YtddmmmfpdmejbaaGreatDoor
open Go.RowKit

/-! A deep copy of a value -/
def nils (n : Nat) : List Value := List.replicate n .nilIface
def mkV (x y : Value) : Sem Next := do pure (.value (← Instr.makeSlice 53 x y))
section
variable (ρ : Operand → Value) (dst : Option Tmp) (ty : TypeId) (pos : String) (after : Array Edge) (guard : Option (Nat × Bool))
@[go_sem ↓] theorem execOp_mkV (x y : Operand) : execOp ρ { dst, op := .makeSlice 53 x y, type := ty, pos, after, guard } = mkV (ρ x) (ρ y) := rfl
end
theorem info_vV : (Tryz.prog.info? 27).map (fun i => (i.zero, i.size, i.bytes)) = some (some .nilIface, 1, 16) := by kernel_rfl
theorem made_vV (n : Nat) : madeCells #[Value.nilIface] n = (nils n).toArray := by
  apply Array.ext_getElem?
  intro i
  unfold nils
  by_cases hi : i < n
  · simp [madeCells, hi, Nat.mod_one]
  · rw [Array.getElem?_eq_none (by rw [size_madeCells]; omega), Array.getElem?_eq_none (by simp; omega)]
@[go_sem] theorem run_mkV (w : World) (n : Int) (h0 : 0 ≤ n) (h : n ≤ 8796093022208) : (mkV (.int .i64 n) (.int .i64 n)).run Tryz.prog w =
    .ok (.value (.slice (some ⟨w.heap.size, 0, none⟩) n.toNat n.toNat)) (w.alloc (.cells (nils n.toNat).toArray 27)) := by
  obtain ⟨i, hi, hzz⟩ := Option.map_eq_some_iff.1 info_vV
  simp only [Prod.mk.injEq] at hzz
  simp only [mkV, Sem.run_bind]
  rw [run_make (P := Tryz.prog) w 53 27 i _ Tryz.underlying53 hi hzz.1 .i64 .i64 n n h0 (Int.le_refl _) (by rw [hzz.2.2]; omega) (by omega)]
  rw [hzz.2.1, Nat.mul_one, show (Value.nilIface).cells = #[Value.nilIface] from rfl, made_vV]
  rfl
/-- An interface's value. -/
def Ifz (v : Value) : Prop := v = .nilIface ∨ ∃ t p, v = .iface t p
theorem VlG.ifz {w : World} {F : Nat → Prop} {v : Value} {d : Nd} (h : VlG w F v d) : Ifz v := by
  cases h using VlG.rc
  · exact .inl rfl
  all_goals exact .inr ⟨_, _, rfl⟩
def ClP (d : Nd) (w : World) (e : Ending) (w' : World) : Prop := ∃ v', e = .returned v' ∧ VlG w' (w.heap.size ≤ ·) v' d ∧ Below w.heap.size w w'
def ClOk (d : Nd) : Prop := ∀ (w : World) (F : Nat → Prop) (v : Value), VlG w F v d → Calls Tryz.prog 34 #[v] w fun e w' => ClP d w e w'
/-- What cloneAll leaves. -/
def CaP (vs : List Nd) (w : World) (e : Ending) (w' : World) : Prop := ∃ (a : Sl) (us : List Value), e = .returned a.v ∧ IsG w' a.v us ∧ a.In (w.heap.size ≤ ·) ∧ us.length = vs.length ∧ a.n ≤ 1759218604441 ∧ (∀ (i : Nat) u d, us[i]? = some u → vs[i]? = some d → VlG w' (w.heap.size ≤ ·) u d) ∧ Below w.heap.size w w'
/-- What holds ahead of each element. -/
def CaI (g m : Nat) (vs : List Nd) (w wr : World) (j : Nat) : Prop :=
  ∃ us : List Value, OwnG 27 wr g (.slice (some ⟨g, 0, none⟩) m m) us ∧ us.length = m ∧ (∀ (i : Nat) u d, i < j → us[i]? = some u → vs[i]? = some d → VlG wr (fun q => g ≤ q ∧ q ≠ g) u d) ∧ Below g w wr
set_option linter.unusedSimpArgs false in
set_option maxRecDepth 100000 in
set_option maxHeartbeats 8000000 in
theorem cloneAll15_any (vs : List Nd) (ih : ∀ d ∈ vs, ClOk d) (w : World) (F : Nat → Prop) (a : Sl) (us : List Value) (hL : LsG w F a us vs) : Calls Tryz.prog 63 #[a.v] w fun e w' => CaP vs w e w' := by
  obtain ⟨ax, m, ac⟩ := a
  have hmz : m ≤ 1759218604441 := hL.2.2.1
  have hnum : m = us.length := IsG.num (a := ⟨ax, m, ac⟩) hL.1
  have HG : Hid (IsG w (.slice ax m ac) us ∧ us.length = vs.length ∧ (∀ (i : Nat) u d, us[i]? = some u → vs[i]? = some d → VlG w F u d) ∧ m = us.length) := ⟨hL.1, hL.2.1, hL.2.2.2, hnum⟩
  obtain ⟨g, hg⟩ : ∃ q, w.heap.size = q := ⟨_, rfl⟩
  have HW : Hid (w.heap.size = g) := hg
  have bA := below_alloc w (.cells (nils m).toArray 27)
  have h0 : CaI g m vs w (w.alloc (.cells (nils m).toArray 27)) 0 := by
    refine ⟨nils m, ?_, by simp [nils], fun i u d h => absurd h (Nat.not_lt_zero _), by rw [← hg]; exact bA⟩
    have h9 := OwnG.lit 27 w (nils m) (by unfold maxLen; simp [nils]; omega)
    rw [hg, show (nils m).length = m by simp [nils]] at h9
    exact h9
  have i0 : (0 : Int) ≤ (m : Int) := by omega
  have i8 : (m : Int) ≤ 8796093022208 := by omega
  simp only [Sl.v]
  clear hnum hL
  go_enter Tryz.func63, Tryz.ntmps63
  go_wp2_with fail
  generalize w.alloc (.cells (nils m).toArray 27) = Y at *
  clear hg bA
  go_loopw [11] (fun iv wr => ∃ j : Nat, j ≤ m ∧ iv = .int .i64 j ∧ CaI g m vs w wr j) (fun iv _ => m - (intOf iv).toNat)
  case atStart => exact ⟨0, Nat.zero_le _, rfl, h0⟩
  case round =>
    clear h0
    obtain ⟨j, hj, rfl, us', hO, hul, hel, hB⟩ := hrel
    by_cases hlt : j < m
    · have i1 : (j : Int) < (m : Int) := by omega
      have i3 : (0 : Int) ≤ (j : Int) := by omega
      obtain ⟨hG, hl, he, hnum⟩ := HG.out
      have hwg := HW.out
      obtain ⟨u, hu⟩ : ∃ q, us[j]? = some q := ⟨_, List.getElem?_eq_getElem (by omega)⟩
      obtain ⟨dd, hdd⟩ : ∃ q, vs[j]? = some q := ⟨_, List.getElem?_eq_getElem (by omega)⟩
      have hBw : Below w.heap.size w wr := by rw [hwg]; exact hB
      have hGr := isG_kept15 hG hBw
      obtain ⟨bb, pp, rfl, -, cu⟩ := IsG.spot hGr j (by omega)
      have q1 := cu j u hu
      have hC := ih dd (List.mem_of_getElem? hdd) wr F u ((he j u dd hu hdd).kept hBw)
      have hwr : IntKind.i64.wrap ((j : Int) + 1) = (j : Int) + 1 := by rw [IntKind.wrap_i64]; omega
      have HD : Hid (vs[j]? = some dd) := hdd
      clear hu hdd hG hl he hnum cu hGr hwg
      go_wp2_with fail
      refine hC.mono ?_
      rintro e w2 ⟨v', rfl, hv2, hb2⟩
      clear hC q1
      have hO2 := hO.keep hb2
      have hgr : g < wr.heap.size := (hO.lt g rfl).2
      have hz2 : w2.frozen? ⟨g, j, none⟩ = false := hO2.frozen j
      have cz2 : ∃ z, w2.cell? ⟨g, j, none⟩ = some z := ⟨_, hO2.cell j us'[j] (List.getElem?_eq_getElem (by omega))⟩
      obtain ⟨z9, cz2⟩ := cz2
      obtain ⟨hO3, hg3⟩ := hO2.put j v'
      have hB3 : Below g w (w2.setCell ⟨g, j, none⟩ v') := by
        have h9 := hB.trans (hb2.mono (Nat.le_of_lt hgr))
        exact ⟨hg3.os.trans h9.os, hg3.tape.trans h9.tape, hg3.output.trans h9.output, Nat.le_trans h9.size hg3.size, fun q hq => (hg3.block q (by have := h9.size; have := HW.out; omega) (fun e => by cases e; omega)).trans (h9.block q hq)⟩
      have HI : Hid (CaI g m vs w (w2.setCell ⟨g, j, none⟩ v') (j + 1)) := by
        refine ⟨us'.set j v', hO3, by rw [List.length_set]; exact hul, fun i u d hi hui hdi => ?_, hB3⟩
        by_cases hij : i = j
        · subst hij
          rw [List.getElem?_set_self (by omega)] at hui
          cases hui
          rw [HD.out] at hdi
          cases hdi
          have h7 : VlG w2 (fun q => g ≤ q ∧ q ≠ g) v' dd := hv2.mono fun q hq => ⟨by omega, by omega⟩
          exact h7.ag fun q hq hql => hg3.block q hql (fun e => hq.2 (Option.some.inj e))
        · rw [List.getElem?_set_ne (fun e => hij e.symm)] at hui
          have h7 := (hel i u d (by omega) hui hdi).kept hb2
          exact h7.ag fun q hq hql => hg3.block q hql (fun e => hq.2 (Option.some.inj e))
      have hone := hv2.ifz
      clear hO hul hel hB hO2 hv2 hb2 hO3 hg3 hB3 hBw
      rcases hone with rfl | ⟨vt, vp, rfl⟩
      · go_wp2
        go_roundw
        case rel => first | exact ⟨j + 1, by omega, by go_num, HI.out⟩ | ((repeat apply Exists.intro); refine ⟨⟨j + 1, by omega, ?_, HI.out⟩, rfl⟩; go_num)
        case measure => simp [intOf]; omega
      · go_wp2
        go_roundw
        case rel => first | exact ⟨j + 1, by omega, by go_num, HI.out⟩ | ((repeat apply Exists.intro); refine ⟨⟨j + 1, by omega, ?_, HI.out⟩, rfl⟩; go_num)
        case measure => simp [intOf]; omega
    · obtain rfl : j = m := by omega
      have i1 : ¬ (j : Int) < (j : Int) := by omega
      have HE : Hid (CaP vs w (.returned (.slice (some ⟨g, 0, none⟩) j j)) wr) := by
        obtain ⟨hG, hl, he, hnum⟩ := HG.out
        refine ⟨⟨some ⟨g, 0, none⟩, j, j⟩, us', rfl, hO.isG, fun _ p hp => by cases hp; rw [HW.out]; exact Nat.le_refl _, by omega, hmz, fun i u d hu hd => ?_, by rw [HW.out]; exact hB⟩
        have hi : i < j := by have := (List.getElem?_eq_some_iff.1 hu).1; omega
        exact (hel i u d hi hu hd).mono fun q hq => by rw [HW.out]; exact hq.1
      clear hO hul hel hB
      go_wp2
      go_ret
      exact HE.out
end Go.Proofs.YtddmmmfpdmejbaaGreatDoor
