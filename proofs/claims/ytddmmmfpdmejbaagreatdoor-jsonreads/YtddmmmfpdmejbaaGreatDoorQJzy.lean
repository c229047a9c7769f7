import Derived.Test.YtddmmmfpdmejbaaGreatDoorQJzx
import Derived.Test.YtddmmmfpdmejbaaGreatDoorQJzm
namespace Go.Proofs.YtddmmmfpdmejbaaGreatDoor
open Go.RowKit

/-! field, Field -/
theorem idxF_ge (s : ByteArray) : ∀ (kb : List ByteArray) (i : Nat), 0 ≤ Lib.idxFromS kb s i → (i : Int) ≤ Lib.idxFromS kb s i
  | [], i, h => by simp [Lib.idxFromS] at h
  | z :: zs, i, h => by
    unfold Lib.idxFromS at h ⊢
    split
    · omega
    · rename_i hz
      rw [if_neg hz] at h
      have := idxF_ge s zs (i + 1) h
      omega
theorem idxF_lt (s : ByteArray) : ∀ (kb : List ByteArray) (i : Nat), Lib.idxFromS kb s i < (i + kb.length : Nat)
  | [], i => by simp [Lib.idxFromS]; omega
  | z :: zs, i => by
    unfold Lib.idxFromS
    split
    · simp; omega
    · have := idxF_lt s zs (i + 1)
      simp at this ⊢
      omega
theorem fld_idx (s : ByteArray) : ∀ (kb : List ByteArray) (vs : List Nd) (i : Nat), fldK (lS s) (kb.map lS) vs = if 0 ≤ Lib.idxFromS kb s i then vs[(Lib.idxFromS kb s i).toNat - i]? else none
  | [], vs, i => by
    unfold Lib.idxFromS
    rw [if_neg (by decide), List.map_nil]
    cases vs <;> rfl
  | z :: zs, [], i => by
    rw [List.map_cons]
    simp [fldK]
  | z :: zs, v :: vs, i => by
    rw [List.map_cons, fldK]
    unfold Lib.idxFromS
    by_cases h : z = s
    · subst h
      rw [if_pos rfl, if_pos rfl, if_pos (by omega)]
      simp
    · rw [if_neg (fun e => h (lS_inj e)), if_neg h, fld_idx s zs vs (i + 1)]
      by_cases h0 : 0 ≤ Lib.idxFromS zs s (i + 1)
      · rw [if_pos h0, if_pos h0]
        have := idxF_ge s zs (i + 1) h0
        rw [show (Lib.idxFromS zs s (i + 1)).toNat - i = ((Lib.idxFromS zs s (i + 1)).toNat - (i + 1)) + 1 by omega]
        simp
      · rw [if_neg h0, if_neg h0]
theorem index15_any (x : Option Addr) (n c : Nat) (kb : List ByteArray) (s : ByteArray) (w : World) (h : IsG w (.slice x n c) (strs kb)) (hz : n ≤ 8796093022208) :
    Calls Tryz.prog 61 #[.slice x n c, .string s] w fun e w' => e = .returned (.int .i64 (Lib.idxOfS kb s)) ∧ w' = w := by
  have hn : n = kb.length := by have h9 : n = (strs kb).length := IsG.num (a := ⟨x, n, c⟩) h; rw [h9]; simp [strs]
  by_cases h0 : kb = []
  · subst h0
    obtain rfl : n = 0 := hn
    exact Any.slices_Index_string_empty layIx x c s w
  · obtain ⟨b, p, rfl, -, cu⟩ := IsG.spot h 0 (by simp [strs]; exact List.length_pos_iff.2 h0)
    subst hn
    have h9 := Any.slices_Index_string layIx b p kb.length c kb s w (Nat.le_refl _) (by omega) (fun j hj => by
      rw [cu j (.string kb[j]) (by simp [strs, hj]), List.getD_eq_getElem?_getD, List.getElem?_eq_getElem hj]
      rfl)
    rw [List.take_length] at h9
    exact h9
def FiP (F : Nat → Prop) (o : Option Nd) (w : World) (e : Ending) (w' : World) : Prop := (∃ v b, e = .returned (.tuple #[v, .bool b]) ∧ (∀ d, o = some d → b = true ∧ VlG w' F v d) ∧ (o = none → b = false ∧ v = .nilIface)) ∧ Below w.heap.size w w'
set_option linter.unusedSimpArgs false in
set_option maxRecDepth 100000 in
set_option maxHeartbeats 8000000 in
theorem fieldI15_any (d : Nd) (F : Nat → Prop) (v : Value) (s : ByteArray) (w : World) (hv : VlG w F v d) : Calls Tryz.prog 32 #[v, .string s] w fun e w' => FiP F (fldN d (lS s)) w e w' := by
  obtain ⟨O, hO⟩ : ∃ q, fldN d (lS s) = q := ⟨_, rfl⟩
  have HO : Hid (fldN d (lS s) = O) := hO
  rw [hO]
  clear hO
  cases hv using VlG.rc with
  | nil k hk =>
    obtain rfl : O = none := by rw [← HO.out, fldN, if_neg (by omega)]
    go_enter Tryz.func32, Tryz.ntmps32
    go_wp2
    go_ret2
    exact ⟨⟨_, _, rfl, fun d h => (by cases h), fun _ => ⟨rfl, rfl⟩⟩, Below.refl _ _⟩
  | null =>
    obtain rfl : O = none := by rw [← HO.out]; rfl
    go_enter Tryz.func32, Tryz.ntmps32
    go_wp2
    go_ret2
    exact ⟨⟨_, _, rfl, fun d h => (by cases h), fun _ => ⟨rfl, rfl⟩⟩, Below.refl _ _⟩
  | bool b =>
    obtain rfl : O = none := by rw [← HO.out]; rfl
    go_enter Tryz.func32, Tryz.ntmps32
    go_wp2
    go_ret2
    exact ⟨⟨_, _, rfl, fun d h => (by cases h), fun _ => ⟨rfl, rfl⟩⟩, Below.refl _ _⟩
  | num n hn =>
    obtain rfl : O = none := by rw [← HO.out]; rfl
    go_enter Tryz.func32, Tryz.ntmps32
    go_wp2
    go_ret2
    exact ⟨⟨_, _, rfl, fun d h => (by cases h), fun _ => ⟨rfl, rfl⟩⟩, Below.refl _ _⟩
  | str t =>
    obtain rfl : O = none := by rw [← HO.out]; rfl
    go_enter Tryz.func32, Tryz.ntmps32
    go_wp2
    go_ret2
    exact ⟨⟨_, _, rfl, fun d h => (by cases h), fun _ => ⟨rfl, rfl⟩⟩, Below.refl _ _⟩
  | list a us ds hv hF hl hz he r9 =>
    clear r9
    obtain rfl : O = none := by rw [← HO.out]; rfl
    obtain ⟨ax, an, ac⟩ := a
    simp only [Sl.v]
    clear hv hF hl hz he
    go_enter Tryz.func32, Tryz.ntmps32
    go_wp2
    go_ret2
    exact ⟨⟨_, _, rfl, fun d h => (by cases h), fun _ => ⟨rfl, rfl⟩⟩, Below.refl _ _⟩
  | obj ks a kb us ds hk hkF hv hF hl hz he r9 =>
    clear r9
    have bA := below_alloc w (.cells #[ks.v, a.v] 70)
    have hkY : IsG (w.alloc (.cells #[ks.v, a.v] 70)) ks.v (strs kb) := isG_kept15 hk bA
    have HL : Hid (LsG (w.alloc (.cells #[ks.v, a.v] 70)) F a us ds) := ⟨isG_kept15 hv bA, hl, hz.2, fun i u d h1 h2 => (he i u d h1 h2).kept bA⟩
    have hkz : ks.n ≤ 8796093022208 := hz.1
    obtain ⟨ax, an, ac⟩ := a
    obtain ⟨kx, kn, kc⟩ := ks
    simp only [Sl.v] at bA hkY HL hkz ⊢
    have hI := index15_any kx kn kc kb s _ hkY hkz
    have rA := RowC.new w #[.slice kx kn kc, .slice ax an ac] 70
    obtain ⟨g0, hg0⟩ : ∃ q, w.heap.size = q := ⟨_, rfl⟩
    rw [hg0] at rA
    have c0 : (w.alloc (.cells #[.slice kx kn kc, .slice ax an ac] 70)).cell? ⟨g0, 0, none⟩ = some (.slice kx kn kc) := rA.cell 0
    have c1 : (w.alloc (.cells #[.slice kx kn kc, .slice ax an ac] 70)).cell? ⟨g0, 1, none⟩ = some (.slice ax an ac) := rA.cell 1
    have HG0 : Hid (w.heap.size = g0) := hg0
    have hfl : O = if 0 ≤ Lib.idxOfS kb s then ds[(Lib.idxOfS kb s).toNat]? else none := by
      rw [← HO.out, fldN, if_pos rfl, fld_idx s kb ds 0]
      rfl
    have HRAN : Hid (an = ds.length) := by show _ = _; have h9 : an = us.length := IsG.num (a := ⟨ax, an, ac⟩) hv; omega
    obtain ⟨r, hr⟩ : ∃ q, Lib.idxOfS kb s = q := ⟨_, rfl⟩
    rw [hr] at hI hfl
    have HFL : Hid (O = if 0 ≤ r then ds[r.toNat]? else none) := hfl
    clear hfl
    clear hr hv hF hl hz he hk hkF rA hkY
    go_enter Tryz.func32, Tryz.ntmps32
    go_upto_region 4 with fail
    clear hg0
    generalize w.alloc (.cells #[.slice kx kn kc, .slice ax an ac] 70) = Y at *
    go_wp2_with fail
    refine hI.mono ?_
    rintro e w1 ⟨rfl, rfl⟩
    clear hI
    have hfl := HFL.out
    by_cases h0 : 0 ≤ r
    · obtain ⟨j, rfl⟩ : ∃ j : Nat, r = (j : Int) := ⟨r.toNat, by omega⟩
      rw [if_pos h0, show ((j : Int)).toNat = j by omega] at hfl
      have hran := HRAN.out
      by_cases hj : j < an
      · obtain ⟨dd, hdd⟩ : ∃ q, ds[j]? = some q := ⟨_, List.getElem?_eq_getElem (by omega)⟩
        rw [hdd] at hfl
        subst hfl
        have i1 : (j : Int) < (an : Int) := by omega
        obtain ⟨g1, g2, -, g4⟩ := HL.out
        obtain ⟨u, hu⟩ : ∃ q, us[j]? = some q := ⟨_, List.getElem?_eq_getElem (by omega)⟩
        obtain ⟨bb, pp, rfl, -, cu⟩ := IsG.spot g1 j (by omega)
        have q1 := cu j u hu
        have hvl := g4 j u dd hu hdd
        have HV : Hid (VlG w1 F u dd) := hvl
        clear cu g1 g2 g4 hu hdd hvl hran
        go_wp2
        go_ret2
        exact ⟨⟨_, _, rfl, fun d h => ⟨rfl, by cases h; exact HV.out⟩, fun h => (by cases h)⟩, bA⟩
      · have i1 : ¬ (j : Int) < (an : Int) := by omega
        rw [List.getElem?_eq_none (by omega)] at hfl
        subst hfl
        clear hran
        go_wp2
        go_ret2
        exact ⟨⟨_, _, rfl, fun d h => (by cases h), fun _ => ⟨rfl, rfl⟩⟩, bA⟩
    · rw [if_neg h0] at hfl
      subst hfl
      go_wp2
      go_ret2
      exact ⟨⟨_, _, rfl, fun d h => (by cases h), fun _ => ⟨rfl, rfl⟩⟩, bA⟩
theorem fldK_mem (key : List UInt8) : ∀ (ks : List (List UInt8)) (vs : List Nd) (d : Nd), fldK key ks vs = some d → d ∈ vs
  | [], vs, d, h => by cases vs <;> cases h
  | _ :: _, [], d, h => by cases h
  | k :: ks, v :: vs, d, h => by
    rw [fldK] at h
    split at h
    · cases h; simp
    · exact List.mem_cons_of_mem _ (fldK_mem key ks vs d h)
theorem fldN_dep (d x : Nd) (key : List UInt8) (h : fldN d key = some x) : depN x ≤ depN d := by
  obtain ⟨k, n, s, ks, vs⟩ := d
  rw [fldN] at h
  split at h
  · rename_i hk
    have h1 := depL_mem vs x (fldK_mem key ks vs x h)
    rw [depN_mk, if_pos (.inr hk)]
    omega
  · cases h
set_option linter.unusedSimpArgs false in
set_option maxRecDepth 100000 in
set_option maxHeartbeats 8000000 in
theorem field15_any (d : Nd) (F : Nat → Prop) (v : Value) (s : ByteArray) (w : World) (hv : VlG w F v d) (hd : depN d ≤ 60000) : Calls Tryz.prog 13 #[v, .string s] w fun e w' => FdP (fldN d (lS s)) w e w' := by
  have hf := fieldI15_any d F v s w hv
  have hdp := fun x hx => fldN_dep d x (lS s) hx
  obtain ⟨O, hO⟩ : ∃ q, fldN d (lS s) = q := ⟨_, rfl⟩
  rw [hO] at hf hdp
  rw [hO]
  clear hO
  go_enter Tryz.func13, Tryz.ntmps13
  go_wp2_with fail
  refine hf.mono ?_
  rintro e w1 ⟨⟨x, b, rfl, hy, hno⟩, hb1⟩
  clear hf
  cases O with
  | none =>
    obtain ⟨rfl, rfl⟩ := hno rfl
    clear hy hno
    go_wp2
    go_ret2
    exact ⟨⟨_, _, rfl, fun d h => (by cases h), fun _ => ⟨rfl, rfl⟩⟩, hb1⟩
  | some dd =>
    obtain ⟨rfl, hx⟩ := hy dd rfl
    have hdd := hdp dd rfl
    have h1 := deeper15_any dd w1 F x 65536 hx (by omega)
    rw [decide_eq_false (by omega)] at h1
    have h1' : Calls Tryz.prog 33 #[x, .int .i64 65536] w1 fun e w' => e = .returned (.bool false) ∧ Below w1.heap.size w1 w' := h1
    clear h1 hy hno hdp
    go_wp2_with fail
    refine h1'.mono ?_
    rintro e w2 ⟨rfl, hb2⟩
    clear h1'
    have hC := cloneV15_any dd w2 F x (hx.kept hb2)
    go_wp2_with fail
    refine hC.mono ?_
    rintro e w3 ⟨v', rfl, hv3, hb3⟩
    clear hC
    have hBl : Below w.heap.size w w3 := (hb1.trans (hb2.mono hb1.size)).trans (hb3.mono (Nat.le_trans hb1.size hb2.size))
    have HV : Hid (VlG w3 (w2.heap.size ≤ ·) v' dd) := hv3
    have hif := hv3.ifz
    clear hv3
    rcases hif with rfl | ⟨vt, vp, rfl⟩
    · go_wp2
      go_ret2
      exact ⟨⟨_, _, rfl, fun d h => ⟨rfl, _, by cases h; exact HV.out⟩, fun h => (by cases h)⟩, hBl⟩
    · go_wp2
      go_ret2
      exact ⟨⟨_, _, rfl, fun d h => ⟨rfl, _, by cases h; exact HV.out⟩, fun h => (by cases h)⟩, hBl⟩
end Go.Proofs.YtddmmmfpdmejbaaGreatDoor
