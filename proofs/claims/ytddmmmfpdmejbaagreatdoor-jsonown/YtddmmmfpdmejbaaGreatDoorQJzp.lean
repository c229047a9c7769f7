import Derived.Test.YtddmmmfpdmejbaaGreatDoorQJzo
import Derived.Test.YtddmmmfpdmejbaaGreatDoorQJzl
import Derived.Test.YtddmmmfpdmejbaaGreatDoorQJzs
import Derived.Lib.OwnBridge
import Derived.Sort.OwnSorted
import Derived.Sort.Grow
import Derived.Shelf.Slices.In.SortNone
import Derived.Test.YtddmmmfpdmejbaaGreatDoorQRelk
namespace Go.Proofs.YtddmmmfpdmejbaaGreatDoor
open Go.RowKit Go.Sort

/-! A key that comes twice: a clone, sorted, compacted -/
abbrev srtK (l : List (List UInt8)) : List (List UInt8) := l.mergeSort fun x y => decide (x ≤ y)
theorem srtK_len (l : List (List UInt8)) : (srtK l).length = l.length := List.length_mergeSort l
theorem srtK_rise (l : List (List UInt8)) (i j : Nat) (hi : i < (srtK l).length) (hj : j < (srtK l).length) (h : i < j) : (srtK l)[i] ≤ (srtK l)[j] := by
  have h9 := List.pairwise_mergeSort (le := fun x y : List UInt8 => decide (x ≤ y)) (fun a b c h1 h2 => by
    rw [decide_eq_true_eq] at *; exact List.le_trans h1 h2) (fun a b => by
    rw [Bool.or_eq_true, decide_eq_true_eq, decide_eq_true_eq]; exact List.le_total a b) l
  have h8 := List.pairwise_iff_getElem.1 h9 i j hi hj h
  rw [decide_eq_true_eq] at h8
  exact h8
theorem cmp_len (l : List (List UInt8)) : decide ((Lib.compact (srtK l)).length < l.length) = dupK l := by
  rw [dup_nodup, Bool.eq_iff_iff, decide_eq_true_eq, decide_eq_true_eq]
  have hp : (srtK l).Nodup ↔ l.Nodup := (List.mergeSort_perm l _).nodup_iff
  have hlen : (Lib.compact (srtK l)).length = ((List.range (srtK l).length).filter (Lib.keeps (srtK l).toArray)).length := by
    unfold Lib.compact Lib.compactUpTo
    rw [List.length_map]
  have hr : (List.range (srtK l).length).length = l.length := by rw [List.length_range, srtK_len]
  rw [← hp, hlen, ← hr, List.length_filter_lt_length_iff_exists]
  constructor
  · rintro ⟨j, hj, hk⟩ hn
    rw [List.mem_range] at hj
    unfold Lib.keeps at hk
    rw [decide_eq_true_eq, not_or, Classical.not_not] at hk
    obtain ⟨h0, he⟩ := hk
    have e1 : (srtK l)[j]? = (srtK l)[j - 1]? := by
      rw [List.getElem?_eq_getElem hj, List.getElem?_eq_getElem (by omega)]
      simp only [getElem!_pos, List.size_toArray, hj, show j - 1 < (srtK l).length by omega] at he
      simpa using he
    have h9 := List.pairwise_iff_getElem.1 hn (j - 1) j (by omega) hj (by omega)
    rw [List.getElem?_eq_getElem hj, List.getElem?_eq_getElem (by omega)] at e1
    exact h9 (Option.some.inj e1).symm
  · intro hn
    apply Classical.byContradiction
    intro hne
    apply hn
    refine List.pairwise_iff_getElem.2 fun i j hi hj hij he => hne ⟨i + 1, List.mem_range.2 (by omega), ?_⟩
    have a1 := srtK_rise l i (i + 1) hi (by omega) (by omega)
    have a2 : (srtK l)[i + 1]'(by omega) ≤ (srtK l)[j] := by
      by_cases h : i + 1 = j
      · subst h; exact List.le_refl _
      · exact srtK_rise l (i + 1) j (by omega) hj (by omega)
    have a3 : (srtK l)[i + 1]'(by omega) = (srtK l)[i] := List.le_antisymm (by rw [he]; exact a2) a1
    unfold Lib.keeps
    rw [decide_eq_true_eq, not_or, Classical.not_not]
    refine ⟨by omega, ?_⟩
    simp only [Nat.add_sub_cancel]
    rw [getElem!_pos _ _ (by simpa using (show i + 1 < (srtK l).length by omega)), getElem!_pos _ _ (by simpa using hi)]
    simpa using a3
theorem strs_enc (kb : List ByteArray) : (kb.map lS).map encStr = strs kb := Lib.map_encStr kb
/-- slices.Clone of texts. -/
theorem clone15_any (x : Option Addr) (n c : Nat) (kb : List ByteArray) (w : World) (h : IsG w (.slice x n c) (strs kb)) (hz : n ≤ 8796093022208) :
    Calls Tryz.prog 64 #[.slice x n c] w fun e w' => ∃ a : Sl, e = .returned a.v ∧ OwnG 9 w' w.heap.size a.v (strs kb) ∧ Below w.heap.size w w' := by
  have hn : n = kb.length := by have h9 : n = (strs kb).length := IsG.num (a := ⟨x, n, c⟩) h; rw [h9]; simp [strs]
  have hsl : ∀ v, (∃ w0 : World, OwnG 9 w0 w.heap.size v (strs kb)) → ∃ a : Sl, v = a.v := fun v ⟨w0, h9⟩ => by
    obtain ⟨x9, c9, he⟩ := h9.isG.len
    exact ⟨⟨x9, _, c9⟩, he⟩
  by_cases h0 : kb = []
  · subst h0
    obtain rfl : n = 0 := hn
    cases x with
    | none =>
      refine (Any.slices_Clone_string_nil layCl 0 c w).mono ?_
      rintro e w' ⟨rfl, rfl⟩
      exact ⟨slZ, rfl, OwnG.nil _ _ _, Below.refl _ _⟩
    | some a =>
      refine (Any.slices_Clone_string_zero layCl a c w).mono ?_
      rintro e w' ⟨v', rfl, hO, -, hb⟩
      obtain ⟨a9, rfl⟩ := hsl v' ⟨w', hO⟩
      exact ⟨a9, rfl, hO, hb⟩
  · obtain ⟨b, p, rfl, -, cu⟩ := IsG.spot h 0 (by simp [strs]; exact List.length_pos_iff.2 h0)
    subst hn
    refine (Any.slices_Clone_string layCl b p kb.length c kb w (Nat.le_refl _) (by omega) (fun j hj => ?_)).mono ?_
    · rw [cu j (.string kb[j]) (by simp [strs, hj]), List.getD_eq_getElem?_getD, List.getElem?_eq_getElem hj]
      rfl
    · rintro e w' ⟨v', rfl, hO, -, hb⟩
      rw [List.take_length] at hO
      have hO' : OwnG 9 w' w.heap.size v' (strs kb) := by unfold OwnG; rw [show (strs kb).length = kb.length by simp [strs]]; exact hO
      obtain ⟨a9, rfl⟩ := hsl v' ⟨w', hO'⟩
      exact ⟨a9, rfl, hO', hb⟩
/-- slices.Sort of texts that lie in memory of one's own. -/
theorem sort15_any (B : Nat) (x : Option Addr) (n c : Nat) (kb : List ByteArray) (w : World) (h : OwnG 9 w B (.slice x n c) (strs kb)) (hB : B ≤ w.heap.size) (hz : n ≤ 8796093022208) :
    Calls Tryz.prog 73 #[.slice x n c] w fun e w' => e = .returned (.tuple #[]) ∧ w'.ownsRow B 9 1 (.slice x n c) n ((srtK (kb.map lS)).map encStr) ∧ Below B w w' := by
  have hn : n = kb.length := by have h9 := h.num; rw [h9]; simp [strs]
  subst hn
  by_cases hv : (Value.slice x kb.length c) = .slice none 0 0
  · simp only [Value.slice.injEq] at hv
    obtain ⟨rfl, h0, rfl⟩ := hv
    obtain rfl := List.eq_nil_of_length_eq_zero h0
    refine (Any.slices_Sort_string_none laySo none 0 w).mono ?_
    rintro e w' ⟨rfl, rfl⟩
    have e9 : srtK (List.map lS []) = [] := by simp [srtK]
    rw [e9]
    exact ⟨rfl, World.ownsRow_nil _ B 9 1, Below.refl _ _⟩
  · have h' : w.ownsRow B 9 1 (.slice x kb.length c) kb.length ((kb.map lS).map encStr) := by
      rw [strs_enc]
      have h9 : w.ownsRow B 9 1 (.slice x kb.length c) (strs kb).length (strs kb) := h
      rwa [show (strs kb).length = kb.length by simp [strs]] at h9
    obtain ⟨g, cap, he, hbg, hgl, hncap, hcm, hlen, hH⟩ := Lib.holds_of_ownsRow h' hv
    simp only [Value.slice.injEq] at he
    obtain ⟨rfl, -, rfl⟩ := he
    have hs := Any.slices_Sort_string laySo g 0 c (kb.map lS) w hH hgl (by rw [hlen]; omega)
    rw [hlen] at hs
    refine hs.mono ?_
    rintro e w' ⟨rfl, nn, os, rfl⟩
    rcases h'.2 with ⟨h0, _⟩ | ⟨g', cap', cur, hv9, hbase, hb, h1, h2, h3, h4⟩
    · exact absurd h0 hv
    cases hv9
    have hs2 := ownsRow_sorted (n := nn) (os := os) (ts := srtK (kb.map lS)) (srtK_len _) hbase hb (by rw [List.length_map]; exact h1) h2 h3
    refine ⟨rfl, ?_, (Below.refl B w).grown (grownBy_sorted _) hB (fun j hj => by cases hj; exact hbase)⟩
    rw [List.length_map] at hs2
    exact hs2
/-- slices.Compact of them. -/
theorem compact15_any (B : Nat) (x : Option Addr) (n c : Nat) (l : List (List UInt8)) (w : World) (h : w.ownsRow B 9 1 (.slice x n c) n (l.map encStr)) (hz : n ≤ 8796093022208) :
    Calls Tryz.prog 74 #[.slice x n c] w fun e w' => e = .returned (.slice x (Lib.compact l).length c) ∧ Below B w w' := by
  by_cases hv : (Value.slice x n c) = .slice none 0 0
  · simp only [Value.slice.injEq] at hv
    obtain ⟨rfl, rfl, rfl⟩ := hv
    obtain rfl : l = [] := by have := h.1; simpa using this
    refine (Any.slices_Compact_string_empty layCo none 0 w).mono ?_
    rintro e w' ⟨rfl, rfl⟩
    exact ⟨rfl, Below.refl _ _⟩
  · obtain ⟨g, cap, he, hbg, hgl, hncap, hcm, hlen, hH⟩ := Lib.holds_of_ownsRow h hv
    simp only [Value.slice.injEq] at he
    obtain ⟨rfl, -, rfl⟩ := he
    have hs := Any.slices_Compact_string layCo g 0 c l w hH (by rw [hlen]; omega) (by rw [hlen]; exact hncap)
    rw [hlen] at hs
    refine hs.mono ?_
    rintro e w' ⟨rfl, q, rfl⟩
    exact ⟨rfl, Lib.below_putRow (Below.refl _ _) hbg⟩
end Go.Proofs.YtddmmmfpdmejbaaGreatDoor
namespace Go.Proofs.YtddmmmfpdmejbaaGreatDoor
open Go.RowKit Go.Sort

/-! hasTwins -/
/-- What was there below B is as it was. -/
structure KNz (B : Nat) (w w' : World) : Prop where
  os : w'.os = w.os
  tape : w'.tape = w.tape
  output : w'.output = w.output
  size : w.heap.size ≤ w'.heap.size
  block : ∀ k, k < B → k < w.heap.size → w'.heap[k]? = w.heap[k]?
theorem KNz.of_below {B : Nat} {w w' : World} (h : Below w.heap.size w w') : KNz B w w' := ⟨h.os, h.tape, h.output, h.size, fun k _ hk => h.block k hk⟩
theorem KNz.trans {B : Nat} {w w1 w2 : World} (h : KNz B w w1) (k : KNz B w1 w2) : KNz B w w2 :=
  ⟨k.os.trans h.os, k.tape.trans h.tape, k.output.trans h.output, Nat.le_trans h.size k.size, fun i hb hi => (k.block i hb (Nat.lt_of_lt_of_le hi h.size)).trans (h.block i hb hi)⟩
theorem kokNz {B : Nat} : KOk (KNz B) := ⟨fun h => KNz.of_below h, fun h k => h.trans k⟩
theorem KNz.ofB {B : Nat} {w w' : World} (h : Below B w w') : KNz B w w' := ⟨h.os, h.tape, h.output, h.size, fun k hk _ => h.block k hk⟩
theorem cell_keepN {B g i : Nat} {w w' : World} {v : Value} (h : KNz B w w') (hc : w.cell? ⟨g, i, none⟩ = some v) (hg : g < B) : w'.cell? ⟨g, i, none⟩ = some v := by
  have hl := World.block_lt_of_cell? w _ hc
  unfold World.cell? at hc ⊢
  rw [h.block g hg hl]; exact hc
theorem ownsRow_keepR {w w' : World} {B : Nat} {e : TypeId} {k : Nat} {v : Value} {n : Nat} {xs : List Value} (h : w.ownsRow B e k v n xs) (hb : Below w.heap.size w w') : w'.ownsRow B e k v n xs :=
  World.ownsRow.kept h (row := none) ⟨hb.os, hb.tape, hb.output, hb.size, fun k hk _ => hb.block k hk⟩ (Classical.em _)
set_option linter.unusedSimpArgs false in
set_option maxRecDepth 100000 in
set_option maxHeartbeats 4000000 in
theorem hasTwins15_any : SdOk 48 dupP := by
  intro w F v d hv hsz
  obtain ⟨R, hR⟩ : ∃ q, dupP d = q := ⟨_, rfl⟩
  have HR : Hid (dupP d = R) := hR
  rw [hR]
  clear hR hsz
  cases hv using VlG.rc with
  | nil k hk =>
    obtain rfl : R = false := by rw [← HR.out]; rfl
    go_enter Tryz.func48, Tryz.ntmps48
    go_wp2
    go_ret
    exact ⟨rfl, Below.refl _ _⟩
  | null =>
    obtain rfl : R = false := by rw [← HR.out]; rfl
    go_enter Tryz.func48, Tryz.ntmps48
    go_wp2
    go_ret
    exact ⟨rfl, Below.refl _ _⟩
  | bool b =>
    obtain rfl : R = false := by rw [← HR.out]; rfl
    go_enter Tryz.func48, Tryz.ntmps48
    go_wp2
    go_ret
    exact ⟨rfl, Below.refl _ _⟩
  | num n hn =>
    obtain rfl : R = false := by rw [← HR.out]; rfl
    go_enter Tryz.func48, Tryz.ntmps48
    go_wp2
    go_ret
    exact ⟨rfl, Below.refl _ _⟩
  | str s =>
    obtain rfl : R = false := by rw [← HR.out]; rfl
    go_enter Tryz.func48, Tryz.ntmps48
    go_wp2
    go_ret
    exact ⟨rfl, Below.refl _ _⟩
  | list a us ds hv hF hl hz he r9 =>
    clear r9
    obtain rfl : R = false := by rw [← HR.out]; rfl
    obtain ⟨ax, an, ac⟩ := a
    simp only [Sl.v]
    clear hv hF hl hz he
    go_enter Tryz.func48, Tryz.ntmps48
    go_wp2
    go_ret
    exact ⟨rfl, Below.refl _ _⟩
  | obj ks a kb us ds hk hkF hv hF hl hz he r9 =>
    clear r9
    obtain ⟨vx, vn, vc⟩ := a
    obtain ⟨kx, kn, kc⟩ := ks
    have hkn : kn = kb.length := by have h9 : kn = (strs kb).length := IsG.num (a := ⟨kx, kn, kc⟩) hk; rw [h9]; simp [strs]
    have bA := below_alloc w (.cells #[.slice kx kn kc, .slice vx vn vc] 70)
    have rA := RowC.new w #[.slice kx kn kc, .slice vx vn vc] 70
    obtain ⟨g5, hg5⟩ : ∃ q, w.heap.size = q := ⟨_, rfl⟩
    have hsY : (w.alloc (.cells #[.slice kx kn kc, .slice vx vn vc] 70)).heap.size = g5 + 1 := by rw [alloc_sz15, hg5]
    rw [hg5] at rA
    have hkz : kn ≤ 8796093022208 := hz.1
    have hC := clone15_any kx kn kc kb (w.alloc (.cells #[.slice kx kn kc, .slice vx vn vc] 70)) (isG_kept15 hk bA) hkz
    have HRE : Hid (R = decide ((Lib.compact (srtK (kb.map lS))).length < kn)) := by
      show _ = _
      rw [← HR.out, hkn, show kb.length = (kb.map lS).length by simp, cmp_len]
      rfl
    have HKN : Hid (kn = kb.length) := hkn
    simp only [Sl.v]
    clear hv hF hl hz he hk hkF HR hkn
    go_enter Tryz.func48, Tryz.ntmps48
    go_upto_region 4 with fail
    have HW : Hid (w.heap.size = g5) := hg5
    have c0 : (w.alloc (.cells #[.slice kx kn kc, .slice vx vn vc] 70)).cell? ⟨g5, 0, none⟩ = some (.slice kx kn kc) := rA.cell 0
    generalize w.alloc (.cells #[.slice kx kn kc, .slice vx vn vc] 70) = Y at *
    clear hg5
    go_wp2_with fail
    refine hC.mono ?_
    rintro e w2 ⟨⟨ax, an, ac⟩, rfl, hO2, hb2⟩
    clear hC
    have han : an = kb.length := by have h9 : an = (strs kb).length := hO2.num; rw [h9]; simp [strs]
    have hanz : an ≤ 8796093022208 := by rw [han, ← HKN.out]; exact hkz
    have HAN : Hid (an = kb.length) := han
    clear han
    obtain ⟨nY, hnY⟩ : ∃ q, Y.heap.size = q := ⟨_, rfl⟩
    rw [hnY] at hO2 hb2
    have hg5 : g5 < nY := by omega
    have hS := sort15_any nY ax an ac kb w2 hO2 (by have := hb2.size; omega) hanz
    simp only [Sl.v]
    go_upto_region 5 with fail
    go_wp2_with fail
    refine hS.mono ?_
    rintro e w3 ⟨rfl, hO3, hb3⟩
    clear hS hO2
    have hB3 := hb2.trans hb3
    have c3 : w3.cell? ⟨g5, 0, none⟩ = some (.slice kx kn kc) := by rw [hB3.cell (by show g5 < nY; exact hg5)]; exact c0
    obtain ⟨l3, hl3⟩ : ∃ q, srtK (kb.map lS) = q := ⟨_, rfl⟩
    rw [hl3] at hO3
    obtain ⟨m, hm⟩ : ∃ q, (Lib.compact l3).length = q := ⟨_, rfl⟩
    have Hm : Hid ((Lib.compact l3).length = m) := hm
    have HR2 : Hid (decide (m < kn) = R) := by
      show _ = _
      rw [HRE.out, hl3, hm]
    clear hm hl3 HRE hb3 hb2 c0 hnY hsY
    go_upto_region 6 with fail
    refine wp_reliesK (kokNz (B := nY)) 1 [0] [Fx (.slice ax an ac), Fx (.slice ax m ac), Fx (.int .i64 (m)), Fx (.pointer (some ⟨g5, 0, none⟩)), Fx (.slice kx kn kc), Fx (.int .i64 (kn)), Fx (.bool R)] (by simp) (by kernel_rfl) (by kernel_rfl) (by kernel_rfl) ?_ ?_ ?_ ?_
    · repeat' (first | exact all_nil | apply all_cons)
      all_goals intro v y y' hv hb
      all_goals first | exact Fx_mono _ _ _ _ hv hb
    · simp only [List.eraseIdx]
      repeat' (first | exact all_nil | apply all_cons)
      all_goals intro v y y' hv hb
      all_goals first | exact (show Fx _ _ _ from hv)
    · refine ⟨?_, ?_, ?_, ?_, ?_, ?_, ?_, trivial⟩
      all_goals
        intro ρ x hk hp ρc ρg ρf ho hd
        first | (replace hp := hp (by decide)) | clear hp
        have o3 : ρ (.tmp 3) = .pointer (some ⟨g5, 0, none⟩) := ho 3 rfl
        have o4 : ρ (.tmp 4) = .slice ax an ac := ho 4 rfl
        clear ho
        have k2 := cell_keepN hk c3 hg5
        simp only [depsR, depR, slotR, Fx, List.getElem?_cons_succ, List.getElem?_cons_zero, Region.binds, forall_const] at hd
        simp only [guardR, Nat.reduceBEq, cond_true, cond_false]
        go_split_ands
      · go_simp
      · go_simp
        refine (compact15_any nY ax an ac l3 x (ownsRow_keepR hO3 hp) hanz).mono ?_
        rintro e x' ⟨rfl, hb9⟩
        rw [Hm.out]
        exact ⟨_, rfl, rfl, KNz.ofB hb9⟩
      · go_simp
      · go_simp
      · go_simp
      · go_simp
      · have hR9 := HR2.out
        go_simp
    · intro vs x1 hk hw
      simp only [owed, Fx] at hw
      obtain ⟨e0, e1, e2, e3, e4, e5, e6, -⟩ := hw
      simp only [List.length_cons, List.length_nil, List.take_succ_cons, List.take_zero, List.drop_succ_cons, List.drop_zero, asg, List.cons_append, List.nil_append, e0, e1, e2, e3, e4, e5, e6]
      clear e0 e1 e2 e3 e4 e5 e6
      go_wp2
      go_ret
      have h8 := HW.out
      have h7 := rA.lt
      have h6 := hB3.size
      exact ⟨rfl, bA.trans ((hB3.mono (by omega)).trans ⟨hk.os, hk.tape, hk.output, hk.size, fun k hk9 => hk.block k (by omega) (by omega)⟩)⟩
end Go.Proofs.YtddmmmfpdmejbaaGreatDoor
