import Derived.Test.YtddmmmfpdmejbaaGreatDoorQJog
import Derived.Test.YtddmmmfpdmejbaaGreatDoorQJmh
import Derived.Test.YtddmmmfpdmejbaaGreatDoorQJok
import Derived.Test.YtddmmmfpdmejbaaGreatDoorQJkr
import Derived.Test.YtddmmmfpdmejbaaGreatDoorQJmi
namespace Go.Proofs.YtddmmmfpdmejbaaGreatDoor
open Go.RowKit

/-! JsonOwn -/
theorem IsB.keepB {w w1 : World} {v : Value} {l : List UInt8} {B : Nat} (h : IsB w v l) (hB : w.heap.size ≤ B) (hb : Below B w w1) : IsB w1 v l := h.kept (hb.mono hB)
set_option linter.unusedSimpArgs false in
set_option maxRecDepth 100000 in
set_option maxHeartbeats 64000000 in
theorem ownNo15 {V : World → Prop} (O : JsOk V) (l l2 : List UInt8) (x x2 : Option Addr) (L c L2 c2 : Nat) (w : World) (hVw : V w) (hL : l.length = L) (hLc : L ≤ c) (hL47 : L ≤ 140737488355328) (hl : IsB w (.slice x L c) l) (hL2 : l2.length = L2) (hLc2 : L2 ≤ c2) (hL472 : L2 ≤ 140737488355328) (hl2 : IsB w (.slice x2 L2 c2) l2) (hE : (prsA l).2.1 ≠ 0) :
    Calls Tryz.prog 5 #[.slice x L c, .slice x2 L2 c2] w fun e w' => e = .returned (.bool true) ∧ Below w.heap.size w w' := by
  obtain ⟨n0, hn0⟩ : ∃ q, w.heap.size = q := ⟨_, rfl⟩
  have HN0 : Hid (w.heap.size = n0) := hn0
  have HKV : Hid (∀ x, Below n0 w x → V x) := fun x hb => O.keep w x hVw (by rw [hn0]; exact hb)
  obtain ⟨PA, hPA⟩ : ∃ q, prsA l = q := ⟨_, rfl⟩
  obtain ⟨PB, hPB⟩ : ∃ q, prsA l2 = q := ⟨_, rfl⟩
  have HO1 : Hid (∀ y, Below n0 w y → Calls Tryz.prog 11 #[.slice x L c] y fun e w' => JoP PA y e w') := fun y hy => by
    have h9 := O.own l x L c y hL hLc hL47 (hl.kept (by rw [hn0]; exact hy)) (HKV.out y hy)
    rw [hPA] at h9; exact h9
  have HO2 : Hid (∀ y, Below n0 w y → Calls Tryz.prog 11 #[.slice x2 L2 c2] y fun e w' => JoP PB y e w') := fun y hy => by
    have h9 := O.own l2 x2 L2 c2 y hL2 hLc2 hL472 (hl2.kept (by rw [hn0]; exact hy)) (HKV.out y hy)
    rw [hPB] at h9; exact h9
  have HRG : Hid (PA.2.1 = 0 → Gd PA.1 ∧ depN PA.1 ≤ 6 ∧ szN PA.1 ≤ 1099511627776) := fun h => by
    rw [← hPA] at h ⊢
    exact ⟨(read_good l h).1, (read_good l h).2, read_size l h⟩
  have HRG2 : Hid (PB.2.1 = 0 → szN PB.1 ≤ 1099511627776) := fun h => by
    rw [← hPB] at h ⊢
    exact read_size l2 h
  have HEA : Hid (prsA l = PA ∧ prsA l2 = PB) := ⟨hPA, hPB⟩
  have hP1 := HO1.out w (Below.refl _ _)
  clear hPA hPB hn0
  obtain ⟨d, E, Pz⟩ := PA
  obtain ⟨d2, E2, Pz2⟩ := PB
  unfold JoP at hP1
  simp only at hP1 HRG HRG2
  go_enter Tryz.func5, Tryz.ntmps5
  go_wp2_with fail
  refine hP1.mono ?_
  rintro e w1 ⟨v1, rfl, hy1, hz1, hb1⟩
  clear hP1
  have hB1 : Below n0 w w1 := by rw [← HN0.out]; exact hb1
  have hP2 := HO1.out w1 hB1
  unfold JoP at hP2
  simp only at hP2
  go_wp2_with fail
  refine hP2.mono ?_
  rintro e w2 ⟨v2, rfl, hy2, hz2, hb2⟩
  clear hP2
  have hs1 : n0 ≤ w1.heap.size := by rw [← HN0.out]; exact hb1.size
  have hB2 : Below n0 w w2 := hB1.trans (hb2.mono hs1)
  have hP3 := HO2.out w2 hB2
  unfold JoP at hP3
  simp only at hP3
  go_wp2_with fail
  refine hP3.mono ?_
  rintro e w3 ⟨v3, rfl, hy3, hz3, hb3⟩
  clear hP3
  have hs2 : n0 ≤ w2.heap.size := Nat.le_trans hs1 hb2.size
  have hB3 : Below n0 w w3 := hB2.trans (hb3.mono hs2)
  have hs3 : n0 ≤ w3.heap.size := Nat.le_trans hs2 hb3.size
  have hK := known15_any O w3 (HKV.out w3 hB3)
  go_wp2_with fail
  refine hK.mono ?_
  rintro e w4 ⟨rfl, hb4⟩
  clear hK
  have hB4 : Below n0 w w4 := hB3.trans (hb4.mono hs3)
  have hs4 : n0 ≤ w4.heap.size := Nat.le_trans hs3 hb4.size
  have hE0 : E ≠ 0 := by rw [HEA.out.1] at hE; exact hE
  have f0 : (E == 0) = false := beq_eq_false_iff_ne.2 hE0
  obtain rfl := hz1 hE0
  clear hE hE0 hy1 hy2 hy3 hz1 hz2 hz3 hB1 hB2 hB3
  go_wp2
  go_ret
  exact ⟨rfl, by rw [HN0.out]; exact hB4⟩
theorem VlO.ifo {w : World} {B : Nat} {v : Value} {d : Nd} {L : Lb} {K : Kb} (h : VlO w B v d L K) : ∃ t p, v = .iface t p := by cases h using VlO.rc <;> exact ⟨_, _, rfl⟩
theorem own_le {e : TypeId} {w : World} {B m : Nat} {a : Sl} {xs : List Value} (h : OwnG e w B a.v xs ∧ a.n ≤ m) : xs.length ≤ m := by have h9 : a.n = xs.length := IsG.num h.1.isG; have := h.2; omega
@[go_sem] theorem eqg_mk (a b : Operand) (s t : ByteArray) (w : World) : (eqGuard .neq 27 a b (.iface 54 (.string s)) (.iface 54 (.string t))).run Tryz.prog w = .ok () w := by kernel_rfl
theorem ne_mk0 (s t : ByteArray) (w : World) : (binOp .neq 27 (.iface 54 (.string s)) (.iface 54 (.string t))).run Tryz.prog w = .ok (.bool (!(s == t))) w := by kernel_rfl
@[go_sem] theorem ne_mk (s : ByteArray) (w : World) : (binOp .neq 27 (.iface 54 (.string s)) (.iface 54 (.string s))).run Tryz.prog w = .ok (.bool false) w := by
  rw [ne_mk0]
  have h : (s == s) = true := by
    show (s.data == s.data) = true
    simp
  rw [h]; rfl
end Go.Proofs.YtddmmmfpdmejbaaGreatDoor
namespace Go.Proofs.YtddmmmfpdmejbaaGreatDoor
open Go.RowKit

/-! JsonOwn: the other text is refused -/
set_option linter.unusedSimpArgs false in
set_option maxRecDepth 100000 in
set_option maxHeartbeats 64000000 in
theorem ownA15 {V : World → Prop} (O : JsOk V) (l l2 : List UInt8) (x x2 : Option Addr) (L c L2 c2 : Nat) (w : World) (hVw : V w) (hL : l.length = L) (hLc : L ≤ c) (hL47 : L ≤ 140737488355328) (hl : IsB w (.slice x L c) l) (hL2 : l2.length = L2) (hLc2 : L2 ≤ c2) (hL472 : L2 ≤ 140737488355328) (hl2 : IsB w (.slice x2 L2 c2) l2) (hE : (prsA l).2.1 = 0) (hE2 : (prsA l2).2.1 ≠ 0) :
    Calls Tryz.prog 5 #[.slice x L c, .slice x2 L2 c2] w fun e w' => e = .returned (.bool true) ∧ Below w.heap.size w w' := by
  obtain ⟨n0, hn0⟩ : ∃ q, w.heap.size = q := ⟨_, rfl⟩
  have HN0 : Hid (w.heap.size = n0) := hn0
  have HKV : Hid (∀ x, Below n0 w x → V x) := fun x hb => O.keep w x hVw (by rw [hn0]; exact hb)
  obtain ⟨PA, hPA⟩ : ∃ q, prsA l = q := ⟨_, rfl⟩
  obtain ⟨PB, hPB⟩ : ∃ q, prsA l2 = q := ⟨_, rfl⟩
  have HO1 : Hid (∀ y, Below n0 w y → Calls Tryz.prog 11 #[.slice x L c] y fun e w' => JoP PA y e w') := fun y hy => by
    have h9 := O.own l x L c y hL hLc hL47 (hl.kept (by rw [hn0]; exact hy)) (HKV.out y hy)
    rw [hPA] at h9; exact h9
  have HO2 : Hid (∀ y, Below n0 w y → Calls Tryz.prog 11 #[.slice x2 L2 c2] y fun e w' => JoP PB y e w') := fun y hy => by
    have h9 := O.own l2 x2 L2 c2 y hL2 hLc2 hL472 (hl2.kept (by rw [hn0]; exact hy)) (HKV.out y hy)
    rw [hPB] at h9; exact h9
  have HRG : Hid (PA.2.1 = 0 → Gd PA.1 ∧ depN PA.1 ≤ 6 ∧ szN PA.1 ≤ 1099511627776) := fun h => by
    rw [← hPA] at h ⊢
    exact ⟨(read_good l h).1, (read_good l h).2, read_size l h⟩
  have HRG2 : Hid (PB.2.1 = 0 → szN PB.1 ≤ 1099511627776) := fun h => by
    rw [← hPB] at h ⊢
    exact read_size l2 h
  have HEA : Hid (prsA l = PA ∧ prsA l2 = PB) := ⟨hPA, hPB⟩
  have hP1 := HO1.out w (Below.refl _ _)
  clear hPA hPB hn0
  obtain ⟨d, E, Pz⟩ := PA
  obtain ⟨d2, E2, Pz2⟩ := PB
  unfold JoP at hP1
  simp only at hP1 HRG HRG2
  go_enter Tryz.func5, Tryz.ntmps5
  go_wp2_with fail
  refine hP1.mono ?_
  rintro e w1 ⟨v1, rfl, hy1, hz1, hb1⟩
  clear hP1
  have hB1 : Below n0 w w1 := by rw [← HN0.out]; exact hb1
  have hP2 := HO1.out w1 hB1
  unfold JoP at hP2
  simp only at hP2
  go_wp2_with fail
  refine hP2.mono ?_
  rintro e w2 ⟨v2, rfl, hy2, hz2, hb2⟩
  clear hP2
  have hs1 : n0 ≤ w1.heap.size := by rw [← HN0.out]; exact hb1.size
  have hB2 : Below n0 w w2 := hB1.trans (hb2.mono hs1)
  have hP3 := HO2.out w2 hB2
  unfold JoP at hP3
  simp only at hP3
  go_wp2_with fail
  refine hP3.mono ?_
  rintro e w3 ⟨v3, rfl, hy3, hz3, hb3⟩
  clear hP3
  have hs2 : n0 ≤ w2.heap.size := Nat.le_trans hs1 hb2.size
  have hB3 : Below n0 w w3 := hB2.trans (hb3.mono hs2)
  have hs3 : n0 ≤ w3.heap.size := Nat.le_trans hs2 hb3.size
  have hK := known15_any O w3 (HKV.out w3 hB3)
  go_wp2_with fail
  refine hK.mono ?_
  rintro e w4 ⟨rfl, hb4⟩
  clear hK
  have hB4 : Below n0 w w4 := hB3.trans (hb4.mono hs3)
  have hs4 : n0 ≤ w4.heap.size := Nat.le_trans hs3 hb4.size
  have hE0 : E = 0 := by rw [HEA.out.1] at hE; exact hE
  subst hE0
  obtain ⟨gd1, gd2, gd3⟩ := HRG.out rfl
  obtain ⟨L1, K1, vo1, nd1⟩ := hy1 rfl
  obtain ⟨L2, K2, vo2, nd2⟩ := hy2 rfl
  have bl1 := fun q hq => (vo1.bl q hq).2
  have bl2 := fun q hq => (vo2.bl q hq).1
  have nd12 := blks_two nd1 nd2 bl1 bl2
  have bl12 : ∀ q ∈ blks (L1 ++ L2) (K1 ++ K2), q < w2.heap.size := fun q hq => by
    rcases List.mem_append.1 ((blks_app2 L1 L2 K1 K2).mem_iff.1 hq) with h9 | h9
    · exact Nat.lt_of_lt_of_le (bl1 q h9) hb2.size
    · exact (vo2.bl q h9).2
  have hb24 : Below w2.heap.size w2 w4 := hb3.trans (hb4.mono hb3.size)
  have hb14 : Below w1.heap.size w1 w4 := hb2.trans (hb24.mono hb2.size)
  rw [HN0.out] at vo1
  have vo1 := vo1.keep hb14
  have vo2 := (vo2.le hs1).keep hb24
  have hct1 := vo1.cnt
  have hct2 := vo2.cnt
  obtain ⟨vt1, vp1, rfl⟩ := vo1.ifo
  obtain ⟨vt2, vp2, rfl⟩ := vo2.ifo
  clear hy1 hy2 hz1 hz2 hB1 hB2 hB3 bl1 bl2 nd1 nd2 hE
  have hPt := O.prt d _ _ w4 vo1.f.g gd3 (Nat.le_trans gd2 (by omega)) (HKV.out w4 hB4)
  unfold PtP at hPt
  obtain ⟨SS, hSS⟩ : ∃ q, (⟨(prtS d).toArray⟩ : ByteArray) = q := ⟨_, rfl⟩
  have HSS : Hid ((⟨(prtS d).toArray⟩ : ByteArray) = SS) := hSS
  rw [hSS] at hPt
  clear hSS
  go_wp2_with fail
  refine hPt.mono ?_
  rintro e w5 ⟨rfl, hb5⟩
  clear hPt
  have hB5 : Below n0 w w5 := hB4.trans (hb5.mono hs4)
  have hs5 : n0 ≤ w5.heap.size := Nat.le_trans hs4 hb5.size
  have vo1 := vo1.keep hb5
  have vo2 := vo2.keep hb5
  have hEq := equal15_any d _ _ _ _ w5 vo1.f vo2.f
  go_wp2_with fail
  refine hEq.mono ?_
  rintro e w6 ⟨rfl, hb6⟩
  clear hEq
  have hB6 : Below n0 w w6 := hB5.trans (hb6.mono hs5)
  have hs6 : n0 ≤ w6.heap.size := Nat.le_trans hs5 hb6.size
  have vo1 := vo1.keep hb6
  have vo2 := vo2.keep hb6
  have hb46 : Below w4.heap.size w4 w6 := hb5.trans (hb6.mono hb5.size)
  clear hB4 hB5
  have G6 : Ga w6 n0 (ttO n0 (L1 ++ L2) (K1 ++ K2)) := Ga.all hs6 (fun x hx => (List.mem_append.1 hx).elim (fun h => (vo1.own.1 x h).1) (fun h => (vo2.own.1 x h).1)) (fun x hx => (List.mem_append.1 hx).elim (fun h => (vo1.own.2 x h).1) (fun h => (vo2.own.2 x h).1)) nd12
  have HCO : Hid (∀ ls ks, (catO n0 (L1 ++ L2) (K1 ++ K2) ls ks).Ok) := fun ls ks => catO_ok (by rw [List.length_append]; omega) (by rw [List.length_append]; omega) (fun x hx => (List.mem_append.1 hx).elim (fun h => own_le (vo1.own.1 x h)) (fun h => own_le (vo2.own.1 x h))) (fun x hx => (List.mem_append.1 hx).elim (fun h => by have := vo1.kn x h; omega) (fun h => by have := vo2.kn x h; omega))
  clear nd12
  have hBk1 := book15_any d w6 n0 _ L1 K1 vo1 gd3
  go_wp2_with fail
  refine hBk1.mono ?_
  rintro e w7 ⟨⟨ax, an, ac⟩, rfl, ow1, hb7⟩
  clear hBk1
  have vo1 := vo1.keep hb7
  have vo2 := vo2.keep hb7
  have hBk2 := book15_any d w7 n0 _ L2 K2 vo2 gd3
  simp only [Sl.v]
  go_wp2_with fail
  refine hBk2.mono ?_
  rintro e w8 ⟨⟨bx, bn, bc⟩, rfl, ow2, hb8⟩
  clear hBk2
  have vo1 := vo1.keep hb8
  have vo2 := vo2.keep hb8
  have ow1 := ow1.keep hb8
  have hs7 : w6.heap.size ≤ w8.heap.size := Nat.le_trans hb7.size hb8.size
  obtain ⟨⟨lx, ln, lc⟩, w9, hr9, ow9, hg9, hq9⟩ := appAnyL eltVs w8 w6.heap.size ⟨ax, an, ac⟩ ⟨bx, bn, bc⟩ _ _ 49 ow1 ow2.isG (fun u hu => by obtain ⟨q, -, rfl⟩ := List.mem_map.1 hu; rfl) (by simp only [List.length_map]; omega) (by unfold maxLen; simp only [List.length_map]; omega) hs7
  rw [← List.map_append] at ow9
  have hb69 : Below w6.heap.size w6 w9 := (hb7.trans (hb8.mono hb7.size)).trans (ow1.below hg9 hs7)
  have hr9' : (Builtin.append_ #[49, 49] 49 #[.slice ax an ac, .slice bx bn bc]).run Tryz.prog w8 = .ok (.slice lx ln lc) w9 := hr9
  have vo1 : VlO w9 n0 (.iface vt1 vp1) d L1 K1 := vo1.ag fun q hq => hg9.block q (vo1.bl q hq).2 (fun e => by have h9 := (ow1.lt q e.symm).1; have := bl12 q ((blks_app2 L1 L2 K1 K2).mem_iff.2 (List.mem_append_left _ hq)); have := hb24.size; have := hb46.size; omega)
  have vo2 : VlO w9 n0 (.iface vt2 vp2) d L2 K2 := vo2.ag fun q hq => hg9.block q (vo2.bl q hq).2 (fun e => by have h9 := (ow1.lt q e.symm).1; have := bl12 q ((blks_app2 L1 L2 K1 K2).mem_iff.2 (List.mem_append_right _ hq)); have := hb24.size; have := hb46.size; omega)
  clear ow1 ow2 hr9 hg9 hq9 hb7 hb8 hs7
  simp only [Sl.v]
  go_upto_region 12 with (at_builtin; refine wpL_appG 49 rfl _ _ rfl _ w9 (by exact hr9') ?_)
  clear hr9'
  have hKy1 := keys15_any d w9 n0 _ L1 K1 vo1 gd3
  go_wp2_with fail
  refine hKy1.mono ?_
  rintro e w10 ⟨⟨ax, an, ac⟩, rfl, ow1, hb10⟩
  clear hKy1
  have vo1 := vo1.keep hb10
  have vo2 := vo2.keep hb10
  have hKy2 := keys15_any d w10 n0 _ L2 K2 vo2 gd3
  simp only [Sl.v]
  go_wp2_with fail
  refine hKy2.mono ?_
  rintro e w11 ⟨⟨bx, bn, bc⟩, rfl, ow2, hb11⟩
  clear hKy2
  have vo1 := vo1.keep hb11
  have vo2 := vo2.keep hb11
  have ow1 := ow1.keep hb11
  have hs10 : w9.heap.size ≤ w11.heap.size := Nat.le_trans hb10.size hb11.size
  obtain ⟨⟨kx, kn, kc⟩, w12, hr12, ow12, hg12, hq12⟩ := appAnyL eltKs w11 w9.heap.size ⟨ax, an, ac⟩ ⟨bx, bn, bc⟩ _ _ 51 ow1 ow2.isG (fun u hu => by obtain ⟨q, -, rfl⟩ := List.mem_map.1 hu; rfl) (by simp only [List.length_map]; omega) (by unfold maxLen; simp only [List.length_map]; omega) hs10
  rw [← List.map_append] at ow12
  have hb912 : Below w9.heap.size w9 w12 := (hb10.trans (hb11.mono hb10.size)).trans (ow1.below hg12 hs10)
  have hr12' : (Builtin.append_ #[51, 51] 51 #[.slice ax an ac, .slice bx bn bc]).run Tryz.prog w11 = .ok (.slice kx kn kc) w12 := hr12
  have vo1 : VlO w12 n0 (.iface vt1 vp1) d L1 K1 := vo1.ag fun q hq => hg12.block q (vo1.bl q hq).2 (fun e => by have h9 := (ow1.lt q e.symm).1; have := bl12 q ((blks_app2 L1 L2 K1 K2).mem_iff.2 (List.mem_append_left _ hq)); have := hb24.size; have := hb46.size; have := hb69.size; omega)
  have vo2 : VlO w12 n0 (.iface vt2 vp2) d L2 K2 := vo2.ag fun q hq => hg12.block q (vo2.bl q hq).2 (fun e => by have h9 := (ow1.lt q e.symm).1; have := bl12 q ((blks_app2 L1 L2 K1 K2).mem_iff.2 (List.mem_append_right _ hq)); have := hb24.size; have := hb46.size; have := hb69.size; omega)
  have hB9 : Below n0 w w9 := hB6.trans (hb69.mono hs6)
  have hs9 : n0 ≤ w9.heap.size := Nat.le_trans hs6 hb69.size
  have hB12 : Below n0 w w12 := hB9.trans (hb912.mono hs9)
  have hs12 : n0 ≤ w12.heap.size := Nat.le_trans hs9 hb912.size
  clear ow1 ow2 hr12 hg12 hq12 hb10 hb11 hs10
  simp only [Sl.v]
  go_upto_region 13 with (at_builtin; refine wpL_appG 51 rfl _ _ rfl _ w12 (by exact hr12') ?_)
  clear hr12'
  have G9 := G6.newG 0 hb69 ow9 (ow9.le hs6)
  have G12 := G9.newG 1 hb912 ow12 (ow12.le hs9)
  obtain ⟨C, HI, HC, HB, HLS, HKS⟩ : ∃ C : Cat, Hid (I12 C 0 0 0 0 w w12) ∧ Hid C.Ok ∧ Hid (C.B = n0) ∧ Hid (C.ls = ⟨lx, ln, lc⟩) ∧ Hid (C.ks = ⟨kx, kn, kc⟩) := ⟨catO n0 (L1 ++ L2) (K1 ++ K2) ⟨lx, ln, lc⟩ ⟨kx, kn, kc⟩, I12.begin G12 (by rw [updT_ne _ _ _ _ (by omega), updT_same]) (by rw [updT_same]) (fun k hk => by rw [updT_ne _ _ _ _ (by omega), updT_ne _ _ _ _ (by omega)]) hB12, HCO.out _ _, rfl, rfl, rfl⟩
  have hE20 : E2 ≠ 0 := by rw [HEA.out.2] at hE2; exact hE2
  have f2 : (E2 == 0) = false := beq_eq_false_iff_ne.2 hE20
  obtain ⟨W0, rfl⟩ : ∃ q, q = w12 := ⟨_, rfl⟩
  clear G6 G9 G12 ow9 ow12 vo1 vo2 hb69 hb912 hB9 hB12 hs9 hs12 hs6 hB6 hb46 hb24 hb14 bl12 hE2 hE20 HCO hct1 hct2 hb1 hb2 hb3 hb4 hb5 hb6 hs1 hs2 hs3 hs4 hs5 hz3 hy3
  obtain ⟨HP, HQ⟩ : Hid (C.p = ln) ∧ Hid (C.q = kn) := by
    obtain ⟨h1, h2⟩ := HI.out.numls
    rw [HLS.out] at h1
    rw [HKS.out] at h2
    exact ⟨h1.symm, h2.symm⟩
  have hln : ln ≤ 100000000000 := by rw [← HP.out]; exact HC.out.p
  have hkn : kn ≤ 100000000000 := by rw [← HQ.out]; exact HC.out.q
  go_wp2
  go_loopw [96] (fun iv wr => ∃ i : Nat, i ≤ ln ∧ iv = .int .i64 i ∧ I12 C i 0 0 0 w wr) (fun iv _ => ln - (intOf iv).toNat)
  case atStart => exact ⟨0, by omega, rfl, HI.out⟩
  case round =>
    clear HI
    obtain ⟨i, hi, rfl, hI⟩ := hrel
    by_cases hlt : i < ln
    · have hlt' : (i : Int) < (ln : Int) := by omega
      have i0 : (0 : Int) ≤ (i : Int) := by omega
      have HLT : Hid (i < C.p) := by show _ < _; rw [HP.out]; exact hlt
      obtain ⟨g, c9, he, hc⟩ := hI.getL i HLT.out
      obtain rfl : lx = some ⟨g, 0, none⟩ := by rw [HLS.out] at he; exact congrArg Sl.x he
      obtain ⟨⟨yx, yn, yc⟩, hLi⟩ : ∃ q, C.Ls i = q := ⟨_, rfl⟩
      have HNI : Hid (C.nL i = yn) := by have h9 := hI.numL (Nat.zero_le _) i HLT.out; rw [hLi] at h9; exact h9.symm
      have HLI : Hid (C.Ls i = ⟨yx, yn, yc⟩) := hLi
      have hyn : yn ≤ 8796093022208 := by rw [← HNI.out]; exact Nat.le_trans (HC.out.nL i) (by omega)
      rw [hLi] at hc
      simp only [Sl.v] at hc
      have HII : Hid (I12 C i 0 0 0 w wr) := hI
      clear hI he hLi
      obtain ⟨wo, rfl⟩ : ∃ q, q = wr := ⟨_, rfl⟩
      go_wp2
      go_loopw [103] (fun jv wr => ∃ j : Nat, j ≤ yn ∧ jv = .int .i64 j ∧ I12 C i j 0 0 w wr) (fun jv _ => yn - (intOf jv).toNat)
      case atStart => exact ⟨0, by omega, rfl, HII.out⟩
      case round =>
        clear HII hc
        obtain ⟨j, hj, rfl, hI⟩ := hrel
        by_cases hjn : j < yn
        · have hjn' : (j : Int) < (yn : Int) := by omega
          have j0 : (0 : Int) ≤ (j : Int) := by omega
          have hM := mark15_any i j wr
          have HJ : Hid (I12 C i j 0 0 w wr) := hI
          clear hI
          go_wp2_with fail
          refine hM.mono ?_
          rintro e w1 ⟨rfl, hb1⟩
          clear hM
          obtain ⟨g2, c8, u, he2, hcu, hfz, hI2⟩ := (HJ.out.later hb1).stepL HLT.out (by rw [HNI.out]; exact hjn)
          obtain rfl : yx = some ⟨g2, 0, none⟩ := by rw [HLI.out] at he2; exact congrArg Sl.x he2
          have HR : Hid (I12 C i (j + 1) 0 0 w (w1.setCell ⟨g2, j, none⟩ (.iface 54 (.string (mkT i j))))) := hI2
          clear HJ hI2 he2 hb1
          go_wp2
          go_roundw
          case rel => exact ⟨j + 1, by omega, by go_num, HR.out⟩
          case measure => simp [intOf]; omega
        · obtain rfl : yn = j := by omega
          have hjn' : ¬ (yn : Int) < (yn : Int) := by omega
          have HR : Hid (I12 C (i + 1) 0 0 0 w wr) := by
            have h9 : I12 C i (C.nL i) 0 0 w wr := by rw [HNI.out]; exact hI
            exact h9.nextL
          clear hI
          go_wp2
          go_roundw
          case rel => exact ⟨i + 1, by omega, by go_num, HR.out⟩
          case measure => simp [intOf]; omega
    · obtain rfl : ln = i := by omega
      have hlt' : ¬ (ln : Int) < (ln : Int) := by omega
      have HI2 : Hid (I12 C ln 0 0 0 w wr) := hI
      obtain ⟨W1, rfl⟩ : ∃ q, q = wr := ⟨_, rfl⟩
      clear hI hlt hi
      go_wp2
      go_loopw [117] (fun iv wr => ∃ i : Nat, i ≤ kn ∧ iv = .int .i64 i ∧ I12 C ln 0 i 0 w wr) (fun iv _ => kn - (intOf iv).toNat)
      case atStart => exact ⟨0, by omega, rfl, HI2.out⟩
      case round =>
        clear HI2
        obtain ⟨i, hi, rfl, hI⟩ := hrel
        by_cases hlt : i < kn
        · have hlt' : (i : Int) < (kn : Int) := by omega
          have i0 : (0 : Int) ≤ (i : Int) := by omega
          have HLT : Hid (i < C.q) := by show _ < _; rw [HQ.out]; exact hlt
          obtain ⟨g, c9, he, hc⟩ := hI.getK i HLT.out
          obtain rfl : kx = some ⟨g, 0, none⟩ := by rw [HKS.out] at he; exact congrArg Sl.x he
          obtain ⟨⟨yx, yn, yc⟩, hLi⟩ : ∃ q, C.Ks i = q := ⟨_, rfl⟩
          have HNI : Hid (C.nK i = yn) := by have h9 := hI.numK (Nat.zero_le _) i HLT.out; rw [hLi] at h9; exact h9.symm
          have HLI : Hid (C.Ks i = ⟨yx, yn, yc⟩) := hLi
          have hyn : yn ≤ 8796093022208 := by rw [← HNI.out]; exact Nat.le_trans (HC.out.nK i) (by omega)
          rw [hLi] at hc
          simp only [Sl.v] at hc
          have HII : Hid (I12 C ln 0 i 0 w wr) := hI
          clear hI he hLi
          obtain ⟨wo, rfl⟩ : ∃ q, q = wr := ⟨_, rfl⟩
          go_wp2
          go_loopw [124] (fun jv wr => ∃ j : Nat, j ≤ yn ∧ jv = .int .i64 j ∧ I12 C ln 0 i j w wr) (fun jv _ => yn - (intOf jv).toNat)
          case atStart => exact ⟨0, by omega, rfl, HII.out⟩
          case round =>
            clear HII hc
            obtain ⟨j, hj, rfl, hI⟩ := hrel
            by_cases hjn : j < yn
            · have hjn' : (j : Int) < (yn : Int) := by omega
              have j0 : (0 : Int) ≤ (j : Int) := by omega
              have hM := mark15_any i j wr
              have HJ : Hid (I12 C ln 0 i j w wr) := hI
              clear hI
              go_wp2_with fail
              refine hM.mono ?_
              rintro e w1 ⟨rfl, hb1⟩
              clear hM
              obtain ⟨g2, c8, u, he2, hcu, hfz, hI2⟩ := (HJ.out.later hb1).stepK HLT.out (by rw [HNI.out]; exact hjn)
              obtain rfl : yx = some ⟨g2, 0, none⟩ := by rw [HLI.out] at he2; exact congrArg Sl.x he2
              have HR : Hid (I12 C ln 0 i (j + 1) w (w1.setCell ⟨g2, j, none⟩ (.string (mkT i j)))) := hI2
              clear HJ hI2 he2 hb1
              go_wp2
              go_roundw
              case rel => exact ⟨j + 1, by omega, by go_num, HR.out⟩
              case measure => simp [intOf]; omega
            · obtain rfl : yn = j := by omega
              have hjn' : ¬ (yn : Int) < (yn : Int) := by omega
              have HR : Hid (I12 C ln 0 (i + 1) 0 w wr) := by
                have h9 : I12 C ln 0 i (C.nK i) w wr := by rw [HNI.out]; exact hI
                exact h9.nextK
              clear hI
              go_wp2
              go_roundw
              case rel => exact ⟨i + 1, by omega, by go_num, HR.out⟩
              case measure => simp [intOf]; omega
        · obtain rfl : kn = i := by omega
          have hlt' : ¬ (kn : Int) < (kn : Int) := by omega
          have HI3 : Hid (I12 C ln 0 kn 0 w wr) := hI
          obtain ⟨W2, rfl⟩ : ∃ q, q = wr := ⟨_, rfl⟩
          clear hI hlt hi
          go_wp2
          have HI4 : Hid (I34 C (fun _ => slZ) (fun _ => slZ) slZ slZ 0 0 w W2) := I34.start (by rw [HP.out, HQ.out]; exact HI3.out)
          clear HI3
          go_loopw [24, 137] (fun mv iv wr => ∃ (i : Nat) (Q : Nat → Sl) (ux : Option Addr) (uc : Nat), i ≤ ln ∧ iv = .int .i64 i ∧ mv = .slice ux i uc ∧ I34 C Q (fun _ => slZ) ⟨ux, i, uc⟩ slZ i 0 w wr) (fun _ iv _ => ln - (intOf iv).toNat)
          case atStart => exact ⟨0, fun _ => slZ, none, 0, by omega, rfl, rfl, HI4.out⟩
          case round =>
            clear HI4
            obtain ⟨i, Q, ux, uc, hi, rfl, rfl, hI⟩ := hrel
            by_cases hlt : i < ln
            · have hlt' : (i : Int) < (ln : Int) := by omega
              have i0 : (0 : Int) ≤ (i : Int) := by omega
              have HLT : Hid (i < C.p) := by show _ < _; rw [HP.out]; exact hlt
              obtain ⟨g, c9, he, hc⟩ := hI.getL i HLT.out
              obtain rfl : lx = some ⟨g, 0, none⟩ := by rw [HLS.out] at he; exact congrArg Sl.x he
              obtain ⟨⟨yx, yn, yc⟩, hLi⟩ : ∃ q, C.Ls i = q := ⟨_, rfl⟩
              have HNI : Hid (C.nL i = yn) := by have h9 := hI.lenL i HLT.out; rw [hLi] at h9; exact h9.symm
              have HLI : Hid (C.Ls i = ⟨yx, yn, yc⟩) := hLi
              have hyn : yn ≤ 8796093022208 := by rw [← HNI.out]; exact Nat.le_trans (HC.out.nL i) (by omega)
              rw [hLi] at hc
              simp only [Sl.v] at hc
              have hM := mark15_any i yn wr
              have HII : Hid (I34 C Q (fun _ => slZ) ⟨ux, i, uc⟩ slZ i 0 w wr) := hI
              clear hI he hLi
              go_wp2_with fail
              refine hM.mono ?_
              rintro e w1 ⟨rfl, hb1⟩
              clear hM
              obtain ⟨y, hy⟩ : ∃ q, w1.heap.size = q := ⟨_, rfl⟩
              have hb2 := below_alloc w1 (.cells #[.iface 54 (.string (mkT i yn))] 27)
              have hyc : (w1.alloc (.cells #[.iface 54 (.string (mkT i yn))] 27)).cell? ⟨y, 0, none⟩ = some (.iface 54 (.string (mkT i yn))) := by rw [← hy]; exact (RowC.new w1 #[.iface 54 (.string (mkT i yn))] 27).cell 0
              obtain ⟨⟨ax, an, ac⟩, w3, hr3, hJ3⟩ := ((HII.out.later hb1).later hb2).appL HC.out HLT.out y 1 (by rw [HNI.out]; exact hyc)
              rw [HLI.out] at hr3
              have hr3' : (Builtin.append_ #[53, 53] 53 #[.slice yx yn yc, .slice (some ⟨y, 0, none⟩) 1 1]).run Tryz.prog (w1.alloc (.cells #[.iface 54 (.string (mkT i yn))] 27)) = .ok (.slice ax an ac) w3 := hr3
              obtain ⟨z, hz⟩ : ∃ q, w3.heap.size = q := ⟨_, rfl⟩
              have hb4 := below_alloc w3 (.cells #[.slice ax an ac] 53)
              have hzc : (w3.alloc (.cells #[.slice ax an ac] 53)).cell? ⟨z, 0, none⟩ = some (.slice ax an ac) := by rw [← hz]; exact (RowC.new w3 #[.slice ax an ac] 53).cell 0
              obtain ⟨⟨bx, bn, bc⟩, w5, hr5, hI5⟩ := (hJ3.later hb4).tellL HC.out HLT.out z 1 hzc
              obtain rfl : bn = i + 1 := hI5.numls.2.2.1
              have hr5' : (Builtin.append_ #[49, 49] 49 #[.slice ux i uc, .slice (some ⟨z, 0, none⟩) 1 1]).run Tryz.prog (w3.alloc (.cells #[.slice ax an ac] 53)) = .ok (.slice bx (i + 1) bc) w5 := hr5
              have HR : Hid (I34 C (updM Q i ⟨ax, an, ac⟩) (fun _ => slZ) ⟨bx, (i + 1), bc⟩ slZ (i + 1) 0 w w5) := hI5
              clear hr3 hr5 hJ3 hI5 hb1 hb2 hb4 hyc hzc HII
              go_wp2_with (at_builtin; first | refine wpL_appG 53 rfl _ _ rfl _ w3 (by exact hr3') ?_ | refine wpL_appG 49 rfl _ _ rfl _ w5 (by exact hr5') ?_)
              go_roundw
              case rel => exact ⟨i + 1, _, bx, bc, by omega, by go_num, rfl, HR.out⟩
              case measure => simp [intOf]; omega
            · obtain rfl : ln = i := by omega
              have hlt' : ¬ (ln : Int) < (ln : Int) := by omega
              obtain ⟨M, rfl⟩ : ∃ q, q = Q := ⟨_, rfl⟩
              obtain ⟨mx, rfl⟩ : ∃ q, q = ux := ⟨_, rfl⟩
              obtain ⟨mc, rfl⟩ : ∃ q, q = uc := ⟨_, rfl⟩
              have HI5 : Hid (I34 C M (fun _ => slZ) ⟨mx, ln, mc⟩ slZ ln 0 w wr) := hI
              obtain ⟨W3, rfl⟩ : ∃ q, q = wr := ⟨_, rfl⟩
              clear hI hlt hi
              go_wp2
              go_loopw [25, 156] (fun mv iv wr => ∃ (i : Nat) (Q : Nat → Sl) (ux : Option Addr) (uc : Nat), i ≤ kn ∧ iv = .int .i64 i ∧ mv = .slice ux i uc ∧ I34 C M Q ⟨mx, ln, mc⟩ ⟨ux, i, uc⟩ ln i w wr) (fun _ iv _ => kn - (intOf iv).toNat)
              case atStart => exact ⟨0, fun _ => slZ, none, 0, by omega, rfl, rfl, HI5.out⟩
              case round =>
                clear HI5
                obtain ⟨i, Q, ux, uc, hi, rfl, rfl, hI⟩ := hrel
                by_cases hlt : i < kn
                · have hlt' : (i : Int) < (kn : Int) := by omega
                  have i0 : (0 : Int) ≤ (i : Int) := by omega
                  have HLT : Hid (i < C.q) := by show _ < _; rw [HQ.out]; exact hlt
                  obtain ⟨g, c9, he, hc⟩ := hI.getK i HLT.out
                  obtain rfl : kx = some ⟨g, 0, none⟩ := by rw [HKS.out] at he; exact congrArg Sl.x he
                  obtain ⟨⟨yx, yn, yc⟩, hLi⟩ : ∃ q, C.Ks i = q := ⟨_, rfl⟩
                  have HNI : Hid (C.nK i = yn) := by have h9 := hI.lenK i HLT.out; rw [hLi] at h9; exact h9.symm
                  have HLI : Hid (C.Ks i = ⟨yx, yn, yc⟩) := hLi
                  have hyn : yn ≤ 8796093022208 := by rw [← HNI.out]; exact Nat.le_trans (HC.out.nK i) (by omega)
                  rw [hLi] at hc
                  simp only [Sl.v] at hc
                  have hM := mark15_any i yn wr
                  have HII : Hid (I34 C M Q ⟨mx, ln, mc⟩ ⟨ux, i, uc⟩ ln i w wr) := hI
                  clear hI he hLi
                  go_wp2_with fail
                  refine hM.mono ?_
                  rintro e w1 ⟨rfl, hb1⟩
                  clear hM
                  obtain ⟨y, hy⟩ : ∃ q, w1.heap.size = q := ⟨_, rfl⟩
                  have hb2 := below_alloc w1 (.cells #[.string (mkT i yn)] 9)
                  have hyc : (w1.alloc (.cells #[.string (mkT i yn)] 9)).cell? ⟨y, 0, none⟩ = some (.string (mkT i yn)) := by rw [← hy]; exact (RowC.new w1 #[.string (mkT i yn)] 9).cell 0
                  obtain ⟨⟨ax, an, ac⟩, w3, hr3, hJ3⟩ := ((HII.out.later hb1).later hb2).appK HC.out HLT.out y 1 (by rw [HNI.out]; exact hyc)
                  rw [HLI.out] at hr3
                  have hr3' : (Builtin.append_ #[22, 22] 22 #[.slice yx yn yc, .slice (some ⟨y, 0, none⟩) 1 1]).run Tryz.prog (w1.alloc (.cells #[.string (mkT i yn)] 9)) = .ok (.slice ax an ac) w3 := hr3
                  obtain ⟨z, hz⟩ : ∃ q, w3.heap.size = q := ⟨_, rfl⟩
                  have hb4 := below_alloc w3 (.cells #[.slice ax an ac] 22)
                  have hzc : (w3.alloc (.cells #[.slice ax an ac] 22)).cell? ⟨z, 0, none⟩ = some (.slice ax an ac) := by rw [← hz]; exact (RowC.new w3 #[.slice ax an ac] 22).cell 0
                  obtain ⟨⟨bx, bn, bc⟩, w5, hr5, hI5⟩ := (hJ3.later hb4).tellK HC.out HLT.out z 1 hzc
                  obtain rfl : bn = i + 1 := hI5.numls.2.2.2
                  have hr5' : (Builtin.append_ #[51, 51] 51 #[.slice ux i uc, .slice (some ⟨z, 0, none⟩) 1 1]).run Tryz.prog (w3.alloc (.cells #[.slice ax an ac] 22)) = .ok (.slice bx (i + 1) bc) w5 := hr5
                  have HR : Hid (I34 C M (updM Q i ⟨ax, an, ac⟩) ⟨mx, ln, mc⟩ ⟨bx, (i + 1), bc⟩ ln (i + 1) w w5) := hI5
                  clear hr3 hr5 hJ3 hI5 hb1 hb2 hb4 hyc hzc HII
                  go_wp2_with (at_builtin; first | refine wpL_appG 22 rfl _ _ rfl _ w3 (by exact hr3') ?_ | refine wpL_appG 51 rfl _ _ rfl _ w5 (by exact hr5') ?_)
                  go_roundw
                  case rel => exact ⟨i + 1, _, bx, bc, by omega, by go_num, rfl, HR.out⟩
                  case measure => simp [intOf]; omega
                · obtain rfl : kn = i := by omega
                  have hlt' : ¬ (kn : Int) < (kn : Int) := by omega
                  obtain ⟨N, rfl⟩ : ∃ q, q = Q := ⟨_, rfl⟩
                  obtain ⟨ox, rfl⟩ : ∃ q, q = ux := ⟨_, rfl⟩
                  obtain ⟨oc, rfl⟩ : ∃ q, q = uc := ⟨_, rfl⟩
                  have HI6 : Hid (I34 C M N ⟨mx, ln, mc⟩ ⟨ox, kn, oc⟩ ln kn w wr) := hI
                  obtain ⟨W4, rfl⟩ : ∃ q, q = wr := ⟨_, rfl⟩
                  clear hI hlt hi
                  go_wp2
                  go_loopw [174] (fun iv wr => ∃ i : Nat, i ≤ ln ∧ iv = .int .i64 i ∧ I34 C M N ⟨mx, ln, mc⟩ ⟨ox, kn, oc⟩ ln kn w wr) (fun iv _ => ln - (intOf iv).toNat)
                  case atStart => exact ⟨0, by omega, rfl, HI6.out⟩
                  case round =>
                    clear HI6
                    obtain ⟨i, hi, rfl, hI⟩ := hrel
                    by_cases hlt : i < ln
                    · have hlt' : (i : Int) < (ln : Int) := by omega
                      have i0 : (0 : Int) ≤ (i : Int) := by omega
                      have HLT : Hid (i < C.p) := by show _ < _; rw [HP.out]; exact hlt
                      have HLN : Hid (i < ln) := hlt
                      obtain ⟨gl, c9, he, dl⟩ := hI.getL i HLT.out
                      obtain rfl : lx = some ⟨gl, 0, none⟩ := by rw [HLS.out] at he; exact congrArg Sl.x he
                      clear he
                      obtain ⟨gm, c8, he, dm⟩ := hI.getM i hlt
                      obtain rfl : mx = some ⟨gm, 0, none⟩ := congrArg Sl.x he
                      clear he
                      obtain ⟨⟨yx, yn, yc⟩, hLi⟩ : ∃ q, C.Ls i = q := ⟨_, rfl⟩
                      obtain ⟨⟨zx, zn, zc⟩, hMi⟩ : ∃ q, M i = q := ⟨_, rfl⟩
                      have HNI : Hid (C.nL i = yn) := by have h9 := hI.lenL i HLT.out; rw [hLi] at h9; exact h9.symm
                      have HZN : Hid (zn = yn + 1) := by have h9 := hI.nM i hlt; rw [hMi, HNI.out] at h9; exact h9
                      have HLI : Hid (C.Ls i = ⟨yx, yn, yc⟩) := hLi
                      have HMI : Hid (M i = ⟨zx, zn, zc⟩) := hMi
                      have hyn : yn ≤ 8796093022208 := by rw [← HNI.out]; exact Nat.le_trans (HC.out.nL i) (by omega)
                      have hzn : zn ≤ 8796093022209 := by rw [HZN.out]; omega
                      rw [hMi] at dm
                      simp only [Sl.v] at dm
                      have HII : Hid (I34 C M N ⟨some ⟨gm, 0, none⟩, ln, mc⟩ ⟨ox, kn, oc⟩ ln kn w wr) := hI
                      clear hI hLi hMi dl
                      obtain ⟨wo, rfl⟩ : ∃ q, q = wr := ⟨_, rfl⟩
                      go_wp2
                      go_loopw [181] (fun jv wr => ∃ j : Nat, j ≤ zn ∧ jv = .int .i64 j ∧ I34 C M N ⟨some ⟨gm, 0, none⟩, ln, mc⟩ ⟨ox, kn, oc⟩ ln kn w wr) (fun jv _ => zn - (intOf jv).toNat)
                      case atStart => exact ⟨0, by omega, rfl, HII.out⟩
                      case round =>
                        clear HII dm
                        obtain ⟨j, hj, rfl, hI⟩ := hrel
                        by_cases hjn : j < zn
                        · have hjn' : (j : Int) < (zn : Int) := by omega
                          have j0 : (0 : Int) ≤ (j : Int) := by omega
                          obtain ⟨gl2, c9, he, dl⟩ := hI.getL i HLT.out
                          obtain rfl : gl = gl2 := by rw [HLS.out] at he; have h9 := congrArg Sl.x he; simp only [Option.some.injEq, Addr.mk.injEq, and_true] at h9; exact h9
                          clear he
                          rw [HLI.out] at dl
                          simp only [Sl.v] at dl
                          obtain ⟨gz, c8, he, dz⟩ := hI.atM i hlt HLT.out j (by rw [HNI.out]; have := HZN.out; omega)
                          obtain rfl : zx = some ⟨gz, 0, none⟩ := by rw [HMI.out] at he; exact congrArg Sl.x he
                          clear he
                          have dz : wr.cell? ⟨gz, j, none⟩ = some (.iface 54 (.string (mkT i j))) := dz
                          have HJ : Hid (I34 C M N ⟨some ⟨gm, 0, none⟩, ln, mc⟩ ⟨ox, kn, oc⟩ ln kn w wr) := hI
                          by_cases hjy : j < yn
                          · have hjy' : (j : Int) < (yn : Int) := by omega
                            obtain ⟨gy, oy, c7, he, dy⟩ := hI.atL i hlt HLT.out j (by rw [HNI.out]; exact hjy)
                            obtain rfl : yx = some ⟨gy, oy, none⟩ := by rw [HLI.out] at he; exact congrArg Sl.x he
                            clear he hI
                            have dy : wr.cell? ⟨gy, oy + j, none⟩ = some (.iface 54 (.string (mkT i j))) := dy
                            have FK : Hid ((i : Int) < (ln : Int) ∧ (j : Int) < (zn : Int) ∧ (j : Int) < (yn : Int)) := ⟨hlt', hjn', hjy'⟩
                            go_upto_region 52 with fail
                            clear hjn' hjy' hlt'
                            refine wp_relies [Fx (.slice (some ⟨gz, 0, none⟩) zn zc), Fx (.int .i64 ((j : Int))), Fx (.pointer (some ⟨gz, j, none⟩)), Fx (.iface 54 (.string (mkT i j))), Fx (.int .i64 ((i : Int))), Fx (.int .i64 ((j : Int))), Fx (.string (mkT i j)), Fx (.iface 54 (.string (mkT i j))), Fx (.bool false), Fx (.bool false), Fx (.int .i64 ((j : Int))), Fx (.slice (some ⟨gl, 0, none⟩) ln lc), Fx (.int .i64 ((i : Int))), Fx (.pointer (some ⟨gl, i, none⟩)), Fx (.slice (some ⟨gy, oy, none⟩) yn yc), Fx (.int .i64 ((yn : Int))), Fx (.bool true), Fx (.bool true), Fx (.slice (some ⟨gl, 0, none⟩) ln lc), Fx (.int .i64 ((i : Int))), Fx (.pointer (some ⟨gl, i, none⟩)), Fx (.slice (some ⟨gy, oy, none⟩) yn yc), Fx (.int .i64 ((j : Int))), Fx (.pointer (some ⟨gy, oy + j, none⟩)), Fx (.iface 54 (.string (mkT i j))), Fx (.int .i64 ((i : Int))), Fx (.int .i64 ((j : Int))), Fx (.string (mkT i j)), Fx (.iface 54 (.string (mkT i j))), Fx (.bool false), Fx (.bool false), Fx (.bool false)] (by kernel_rfl) (by kernel_rfl) ?_ ?_ ?_
                            · repeat' (first | exact all_nil | apply all_cons)
                              all_goals intro v y y' hv hb
                              all_goals first | exact Fx_mono _ _ _ _ hv hb
                            · refine ⟨?_, ?_, ?_, ?_, ?_, ?_, ?_, ?_, ?_, ?_, ?_, ?_, ?_, ?_, ?_, ?_, ?_, ?_, ?_, ?_, ?_, ?_, ?_, ?_, ?_, ?_, ?_, ?_, ?_, ?_, ?_, ?_, trivial⟩
                              all_goals
                                intro ρ x hp ρc ρg ρf ho hd
                                have o31 : ρ (.tmp 31) = .slice (some ⟨gz, 0, none⟩) zn zc := ho 31 rfl
                                have o16 : ρ (.tmp 16) = .slice (some ⟨gl, 0, none⟩) ln lc := ho 16 rfl
                                have o30 : ρ (.tmp 30) = .int .i64 ((i : Int)) := ho 30 rfl
                                have o32 : ρ (.tmp 32) = .int .i64 ((j : Int)) := ho 32 rfl
                                clear ho
                                have k0 := cell_later hp dz
                                have k1 := cell_later hp dl
                                have k2 := cell_later hp dy
                                simp only [depsR, depR, slotR, Fx, List.getElem?_cons_succ, List.getElem?_cons_zero, Region.binds, forall_const] at hd
                                simp only [guardR]
                                go_split_ands
                              · go_simp
                              · go_simp
                              · obtain ⟨z1, z2, z3⟩ := FK.out
                                go_simp
                              · go_simp
                              · go_simp
                              · go_simp
                              · go_simp
                                refine (mark15_any i j x).mono ?_
                                rintro e x' ⟨rfl, hb⟩
                                exact ⟨_, rfl, rfl, hb⟩
                              · go_simp
                              · go_simp
                              · go_simp
                              · refine ⟨fun _ => ?_, fun hy => absurd (by simp [yieldR, slotR, *]) hy⟩
                                go_simp
                              · refine ⟨fun _ => ?_, fun hy => absurd (by simp [yieldR, slotR, *]) hy⟩
                                go_simp
                              · refine ⟨fun _ => ?_, fun hy => absurd (by simp [yieldR, slotR, *]) hy⟩
                                go_simp
                              · refine ⟨fun _ => ?_, fun hy => absurd (by simp [yieldR, slotR, *]) hy⟩
                                obtain ⟨z1, z2, z3⟩ := FK.out
                                go_simp
                              · refine ⟨fun _ => ?_, fun hy => absurd (by simp [yieldR, slotR, *]) hy⟩
                                go_simp
                              · refine ⟨fun _ => ?_, fun hy => absurd (by simp [yieldR, slotR, *]) hy⟩
                                go_simp
                              · refine ⟨fun _ => ?_, fun hy => absurd (by simp [yieldR, slotR, *]) hy⟩
                                obtain ⟨z1, z2, z3⟩ := FK.out
                                go_simp
                              · refine ⟨fun _ => ?_, fun hy => absurd (by simp [yieldR, slotR, *]) hy⟩
                                go_simp
                              · refine ⟨fun _ => ?_, fun hy => absurd (by simp [yieldR, slotR, *]) hy⟩
                                go_simp
                              · refine ⟨fun _ => ?_, fun hy => absurd (by simp [yieldR, slotR, *]) hy⟩
                                go_simp
                              · refine ⟨fun _ => ?_, fun hy => absurd (by simp [yieldR, slotR, *]) hy⟩
                                obtain ⟨z1, z2, z3⟩ := FK.out
                                go_simp
                              · refine ⟨fun _ => ?_, fun hy => absurd (by simp [yieldR, slotR, *]) hy⟩
                                go_simp
                              · refine ⟨fun _ => ?_, fun hy => absurd (by simp [yieldR, slotR, *]) hy⟩
                                go_simp
                              · refine ⟨fun _ => ?_, fun hy => absurd (by simp [yieldR, slotR, *]) hy⟩
                                obtain ⟨z1, z2, z3⟩ := FK.out
                                go_simp
                              · refine ⟨fun _ => ?_, fun hy => absurd (by simp [yieldR, slotR, *]) hy⟩
                                go_simp
                              · refine ⟨fun _ => ?_, fun hy => absurd (by simp [yieldR, slotR, *]) hy⟩
                                go_simp
                              · refine ⟨fun _ => ?_, fun hy => absurd (by simp [yieldR, slotR, *]) hy⟩
                                go_simp
                              · refine ⟨fun _ => ?_, fun hy => absurd (by simp [yieldR, slotR, *]) hy⟩
                                go_simp
                                refine (mark15_any i j x).mono ?_
                                rintro e x' ⟨rfl, hb⟩
                                exact ⟨_, rfl, rfl, hb⟩
                              · refine ⟨fun _ => ?_, fun hy => absurd (by simp [yieldR, slotR, *]) hy⟩
                                go_simp
                              · refine ⟨fun _ => ?_, fun hy => absurd (by simp [yieldR, slotR, *]) hy⟩
                                go_simp
                              · refine ⟨fun _ => ?_, fun hy => absurd (by simp [yieldR, slotR, *]) hy⟩
                                go_simp
                              · go_simp
                            · intro vs x9 hp hw
                              simp only [owed, Fx] at hw
                              obtain ⟨e0, e1, e2, e3, e4, e5, e6, e7, e8, e9, e10, e11, e12, e13, e14, e15, e16, e17, e18, e19, e20, e21, e22, e23, e24, e25, e26, e27, e28, e29, e30, e31, -⟩ := hw
                              simp only [List.length_cons, List.length_nil, List.take_succ_cons, List.take_nil, List.drop_succ_cons, List.drop_nil, asg, List.cons_append, List.nil_append, e0, e1, e2, e3, e4, e5, e6, e7, e8, e9, e10, e11, e12, e13, e14, e15, e16, e17, e18, e19, e20, e21, e22, e23, e24, e25, e26, e27, e28, e29, e30, e31]
                              clear e0 e1 e2 e3 e4 e5 e6 e7 e8 e9 e10 e11 e12 e13 e14 e15 e16 e17 e18 e19 e20 e21 e22 e23 e24 e25 e26 e27 e28 e29 e30 e31
                              have HR : Hid (I34 C M N ⟨some ⟨gm, 0, none⟩, ln, mc⟩ ⟨ox, kn, oc⟩ ln kn w x9) := HJ.out.later hp
                              clear hp dz dl HJ dy
                              go_wp2
                              go_roundw
                              case rel => exact ⟨j + 1, by omega, by go_num, HR.out⟩
                              case measure => simp [intOf]; omega
                          · have hjy' : ¬ (j : Int) < (yn : Int) := by omega
                            clear hI
                            have FK : Hid ((i : Int) < (ln : Int) ∧ (j : Int) < (zn : Int) ∧ ¬ (j : Int) < (yn : Int)) := ⟨hlt', hjn', hjy'⟩
                            go_upto_region 52 with fail
                            clear hjn' hjy' hlt'
                            refine wp_relies [Fx (.slice (some ⟨gz, 0, none⟩) zn zc), Fx (.int .i64 ((j : Int))), Fx (.pointer (some ⟨gz, j, none⟩)), Fx (.iface 54 (.string (mkT i j))), Fx (.int .i64 ((i : Int))), Fx (.int .i64 ((j : Int))), Fx (.string (mkT i j)), Fx (.iface 54 (.string (mkT i j))), Fx (.bool false), Fx (.bool false), Fx (.int .i64 ((j : Int))), Fx (.slice (some ⟨gl, 0, none⟩) ln lc), Fx (.int .i64 ((i : Int))), Fx (.pointer (some ⟨gl, i, none⟩)), Fx (.slice yx yn yc), Fx (.int .i64 ((yn : Int))), Fx (.bool false), Fx (.bool false), Fx (undef), Fx (undef), Fx (undef), Fx (undef), Fx (undef), Fx (undef), Fx (undef), Fx (undef), Fx (undef), Fx (undef), Fx (undef), Fx (undef), Fx (.bool false), Fx (.bool false)] (by kernel_rfl) (by kernel_rfl) ?_ ?_ ?_
                            · repeat' (first | exact all_nil | apply all_cons)
                              all_goals intro v y y' hv hb
                              all_goals first | exact Fx_mono _ _ _ _ hv hb
                            · refine ⟨?_, ?_, ?_, ?_, ?_, ?_, ?_, ?_, ?_, ?_, ?_, ?_, ?_, ?_, ?_, ?_, ?_, ?_, ?_, ?_, ?_, ?_, ?_, ?_, ?_, ?_, ?_, ?_, ?_, ?_, ?_, ?_, trivial⟩
                              all_goals
                                intro ρ x hp ρc ρg ρf ho hd
                                have o31 : ρ (.tmp 31) = .slice (some ⟨gz, 0, none⟩) zn zc := ho 31 rfl
                                have o16 : ρ (.tmp 16) = .slice (some ⟨gl, 0, none⟩) ln lc := ho 16 rfl
                                have o30 : ρ (.tmp 30) = .int .i64 ((i : Int)) := ho 30 rfl
                                have o32 : ρ (.tmp 32) = .int .i64 ((j : Int)) := ho 32 rfl
                                clear ho
                                have k0 := cell_later hp dz
                                have k1 := cell_later hp dl
                                simp only [depsR, depR, slotR, Fx, List.getElem?_cons_succ, List.getElem?_cons_zero, Region.binds, forall_const] at hd
                                simp only [guardR]
                                go_split_ands
                              · go_simp
                              · go_simp
                              · obtain ⟨z1, z2, z3⟩ := FK.out
                                go_simp
                              · go_simp
                              · go_simp
                              · go_simp
                              · go_simp
                                refine (mark15_any i j x).mono ?_
                                rintro e x' ⟨rfl, hb⟩
                                exact ⟨_, rfl, rfl, hb⟩
                              · go_simp
                              · go_simp
                              · go_simp
                              · refine ⟨fun _ => ?_, fun hy => absurd (by simp [yieldR, slotR, *]) hy⟩
                                go_simp
                              · refine ⟨fun _ => ?_, fun hy => absurd (by simp [yieldR, slotR, *]) hy⟩
                                go_simp
                              · refine ⟨fun _ => ?_, fun hy => absurd (by simp [yieldR, slotR, *]) hy⟩
                                go_simp
                              · refine ⟨fun _ => ?_, fun hy => absurd (by simp [yieldR, slotR, *]) hy⟩
                                obtain ⟨z1, z2, z3⟩ := FK.out
                                go_simp
                              · refine ⟨fun _ => ?_, fun hy => absurd (by simp [yieldR, slotR, *]) hy⟩
                                go_simp
                              · refine ⟨fun _ => ?_, fun hy => absurd (by simp [yieldR, slotR, *]) hy⟩
                                go_simp
                              · refine ⟨fun _ => ?_, fun hy => absurd (by simp [yieldR, slotR, *]) hy⟩
                                obtain ⟨z1, z2, z3⟩ := FK.out
                                go_simp
                              · refine ⟨fun _ => ?_, fun hy => absurd (by simp [yieldR, slotR, *]) hy⟩
                                go_simp
                              · refine ⟨fun hy => ?_, fun _ => rfl⟩
                                exfalso; simp [yieldR, slotR, undef, *] at hy
                              · refine ⟨fun hy => ?_, fun _ => rfl⟩
                                exfalso; simp [yieldR, slotR, undef, *] at hy
                              · refine ⟨fun hy => ?_, fun _ => rfl⟩
                                exfalso; simp [yieldR, slotR, undef, *] at hy
                              · refine ⟨fun hy => ?_, fun _ => rfl⟩
                                exfalso; simp [yieldR, slotR, undef, *] at hy
                              · refine ⟨fun hy => ?_, fun _ => rfl⟩
                                exfalso; simp [yieldR, slotR, undef, *] at hy
                              · refine ⟨fun hy => ?_, fun _ => rfl⟩
                                exfalso; simp [yieldR, slotR, undef, *] at hy
                              · refine ⟨fun hy => ?_, fun _ => rfl⟩
                                exfalso; simp [yieldR, slotR, undef, *] at hy
                              · refine ⟨fun hy => ?_, fun _ => rfl⟩
                                exfalso; simp [yieldR, slotR, undef, *] at hy
                              · refine ⟨fun hy => ?_, fun _ => rfl⟩
                                exfalso; simp [yieldR, slotR, undef, *] at hy
                              · refine ⟨fun hy => ?_, fun _ => rfl⟩
                                exfalso; simp [yieldR, slotR, undef, *] at hy
                              · refine ⟨fun hy => ?_, fun _ => rfl⟩
                                exfalso; simp [yieldR, slotR, undef, *] at hy
                              · refine ⟨fun hy => ?_, fun _ => rfl⟩
                                exfalso; simp [yieldR, slotR, undef, *] at hy
                              · refine ⟨fun _ => ?_, fun hy => absurd (by simp [yieldR, slotR, *]) hy⟩
                                go_simp
                              · go_simp
                            · intro vs x9 hp hw
                              simp only [owed, Fx] at hw
                              obtain ⟨e0, e1, e2, e3, e4, e5, e6, e7, e8, e9, e10, e11, e12, e13, e14, e15, e16, e17, e18, e19, e20, e21, e22, e23, e24, e25, e26, e27, e28, e29, e30, e31, -⟩ := hw
                              simp only [List.length_cons, List.length_nil, List.take_succ_cons, List.take_nil, List.drop_succ_cons, List.drop_nil, asg, List.cons_append, List.nil_append, e0, e1, e2, e3, e4, e5, e6, e7, e8, e9, e10, e11, e12, e13, e14, e15, e16, e17, e18, e19, e20, e21, e22, e23, e24, e25, e26, e27, e28, e29, e30, e31]
                              clear e0 e1 e2 e3 e4 e5 e6 e7 e8 e9 e10 e11 e12 e13 e14 e15 e16 e17 e18 e19 e20 e21 e22 e23 e24 e25 e26 e27 e28 e29 e30 e31
                              have HR : Hid (I34 C M N ⟨some ⟨gm, 0, none⟩, ln, mc⟩ ⟨ox, kn, oc⟩ ln kn w x9) := HJ.out.later hp
                              clear hp dz dl HJ 
                              go_wp2
                              go_roundw
                              case rel => exact ⟨j + 1, by omega, by go_num, HR.out⟩
                              case measure => simp [intOf]; omega
                        · obtain rfl : zn = j := by omega
                          have hjn' : ¬ (zn : Int) < (zn : Int) := by omega
                          have HR : Hid (I34 C M N ⟨some ⟨gm, 0, none⟩, ln, mc⟩ ⟨ox, kn, oc⟩ ln kn w wr) := hI
                          clear hI
                          go_wp2
                          go_roundw
                          case rel => exact ⟨i + 1, by have := HLN.out; omega, by go_num, HR.out⟩
                          case measure => have := HLN.out; simp [intOf]; omega
                    · obtain rfl : ln = i := by omega
                      have hlt' : ¬ (ln : Int) < (ln : Int) := by omega
                      have HI8 : Hid (I34 C M N ⟨mx, ln, mc⟩ ⟨ox, kn, oc⟩ ln kn w wr) := hI
                      obtain ⟨W5, rfl⟩ : ∃ q, q = wr := ⟨_, rfl⟩
                      clear hI hlt hi
                      go_wp2
                      go_loopw [220] (fun iv wr => ∃ i : Nat, i ≤ kn ∧ iv = .int .i64 i ∧ I34 C M N ⟨mx, ln, mc⟩ ⟨ox, kn, oc⟩ ln kn w wr) (fun iv _ => kn - (intOf iv).toNat)
                      case atStart => exact ⟨0, by omega, rfl, HI8.out⟩
                      case round =>
                        clear HI8
                        obtain ⟨i, hi, rfl, hI⟩ := hrel
                        by_cases hlt : i < kn
                        · have hlt' : (i : Int) < (kn : Int) := by omega
                          have i0 : (0 : Int) ≤ (i : Int) := by omega
                          have HLT : Hid (i < C.q) := by show _ < _; rw [HQ.out]; exact hlt
                          have HLN : Hid (i < kn) := hlt
                          obtain ⟨gl, c9, he, dl⟩ := hI.getK i HLT.out
                          obtain rfl : kx = some ⟨gl, 0, none⟩ := by rw [HKS.out] at he; exact congrArg Sl.x he
                          clear he
                          obtain ⟨gm, c8, he, dm⟩ := hI.getN i hlt
                          obtain rfl : ox = some ⟨gm, 0, none⟩ := congrArg Sl.x he
                          clear he
                          obtain ⟨⟨yx, yn, yc⟩, hLi⟩ : ∃ q, C.Ks i = q := ⟨_, rfl⟩
                          obtain ⟨⟨zx, zn, zc⟩, hMi⟩ : ∃ q, N i = q := ⟨_, rfl⟩
                          have HNI : Hid (C.nK i = yn) := by have h9 := hI.lenK i HLT.out; rw [hLi] at h9; exact h9.symm
                          have HZN : Hid (zn = yn + 1) := by have h9 := hI.nN i hlt; rw [hMi, HNI.out] at h9; exact h9
                          have HLI : Hid (C.Ks i = ⟨yx, yn, yc⟩) := hLi
                          have HMI : Hid (N i = ⟨zx, zn, zc⟩) := hMi
                          have hyn : yn ≤ 8796093022208 := by rw [← HNI.out]; exact Nat.le_trans (HC.out.nK i) (by omega)
                          have hzn : zn ≤ 8796093022209 := by rw [HZN.out]; omega
                          rw [hMi] at dm
                          simp only [Sl.v] at dm
                          have HII : Hid (I34 C M N ⟨mx, ln, mc⟩ ⟨some ⟨gm, 0, none⟩, kn, oc⟩ ln kn w wr) := hI
                          clear hI hLi hMi dl
                          obtain ⟨wo, rfl⟩ : ∃ q, q = wr := ⟨_, rfl⟩
                          go_wp2
                          go_loopw [227] (fun jv wr => ∃ j : Nat, j ≤ zn ∧ jv = .int .i64 j ∧ I34 C M N ⟨mx, ln, mc⟩ ⟨some ⟨gm, 0, none⟩, kn, oc⟩ ln kn w wr) (fun jv _ => zn - (intOf jv).toNat)
                          case atStart => exact ⟨0, by omega, rfl, HII.out⟩
                          case round =>
                            clear HII dm
                            obtain ⟨j, hj, rfl, hI⟩ := hrel
                            by_cases hjn : j < zn
                            · have hjn' : (j : Int) < (zn : Int) := by omega
                              have j0 : (0 : Int) ≤ (j : Int) := by omega
                              obtain ⟨gl2, c9, he, dl⟩ := hI.getK i HLT.out
                              obtain rfl : gl = gl2 := by rw [HKS.out] at he; have h9 := congrArg Sl.x he; simp only [Option.some.injEq, Addr.mk.injEq, and_true] at h9; exact h9
                              clear he
                              rw [HLI.out] at dl
                              simp only [Sl.v] at dl
                              obtain ⟨gz, c8, he, dz⟩ := hI.atN i hlt HLT.out j (by rw [HNI.out]; have := HZN.out; omega)
                              obtain rfl : zx = some ⟨gz, 0, none⟩ := by rw [HMI.out] at he; exact congrArg Sl.x he
                              clear he
                              have dz : wr.cell? ⟨gz, j, none⟩ = some (.string (mkT i j)) := dz
                              have HJ : Hid (I34 C M N ⟨mx, ln, mc⟩ ⟨some ⟨gm, 0, none⟩, kn, oc⟩ ln kn w wr) := hI
                              by_cases hjy : j < yn
                              · have hjy' : (j : Int) < (yn : Int) := by omega
                                obtain ⟨gy, oy, c7, he, dy⟩ := hI.atK i hlt HLT.out j (by rw [HNI.out]; exact hjy)
                                obtain rfl : yx = some ⟨gy, oy, none⟩ := by rw [HLI.out] at he; exact congrArg Sl.x he
                                clear he hI
                                have dy : wr.cell? ⟨gy, oy + j, none⟩ = some (.string (mkT i j)) := dy
                                have FK : Hid ((i : Int) < (kn : Int) ∧ (j : Int) < (zn : Int) ∧ (j : Int) < (yn : Int)) := ⟨hlt', hjn', hjy'⟩
                                go_upto_region 62 with fail
                                clear hjn' hjy' hlt'
                                refine wp_relies [Fx (.slice (some ⟨gz, 0, none⟩) zn zc), Fx (.int .i64 ((j : Int))), Fx (.pointer (some ⟨gz, j, none⟩)), Fx (.string (mkT i j)), Fx (.int .i64 ((i : Int))), Fx (.int .i64 ((j : Int))), Fx (.string (mkT i j)), Fx (.bool false), Fx (.bool false), Fx (.int .i64 ((j : Int))), Fx (.slice (some ⟨gl, 0, none⟩) kn kc), Fx (.int .i64 ((i : Int))), Fx (.pointer (some ⟨gl, i, none⟩)), Fx (.slice (some ⟨gy, oy, none⟩) yn yc), Fx (.int .i64 ((yn : Int))), Fx (.bool true), Fx (.bool true), Fx (.slice (some ⟨gl, 0, none⟩) kn kc), Fx (.int .i64 ((i : Int))), Fx (.pointer (some ⟨gl, i, none⟩)), Fx (.slice (some ⟨gy, oy, none⟩) yn yc), Fx (.int .i64 ((j : Int))), Fx (.pointer (some ⟨gy, oy + j, none⟩)), Fx (.string (mkT i j)), Fx (.int .i64 ((i : Int))), Fx (.int .i64 ((j : Int))), Fx (.string (mkT i j)), Fx (.bool false), Fx (.bool false), Fx (.bool false)] (by kernel_rfl) (by kernel_rfl) ?_ ?_ ?_
                                · repeat' (first | exact all_nil | apply all_cons)
                                  all_goals intro v y y' hv hb
                                  all_goals first | exact Fx_mono _ _ _ _ hv hb
                                · refine ⟨?_, ?_, ?_, ?_, ?_, ?_, ?_, ?_, ?_, ?_, ?_, ?_, ?_, ?_, ?_, ?_, ?_, ?_, ?_, ?_, ?_, ?_, ?_, ?_, ?_, ?_, ?_, ?_, ?_, ?_, trivial⟩
                                  all_goals
                                    intro ρ x hp ρc ρg ρf ho hd
                                    have o34 : ρ (.tmp 34) = .slice (some ⟨gz, 0, none⟩) zn zc := ho 34 rfl
                                    have o17 : ρ (.tmp 17) = .slice (some ⟨gl, 0, none⟩) kn kc := ho 17 rfl
                                    have o33 : ρ (.tmp 33) = .int .i64 ((i : Int)) := ho 33 rfl
                                    have o35 : ρ (.tmp 35) = .int .i64 ((j : Int)) := ho 35 rfl
                                    clear ho
                                    have k0 := cell_later hp dz
                                    have k1 := cell_later hp dl
                                    have k2 := cell_later hp dy
                                    simp only [depsR, depR, slotR, Fx, List.getElem?_cons_succ, List.getElem?_cons_zero, Region.binds, forall_const] at hd
                                    simp only [guardR]
                                    go_split_ands
                                  · go_simp
                                  · go_simp
                                  · obtain ⟨z1, z2, z3⟩ := FK.out
                                    go_simp
                                  · go_simp
                                  · go_simp
                                  · go_simp
                                  · go_simp
                                    refine (mark15_any i j x).mono ?_
                                    rintro e x' ⟨rfl, hb⟩
                                    exact ⟨_, rfl, rfl, hb⟩
                                  · go_simp
                                  · go_simp
                                  · refine ⟨fun _ => ?_, fun hy => absurd (by simp [yieldR, slotR, *]) hy⟩
                                    go_simp
                                  · refine ⟨fun _ => ?_, fun hy => absurd (by simp [yieldR, slotR, *]) hy⟩
                                    go_simp
                                  · refine ⟨fun _ => ?_, fun hy => absurd (by simp [yieldR, slotR, *]) hy⟩
                                    go_simp
                                  · refine ⟨fun _ => ?_, fun hy => absurd (by simp [yieldR, slotR, *]) hy⟩
                                    obtain ⟨z1, z2, z3⟩ := FK.out
                                    go_simp
                                  · refine ⟨fun _ => ?_, fun hy => absurd (by simp [yieldR, slotR, *]) hy⟩
                                    go_simp
                                  · refine ⟨fun _ => ?_, fun hy => absurd (by simp [yieldR, slotR, *]) hy⟩
                                    go_simp
                                  · refine ⟨fun _ => ?_, fun hy => absurd (by simp [yieldR, slotR, *]) hy⟩
                                    obtain ⟨z1, z2, z3⟩ := FK.out
                                    go_simp
                                  · refine ⟨fun _ => ?_, fun hy => absurd (by simp [yieldR, slotR, *]) hy⟩
                                    go_simp
                                  · refine ⟨fun _ => ?_, fun hy => absurd (by simp [yieldR, slotR, *]) hy⟩
                                    go_simp
                                  · refine ⟨fun _ => ?_, fun hy => absurd (by simp [yieldR, slotR, *]) hy⟩
                                    go_simp
                                  · refine ⟨fun _ => ?_, fun hy => absurd (by simp [yieldR, slotR, *]) hy⟩
                                    obtain ⟨z1, z2, z3⟩ := FK.out
                                    go_simp
                                  · refine ⟨fun _ => ?_, fun hy => absurd (by simp [yieldR, slotR, *]) hy⟩
                                    go_simp
                                  · refine ⟨fun _ => ?_, fun hy => absurd (by simp [yieldR, slotR, *]) hy⟩
                                    go_simp
                                  · refine ⟨fun _ => ?_, fun hy => absurd (by simp [yieldR, slotR, *]) hy⟩
                                    obtain ⟨z1, z2, z3⟩ := FK.out
                                    go_simp
                                  · refine ⟨fun _ => ?_, fun hy => absurd (by simp [yieldR, slotR, *]) hy⟩
                                    go_simp
                                  · refine ⟨fun _ => ?_, fun hy => absurd (by simp [yieldR, slotR, *]) hy⟩
                                    go_simp
                                  · refine ⟨fun _ => ?_, fun hy => absurd (by simp [yieldR, slotR, *]) hy⟩
                                    go_simp
                                  · refine ⟨fun _ => ?_, fun hy => absurd (by simp [yieldR, slotR, *]) hy⟩
                                    go_simp
                                    refine (mark15_any i j x).mono ?_
                                    rintro e x' ⟨rfl, hb⟩
                                    exact ⟨_, rfl, rfl, hb⟩
                                  · refine ⟨fun _ => ?_, fun hy => absurd (by simp [yieldR, slotR, *]) hy⟩
                                    go_simp
                                  · refine ⟨fun _ => ?_, fun hy => absurd (by simp [yieldR, slotR, *]) hy⟩
                                    go_simp
                                  · go_simp
                                · intro vs x9 hp hw
                                  simp only [owed, Fx] at hw
                                  obtain ⟨e0, e1, e2, e3, e4, e5, e6, e7, e8, e9, e10, e11, e12, e13, e14, e15, e16, e17, e18, e19, e20, e21, e22, e23, e24, e25, e26, e27, e28, e29, -⟩ := hw
                                  simp only [List.length_cons, List.length_nil, List.take_succ_cons, List.take_nil, List.drop_succ_cons, List.drop_nil, asg, List.cons_append, List.nil_append, e0, e1, e2, e3, e4, e5, e6, e7, e8, e9, e10, e11, e12, e13, e14, e15, e16, e17, e18, e19, e20, e21, e22, e23, e24, e25, e26, e27, e28, e29]
                                  clear e0 e1 e2 e3 e4 e5 e6 e7 e8 e9 e10 e11 e12 e13 e14 e15 e16 e17 e18 e19 e20 e21 e22 e23 e24 e25 e26 e27 e28 e29
                                  have HR : Hid (I34 C M N ⟨mx, ln, mc⟩ ⟨some ⟨gm, 0, none⟩, kn, oc⟩ ln kn w x9) := HJ.out.later hp
                                  clear hp dz dl HJ dy
                                  go_wp2
                                  go_roundw
                                  case rel => exact ⟨j + 1, by omega, by go_num, HR.out⟩
                                  case measure => simp [intOf]; omega
                              · have hjy' : ¬ (j : Int) < (yn : Int) := by omega
                                clear hI
                                have FK : Hid ((i : Int) < (kn : Int) ∧ (j : Int) < (zn : Int) ∧ ¬ (j : Int) < (yn : Int)) := ⟨hlt', hjn', hjy'⟩
                                go_upto_region 62 with fail
                                clear hjn' hjy' hlt'
                                refine wp_relies [Fx (.slice (some ⟨gz, 0, none⟩) zn zc), Fx (.int .i64 ((j : Int))), Fx (.pointer (some ⟨gz, j, none⟩)), Fx (.string (mkT i j)), Fx (.int .i64 ((i : Int))), Fx (.int .i64 ((j : Int))), Fx (.string (mkT i j)), Fx (.bool false), Fx (.bool false), Fx (.int .i64 ((j : Int))), Fx (.slice (some ⟨gl, 0, none⟩) kn kc), Fx (.int .i64 ((i : Int))), Fx (.pointer (some ⟨gl, i, none⟩)), Fx (.slice yx yn yc), Fx (.int .i64 ((yn : Int))), Fx (.bool false), Fx (.bool false), Fx (undef), Fx (undef), Fx (undef), Fx (undef), Fx (undef), Fx (undef), Fx (undef), Fx (undef), Fx (undef), Fx (undef), Fx (undef), Fx (.bool false), Fx (.bool false)] (by kernel_rfl) (by kernel_rfl) ?_ ?_ ?_
                                · repeat' (first | exact all_nil | apply all_cons)
                                  all_goals intro v y y' hv hb
                                  all_goals first | exact Fx_mono _ _ _ _ hv hb
                                · refine ⟨?_, ?_, ?_, ?_, ?_, ?_, ?_, ?_, ?_, ?_, ?_, ?_, ?_, ?_, ?_, ?_, ?_, ?_, ?_, ?_, ?_, ?_, ?_, ?_, ?_, ?_, ?_, ?_, ?_, ?_, trivial⟩
                                  all_goals
                                    intro ρ x hp ρc ρg ρf ho hd
                                    have o34 : ρ (.tmp 34) = .slice (some ⟨gz, 0, none⟩) zn zc := ho 34 rfl
                                    have o17 : ρ (.tmp 17) = .slice (some ⟨gl, 0, none⟩) kn kc := ho 17 rfl
                                    have o33 : ρ (.tmp 33) = .int .i64 ((i : Int)) := ho 33 rfl
                                    have o35 : ρ (.tmp 35) = .int .i64 ((j : Int)) := ho 35 rfl
                                    clear ho
                                    have k0 := cell_later hp dz
                                    have k1 := cell_later hp dl
                                    simp only [depsR, depR, slotR, Fx, List.getElem?_cons_succ, List.getElem?_cons_zero, Region.binds, forall_const] at hd
                                    simp only [guardR]
                                    go_split_ands
                                  · go_simp
                                  · go_simp
                                  · obtain ⟨z1, z2, z3⟩ := FK.out
                                    go_simp
                                  · go_simp
                                  · go_simp
                                  · go_simp
                                  · go_simp
                                    refine (mark15_any i j x).mono ?_
                                    rintro e x' ⟨rfl, hb⟩
                                    exact ⟨_, rfl, rfl, hb⟩
                                  · go_simp
                                  · go_simp
                                  · refine ⟨fun _ => ?_, fun hy => absurd (by simp [yieldR, slotR, *]) hy⟩
                                    go_simp
                                  · refine ⟨fun _ => ?_, fun hy => absurd (by simp [yieldR, slotR, *]) hy⟩
                                    go_simp
                                  · refine ⟨fun _ => ?_, fun hy => absurd (by simp [yieldR, slotR, *]) hy⟩
                                    go_simp
                                  · refine ⟨fun _ => ?_, fun hy => absurd (by simp [yieldR, slotR, *]) hy⟩
                                    obtain ⟨z1, z2, z3⟩ := FK.out
                                    go_simp
                                  · refine ⟨fun _ => ?_, fun hy => absurd (by simp [yieldR, slotR, *]) hy⟩
                                    go_simp
                                  · refine ⟨fun _ => ?_, fun hy => absurd (by simp [yieldR, slotR, *]) hy⟩
                                    go_simp
                                  · refine ⟨fun _ => ?_, fun hy => absurd (by simp [yieldR, slotR, *]) hy⟩
                                    obtain ⟨z1, z2, z3⟩ := FK.out
                                    go_simp
                                  · refine ⟨fun _ => ?_, fun hy => absurd (by simp [yieldR, slotR, *]) hy⟩
                                    go_simp
                                  · refine ⟨fun hy => ?_, fun _ => rfl⟩
                                    exfalso; simp [yieldR, slotR, undef, *] at hy
                                  · refine ⟨fun hy => ?_, fun _ => rfl⟩
                                    exfalso; simp [yieldR, slotR, undef, *] at hy
                                  · refine ⟨fun hy => ?_, fun _ => rfl⟩
                                    exfalso; simp [yieldR, slotR, undef, *] at hy
                                  · refine ⟨fun hy => ?_, fun _ => rfl⟩
                                    exfalso; simp [yieldR, slotR, undef, *] at hy
                                  · refine ⟨fun hy => ?_, fun _ => rfl⟩
                                    exfalso; simp [yieldR, slotR, undef, *] at hy
                                  · refine ⟨fun hy => ?_, fun _ => rfl⟩
                                    exfalso; simp [yieldR, slotR, undef, *] at hy
                                  · refine ⟨fun hy => ?_, fun _ => rfl⟩
                                    exfalso; simp [yieldR, slotR, undef, *] at hy
                                  · refine ⟨fun hy => ?_, fun _ => rfl⟩
                                    exfalso; simp [yieldR, slotR, undef, *] at hy
                                  · refine ⟨fun hy => ?_, fun _ => rfl⟩
                                    exfalso; simp [yieldR, slotR, undef, *] at hy
                                  · refine ⟨fun hy => ?_, fun _ => rfl⟩
                                    exfalso; simp [yieldR, slotR, undef, *] at hy
                                  · refine ⟨fun hy => ?_, fun _ => rfl⟩
                                    exfalso; simp [yieldR, slotR, undef, *] at hy
                                  · refine ⟨fun _ => ?_, fun hy => absurd (by simp [yieldR, slotR, *]) hy⟩
                                    go_simp
                                  · go_simp
                                · intro vs x9 hp hw
                                  simp only [owed, Fx] at hw
                                  obtain ⟨e0, e1, e2, e3, e4, e5, e6, e7, e8, e9, e10, e11, e12, e13, e14, e15, e16, e17, e18, e19, e20, e21, e22, e23, e24, e25, e26, e27, e28, e29, -⟩ := hw
                                  simp only [List.length_cons, List.length_nil, List.take_succ_cons, List.take_nil, List.drop_succ_cons, List.drop_nil, asg, List.cons_append, List.nil_append, e0, e1, e2, e3, e4, e5, e6, e7, e8, e9, e10, e11, e12, e13, e14, e15, e16, e17, e18, e19, e20, e21, e22, e23, e24, e25, e26, e27, e28, e29]
                                  clear e0 e1 e2 e3 e4 e5 e6 e7 e8 e9 e10 e11 e12 e13 e14 e15 e16 e17 e18 e19 e20 e21 e22 e23 e24 e25 e26 e27 e28 e29
                                  have HR : Hid (I34 C M N ⟨mx, ln, mc⟩ ⟨some ⟨gm, 0, none⟩, kn, oc⟩ ln kn w x9) := HJ.out.later hp
                                  clear hp dz dl HJ 
                                  go_wp2
                                  go_roundw
                                  case rel => exact ⟨j + 1, by omega, by go_num, HR.out⟩
                                  case measure => simp [intOf]; omega
                            · obtain rfl : zn = j := by omega
                              have hjn' : ¬ (zn : Int) < (zn : Int) := by omega
                              have HR : Hid (I34 C M N ⟨mx, ln, mc⟩ ⟨some ⟨gm, 0, none⟩, kn, oc⟩ ln kn w wr) := hI
                              clear hI
                              go_wp2
                              go_roundw
                              case rel => exact ⟨i + 1, by have := HLN.out; omega, by go_num, HR.out⟩
                              case measure => have := HLN.out; simp [intOf]; omega
                        · obtain rfl : kn = i := by omega
                          have hlt' : ¬ (kn : Int) < (kn : Int) := by omega
                          have HI7 : Hid (I34 C M N ⟨mx, ln, mc⟩ ⟨ox, kn, oc⟩ ln kn w wr) := hI
                          obtain ⟨W6, rfl⟩ : ∃ q, q = wr := ⟨_, rfl⟩
                          clear hI hlt hi
                          skip
                          have hBW : Below n0 w W6 := by have h9 := HI7.out.bl; rw [HB.out] at h9; exact h9
                          have hsW : n0 ≤ W6.heap.size := by have h9 := HI7.out.size; rw [HB.out] at h9; exact h9
                          have hP9 := HO1.out W6 hBW
                          unfold JoP at hP9
                          simp only at hP9
                          go_wp2_with fail
                          refine hP9.mono ?_
                          rintro e w20 ⟨v9, rfl, hy9, -, hb9⟩
                          clear hP9
                          obtain ⟨L9, K9, vo9, -⟩ := hy9 (by trivial)
                          have hB20 : Below n0 w w20 := hBW.trans (hb9.mono hsW)
                          have hs20 : n0 ≤ w20.heap.size := Nat.le_trans hsW hb9.size
                          have hPt := O.prt d _ _ w20 vo9.f.g gd3 (Nat.le_trans gd2 (by omega)) (HKV.out w20 hB20)
                          obtain ⟨vt9, vp9, rfl⟩ := vo9.ifo
                          unfold PtP at hPt
                          rw [HSS.out] at hPt
                          clear hy9 vo9
                          go_wp2_with fail
                          refine hPt.mono ?_
                          rintro e w21 ⟨rfl, hb21⟩
                          clear hPt
                          go_wp2
                          go_ret
                          exact ⟨by simp, by rw [HN0.out]; exact hB20.trans (hb21.mono hs20)⟩
end Go.Proofs.YtddmmmfpdmejbaaGreatDoor
namespace Go.Proofs.YtddmmmfpdmejbaaGreatDoor
open Go.RowKit

/-! JsonOwn: both texts are read -/
set_option linter.unusedSimpArgs false in
set_option maxRecDepth 100000 in
set_option maxHeartbeats 64000000 in
theorem ownB15 {V : World → Prop} (O : JsOk V) (l l2 : List UInt8) (x x2 : Option Addr) (L c L2 c2 : Nat) (w : World) (hVw : V w) (hL : l.length = L) (hLc : L ≤ c) (hL47 : L ≤ 140737488355328) (hl : IsB w (.slice x L c) l) (hL2 : l2.length = L2) (hLc2 : L2 ≤ c2) (hL472 : L2 ≤ 140737488355328) (hl2 : IsB w (.slice x2 L2 c2) l2) (hE : (prsA l).2.1 = 0) (hE2 : (prsA l2).2.1 = 0) :
    Calls Tryz.prog 5 #[.slice x L c, .slice x2 L2 c2] w fun e w' => e = .returned (.bool true) ∧ Below w.heap.size w w' := by
  obtain ⟨n0, hn0⟩ : ∃ q, w.heap.size = q := ⟨_, rfl⟩
  have HN0 : Hid (w.heap.size = n0) := hn0
  have HKV : Hid (∀ x, Below n0 w x → V x) := fun x hb => O.keep w x hVw (by rw [hn0]; exact hb)
  obtain ⟨PA, hPA⟩ : ∃ q, prsA l = q := ⟨_, rfl⟩
  obtain ⟨PB, hPB⟩ : ∃ q, prsA l2 = q := ⟨_, rfl⟩
  have HO1 : Hid (∀ y, Below n0 w y → Calls Tryz.prog 11 #[.slice x L c] y fun e w' => JoP PA y e w') := fun y hy => by
    have h9 := O.own l x L c y hL hLc hL47 (hl.kept (by rw [hn0]; exact hy)) (HKV.out y hy)
    rw [hPA] at h9; exact h9
  have HO2 : Hid (∀ y, Below n0 w y → Calls Tryz.prog 11 #[.slice x2 L2 c2] y fun e w' => JoP PB y e w') := fun y hy => by
    have h9 := O.own l2 x2 L2 c2 y hL2 hLc2 hL472 (hl2.kept (by rw [hn0]; exact hy)) (HKV.out y hy)
    rw [hPB] at h9; exact h9
  have HRG : Hid (PA.2.1 = 0 → Gd PA.1 ∧ depN PA.1 ≤ 6 ∧ szN PA.1 ≤ 1099511627776) := fun h => by
    rw [← hPA] at h ⊢
    exact ⟨(read_good l h).1, (read_good l h).2, read_size l h⟩
  have HRG2 : Hid (PB.2.1 = 0 → szN PB.1 ≤ 1099511627776) := fun h => by
    rw [← hPB] at h ⊢
    exact read_size l2 h
  have HEA : Hid (prsA l = PA ∧ prsA l2 = PB) := ⟨hPA, hPB⟩
  have hP1 := HO1.out w (Below.refl _ _)
  clear hPA hPB hn0
  obtain ⟨d, E, Pz⟩ := PA
  obtain ⟨d2, E2, Pz2⟩ := PB
  unfold JoP at hP1
  simp only at hP1 HRG HRG2
  go_enter Tryz.func5, Tryz.ntmps5
  go_wp2_with fail
  refine hP1.mono ?_
  rintro e w1 ⟨v1, rfl, hy1, hz1, hb1⟩
  clear hP1
  have hB1 : Below n0 w w1 := by rw [← HN0.out]; exact hb1
  have hP2 := HO1.out w1 hB1
  unfold JoP at hP2
  simp only at hP2
  go_wp2_with fail
  refine hP2.mono ?_
  rintro e w2 ⟨v2, rfl, hy2, hz2, hb2⟩
  clear hP2
  have hs1 : n0 ≤ w1.heap.size := by rw [← HN0.out]; exact hb1.size
  have hB2 : Below n0 w w2 := hB1.trans (hb2.mono hs1)
  have hP3 := HO2.out w2 hB2
  unfold JoP at hP3
  simp only at hP3
  go_wp2_with fail
  refine hP3.mono ?_
  rintro e w3 ⟨v3, rfl, hy3, hz3, hb3⟩
  clear hP3
  have hs2 : n0 ≤ w2.heap.size := Nat.le_trans hs1 hb2.size
  have hB3 : Below n0 w w3 := hB2.trans (hb3.mono hs2)
  have hs3 : n0 ≤ w3.heap.size := Nat.le_trans hs2 hb3.size
  have hK := known15_any O w3 (HKV.out w3 hB3)
  go_wp2_with fail
  refine hK.mono ?_
  rintro e w4 ⟨rfl, hb4⟩
  clear hK
  have hB4 : Below n0 w w4 := hB3.trans (hb4.mono hs3)
  have hs4 : n0 ≤ w4.heap.size := Nat.le_trans hs3 hb4.size
  have hE0 : E = 0 := by rw [HEA.out.1] at hE; exact hE
  subst hE0
  obtain ⟨gd1, gd2, gd3⟩ := HRG.out rfl
  obtain ⟨L1, K1, vo1, nd1⟩ := hy1 rfl
  obtain ⟨L2, K2, vo2, nd2⟩ := hy2 rfl
  have hE20 : E2 = 0 := by rw [HEA.out.2] at hE2; exact hE2
  subst hE20
  have gd4 := HRG2.out rfl
  obtain ⟨L3, K3, vo3, nd3⟩ := hy3 rfl
  have bl1 := fun q hq => (vo1.bl q hq).2
  have bl2 := fun q hq => (vo2.bl q hq).1
  have nd12 := blks_two nd1 nd2 bl1 bl2
  have bl12 : ∀ q ∈ blks (L1 ++ L2) (K1 ++ K2), q < w2.heap.size := fun q hq => by
    rcases List.mem_append.1 ((blks_app2 L1 L2 K1 K2).mem_iff.1 hq) with h9 | h9
    · exact Nat.lt_of_lt_of_le (bl1 q h9) hb2.size
    · exact (vo2.bl q h9).2
  have nd123 := blks_two nd12 nd3 bl12 (fun q hq => (vo3.bl q hq).1)
  have hbl3 := fun q hq => (vo3.bl q hq).2
  have hb24 : Below w2.heap.size w2 w4 := hb3.trans (hb4.mono hb3.size)
  have hb14 : Below w1.heap.size w1 w4 := hb2.trans (hb24.mono hb2.size)
  rw [HN0.out] at vo1
  have vo1 := vo1.keep hb14
  have vo2 := (vo2.le hs1).keep hb24
  have hct1 := vo1.cnt
  have hct2 := vo2.cnt
  obtain ⟨vt1, vp1, rfl⟩ := vo1.ifo
  obtain ⟨vt2, vp2, rfl⟩ := vo2.ifo
  obtain ⟨vt3, vp3, rfl⟩ := vo3.ifo
  clear nd3 hy3 hE2
  clear hy1 hy2 hz1 hz2 hB1 hB2 hB3 bl1 bl2 nd1 nd2 hE
  have hPt := O.prt d _ _ w4 vo1.f.g gd3 (Nat.le_trans gd2 (by omega)) (HKV.out w4 hB4)
  unfold PtP at hPt
  obtain ⟨SS, hSS⟩ : ∃ q, (⟨(prtS d).toArray⟩ : ByteArray) = q := ⟨_, rfl⟩
  have HSS : Hid ((⟨(prtS d).toArray⟩ : ByteArray) = SS) := hSS
  rw [hSS] at hPt
  clear hSS
  go_wp2_with fail
  refine hPt.mono ?_
  rintro e w5 ⟨rfl, hb5⟩
  clear hPt
  have hB5 : Below n0 w w5 := hB4.trans (hb5.mono hs4)
  have hs5 : n0 ≤ w5.heap.size := Nat.le_trans hs4 hb5.size
  have vo1 := vo1.keep hb5
  have vo2 := vo2.keep hb5
  have hEq := equal15_any d _ _ _ _ w5 vo1.f vo2.f
  go_wp2_with fail
  refine hEq.mono ?_
  rintro e w6 ⟨rfl, hb6⟩
  clear hEq
  have hB6 : Below n0 w w6 := hB5.trans (hb6.mono hs5)
  have hs6 : n0 ≤ w6.heap.size := Nat.le_trans hs5 hb6.size
  have vo1 := vo1.keep hb6
  have vo2 := vo2.keep hb6
  have hb46 : Below w4.heap.size w4 w6 := hb5.trans (hb6.mono hb5.size)
  clear hB4 hB5
  have vo3 := ((vo3.le hs2).keep hb4).keep hb46
  have G6 : Ga w6 n0 (ttO n0 (L1 ++ L2 ++ L3) (K1 ++ K2 ++ K3)) := Ga.all hs6 (fun x hx => (List.mem_append.1 hx).elim (fun hx => (List.mem_append.1 hx).elim (fun h => (vo1.own.1 x h).1) (fun h => (vo2.own.1 x h).1)) (fun h => (vo3.own.1 x h).1)) (fun x hx => (List.mem_append.1 hx).elim (fun hx => (List.mem_append.1 hx).elim (fun h => (vo1.own.2 x h).1) (fun h => (vo2.own.2 x h).1)) (fun h => (vo3.own.2 x h).1)) nd123
  have hct3 := vo3.cnt
  have HCO : Hid (∀ ls ks, (catO n0 (L1 ++ L2 ++ L3) (K1 ++ K2 ++ K3) ls ks).Ok) := fun ls ks => catO_ok (by rw [List.length_append, List.length_append]; omega) (by rw [List.length_append, List.length_append]; omega) (fun x hx => (List.mem_append.1 hx).elim (fun hx => (List.mem_append.1 hx).elim (fun h => own_le (vo1.own.1 x h)) (fun h => own_le (vo2.own.1 x h))) (fun h => own_le (vo3.own.1 x h))) (fun x hx => (List.mem_append.1 hx).elim (fun hx => (List.mem_append.1 hx).elim (fun h => by have := vo1.kn x h; omega) (fun h => by have := vo2.kn x h; omega)) (fun h => by have := vo3.kn x h; omega))
  clear nd12 nd123
  have hBk1 := book15_any d w6 n0 _ L1 K1 vo1 gd3
  go_wp2_with fail
  refine hBk1.mono ?_
  rintro e w7 ⟨⟨ax, an, ac⟩, rfl, ow1, hb7⟩
  clear hBk1
  have vo1 := vo1.keep hb7
  have vo2 := vo2.keep hb7
  have hBk2 := book15_any d w7 n0 _ L2 K2 vo2 gd3
  simp only [Sl.v]
  go_wp2_with fail
  refine hBk2.mono ?_
  rintro e w8 ⟨⟨bx, bn, bc⟩, rfl, ow2, hb8⟩
  clear hBk2
  have vo1 := vo1.keep hb8
  have vo2 := vo2.keep hb8
  have ow1 := ow1.keep hb8
  have hs7 : w6.heap.size ≤ w8.heap.size := Nat.le_trans hb7.size hb8.size
  obtain ⟨⟨lx, ln, lc⟩, w9, hr9, ow9, hg9, hq9⟩ := appAnyL eltVs w8 w6.heap.size ⟨ax, an, ac⟩ ⟨bx, bn, bc⟩ _ _ 49 ow1 ow2.isG (fun u hu => by obtain ⟨q, -, rfl⟩ := List.mem_map.1 hu; rfl) (by simp only [List.length_map]; omega) (by unfold maxLen; simp only [List.length_map]; omega) hs7
  rw [← List.map_append] at ow9
  have hb69 : Below w6.heap.size w6 w9 := (hb7.trans (hb8.mono hb7.size)).trans (ow1.below hg9 hs7)
  have hr9' : (Builtin.append_ #[49, 49] 49 #[.slice ax an ac, .slice bx bn bc]).run Tryz.prog w8 = .ok (.slice lx ln lc) w9 := hr9
  have vo1 : VlO w9 n0 (.iface vt1 vp1) d L1 K1 := vo1.ag fun q hq => hg9.block q (vo1.bl q hq).2 (fun e => by have h9 := (ow1.lt q e.symm).1; have := bl12 q ((blks_app2 L1 L2 K1 K2).mem_iff.2 (List.mem_append_left _ hq)); have := hb24.size; have := hb46.size; omega)
  have vo2 : VlO w9 n0 (.iface vt2 vp2) d L2 K2 := vo2.ag fun q hq => hg9.block q (vo2.bl q hq).2 (fun e => by have h9 := (ow1.lt q e.symm).1; have := bl12 q ((blks_app2 L1 L2 K1 K2).mem_iff.2 (List.mem_append_right _ hq)); have := hb24.size; have := hb46.size; omega)
  clear ow1 ow2 hr9 hg9 hq9 hb7 hb8 hs7
  simp only [Sl.v]
  go_upto_region 12 with (at_builtin; refine wpL_appG 49 rfl _ _ rfl _ w9 (by exact hr9') ?_)
  clear hr9'
  have hKy1 := keys15_any d w9 n0 _ L1 K1 vo1 gd3
  go_wp2_with fail
  refine hKy1.mono ?_
  rintro e w10 ⟨⟨ax, an, ac⟩, rfl, ow1, hb10⟩
  clear hKy1
  have vo1 := vo1.keep hb10
  have vo2 := vo2.keep hb10
  have hKy2 := keys15_any d w10 n0 _ L2 K2 vo2 gd3
  simp only [Sl.v]
  go_wp2_with fail
  refine hKy2.mono ?_
  rintro e w11 ⟨⟨bx, bn, bc⟩, rfl, ow2, hb11⟩
  clear hKy2
  have vo1 := vo1.keep hb11
  have vo2 := vo2.keep hb11
  have ow1 := ow1.keep hb11
  have hs10 : w9.heap.size ≤ w11.heap.size := Nat.le_trans hb10.size hb11.size
  obtain ⟨⟨kx, kn, kc⟩, w12, hr12, ow12, hg12, hq12⟩ := appAnyL eltKs w11 w9.heap.size ⟨ax, an, ac⟩ ⟨bx, bn, bc⟩ _ _ 51 ow1 ow2.isG (fun u hu => by obtain ⟨q, -, rfl⟩ := List.mem_map.1 hu; rfl) (by simp only [List.length_map]; omega) (by unfold maxLen; simp only [List.length_map]; omega) hs10
  rw [← List.map_append] at ow12
  have hb912 : Below w9.heap.size w9 w12 := (hb10.trans (hb11.mono hb10.size)).trans (ow1.below hg12 hs10)
  have hr12' : (Builtin.append_ #[51, 51] 51 #[.slice ax an ac, .slice bx bn bc]).run Tryz.prog w11 = .ok (.slice kx kn kc) w12 := hr12
  have vo1 : VlO w12 n0 (.iface vt1 vp1) d L1 K1 := vo1.ag fun q hq => hg12.block q (vo1.bl q hq).2 (fun e => by have h9 := (ow1.lt q e.symm).1; have := bl12 q ((blks_app2 L1 L2 K1 K2).mem_iff.2 (List.mem_append_left _ hq)); have := hb24.size; have := hb46.size; have := hb69.size; omega)
  have vo2 : VlO w12 n0 (.iface vt2 vp2) d L2 K2 := vo2.ag fun q hq => hg12.block q (vo2.bl q hq).2 (fun e => by have h9 := (ow1.lt q e.symm).1; have := bl12 q ((blks_app2 L1 L2 K1 K2).mem_iff.2 (List.mem_append_right _ hq)); have := hb24.size; have := hb46.size; have := hb69.size; omega)
  have hB9 : Below n0 w w9 := hB6.trans (hb69.mono hs6)
  have hs9 : n0 ≤ w9.heap.size := Nat.le_trans hs6 hb69.size
  have hB12 : Below n0 w w12 := hB9.trans (hb912.mono hs9)
  have hs12 : n0 ≤ w12.heap.size := Nat.le_trans hs9 hb912.size
  clear ow1 ow2 hr12 hg12 hq12 hb10 hb11 hs10
  simp only [Sl.v]
  go_upto_region 13 with (at_builtin; refine wpL_appG 51 rfl _ _ rfl _ w12 (by exact hr12') ?_)
  clear hr12'
  have G9 := G6.newG 0 hb69 ow9 (ow9.le hs6)
  have G12 := G9.newG 1 hb912 ow12 (ow12.le hs9)
  have vo3 := (vo3.keep hb69).keep hb912
  have hBk3 := book15_any d2 w12 n0 _ L3 K3 vo3 gd4
  go_wp2_with fail
  refine hBk3.mono ?_
  rintro e w13 ⟨⟨bx, bn, bc⟩, rfl, ow3, hb13⟩
  clear hBk3
  have G13 := G12.later hb13
  have ow13 := (ow9.keep hb912).keep hb13
  have hs13 : w6.heap.size ≤ w13.heap.size := Nat.le_trans (Nat.le_trans hb69.size hb912.size) hb13.size
  obtain ⟨⟨px, pn, pc⟩, w14, hr14, ow14, hg14, hq14⟩ := appAnyL eltVs w13 w6.heap.size ⟨lx, ln, lc⟩ ⟨bx, bn, bc⟩ _ _ 49 ow13 ow3.isG (fun u hu => by obtain ⟨q, -, rfl⟩ := List.mem_map.1 hu; rfl) (by simp only [List.length_map, List.length_append]; omega) (by unfold maxLen; simp only [List.length_map, List.length_append]; omega) hs13
  rw [← List.map_append] at ow14
  have G14 := (G13.putG (k := 0) (by rw [updT_ne _ _ _ _ (by omega), updT_same]) (Keep.of_grown hg14 (fun q hq => by rw [hq]; simp)) (ow14.le hs6) hq14).1
  have hbx14 : Below w6.heap.size w13 w14 := ow13.below hg14 hs13
  have vo3 := vo3.keep hb13
  have vo3 : VlO w14 n0 (.iface vt3 vp3) d2 L3 K3 := vo3.ag fun q hq => hg14.block q (vo3.bl q hq).2 (fun e => by have h9 := (ow13.lt q e.symm).1; have := hbl3 q hq; have := hb4.size; have := hb46.size; omega)
  have hr14' : (Builtin.append_ #[49, 49] 49 #[.slice lx ln lc, .slice bx bn bc]).run Tryz.prog w13 = .ok (.slice px pn pc) w14 := hr14
  clear ow3 hr14 hg14 hq14 ow13 hs13 G9 G12 G13
  simp only [Sl.v]
  go_upto_region 15 with (at_builtin; refine wpL_appG 49 rfl _ _ rfl _ w14 (by exact hr14') ?_)
  clear hr14'
  have hKy3 := keys15_any d2 w14 n0 _ L3 K3 vo3 gd4
  go_wp2_with fail
  refine hKy3.mono ?_
  rintro e w15 ⟨⟨bx, bn, bc⟩, rfl, ow4, hb15⟩
  clear hKy3
  have G15 := G14.later hb15
  have ow15 := G15.isG (e := 22) (k := 1) (by rw [updT_ne _ _ _ _ (by omega), updT_same])
  obtain ⟨⟨nx, nn, nc⟩, w16, hr16, ow16, hg16, hq16⟩ := appAnyL eltKs w15 n0 ⟨kx, kn, kc⟩ ⟨bx, bn, bc⟩ _ _ 51 ow15 ow4.isG (fun u hu => by obtain ⟨q, -, rfl⟩ := List.mem_map.1 hu; rfl) (by simp only [List.length_map, List.length_append]; omega) (by unfold maxLen; simp only [List.length_map, List.length_append]; omega) G15.size
  rw [← List.map_append] at ow16
  have G16 := (G15.putG (k := 1) (by rw [updT_ne _ _ _ _ (by omega), updT_same]) (Keep.of_grown hg16 (fun q hq => by rw [hq]; simp)) ow16 hq16).1
  have hB14 : Below n0 w w14 := (hB12.trans (hb13.mono hs12)).trans (hbx14.mono hs6)
  have hB16 : Below n0 w w16 := (hB14.trans (hb15.mono G14.size)).trans (ow15.below hg16 G15.size)
  have hr16' : (Builtin.append_ #[51, 51] 51 #[.slice kx kn kc, .slice bx bn bc]).run Tryz.prog w15 = .ok (.slice nx nn nc) w16 := hr16
  obtain ⟨C, HI, HC, HB, HLS, HKS⟩ : ∃ C : Cat, Hid (I12 C 0 0 0 0 w w16) ∧ Hid C.Ok ∧ Hid (C.B = n0) ∧ Hid (C.ls = ⟨px, pn, pc⟩) ∧ Hid (C.ks = ⟨nx, nn, nc⟩) := ⟨catO n0 (L1 ++ L2 ++ L3) (K1 ++ K2 ++ K3) ⟨px, pn, pc⟩ ⟨nx, nn, nc⟩, I12.begin G16 (by rw [updT_ne _ _ _ _ (by omega), updT_same]) (by rw [updT_same]) (fun k hk => by rw [updT_ne _ _ _ _ (by omega), updT_ne _ _ _ _ (by omega), updT_ne _ _ _ _ (by omega), updT_ne _ _ _ _ (by omega)]) hB16, HCO.out _ _, rfl, rfl, rfl⟩
  clear hr16 G6 G14 G15 G16 ow9 ow12 ow14 ow15 ow16 ow4 vo1 vo2 vo3 hb69 hb912 hB9 hB12 hs9 hs12 hs6 hB6 hb46 hb24 hb14 bl12 HCO hct1 hct2 hct3 hb1 hb2 hb3 hb4 hb5 hb6 hs1 hs2 hs3 hs4 hs5 hz3 hbl3 hB14 hB16 hg16 hq16 hbx14 hb13 hb15
  simp only [Sl.v]
  go_upto_region 16 with (at_builtin; refine wpL_appG 51 rfl _ _ rfl _ w16 (by exact hr16') ?_)
  clear hr16'
  obtain ⟨lx, rfl⟩ : ∃ q, q = px := ⟨_, rfl⟩
  obtain ⟨ln, rfl⟩ : ∃ q, q = pn := ⟨_, rfl⟩
  obtain ⟨lc, rfl⟩ : ∃ q, q = pc := ⟨_, rfl⟩
  obtain ⟨kx, rfl⟩ : ∃ q, q = nx := ⟨_, rfl⟩
  obtain ⟨kn, rfl⟩ : ∃ q, q = nn := ⟨_, rfl⟩
  obtain ⟨kc, rfl⟩ : ∃ q, q = nc := ⟨_, rfl⟩
  obtain ⟨W0, rfl⟩ : ∃ q, q = w16 := ⟨_, rfl⟩
  obtain ⟨HP, HQ⟩ : Hid (C.p = ln) ∧ Hid (C.q = kn) := by
    obtain ⟨h1, h2⟩ := HI.out.numls
    rw [HLS.out] at h1
    rw [HKS.out] at h2
    exact ⟨h1.symm, h2.symm⟩
  have hln : ln ≤ 100000000000 := by rw [← HP.out]; exact HC.out.p
  have hkn : kn ≤ 100000000000 := by rw [← HQ.out]; exact HC.out.q
  go_wp2
  go_loopw [96] (fun iv wr => ∃ i : Nat, i ≤ ln ∧ iv = .int .i64 i ∧ I12 C i 0 0 0 w wr) (fun iv _ => ln - (intOf iv).toNat)
  case atStart => exact ⟨0, by omega, rfl, HI.out⟩
  case round =>
    clear HI
    obtain ⟨i, hi, rfl, hI⟩ := hrel
    by_cases hlt : i < ln
    · have hlt' : (i : Int) < (ln : Int) := by omega
      have i0 : (0 : Int) ≤ (i : Int) := by omega
      have HLT : Hid (i < C.p) := by show _ < _; rw [HP.out]; exact hlt
      obtain ⟨g, c9, he, hc⟩ := hI.getL i HLT.out
      obtain rfl : lx = some ⟨g, 0, none⟩ := by rw [HLS.out] at he; exact congrArg Sl.x he
      obtain ⟨⟨yx, yn, yc⟩, hLi⟩ : ∃ q, C.Ls i = q := ⟨_, rfl⟩
      have HNI : Hid (C.nL i = yn) := by have h9 := hI.numL (Nat.zero_le _) i HLT.out; rw [hLi] at h9; exact h9.symm
      have HLI : Hid (C.Ls i = ⟨yx, yn, yc⟩) := hLi
      have hyn : yn ≤ 8796093022208 := by rw [← HNI.out]; exact Nat.le_trans (HC.out.nL i) (by omega)
      rw [hLi] at hc
      simp only [Sl.v] at hc
      have HII : Hid (I12 C i 0 0 0 w wr) := hI
      clear hI he hLi
      obtain ⟨wo, rfl⟩ : ∃ q, q = wr := ⟨_, rfl⟩
      go_wp2
      go_loopw [103] (fun jv wr => ∃ j : Nat, j ≤ yn ∧ jv = .int .i64 j ∧ I12 C i j 0 0 w wr) (fun jv _ => yn - (intOf jv).toNat)
      case atStart => exact ⟨0, by omega, rfl, HII.out⟩
      case round =>
        clear HII hc
        obtain ⟨j, hj, rfl, hI⟩ := hrel
        by_cases hjn : j < yn
        · have hjn' : (j : Int) < (yn : Int) := by omega
          have j0 : (0 : Int) ≤ (j : Int) := by omega
          have hM := mark15_any i j wr
          have HJ : Hid (I12 C i j 0 0 w wr) := hI
          clear hI
          go_wp2_with fail
          refine hM.mono ?_
          rintro e w1 ⟨rfl, hb1⟩
          clear hM
          obtain ⟨g2, c8, u, he2, hcu, hfz, hI2⟩ := (HJ.out.later hb1).stepL HLT.out (by rw [HNI.out]; exact hjn)
          obtain rfl : yx = some ⟨g2, 0, none⟩ := by rw [HLI.out] at he2; exact congrArg Sl.x he2
          have HR : Hid (I12 C i (j + 1) 0 0 w (w1.setCell ⟨g2, j, none⟩ (.iface 54 (.string (mkT i j))))) := hI2
          clear HJ hI2 he2 hb1
          go_wp2
          go_roundw
          case rel => exact ⟨j + 1, by omega, by go_num, HR.out⟩
          case measure => simp [intOf]; omega
        · obtain rfl : yn = j := by omega
          have hjn' : ¬ (yn : Int) < (yn : Int) := by omega
          have HR : Hid (I12 C (i + 1) 0 0 0 w wr) := by
            have h9 : I12 C i (C.nL i) 0 0 w wr := by rw [HNI.out]; exact hI
            exact h9.nextL
          clear hI
          go_wp2
          go_roundw
          case rel => exact ⟨i + 1, by omega, by go_num, HR.out⟩
          case measure => simp [intOf]; omega
    · obtain rfl : ln = i := by omega
      have hlt' : ¬ (ln : Int) < (ln : Int) := by omega
      have HI2 : Hid (I12 C ln 0 0 0 w wr) := hI
      obtain ⟨W1, rfl⟩ : ∃ q, q = wr := ⟨_, rfl⟩
      clear hI hlt hi
      go_wp2
      go_loopw [117] (fun iv wr => ∃ i : Nat, i ≤ kn ∧ iv = .int .i64 i ∧ I12 C ln 0 i 0 w wr) (fun iv _ => kn - (intOf iv).toNat)
      case atStart => exact ⟨0, by omega, rfl, HI2.out⟩
      case round =>
        clear HI2
        obtain ⟨i, hi, rfl, hI⟩ := hrel
        by_cases hlt : i < kn
        · have hlt' : (i : Int) < (kn : Int) := by omega
          have i0 : (0 : Int) ≤ (i : Int) := by omega
          have HLT : Hid (i < C.q) := by show _ < _; rw [HQ.out]; exact hlt
          obtain ⟨g, c9, he, hc⟩ := hI.getK i HLT.out
          obtain rfl : kx = some ⟨g, 0, none⟩ := by rw [HKS.out] at he; exact congrArg Sl.x he
          obtain ⟨⟨yx, yn, yc⟩, hLi⟩ : ∃ q, C.Ks i = q := ⟨_, rfl⟩
          have HNI : Hid (C.nK i = yn) := by have h9 := hI.numK (Nat.zero_le _) i HLT.out; rw [hLi] at h9; exact h9.symm
          have HLI : Hid (C.Ks i = ⟨yx, yn, yc⟩) := hLi
          have hyn : yn ≤ 8796093022208 := by rw [← HNI.out]; exact Nat.le_trans (HC.out.nK i) (by omega)
          rw [hLi] at hc
          simp only [Sl.v] at hc
          have HII : Hid (I12 C ln 0 i 0 w wr) := hI
          clear hI he hLi
          obtain ⟨wo, rfl⟩ : ∃ q, q = wr := ⟨_, rfl⟩
          go_wp2
          go_loopw [124] (fun jv wr => ∃ j : Nat, j ≤ yn ∧ jv = .int .i64 j ∧ I12 C ln 0 i j w wr) (fun jv _ => yn - (intOf jv).toNat)
          case atStart => exact ⟨0, by omega, rfl, HII.out⟩
          case round =>
            clear HII hc
            obtain ⟨j, hj, rfl, hI⟩ := hrel
            by_cases hjn : j < yn
            · have hjn' : (j : Int) < (yn : Int) := by omega
              have j0 : (0 : Int) ≤ (j : Int) := by omega
              have hM := mark15_any i j wr
              have HJ : Hid (I12 C ln 0 i j w wr) := hI
              clear hI
              go_wp2_with fail
              refine hM.mono ?_
              rintro e w1 ⟨rfl, hb1⟩
              clear hM
              obtain ⟨g2, c8, u, he2, hcu, hfz, hI2⟩ := (HJ.out.later hb1).stepK HLT.out (by rw [HNI.out]; exact hjn)
              obtain rfl : yx = some ⟨g2, 0, none⟩ := by rw [HLI.out] at he2; exact congrArg Sl.x he2
              have HR : Hid (I12 C ln 0 i (j + 1) w (w1.setCell ⟨g2, j, none⟩ (.string (mkT i j)))) := hI2
              clear HJ hI2 he2 hb1
              go_wp2
              go_roundw
              case rel => exact ⟨j + 1, by omega, by go_num, HR.out⟩
              case measure => simp [intOf]; omega
            · obtain rfl : yn = j := by omega
              have hjn' : ¬ (yn : Int) < (yn : Int) := by omega
              have HR : Hid (I12 C ln 0 (i + 1) 0 w wr) := by
                have h9 : I12 C ln 0 i (C.nK i) w wr := by rw [HNI.out]; exact hI
                exact h9.nextK
              clear hI
              go_wp2
              go_roundw
              case rel => exact ⟨i + 1, by omega, by go_num, HR.out⟩
              case measure => simp [intOf]; omega
        · obtain rfl : kn = i := by omega
          have hlt' : ¬ (kn : Int) < (kn : Int) := by omega
          have HI3 : Hid (I12 C ln 0 kn 0 w wr) := hI
          obtain ⟨W2, rfl⟩ : ∃ q, q = wr := ⟨_, rfl⟩
          clear hI hlt hi
          go_wp2
          have HI4 : Hid (I34 C (fun _ => slZ) (fun _ => slZ) slZ slZ 0 0 w W2) := I34.start (by rw [HP.out, HQ.out]; exact HI3.out)
          clear HI3
          go_loopw [24, 137] (fun mv iv wr => ∃ (i : Nat) (Q : Nat → Sl) (ux : Option Addr) (uc : Nat), i ≤ ln ∧ iv = .int .i64 i ∧ mv = .slice ux i uc ∧ I34 C Q (fun _ => slZ) ⟨ux, i, uc⟩ slZ i 0 w wr) (fun _ iv _ => ln - (intOf iv).toNat)
          case atStart => exact ⟨0, fun _ => slZ, none, 0, by omega, rfl, rfl, HI4.out⟩
          case round =>
            clear HI4
            obtain ⟨i, Q, ux, uc, hi, rfl, rfl, hI⟩ := hrel
            by_cases hlt : i < ln
            · have hlt' : (i : Int) < (ln : Int) := by omega
              have i0 : (0 : Int) ≤ (i : Int) := by omega
              have HLT : Hid (i < C.p) := by show _ < _; rw [HP.out]; exact hlt
              obtain ⟨g, c9, he, hc⟩ := hI.getL i HLT.out
              obtain rfl : lx = some ⟨g, 0, none⟩ := by rw [HLS.out] at he; exact congrArg Sl.x he
              obtain ⟨⟨yx, yn, yc⟩, hLi⟩ : ∃ q, C.Ls i = q := ⟨_, rfl⟩
              have HNI : Hid (C.nL i = yn) := by have h9 := hI.lenL i HLT.out; rw [hLi] at h9; exact h9.symm
              have HLI : Hid (C.Ls i = ⟨yx, yn, yc⟩) := hLi
              have hyn : yn ≤ 8796093022208 := by rw [← HNI.out]; exact Nat.le_trans (HC.out.nL i) (by omega)
              rw [hLi] at hc
              simp only [Sl.v] at hc
              have hM := mark15_any i yn wr
              have HII : Hid (I34 C Q (fun _ => slZ) ⟨ux, i, uc⟩ slZ i 0 w wr) := hI
              clear hI he hLi
              go_wp2_with fail
              refine hM.mono ?_
              rintro e w1 ⟨rfl, hb1⟩
              clear hM
              obtain ⟨y, hy⟩ : ∃ q, w1.heap.size = q := ⟨_, rfl⟩
              have hb2 := below_alloc w1 (.cells #[.iface 54 (.string (mkT i yn))] 27)
              have hyc : (w1.alloc (.cells #[.iface 54 (.string (mkT i yn))] 27)).cell? ⟨y, 0, none⟩ = some (.iface 54 (.string (mkT i yn))) := by rw [← hy]; exact (RowC.new w1 #[.iface 54 (.string (mkT i yn))] 27).cell 0
              obtain ⟨⟨ax, an, ac⟩, w3, hr3, hJ3⟩ := ((HII.out.later hb1).later hb2).appL HC.out HLT.out y 1 (by rw [HNI.out]; exact hyc)
              rw [HLI.out] at hr3
              have hr3' : (Builtin.append_ #[53, 53] 53 #[.slice yx yn yc, .slice (some ⟨y, 0, none⟩) 1 1]).run Tryz.prog (w1.alloc (.cells #[.iface 54 (.string (mkT i yn))] 27)) = .ok (.slice ax an ac) w3 := hr3
              obtain ⟨z, hz⟩ : ∃ q, w3.heap.size = q := ⟨_, rfl⟩
              have hb4 := below_alloc w3 (.cells #[.slice ax an ac] 53)
              have hzc : (w3.alloc (.cells #[.slice ax an ac] 53)).cell? ⟨z, 0, none⟩ = some (.slice ax an ac) := by rw [← hz]; exact (RowC.new w3 #[.slice ax an ac] 53).cell 0
              obtain ⟨⟨bx, bn, bc⟩, w5, hr5, hI5⟩ := (hJ3.later hb4).tellL HC.out HLT.out z 1 hzc
              obtain rfl : bn = i + 1 := hI5.numls.2.2.1
              have hr5' : (Builtin.append_ #[49, 49] 49 #[.slice ux i uc, .slice (some ⟨z, 0, none⟩) 1 1]).run Tryz.prog (w3.alloc (.cells #[.slice ax an ac] 53)) = .ok (.slice bx (i + 1) bc) w5 := hr5
              have HR : Hid (I34 C (updM Q i ⟨ax, an, ac⟩) (fun _ => slZ) ⟨bx, (i + 1), bc⟩ slZ (i + 1) 0 w w5) := hI5
              clear hr3 hr5 hJ3 hI5 hb1 hb2 hb4 hyc hzc HII
              go_wp2_with (at_builtin; first | refine wpL_appG 53 rfl _ _ rfl _ w3 (by exact hr3') ?_ | refine wpL_appG 49 rfl _ _ rfl _ w5 (by exact hr5') ?_)
              go_roundw
              case rel => exact ⟨i + 1, _, bx, bc, by omega, by go_num, rfl, HR.out⟩
              case measure => simp [intOf]; omega
            · obtain rfl : ln = i := by omega
              have hlt' : ¬ (ln : Int) < (ln : Int) := by omega
              obtain ⟨M, rfl⟩ : ∃ q, q = Q := ⟨_, rfl⟩
              obtain ⟨mx, rfl⟩ : ∃ q, q = ux := ⟨_, rfl⟩
              obtain ⟨mc, rfl⟩ : ∃ q, q = uc := ⟨_, rfl⟩
              have HI5 : Hid (I34 C M (fun _ => slZ) ⟨mx, ln, mc⟩ slZ ln 0 w wr) := hI
              obtain ⟨W3, rfl⟩ : ∃ q, q = wr := ⟨_, rfl⟩
              clear hI hlt hi
              go_wp2
              go_loopw [25, 156] (fun mv iv wr => ∃ (i : Nat) (Q : Nat → Sl) (ux : Option Addr) (uc : Nat), i ≤ kn ∧ iv = .int .i64 i ∧ mv = .slice ux i uc ∧ I34 C M Q ⟨mx, ln, mc⟩ ⟨ux, i, uc⟩ ln i w wr) (fun _ iv _ => kn - (intOf iv).toNat)
              case atStart => exact ⟨0, fun _ => slZ, none, 0, by omega, rfl, rfl, HI5.out⟩
              case round =>
                clear HI5
                obtain ⟨i, Q, ux, uc, hi, rfl, rfl, hI⟩ := hrel
                by_cases hlt : i < kn
                · have hlt' : (i : Int) < (kn : Int) := by omega
                  have i0 : (0 : Int) ≤ (i : Int) := by omega
                  have HLT : Hid (i < C.q) := by show _ < _; rw [HQ.out]; exact hlt
                  obtain ⟨g, c9, he, hc⟩ := hI.getK i HLT.out
                  obtain rfl : kx = some ⟨g, 0, none⟩ := by rw [HKS.out] at he; exact congrArg Sl.x he
                  obtain ⟨⟨yx, yn, yc⟩, hLi⟩ : ∃ q, C.Ks i = q := ⟨_, rfl⟩
                  have HNI : Hid (C.nK i = yn) := by have h9 := hI.lenK i HLT.out; rw [hLi] at h9; exact h9.symm
                  have HLI : Hid (C.Ks i = ⟨yx, yn, yc⟩) := hLi
                  have hyn : yn ≤ 8796093022208 := by rw [← HNI.out]; exact Nat.le_trans (HC.out.nK i) (by omega)
                  rw [hLi] at hc
                  simp only [Sl.v] at hc
                  have hM := mark15_any i yn wr
                  have HII : Hid (I34 C M Q ⟨mx, ln, mc⟩ ⟨ux, i, uc⟩ ln i w wr) := hI
                  clear hI he hLi
                  go_wp2_with fail
                  refine hM.mono ?_
                  rintro e w1 ⟨rfl, hb1⟩
                  clear hM
                  obtain ⟨y, hy⟩ : ∃ q, w1.heap.size = q := ⟨_, rfl⟩
                  have hb2 := below_alloc w1 (.cells #[.string (mkT i yn)] 9)
                  have hyc : (w1.alloc (.cells #[.string (mkT i yn)] 9)).cell? ⟨y, 0, none⟩ = some (.string (mkT i yn)) := by rw [← hy]; exact (RowC.new w1 #[.string (mkT i yn)] 9).cell 0
                  obtain ⟨⟨ax, an, ac⟩, w3, hr3, hJ3⟩ := ((HII.out.later hb1).later hb2).appK HC.out HLT.out y 1 (by rw [HNI.out]; exact hyc)
                  rw [HLI.out] at hr3
                  have hr3' : (Builtin.append_ #[22, 22] 22 #[.slice yx yn yc, .slice (some ⟨y, 0, none⟩) 1 1]).run Tryz.prog (w1.alloc (.cells #[.string (mkT i yn)] 9)) = .ok (.slice ax an ac) w3 := hr3
                  obtain ⟨z, hz⟩ : ∃ q, w3.heap.size = q := ⟨_, rfl⟩
                  have hb4 := below_alloc w3 (.cells #[.slice ax an ac] 22)
                  have hzc : (w3.alloc (.cells #[.slice ax an ac] 22)).cell? ⟨z, 0, none⟩ = some (.slice ax an ac) := by rw [← hz]; exact (RowC.new w3 #[.slice ax an ac] 22).cell 0
                  obtain ⟨⟨bx, bn, bc⟩, w5, hr5, hI5⟩ := (hJ3.later hb4).tellK HC.out HLT.out z 1 hzc
                  obtain rfl : bn = i + 1 := hI5.numls.2.2.2
                  have hr5' : (Builtin.append_ #[51, 51] 51 #[.slice ux i uc, .slice (some ⟨z, 0, none⟩) 1 1]).run Tryz.prog (w3.alloc (.cells #[.slice ax an ac] 22)) = .ok (.slice bx (i + 1) bc) w5 := hr5
                  have HR : Hid (I34 C M (updM Q i ⟨ax, an, ac⟩) ⟨mx, ln, mc⟩ ⟨bx, (i + 1), bc⟩ ln (i + 1) w w5) := hI5
                  clear hr3 hr5 hJ3 hI5 hb1 hb2 hb4 hyc hzc HII
                  go_wp2_with (at_builtin; first | refine wpL_appG 22 rfl _ _ rfl _ w3 (by exact hr3') ?_ | refine wpL_appG 51 rfl _ _ rfl _ w5 (by exact hr5') ?_)
                  go_roundw
                  case rel => exact ⟨i + 1, _, bx, bc, by omega, by go_num, rfl, HR.out⟩
                  case measure => simp [intOf]; omega
                · obtain rfl : kn = i := by omega
                  have hlt' : ¬ (kn : Int) < (kn : Int) := by omega
                  obtain ⟨N, rfl⟩ : ∃ q, q = Q := ⟨_, rfl⟩
                  obtain ⟨ox, rfl⟩ : ∃ q, q = ux := ⟨_, rfl⟩
                  obtain ⟨oc, rfl⟩ : ∃ q, q = uc := ⟨_, rfl⟩
                  have HI6 : Hid (I34 C M N ⟨mx, ln, mc⟩ ⟨ox, kn, oc⟩ ln kn w wr) := hI
                  obtain ⟨W4, rfl⟩ : ∃ q, q = wr := ⟨_, rfl⟩
                  clear hI hlt hi
                  go_wp2
                  go_loopw [174] (fun iv wr => ∃ i : Nat, i ≤ ln ∧ iv = .int .i64 i ∧ I34 C M N ⟨mx, ln, mc⟩ ⟨ox, kn, oc⟩ ln kn w wr) (fun iv _ => ln - (intOf iv).toNat)
                  case atStart => exact ⟨0, by omega, rfl, HI6.out⟩
                  case round =>
                    clear HI6
                    obtain ⟨i, hi, rfl, hI⟩ := hrel
                    by_cases hlt : i < ln
                    · have hlt' : (i : Int) < (ln : Int) := by omega
                      have i0 : (0 : Int) ≤ (i : Int) := by omega
                      have HLT : Hid (i < C.p) := by show _ < _; rw [HP.out]; exact hlt
                      have HLN : Hid (i < ln) := hlt
                      obtain ⟨gl, c9, he, dl⟩ := hI.getL i HLT.out
                      obtain rfl : lx = some ⟨gl, 0, none⟩ := by rw [HLS.out] at he; exact congrArg Sl.x he
                      clear he
                      obtain ⟨gm, c8, he, dm⟩ := hI.getM i hlt
                      obtain rfl : mx = some ⟨gm, 0, none⟩ := congrArg Sl.x he
                      clear he
                      obtain ⟨⟨yx, yn, yc⟩, hLi⟩ : ∃ q, C.Ls i = q := ⟨_, rfl⟩
                      obtain ⟨⟨zx, zn, zc⟩, hMi⟩ : ∃ q, M i = q := ⟨_, rfl⟩
                      have HNI : Hid (C.nL i = yn) := by have h9 := hI.lenL i HLT.out; rw [hLi] at h9; exact h9.symm
                      have HZN : Hid (zn = yn + 1) := by have h9 := hI.nM i hlt; rw [hMi, HNI.out] at h9; exact h9
                      have HLI : Hid (C.Ls i = ⟨yx, yn, yc⟩) := hLi
                      have HMI : Hid (M i = ⟨zx, zn, zc⟩) := hMi
                      have hyn : yn ≤ 8796093022208 := by rw [← HNI.out]; exact Nat.le_trans (HC.out.nL i) (by omega)
                      have hzn : zn ≤ 8796093022209 := by rw [HZN.out]; omega
                      rw [hMi] at dm
                      simp only [Sl.v] at dm
                      have HII : Hid (I34 C M N ⟨some ⟨gm, 0, none⟩, ln, mc⟩ ⟨ox, kn, oc⟩ ln kn w wr) := hI
                      clear hI hLi hMi dl
                      obtain ⟨wo, rfl⟩ : ∃ q, q = wr := ⟨_, rfl⟩
                      go_wp2
                      go_loopw [181] (fun jv wr => ∃ j : Nat, j ≤ zn ∧ jv = .int .i64 j ∧ I34 C M N ⟨some ⟨gm, 0, none⟩, ln, mc⟩ ⟨ox, kn, oc⟩ ln kn w wr) (fun jv _ => zn - (intOf jv).toNat)
                      case atStart => exact ⟨0, by omega, rfl, HII.out⟩
                      case round =>
                        clear HII dm
                        obtain ⟨j, hj, rfl, hI⟩ := hrel
                        by_cases hjn : j < zn
                        · have hjn' : (j : Int) < (zn : Int) := by omega
                          have j0 : (0 : Int) ≤ (j : Int) := by omega
                          obtain ⟨gl2, c9, he, dl⟩ := hI.getL i HLT.out
                          obtain rfl : gl = gl2 := by rw [HLS.out] at he; have h9 := congrArg Sl.x he; simp only [Option.some.injEq, Addr.mk.injEq, and_true] at h9; exact h9
                          clear he
                          rw [HLI.out] at dl
                          simp only [Sl.v] at dl
                          obtain ⟨gz, c8, he, dz⟩ := hI.atM i hlt HLT.out j (by rw [HNI.out]; have := HZN.out; omega)
                          obtain rfl : zx = some ⟨gz, 0, none⟩ := by rw [HMI.out] at he; exact congrArg Sl.x he
                          clear he
                          have dz : wr.cell? ⟨gz, j, none⟩ = some (.iface 54 (.string (mkT i j))) := dz
                          have HJ : Hid (I34 C M N ⟨some ⟨gm, 0, none⟩, ln, mc⟩ ⟨ox, kn, oc⟩ ln kn w wr) := hI
                          by_cases hjy : j < yn
                          · have hjy' : (j : Int) < (yn : Int) := by omega
                            obtain ⟨gy, oy, c7, he, dy⟩ := hI.atL i hlt HLT.out j (by rw [HNI.out]; exact hjy)
                            obtain rfl : yx = some ⟨gy, oy, none⟩ := by rw [HLI.out] at he; exact congrArg Sl.x he
                            clear he hI
                            have dy : wr.cell? ⟨gy, oy + j, none⟩ = some (.iface 54 (.string (mkT i j))) := dy
                            have FK : Hid ((i : Int) < (ln : Int) ∧ (j : Int) < (zn : Int) ∧ (j : Int) < (yn : Int)) := ⟨hlt', hjn', hjy'⟩
                            go_upto_region 52 with fail
                            clear hjn' hjy' hlt'
                            refine wp_relies [Fx (.slice (some ⟨gz, 0, none⟩) zn zc), Fx (.int .i64 ((j : Int))), Fx (.pointer (some ⟨gz, j, none⟩)), Fx (.iface 54 (.string (mkT i j))), Fx (.int .i64 ((i : Int))), Fx (.int .i64 ((j : Int))), Fx (.string (mkT i j)), Fx (.iface 54 (.string (mkT i j))), Fx (.bool false), Fx (.bool false), Fx (.int .i64 ((j : Int))), Fx (.slice (some ⟨gl, 0, none⟩) ln lc), Fx (.int .i64 ((i : Int))), Fx (.pointer (some ⟨gl, i, none⟩)), Fx (.slice (some ⟨gy, oy, none⟩) yn yc), Fx (.int .i64 ((yn : Int))), Fx (.bool true), Fx (.bool true), Fx (.slice (some ⟨gl, 0, none⟩) ln lc), Fx (.int .i64 ((i : Int))), Fx (.pointer (some ⟨gl, i, none⟩)), Fx (.slice (some ⟨gy, oy, none⟩) yn yc), Fx (.int .i64 ((j : Int))), Fx (.pointer (some ⟨gy, oy + j, none⟩)), Fx (.iface 54 (.string (mkT i j))), Fx (.int .i64 ((i : Int))), Fx (.int .i64 ((j : Int))), Fx (.string (mkT i j)), Fx (.iface 54 (.string (mkT i j))), Fx (.bool false), Fx (.bool false), Fx (.bool false)] (by kernel_rfl) (by kernel_rfl) ?_ ?_ ?_
                            · repeat' (first | exact all_nil | apply all_cons)
                              all_goals intro v y y' hv hb
                              all_goals first | exact Fx_mono _ _ _ _ hv hb
                            · refine ⟨?_, ?_, ?_, ?_, ?_, ?_, ?_, ?_, ?_, ?_, ?_, ?_, ?_, ?_, ?_, ?_, ?_, ?_, ?_, ?_, ?_, ?_, ?_, ?_, ?_, ?_, ?_, ?_, ?_, ?_, ?_, ?_, trivial⟩
                              all_goals
                                intro ρ x hp ρc ρg ρf ho hd
                                have o31 : ρ (.tmp 31) = .slice (some ⟨gz, 0, none⟩) zn zc := ho 31 rfl
                                have o16 : ρ (.tmp 16) = .slice (some ⟨gl, 0, none⟩) ln lc := ho 16 rfl
                                have o30 : ρ (.tmp 30) = .int .i64 ((i : Int)) := ho 30 rfl
                                have o32 : ρ (.tmp 32) = .int .i64 ((j : Int)) := ho 32 rfl
                                clear ho
                                have k0 := cell_later hp dz
                                have k1 := cell_later hp dl
                                have k2 := cell_later hp dy
                                simp only [depsR, depR, slotR, Fx, List.getElem?_cons_succ, List.getElem?_cons_zero, Region.binds, forall_const] at hd
                                simp only [guardR]
                                go_split_ands
                              · go_simp
                              · go_simp
                              · obtain ⟨z1, z2, z3⟩ := FK.out
                                go_simp
                              · go_simp
                              · go_simp
                              · go_simp
                              · go_simp
                                refine (mark15_any i j x).mono ?_
                                rintro e x' ⟨rfl, hb⟩
                                exact ⟨_, rfl, rfl, hb⟩
                              · go_simp
                              · go_simp
                              · go_simp
                              · refine ⟨fun _ => ?_, fun hy => absurd (by simp [yieldR, slotR, *]) hy⟩
                                go_simp
                              · refine ⟨fun _ => ?_, fun hy => absurd (by simp [yieldR, slotR, *]) hy⟩
                                go_simp
                              · refine ⟨fun _ => ?_, fun hy => absurd (by simp [yieldR, slotR, *]) hy⟩
                                go_simp
                              · refine ⟨fun _ => ?_, fun hy => absurd (by simp [yieldR, slotR, *]) hy⟩
                                obtain ⟨z1, z2, z3⟩ := FK.out
                                go_simp
                              · refine ⟨fun _ => ?_, fun hy => absurd (by simp [yieldR, slotR, *]) hy⟩
                                go_simp
                              · refine ⟨fun _ => ?_, fun hy => absurd (by simp [yieldR, slotR, *]) hy⟩
                                go_simp
                              · refine ⟨fun _ => ?_, fun hy => absurd (by simp [yieldR, slotR, *]) hy⟩
                                obtain ⟨z1, z2, z3⟩ := FK.out
                                go_simp
                              · refine ⟨fun _ => ?_, fun hy => absurd (by simp [yieldR, slotR, *]) hy⟩
                                go_simp
                              · refine ⟨fun _ => ?_, fun hy => absurd (by simp [yieldR, slotR, *]) hy⟩
                                go_simp
                              · refine ⟨fun _ => ?_, fun hy => absurd (by simp [yieldR, slotR, *]) hy⟩
                                go_simp
                              · refine ⟨fun _ => ?_, fun hy => absurd (by simp [yieldR, slotR, *]) hy⟩
                                obtain ⟨z1, z2, z3⟩ := FK.out
                                go_simp
                              · refine ⟨fun _ => ?_, fun hy => absurd (by simp [yieldR, slotR, *]) hy⟩
                                go_simp
                              · refine ⟨fun _ => ?_, fun hy => absurd (by simp [yieldR, slotR, *]) hy⟩
                                go_simp
                              · refine ⟨fun _ => ?_, fun hy => absurd (by simp [yieldR, slotR, *]) hy⟩
                                obtain ⟨z1, z2, z3⟩ := FK.out
                                go_simp
                              · refine ⟨fun _ => ?_, fun hy => absurd (by simp [yieldR, slotR, *]) hy⟩
                                go_simp
                              · refine ⟨fun _ => ?_, fun hy => absurd (by simp [yieldR, slotR, *]) hy⟩
                                go_simp
                              · refine ⟨fun _ => ?_, fun hy => absurd (by simp [yieldR, slotR, *]) hy⟩
                                go_simp
                              · refine ⟨fun _ => ?_, fun hy => absurd (by simp [yieldR, slotR, *]) hy⟩
                                go_simp
                                refine (mark15_any i j x).mono ?_
                                rintro e x' ⟨rfl, hb⟩
                                exact ⟨_, rfl, rfl, hb⟩
                              · refine ⟨fun _ => ?_, fun hy => absurd (by simp [yieldR, slotR, *]) hy⟩
                                go_simp
                              · refine ⟨fun _ => ?_, fun hy => absurd (by simp [yieldR, slotR, *]) hy⟩
                                go_simp
                              · refine ⟨fun _ => ?_, fun hy => absurd (by simp [yieldR, slotR, *]) hy⟩
                                go_simp
                              · go_simp
                            · intro vs x9 hp hw
                              simp only [owed, Fx] at hw
                              obtain ⟨e0, e1, e2, e3, e4, e5, e6, e7, e8, e9, e10, e11, e12, e13, e14, e15, e16, e17, e18, e19, e20, e21, e22, e23, e24, e25, e26, e27, e28, e29, e30, e31, -⟩ := hw
                              simp only [List.length_cons, List.length_nil, List.take_succ_cons, List.take_nil, List.drop_succ_cons, List.drop_nil, asg, List.cons_append, List.nil_append, e0, e1, e2, e3, e4, e5, e6, e7, e8, e9, e10, e11, e12, e13, e14, e15, e16, e17, e18, e19, e20, e21, e22, e23, e24, e25, e26, e27, e28, e29, e30, e31]
                              clear e0 e1 e2 e3 e4 e5 e6 e7 e8 e9 e10 e11 e12 e13 e14 e15 e16 e17 e18 e19 e20 e21 e22 e23 e24 e25 e26 e27 e28 e29 e30 e31
                              have HR : Hid (I34 C M N ⟨some ⟨gm, 0, none⟩, ln, mc⟩ ⟨ox, kn, oc⟩ ln kn w x9) := HJ.out.later hp
                              clear hp dz dl HJ dy
                              go_wp2
                              go_roundw
                              case rel => exact ⟨j + 1, by omega, by go_num, HR.out⟩
                              case measure => simp [intOf]; omega
                          · have hjy' : ¬ (j : Int) < (yn : Int) := by omega
                            clear hI
                            have FK : Hid ((i : Int) < (ln : Int) ∧ (j : Int) < (zn : Int) ∧ ¬ (j : Int) < (yn : Int)) := ⟨hlt', hjn', hjy'⟩
                            go_upto_region 52 with fail
                            clear hjn' hjy' hlt'
                            refine wp_relies [Fx (.slice (some ⟨gz, 0, none⟩) zn zc), Fx (.int .i64 ((j : Int))), Fx (.pointer (some ⟨gz, j, none⟩)), Fx (.iface 54 (.string (mkT i j))), Fx (.int .i64 ((i : Int))), Fx (.int .i64 ((j : Int))), Fx (.string (mkT i j)), Fx (.iface 54 (.string (mkT i j))), Fx (.bool false), Fx (.bool false), Fx (.int .i64 ((j : Int))), Fx (.slice (some ⟨gl, 0, none⟩) ln lc), Fx (.int .i64 ((i : Int))), Fx (.pointer (some ⟨gl, i, none⟩)), Fx (.slice yx yn yc), Fx (.int .i64 ((yn : Int))), Fx (.bool false), Fx (.bool false), Fx (undef), Fx (undef), Fx (undef), Fx (undef), Fx (undef), Fx (undef), Fx (undef), Fx (undef), Fx (undef), Fx (undef), Fx (undef), Fx (undef), Fx (.bool false), Fx (.bool false)] (by kernel_rfl) (by kernel_rfl) ?_ ?_ ?_
                            · repeat' (first | exact all_nil | apply all_cons)
                              all_goals intro v y y' hv hb
                              all_goals first | exact Fx_mono _ _ _ _ hv hb
                            · refine ⟨?_, ?_, ?_, ?_, ?_, ?_, ?_, ?_, ?_, ?_, ?_, ?_, ?_, ?_, ?_, ?_, ?_, ?_, ?_, ?_, ?_, ?_, ?_, ?_, ?_, ?_, ?_, ?_, ?_, ?_, ?_, ?_, trivial⟩
                              all_goals
                                intro ρ x hp ρc ρg ρf ho hd
                                have o31 : ρ (.tmp 31) = .slice (some ⟨gz, 0, none⟩) zn zc := ho 31 rfl
                                have o16 : ρ (.tmp 16) = .slice (some ⟨gl, 0, none⟩) ln lc := ho 16 rfl
                                have o30 : ρ (.tmp 30) = .int .i64 ((i : Int)) := ho 30 rfl
                                have o32 : ρ (.tmp 32) = .int .i64 ((j : Int)) := ho 32 rfl
                                clear ho
                                have k0 := cell_later hp dz
                                have k1 := cell_later hp dl
                                simp only [depsR, depR, slotR, Fx, List.getElem?_cons_succ, List.getElem?_cons_zero, Region.binds, forall_const] at hd
                                simp only [guardR]
                                go_split_ands
                              · go_simp
                              · go_simp
                              · obtain ⟨z1, z2, z3⟩ := FK.out
                                go_simp
                              · go_simp
                              · go_simp
                              · go_simp
                              · go_simp
                                refine (mark15_any i j x).mono ?_
                                rintro e x' ⟨rfl, hb⟩
                                exact ⟨_, rfl, rfl, hb⟩
                              · go_simp
                              · go_simp
                              · go_simp
                              · refine ⟨fun _ => ?_, fun hy => absurd (by simp [yieldR, slotR, *]) hy⟩
                                go_simp
                              · refine ⟨fun _ => ?_, fun hy => absurd (by simp [yieldR, slotR, *]) hy⟩
                                go_simp
                              · refine ⟨fun _ => ?_, fun hy => absurd (by simp [yieldR, slotR, *]) hy⟩
                                go_simp
                              · refine ⟨fun _ => ?_, fun hy => absurd (by simp [yieldR, slotR, *]) hy⟩
                                obtain ⟨z1, z2, z3⟩ := FK.out
                                go_simp
                              · refine ⟨fun _ => ?_, fun hy => absurd (by simp [yieldR, slotR, *]) hy⟩
                                go_simp
                              · refine ⟨fun _ => ?_, fun hy => absurd (by simp [yieldR, slotR, *]) hy⟩
                                go_simp
                              · refine ⟨fun _ => ?_, fun hy => absurd (by simp [yieldR, slotR, *]) hy⟩
                                obtain ⟨z1, z2, z3⟩ := FK.out
                                go_simp
                              · refine ⟨fun _ => ?_, fun hy => absurd (by simp [yieldR, slotR, *]) hy⟩
                                go_simp
                              · refine ⟨fun hy => ?_, fun _ => rfl⟩
                                exfalso; simp [yieldR, slotR, undef, *] at hy
                              · refine ⟨fun hy => ?_, fun _ => rfl⟩
                                exfalso; simp [yieldR, slotR, undef, *] at hy
                              · refine ⟨fun hy => ?_, fun _ => rfl⟩
                                exfalso; simp [yieldR, slotR, undef, *] at hy
                              · refine ⟨fun hy => ?_, fun _ => rfl⟩
                                exfalso; simp [yieldR, slotR, undef, *] at hy
                              · refine ⟨fun hy => ?_, fun _ => rfl⟩
                                exfalso; simp [yieldR, slotR, undef, *] at hy
                              · refine ⟨fun hy => ?_, fun _ => rfl⟩
                                exfalso; simp [yieldR, slotR, undef, *] at hy
                              · refine ⟨fun hy => ?_, fun _ => rfl⟩
                                exfalso; simp [yieldR, slotR, undef, *] at hy
                              · refine ⟨fun hy => ?_, fun _ => rfl⟩
                                exfalso; simp [yieldR, slotR, undef, *] at hy
                              · refine ⟨fun hy => ?_, fun _ => rfl⟩
                                exfalso; simp [yieldR, slotR, undef, *] at hy
                              · refine ⟨fun hy => ?_, fun _ => rfl⟩
                                exfalso; simp [yieldR, slotR, undef, *] at hy
                              · refine ⟨fun hy => ?_, fun _ => rfl⟩
                                exfalso; simp [yieldR, slotR, undef, *] at hy
                              · refine ⟨fun hy => ?_, fun _ => rfl⟩
                                exfalso; simp [yieldR, slotR, undef, *] at hy
                              · refine ⟨fun _ => ?_, fun hy => absurd (by simp [yieldR, slotR, *]) hy⟩
                                go_simp
                              · go_simp
                            · intro vs x9 hp hw
                              simp only [owed, Fx] at hw
                              obtain ⟨e0, e1, e2, e3, e4, e5, e6, e7, e8, e9, e10, e11, e12, e13, e14, e15, e16, e17, e18, e19, e20, e21, e22, e23, e24, e25, e26, e27, e28, e29, e30, e31, -⟩ := hw
                              simp only [List.length_cons, List.length_nil, List.take_succ_cons, List.take_nil, List.drop_succ_cons, List.drop_nil, asg, List.cons_append, List.nil_append, e0, e1, e2, e3, e4, e5, e6, e7, e8, e9, e10, e11, e12, e13, e14, e15, e16, e17, e18, e19, e20, e21, e22, e23, e24, e25, e26, e27, e28, e29, e30, e31]
                              clear e0 e1 e2 e3 e4 e5 e6 e7 e8 e9 e10 e11 e12 e13 e14 e15 e16 e17 e18 e19 e20 e21 e22 e23 e24 e25 e26 e27 e28 e29 e30 e31
                              have HR : Hid (I34 C M N ⟨some ⟨gm, 0, none⟩, ln, mc⟩ ⟨ox, kn, oc⟩ ln kn w x9) := HJ.out.later hp
                              clear hp dz dl HJ 
                              go_wp2
                              go_roundw
                              case rel => exact ⟨j + 1, by omega, by go_num, HR.out⟩
                              case measure => simp [intOf]; omega
                        · obtain rfl : zn = j := by omega
                          have hjn' : ¬ (zn : Int) < (zn : Int) := by omega
                          have HR : Hid (I34 C M N ⟨some ⟨gm, 0, none⟩, ln, mc⟩ ⟨ox, kn, oc⟩ ln kn w wr) := hI
                          clear hI
                          go_wp2
                          go_roundw
                          case rel => exact ⟨i + 1, by have := HLN.out; omega, by go_num, HR.out⟩
                          case measure => have := HLN.out; simp [intOf]; omega
                    · obtain rfl : ln = i := by omega
                      have hlt' : ¬ (ln : Int) < (ln : Int) := by omega
                      have HI8 : Hid (I34 C M N ⟨mx, ln, mc⟩ ⟨ox, kn, oc⟩ ln kn w wr) := hI
                      obtain ⟨W5, rfl⟩ : ∃ q, q = wr := ⟨_, rfl⟩
                      clear hI hlt hi
                      go_wp2
                      go_loopw [220] (fun iv wr => ∃ i : Nat, i ≤ kn ∧ iv = .int .i64 i ∧ I34 C M N ⟨mx, ln, mc⟩ ⟨ox, kn, oc⟩ ln kn w wr) (fun iv _ => kn - (intOf iv).toNat)
                      case atStart => exact ⟨0, by omega, rfl, HI8.out⟩
                      case round =>
                        clear HI8
                        obtain ⟨i, hi, rfl, hI⟩ := hrel
                        by_cases hlt : i < kn
                        · have hlt' : (i : Int) < (kn : Int) := by omega
                          have i0 : (0 : Int) ≤ (i : Int) := by omega
                          have HLT : Hid (i < C.q) := by show _ < _; rw [HQ.out]; exact hlt
                          have HLN : Hid (i < kn) := hlt
                          obtain ⟨gl, c9, he, dl⟩ := hI.getK i HLT.out
                          obtain rfl : kx = some ⟨gl, 0, none⟩ := by rw [HKS.out] at he; exact congrArg Sl.x he
                          clear he
                          obtain ⟨gm, c8, he, dm⟩ := hI.getN i hlt
                          obtain rfl : ox = some ⟨gm, 0, none⟩ := congrArg Sl.x he
                          clear he
                          obtain ⟨⟨yx, yn, yc⟩, hLi⟩ : ∃ q, C.Ks i = q := ⟨_, rfl⟩
                          obtain ⟨⟨zx, zn, zc⟩, hMi⟩ : ∃ q, N i = q := ⟨_, rfl⟩
                          have HNI : Hid (C.nK i = yn) := by have h9 := hI.lenK i HLT.out; rw [hLi] at h9; exact h9.symm
                          have HZN : Hid (zn = yn + 1) := by have h9 := hI.nN i hlt; rw [hMi, HNI.out] at h9; exact h9
                          have HLI : Hid (C.Ks i = ⟨yx, yn, yc⟩) := hLi
                          have HMI : Hid (N i = ⟨zx, zn, zc⟩) := hMi
                          have hyn : yn ≤ 8796093022208 := by rw [← HNI.out]; exact Nat.le_trans (HC.out.nK i) (by omega)
                          have hzn : zn ≤ 8796093022209 := by rw [HZN.out]; omega
                          rw [hMi] at dm
                          simp only [Sl.v] at dm
                          have HII : Hid (I34 C M N ⟨mx, ln, mc⟩ ⟨some ⟨gm, 0, none⟩, kn, oc⟩ ln kn w wr) := hI
                          clear hI hLi hMi dl
                          obtain ⟨wo, rfl⟩ : ∃ q, q = wr := ⟨_, rfl⟩
                          go_wp2
                          go_loopw [227] (fun jv wr => ∃ j : Nat, j ≤ zn ∧ jv = .int .i64 j ∧ I34 C M N ⟨mx, ln, mc⟩ ⟨some ⟨gm, 0, none⟩, kn, oc⟩ ln kn w wr) (fun jv _ => zn - (intOf jv).toNat)
                          case atStart => exact ⟨0, by omega, rfl, HII.out⟩
                          case round =>
                            clear HII dm
                            obtain ⟨j, hj, rfl, hI⟩ := hrel
                            by_cases hjn : j < zn
                            · have hjn' : (j : Int) < (zn : Int) := by omega
                              have j0 : (0 : Int) ≤ (j : Int) := by omega
                              obtain ⟨gl2, c9, he, dl⟩ := hI.getK i HLT.out
                              obtain rfl : gl = gl2 := by rw [HKS.out] at he; have h9 := congrArg Sl.x he; simp only [Option.some.injEq, Addr.mk.injEq, and_true] at h9; exact h9
                              clear he
                              rw [HLI.out] at dl
                              simp only [Sl.v] at dl
                              obtain ⟨gz, c8, he, dz⟩ := hI.atN i hlt HLT.out j (by rw [HNI.out]; have := HZN.out; omega)
                              obtain rfl : zx = some ⟨gz, 0, none⟩ := by rw [HMI.out] at he; exact congrArg Sl.x he
                              clear he
                              have dz : wr.cell? ⟨gz, j, none⟩ = some (.string (mkT i j)) := dz
                              have HJ : Hid (I34 C M N ⟨mx, ln, mc⟩ ⟨some ⟨gm, 0, none⟩, kn, oc⟩ ln kn w wr) := hI
                              by_cases hjy : j < yn
                              · have hjy' : (j : Int) < (yn : Int) := by omega
                                obtain ⟨gy, oy, c7, he, dy⟩ := hI.atK i hlt HLT.out j (by rw [HNI.out]; exact hjy)
                                obtain rfl : yx = some ⟨gy, oy, none⟩ := by rw [HLI.out] at he; exact congrArg Sl.x he
                                clear he hI
                                have dy : wr.cell? ⟨gy, oy + j, none⟩ = some (.string (mkT i j)) := dy
                                have FK : Hid ((i : Int) < (kn : Int) ∧ (j : Int) < (zn : Int) ∧ (j : Int) < (yn : Int)) := ⟨hlt', hjn', hjy'⟩
                                go_upto_region 62 with fail
                                clear hjn' hjy' hlt'
                                refine wp_relies [Fx (.slice (some ⟨gz, 0, none⟩) zn zc), Fx (.int .i64 ((j : Int))), Fx (.pointer (some ⟨gz, j, none⟩)), Fx (.string (mkT i j)), Fx (.int .i64 ((i : Int))), Fx (.int .i64 ((j : Int))), Fx (.string (mkT i j)), Fx (.bool false), Fx (.bool false), Fx (.int .i64 ((j : Int))), Fx (.slice (some ⟨gl, 0, none⟩) kn kc), Fx (.int .i64 ((i : Int))), Fx (.pointer (some ⟨gl, i, none⟩)), Fx (.slice (some ⟨gy, oy, none⟩) yn yc), Fx (.int .i64 ((yn : Int))), Fx (.bool true), Fx (.bool true), Fx (.slice (some ⟨gl, 0, none⟩) kn kc), Fx (.int .i64 ((i : Int))), Fx (.pointer (some ⟨gl, i, none⟩)), Fx (.slice (some ⟨gy, oy, none⟩) yn yc), Fx (.int .i64 ((j : Int))), Fx (.pointer (some ⟨gy, oy + j, none⟩)), Fx (.string (mkT i j)), Fx (.int .i64 ((i : Int))), Fx (.int .i64 ((j : Int))), Fx (.string (mkT i j)), Fx (.bool false), Fx (.bool false), Fx (.bool false)] (by kernel_rfl) (by kernel_rfl) ?_ ?_ ?_
                                · repeat' (first | exact all_nil | apply all_cons)
                                  all_goals intro v y y' hv hb
                                  all_goals first | exact Fx_mono _ _ _ _ hv hb
                                · refine ⟨?_, ?_, ?_, ?_, ?_, ?_, ?_, ?_, ?_, ?_, ?_, ?_, ?_, ?_, ?_, ?_, ?_, ?_, ?_, ?_, ?_, ?_, ?_, ?_, ?_, ?_, ?_, ?_, ?_, ?_, trivial⟩
                                  all_goals
                                    intro ρ x hp ρc ρg ρf ho hd
                                    have o34 : ρ (.tmp 34) = .slice (some ⟨gz, 0, none⟩) zn zc := ho 34 rfl
                                    have o17 : ρ (.tmp 17) = .slice (some ⟨gl, 0, none⟩) kn kc := ho 17 rfl
                                    have o33 : ρ (.tmp 33) = .int .i64 ((i : Int)) := ho 33 rfl
                                    have o35 : ρ (.tmp 35) = .int .i64 ((j : Int)) := ho 35 rfl
                                    clear ho
                                    have k0 := cell_later hp dz
                                    have k1 := cell_later hp dl
                                    have k2 := cell_later hp dy
                                    simp only [depsR, depR, slotR, Fx, List.getElem?_cons_succ, List.getElem?_cons_zero, Region.binds, forall_const] at hd
                                    simp only [guardR]
                                    go_split_ands
                                  · go_simp
                                  · go_simp
                                  · obtain ⟨z1, z2, z3⟩ := FK.out
                                    go_simp
                                  · go_simp
                                  · go_simp
                                  · go_simp
                                  · go_simp
                                    refine (mark15_any i j x).mono ?_
                                    rintro e x' ⟨rfl, hb⟩
                                    exact ⟨_, rfl, rfl, hb⟩
                                  · go_simp
                                  · go_simp
                                  · refine ⟨fun _ => ?_, fun hy => absurd (by simp [yieldR, slotR, *]) hy⟩
                                    go_simp
                                  · refine ⟨fun _ => ?_, fun hy => absurd (by simp [yieldR, slotR, *]) hy⟩
                                    go_simp
                                  · refine ⟨fun _ => ?_, fun hy => absurd (by simp [yieldR, slotR, *]) hy⟩
                                    go_simp
                                  · refine ⟨fun _ => ?_, fun hy => absurd (by simp [yieldR, slotR, *]) hy⟩
                                    obtain ⟨z1, z2, z3⟩ := FK.out
                                    go_simp
                                  · refine ⟨fun _ => ?_, fun hy => absurd (by simp [yieldR, slotR, *]) hy⟩
                                    go_simp
                                  · refine ⟨fun _ => ?_, fun hy => absurd (by simp [yieldR, slotR, *]) hy⟩
                                    go_simp
                                  · refine ⟨fun _ => ?_, fun hy => absurd (by simp [yieldR, slotR, *]) hy⟩
                                    obtain ⟨z1, z2, z3⟩ := FK.out
                                    go_simp
                                  · refine ⟨fun _ => ?_, fun hy => absurd (by simp [yieldR, slotR, *]) hy⟩
                                    go_simp
                                  · refine ⟨fun _ => ?_, fun hy => absurd (by simp [yieldR, slotR, *]) hy⟩
                                    go_simp
                                  · refine ⟨fun _ => ?_, fun hy => absurd (by simp [yieldR, slotR, *]) hy⟩
                                    go_simp
                                  · refine ⟨fun _ => ?_, fun hy => absurd (by simp [yieldR, slotR, *]) hy⟩
                                    obtain ⟨z1, z2, z3⟩ := FK.out
                                    go_simp
                                  · refine ⟨fun _ => ?_, fun hy => absurd (by simp [yieldR, slotR, *]) hy⟩
                                    go_simp
                                  · refine ⟨fun _ => ?_, fun hy => absurd (by simp [yieldR, slotR, *]) hy⟩
                                    go_simp
                                  · refine ⟨fun _ => ?_, fun hy => absurd (by simp [yieldR, slotR, *]) hy⟩
                                    obtain ⟨z1, z2, z3⟩ := FK.out
                                    go_simp
                                  · refine ⟨fun _ => ?_, fun hy => absurd (by simp [yieldR, slotR, *]) hy⟩
                                    go_simp
                                  · refine ⟨fun _ => ?_, fun hy => absurd (by simp [yieldR, slotR, *]) hy⟩
                                    go_simp
                                  · refine ⟨fun _ => ?_, fun hy => absurd (by simp [yieldR, slotR, *]) hy⟩
                                    go_simp
                                  · refine ⟨fun _ => ?_, fun hy => absurd (by simp [yieldR, slotR, *]) hy⟩
                                    go_simp
                                    refine (mark15_any i j x).mono ?_
                                    rintro e x' ⟨rfl, hb⟩
                                    exact ⟨_, rfl, rfl, hb⟩
                                  · refine ⟨fun _ => ?_, fun hy => absurd (by simp [yieldR, slotR, *]) hy⟩
                                    go_simp
                                  · refine ⟨fun _ => ?_, fun hy => absurd (by simp [yieldR, slotR, *]) hy⟩
                                    go_simp
                                  · go_simp
                                · intro vs x9 hp hw
                                  simp only [owed, Fx] at hw
                                  obtain ⟨e0, e1, e2, e3, e4, e5, e6, e7, e8, e9, e10, e11, e12, e13, e14, e15, e16, e17, e18, e19, e20, e21, e22, e23, e24, e25, e26, e27, e28, e29, -⟩ := hw
                                  simp only [List.length_cons, List.length_nil, List.take_succ_cons, List.take_nil, List.drop_succ_cons, List.drop_nil, asg, List.cons_append, List.nil_append, e0, e1, e2, e3, e4, e5, e6, e7, e8, e9, e10, e11, e12, e13, e14, e15, e16, e17, e18, e19, e20, e21, e22, e23, e24, e25, e26, e27, e28, e29]
                                  clear e0 e1 e2 e3 e4 e5 e6 e7 e8 e9 e10 e11 e12 e13 e14 e15 e16 e17 e18 e19 e20 e21 e22 e23 e24 e25 e26 e27 e28 e29
                                  have HR : Hid (I34 C M N ⟨mx, ln, mc⟩ ⟨some ⟨gm, 0, none⟩, kn, oc⟩ ln kn w x9) := HJ.out.later hp
                                  clear hp dz dl HJ dy
                                  go_wp2
                                  go_roundw
                                  case rel => exact ⟨j + 1, by omega, by go_num, HR.out⟩
                                  case measure => simp [intOf]; omega
                              · have hjy' : ¬ (j : Int) < (yn : Int) := by omega
                                clear hI
                                have FK : Hid ((i : Int) < (kn : Int) ∧ (j : Int) < (zn : Int) ∧ ¬ (j : Int) < (yn : Int)) := ⟨hlt', hjn', hjy'⟩
                                go_upto_region 62 with fail
                                clear hjn' hjy' hlt'
                                refine wp_relies [Fx (.slice (some ⟨gz, 0, none⟩) zn zc), Fx (.int .i64 ((j : Int))), Fx (.pointer (some ⟨gz, j, none⟩)), Fx (.string (mkT i j)), Fx (.int .i64 ((i : Int))), Fx (.int .i64 ((j : Int))), Fx (.string (mkT i j)), Fx (.bool false), Fx (.bool false), Fx (.int .i64 ((j : Int))), Fx (.slice (some ⟨gl, 0, none⟩) kn kc), Fx (.int .i64 ((i : Int))), Fx (.pointer (some ⟨gl, i, none⟩)), Fx (.slice yx yn yc), Fx (.int .i64 ((yn : Int))), Fx (.bool false), Fx (.bool false), Fx (undef), Fx (undef), Fx (undef), Fx (undef), Fx (undef), Fx (undef), Fx (undef), Fx (undef), Fx (undef), Fx (undef), Fx (undef), Fx (.bool false), Fx (.bool false)] (by kernel_rfl) (by kernel_rfl) ?_ ?_ ?_
                                · repeat' (first | exact all_nil | apply all_cons)
                                  all_goals intro v y y' hv hb
                                  all_goals first | exact Fx_mono _ _ _ _ hv hb
                                · refine ⟨?_, ?_, ?_, ?_, ?_, ?_, ?_, ?_, ?_, ?_, ?_, ?_, ?_, ?_, ?_, ?_, ?_, ?_, ?_, ?_, ?_, ?_, ?_, ?_, ?_, ?_, ?_, ?_, ?_, ?_, trivial⟩
                                  all_goals
                                    intro ρ x hp ρc ρg ρf ho hd
                                    have o34 : ρ (.tmp 34) = .slice (some ⟨gz, 0, none⟩) zn zc := ho 34 rfl
                                    have o17 : ρ (.tmp 17) = .slice (some ⟨gl, 0, none⟩) kn kc := ho 17 rfl
                                    have o33 : ρ (.tmp 33) = .int .i64 ((i : Int)) := ho 33 rfl
                                    have o35 : ρ (.tmp 35) = .int .i64 ((j : Int)) := ho 35 rfl
                                    clear ho
                                    have k0 := cell_later hp dz
                                    have k1 := cell_later hp dl
                                    simp only [depsR, depR, slotR, Fx, List.getElem?_cons_succ, List.getElem?_cons_zero, Region.binds, forall_const] at hd
                                    simp only [guardR]
                                    go_split_ands
                                  · go_simp
                                  · go_simp
                                  · obtain ⟨z1, z2, z3⟩ := FK.out
                                    go_simp
                                  · go_simp
                                  · go_simp
                                  · go_simp
                                  · go_simp
                                    refine (mark15_any i j x).mono ?_
                                    rintro e x' ⟨rfl, hb⟩
                                    exact ⟨_, rfl, rfl, hb⟩
                                  · go_simp
                                  · go_simp
                                  · refine ⟨fun _ => ?_, fun hy => absurd (by simp [yieldR, slotR, *]) hy⟩
                                    go_simp
                                  · refine ⟨fun _ => ?_, fun hy => absurd (by simp [yieldR, slotR, *]) hy⟩
                                    go_simp
                                  · refine ⟨fun _ => ?_, fun hy => absurd (by simp [yieldR, slotR, *]) hy⟩
                                    go_simp
                                  · refine ⟨fun _ => ?_, fun hy => absurd (by simp [yieldR, slotR, *]) hy⟩
                                    obtain ⟨z1, z2, z3⟩ := FK.out
                                    go_simp
                                  · refine ⟨fun _ => ?_, fun hy => absurd (by simp [yieldR, slotR, *]) hy⟩
                                    go_simp
                                  · refine ⟨fun _ => ?_, fun hy => absurd (by simp [yieldR, slotR, *]) hy⟩
                                    go_simp
                                  · refine ⟨fun _ => ?_, fun hy => absurd (by simp [yieldR, slotR, *]) hy⟩
                                    obtain ⟨z1, z2, z3⟩ := FK.out
                                    go_simp
                                  · refine ⟨fun _ => ?_, fun hy => absurd (by simp [yieldR, slotR, *]) hy⟩
                                    go_simp
                                  · refine ⟨fun hy => ?_, fun _ => rfl⟩
                                    exfalso; simp [yieldR, slotR, undef, *] at hy
                                  · refine ⟨fun hy => ?_, fun _ => rfl⟩
                                    exfalso; simp [yieldR, slotR, undef, *] at hy
                                  · refine ⟨fun hy => ?_, fun _ => rfl⟩
                                    exfalso; simp [yieldR, slotR, undef, *] at hy
                                  · refine ⟨fun hy => ?_, fun _ => rfl⟩
                                    exfalso; simp [yieldR, slotR, undef, *] at hy
                                  · refine ⟨fun hy => ?_, fun _ => rfl⟩
                                    exfalso; simp [yieldR, slotR, undef, *] at hy
                                  · refine ⟨fun hy => ?_, fun _ => rfl⟩
                                    exfalso; simp [yieldR, slotR, undef, *] at hy
                                  · refine ⟨fun hy => ?_, fun _ => rfl⟩
                                    exfalso; simp [yieldR, slotR, undef, *] at hy
                                  · refine ⟨fun hy => ?_, fun _ => rfl⟩
                                    exfalso; simp [yieldR, slotR, undef, *] at hy
                                  · refine ⟨fun hy => ?_, fun _ => rfl⟩
                                    exfalso; simp [yieldR, slotR, undef, *] at hy
                                  · refine ⟨fun hy => ?_, fun _ => rfl⟩
                                    exfalso; simp [yieldR, slotR, undef, *] at hy
                                  · refine ⟨fun hy => ?_, fun _ => rfl⟩
                                    exfalso; simp [yieldR, slotR, undef, *] at hy
                                  · refine ⟨fun _ => ?_, fun hy => absurd (by simp [yieldR, slotR, *]) hy⟩
                                    go_simp
                                  · go_simp
                                · intro vs x9 hp hw
                                  simp only [owed, Fx] at hw
                                  obtain ⟨e0, e1, e2, e3, e4, e5, e6, e7, e8, e9, e10, e11, e12, e13, e14, e15, e16, e17, e18, e19, e20, e21, e22, e23, e24, e25, e26, e27, e28, e29, -⟩ := hw
                                  simp only [List.length_cons, List.length_nil, List.take_succ_cons, List.take_nil, List.drop_succ_cons, List.drop_nil, asg, List.cons_append, List.nil_append, e0, e1, e2, e3, e4, e5, e6, e7, e8, e9, e10, e11, e12, e13, e14, e15, e16, e17, e18, e19, e20, e21, e22, e23, e24, e25, e26, e27, e28, e29]
                                  clear e0 e1 e2 e3 e4 e5 e6 e7 e8 e9 e10 e11 e12 e13 e14 e15 e16 e17 e18 e19 e20 e21 e22 e23 e24 e25 e26 e27 e28 e29
                                  have HR : Hid (I34 C M N ⟨mx, ln, mc⟩ ⟨some ⟨gm, 0, none⟩, kn, oc⟩ ln kn w x9) := HJ.out.later hp
                                  clear hp dz dl HJ 
                                  go_wp2
                                  go_roundw
                                  case rel => exact ⟨j + 1, by omega, by go_num, HR.out⟩
                                  case measure => simp [intOf]; omega
                            · obtain rfl : zn = j := by omega
                              have hjn' : ¬ (zn : Int) < (zn : Int) := by omega
                              have HR : Hid (I34 C M N ⟨mx, ln, mc⟩ ⟨some ⟨gm, 0, none⟩, kn, oc⟩ ln kn w wr) := hI
                              clear hI
                              go_wp2
                              go_roundw
                              case rel => exact ⟨i + 1, by have := HLN.out; omega, by go_num, HR.out⟩
                              case measure => have := HLN.out; simp [intOf]; omega
                        · obtain rfl : kn = i := by omega
                          have hlt' : ¬ (kn : Int) < (kn : Int) := by omega
                          have HI7 : Hid (I34 C M N ⟨mx, ln, mc⟩ ⟨ox, kn, oc⟩ ln kn w wr) := hI
                          obtain ⟨W6, rfl⟩ : ∃ q, q = wr := ⟨_, rfl⟩
                          clear hI hlt hi
                          skip
                          have hBW : Below n0 w W6 := by have h9 := HI7.out.bl; rw [HB.out] at h9; exact h9
                          have hsW : n0 ≤ W6.heap.size := by have h9 := HI7.out.size; rw [HB.out] at h9; exact h9
                          have hP9 := HO1.out W6 hBW
                          unfold JoP at hP9
                          simp only at hP9
                          go_wp2_with fail
                          refine hP9.mono ?_
                          rintro e w20 ⟨v9, rfl, hy9, -, hb9⟩
                          clear hP9
                          obtain ⟨L9, K9, vo9, -⟩ := hy9 (by trivial)
                          have hB20 : Below n0 w w20 := hBW.trans (hb9.mono hsW)
                          have hs20 : n0 ≤ w20.heap.size := Nat.le_trans hsW hb9.size
                          have hPt := O.prt d _ _ w20 vo9.f.g gd3 (Nat.le_trans gd2 (by omega)) (HKV.out w20 hB20)
                          obtain ⟨vt9, vp9, rfl⟩ := vo9.ifo
                          unfold PtP at hPt
                          rw [HSS.out] at hPt
                          clear hy9 vo9
                          go_wp2_with fail
                          refine hPt.mono ?_
                          rintro e w21 ⟨rfl, hb21⟩
                          clear hPt
                          go_wp2
                          go_ret
                          exact ⟨by simp, by rw [HN0.out]; exact hB20.trans (hb21.mono hs20)⟩
end Go.Proofs.YtddmmmfpdmejbaaGreatDoor
namespace Go.Proofs.YtddmmmfpdmejbaaGreatDoor
open Go.RowKit

/-! JsonOwn -/
theorem lawJsonOwn_any {V : World → Prop} (O : JsOk V) (l l2 : List UInt8) (x x2 : Option Addr) (L c L2 c2 : Nat) (w : World) (hVw : V w) (hL : l.length = L) (hLc : L ≤ c) (hL47 : L ≤ 140737488355328) (hl : IsB w (.slice x L c) l) (hL2 : l2.length = L2) (hLc2 : L2 ≤ c2) (hL472 : L2 ≤ 140737488355328) (hl2 : IsB w (.slice x2 L2 c2) l2) :
    Calls Tryz.prog 5 #[.slice x L c, .slice x2 L2 c2] w fun e w' => e = .returned (.bool true) ∧ Below w.heap.size w w' := by
  by_cases hE : (prsA l).2.1 = 0
  · by_cases hE2 : (prsA l2).2.1 = 0
    · exact ownB15 O l l2 x x2 L c L2 c2 w hVw hL hLc hL47 hl hL2 hLc2 hL472 hl2 hE hE2
    · exact ownA15 O l l2 x x2 L c L2 c2 w hVw hL hLc hL47 hl hL2 hLc2 hL472 hl2 hE hE2
  · exact ownNo15 O l l2 x x2 L c L2 c2 w hVw hL hLc hL47 hl hL2 hLc2 hL472 hl2 hE
end Go.Proofs.YtddmmmfpdmejbaaGreatDoor
