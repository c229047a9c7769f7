import Derived.Test.YtalnbddkhojjbaaGreatDoorQMan8
import Derived.Test.YtalnbddkhojjbaaGreatDoorQJzd
namespace Go.Proofs.YtalnbddkhojjbaaGreatDoor
open Go.RowKit

/-! ManifestWrites -/
theorem OwM.own {w : World} {B n c : Nat} {x : Option Addr} {l : List UInt8} (h : OwM w B (.slice x n c) l) (h0 : 0 < n) : ∃ g, x = some ⟨g, 0, none⟩ ∧ n = l.length ∧ g < w.heap.size ∧ RowM w g c l := by
  rcases h with ⟨h, rfl⟩ | ⟨g, cap, he, h1, h2, h3⟩
  · simp only [Value.slice.injEq] at h; omega
  · simp only [Value.slice.injEq] at he
    obtain ⟨rfl, rfl, rfl⟩ := he
    exact ⟨g, rfl, rfl, h2, h3⟩
/-- The first m bytes of a list are b. -/
def Rdb (w : World) (x : Option Addr) (m : Nat) (b : UInt8) : Prop := ∀ i, i < m → ∃ g, x = some ⟨g, 0, none⟩ ∧ g < w.heap.size ∧ w.cell? ⟨g, i, none⟩ = some (.int .u8 (b.toNat : Int))
theorem OwM.rdb {w : World} {B n c m : Nat} {x : Option Addr} {b : UInt8} {k : Nat} (h : OwM w B (.slice x n c) (List.replicate k b)) (hm : m ≤ n) : Rdb w x m b := fun i hi => by
  obtain ⟨g, rfl, hn, hg, hr⟩ := h.own (by omega)
  refine ⟨g, rfl, hg, ?_⟩
  have hik : i < k := by rw [List.length_replicate] at hn; omega
  rw [hr.cell i (by rw [List.length_replicate]; exact hik)]
  unfold lB
  rw [List.getElem?_replicate, if_pos hik]
  rfl
theorem Rdb.app {w w' : World} {x : Option Addr} {m L : Nat} {b : UInt8} {p : Value} (h : Rdb w x m b) (hg : w.grownBy w' p.ownBlock) (hc : ∀ q i, i < L → p.ownBlock = some q → w'.cell? ⟨q, i, none⟩ = w.cell? ⟨q, i, none⟩) (hm : m ≤ L) : Rdb w' x m b := fun i hi => by
  obtain ⟨g, e, hgl, hr⟩ := h i hi
  refine ⟨g, e, Nat.lt_of_lt_of_le hgl hg.size, ?_⟩
  by_cases hq : p.ownBlock = some g
  · rw [hc g i (by omega) hq]; exact hr
  · rw [World.cell?_of_block (a := ⟨g, i, none⟩) (hg.block g hgl (fun e => hq e.symm))]; exact hr
theorem Rdb.keep {w w' : World} {x : Option Addr} {m : Nat} {b : UInt8} (h : Rdb w x m b) (hb : Below w.heap.size w w') : Rdb w' x m b := fun i hi => by
  obtain ⟨g, e, hgl, hr⟩ := h i hi
  exact ⟨g, e, Nat.lt_of_lt_of_le hgl hb.size, cell_later hb hr⟩
theorem rep_setB (b : UInt8) (T : List UInt8) (i : Nat) (h : i < T.length) : (List.replicate i b ++ T.drop i).set i b = List.replicate (i + 1) b ++ T.drop (i + 1) := by
  rw [List.set_append_right _ _ (by simp), List.length_replicate, Nat.sub_self, List.drop_eq_getElem_cons h, List.set_cons_zero, List.replicate_succ', List.append_assoc]
  rfl
def d777 : Dc := ⟨dg_secZ, 777⟩
/-- What both lists are while they are written. -/
def Mk2 (B : Nat) (x y : Option Addr) (m cx cy : Nat) (T : List UInt8) (i : Nat) (w : World) : Prop := OwM w B (.slice x m cx) (List.replicate i 1 ++ T.drop i) ∧ OwM w B (.slice y m cy) (List.replicate i 2 ++ T.drop i)
theorem lit_byte (w : World) (b : UInt8) : (w.alloc (.cells #[Value.int .u8 (b.toNat : Int)] 5)).cell? ⟨w.heap.size, 0, none⟩ = some (Value.int .u8 (b.toNat : Int)) := by rw [cell_of_row _ _ _ _ _ _ (heap_alloc_last _ _)]; rfl
/-- While p is lengthened: p is ones; x reads as it did; y may be lengthened still. -/
def P16 (B : Nat) (x y : Option Addr) (m cy : Nat) (w0 : World) (px : Option Addr) (np cp j : Nat) (w : World) : Prop := np = m + j ∧ OwM w B (.slice px np cp) (List.replicate np 1) ∧ Rdb w x m 1 ∧ OwM w B (.slice y m cy) (List.replicate m 2) ∧ (∀ q, (Value.slice px np cp).ownBlock = some q → (Value.slice y m cy).ownBlock ≠ some q) ∧ Below B w0 w ∧ B ≤ w.heap.size
theorem P16.app {B m cy np cp j : Nat} {x y px : Option Addr} {w0 w : World} (h : P16 B x y m cy w0 px np cp j w) (hm : m ≤ 4094) (hj : j < 99) :
    ∃ qx qn qc w', (Builtin.append_ #[24, 24] 24 #[.slice px np cp, .slice (some ⟨w.heap.size, 0, none⟩) 1 1]).run Tryz.prog (w.alloc (.cells #[Value.int .u8 1] 5)) = .ok (.slice qx qn qc) w' ∧ P16 B x y m cy w0 qx qn qc (j + 1) w' := by
  obtain ⟨h1, h2, h3, h4, h5, h6, h7⟩ := h
  have bA := below_alloc w (.cells #[Value.int .u8 ((1 : UInt8).toNat : Int)] 5)
  have k2 := h2.keep bA
  have k4 := h4.keep bA
  have k3 := h3.keep bA
  obtain ⟨v', w', hr, hO, hg, hway, hc⟩ := OwM.app (c := 1) 1 24 k2 (lit_byte w 1) (by rw [List.length_replicate]; omega) (Nat.le_trans h7 bA.size)
  obtain ⟨qx, qc, rfl, -⟩ := hO.form
  have hlen : (List.replicate np (1 : UInt8) ++ [1]).length = np + 1 := by simp
  rw [hlen] at hr hO hway
  rw [show List.replicate np (1 : UInt8) ++ [1] = List.replicate (np + 1) 1 by rw [List.replicate_succ']] at hO
  have hBg : Below B (w.alloc (.cells #[Value.int .u8 ((1 : UInt8).toNat : Int)] 5)) w' := ⟨hg.os, hg.tape, hg.output, hg.size, fun q hq => hg.block q (by have := bA.size; omega) (fun e => by have := (k2.lt q e.symm).1; omega)⟩
  refine ⟨qx, np + 1, qc, w', hr, by omega, hO, k3.app hg hc (by rw [List.length_replicate]; omega), k4.other (fun q hq => hg.block q (k4.lt q hq).2 (fun e => h5 q e.symm hq)) hg.size, fun q hq hq2 => ?_, (h6.trans (bA.mono h7)).trans hBg, Nat.le_trans (Nat.le_trans h7 bA.size) hg.size⟩
  rcases hway with h9 | h9
  · rw [h9] at hq; exact h5 q hq hq2
  · have := h9 q hq
    have := (h4.lt q hq2).2
    have := bA.size
    omega
/-- While q is lengthened. -/
def Q16 (B : Nat) (x p y : Option Addr) (m : Nat) (w0 : World) (qx : Option Addr) (nq cq j : Nat) (w : World) : Prop := nq = m + j ∧ OwM w B (.slice qx nq cq) (List.replicate nq 2) ∧ Rdb w x m 1 ∧ Rdb w p m 1 ∧ Rdb w y m 2 ∧ Below B w0 w ∧ B ≤ w.heap.size
theorem P16.next {B m cy np cp j : Nat} {x y px : Option Addr} {w0 w : World} (h : P16 B x y m cy w0 px np cp j w) : Q16 B x px y m w0 y m cy 0 w := by
  obtain ⟨h1, h2, h3, h4, h5, h6, h7⟩ := h
  exact ⟨rfl, h4, h3, h2.rdb (by omega), h4.rdb (Nat.le_refl _), h6, h7⟩
theorem Q16.app {B m nq cq j : Nat} {x p y qx : Option Addr} {w0 w : World} (h : Q16 B x p y m w0 qx nq cq j w) (hm : m ≤ 4094) (hj : j < 99) :
    ∃ rx rn rc w', (Builtin.append_ #[24, 24] 24 #[.slice qx nq cq, .slice (some ⟨w.heap.size, 0, none⟩) 1 1]).run Tryz.prog (w.alloc (.cells #[Value.int .u8 2] 5)) = .ok (.slice rx rn rc) w' ∧ Q16 B x p y m w0 rx rn rc (j + 1) w' := by
  obtain ⟨h1, h2, h3, h4, h5, h6, h7⟩ := h
  have bA := below_alloc w (.cells #[Value.int .u8 ((2 : UInt8).toNat : Int)] 5)
  have k2 := h2.keep bA
  obtain ⟨v', w', hr, hO, hg, hway, hc⟩ := OwM.app (c := 1) 2 24 k2 (lit_byte w 2) (by rw [List.length_replicate]; omega) (Nat.le_trans h7 bA.size)
  obtain ⟨rx, rc, rfl, -⟩ := hO.form
  have hlen : (List.replicate nq (2 : UInt8) ++ [2]).length = nq + 1 := by simp
  rw [hlen] at hr hO
  rw [show List.replicate nq (2 : UInt8) ++ [2] = List.replicate (nq + 1) 2 by rw [List.replicate_succ']] at hO
  have hBg : Below B (w.alloc (.cells #[Value.int .u8 ((2 : UInt8).toNat : Int)] 5)) w' := ⟨hg.os, hg.tape, hg.output, hg.size, fun q hq => hg.block q (by have := bA.size; omega) (fun e => by have := (k2.lt q e.symm).1; omega)⟩
  have hL : m ≤ (List.replicate nq (2 : UInt8)).length := by rw [List.length_replicate]; omega
  exact ⟨rx, nq + 1, rc, w', hr, by omega, hO, (h3.keep bA).app hg hc hL, (h4.keep bA).app hg hc hL, (h5.keep bA).app hg hc hL, (h6.trans (bA.mono h7)).trans hBg, Nat.le_trans (Nat.le_trans h7 bA.size) hg.size⟩
set_option linter.unusedSimpArgs false in
set_option maxRecDepth 100000 in
set_option maxHeartbeats 16000000 in
theorem lawWrites16_any {V : World → Prop} (O : ManOk V) (k : Int) (l : List Dc) (x : Option Addr) (n c : Nat) (w : World) (hV : V w) (hk0 : -9223372036854775808 ≤ k) (hk1 : k ≤ 9223372036854775807) (hn : l.length = n) (hl47 : n ≤ 3518437208780) (h : IsK dcE w (.slice x n c) l) :
    Calls Tryz.prog 4 #[.int .i64 k, .slice x n c] w fun e w' => e = .returned (.bool true) ∧ Below w.heap.size w w' := by
  have kK := taken16_any O w hV
  go_enter Tryz.func4, Tryz.ntmps4
  go_wp2_with fail
  refine kK.mono ?_
  rintro e w8 ⟨rfl, hB8⟩
  clear kK
  obtain ⟨v9, c9, w9, hr9, hO9, hB9⟩ := copy_dc16 w8 x n c l hn (h.kept hB8) (by omega)
  have hB9w : Below w.heap.size w w9 := hB8.trans (hB9.mono hB8.size)
  have bD := below_alloc w9 (.cells (dcA d777) 35)
  have hO9' := hO9.keep bD
  have hs9 : w8.heap.size ≤ (w9.alloc (.cells (dcA d777) 35)).heap.size := Nat.le_trans hB9.size bD.size
  obtain ⟨g, ca, wa, hra, hOa, -, hga, -⟩ := run_app1K dcE_ok (w9.alloc (.cells (dcA d777) 35)) w8.heap.size w9.heap.size (.slice v9 n c9) l d777 22 hO9' (dc_lit_range w9 d777) (by rw [alloc_sz15]; omega) (by rw [hn]; show (n + 1) * 40 ≤ _; omega) (by rw [hn]; unfold maxLen; omega) hs9
  have hBaw : Below w.heap.size w wa := (hB9w.trans (bD.mono hB9w.size)).trans ((hO9'.below hga hs9).mono hB8.size)
  obtain ⟨z9, hz9⟩ : ∃ q, w9.heap.size = q := ⟨_, rfl⟩
  rw [hn, hz9] at hra
  rw [hn] at hOa
  have hra' : (Builtin.append_ #[22, 22] 22 #[.slice v9 n c9, .slice (some ⟨z9, 0, none⟩) 1 1]).run Tryz.prog (w9.alloc (.cells (dcA d777) 35)) = .ok (.slice (some ⟨g, 0, none⟩) (n + 1) ca) wa := hra
  have e7 : dcA ⟨dg_secZ, 777⟩ = dcA d777 := rfl
  have hIa := hOa.isK dcE_ok
  have hca : n + 1 ≤ ca := hIa.cap.2
  have hIo : IsK dcE wa (.slice (some ⟨g, 0, none⟩) n ca) l := by
    have h9 := isK_tk hIa n (by omega)
    rw [← hn, List.take_left, hn] at h9
    exact h9
  obtain ⟨g9, o9, ex, hg9, -, -, -, -, c777⟩ := dcCells hIa n d777 (by rw [List.getElem?_append_right (by omega), hn, Nat.sub_self]; rfl)
  cases ex
  rw [Nat.zero_add] at c777
  replace c777 : wa.cell? ⟨g, n * 33 + 32, none⟩ = some (.int .i64 777) := c777
  have j0 : (0 : Int) ≤ (n : Int) := by omega
  have j1 : (n : Int) ≤ (ca : Int) := by omega
  clear hra hO9 hO9' hB9 bD hs9 hga hIa hOa
  obtain ⟨M, hM⟩ : ∃ q, n + 1 = q := ⟨_, rfl⟩
  have HMV : Hid (n + 1 = M) := hM
  rw [hM] at hra'
  clear hM
  go_upto_region 4 with (at_builtin; first | (refine wpL_appG 22 rfl _ _ rfl _ w9 (by exact hr9) ?_; clear hr9) | (refine wpL_appG 22 rfl _ _ rfl _ wa (by exact hra') ?_; clear hra'))
  have hRf := refWrite16_any k l x n c wa hn (h.kept hBaw)
  have hml := mws_len16 k l
  have hWx : ∀ W, Below wa.heap.size wa W → Calls Tryz.prog 7 #[.int .i64 k, .slice (some ⟨g, 0, none⟩) n ca] W fun e w' => WrP16 k l W e w' := fun W hb => O.wr k l _ n ca W hk0 hk1 hn (by omega) (hIo.kept hb) (O.keep _ _ hV (hBaw.trans (hb.mono hBaw.size)))
  unfold WrP16 at hWx
  obtain ⟨T, hT⟩ : ∃ q, mwS k l = q := ⟨_, rfl⟩
  obtain ⟨E, hE⟩ : ∃ q, mwE k l = q := ⟨_, rfl⟩
  rw [hT] at hRf hml
  rw [hE] at hRf
  simp only [hT, hE] at hWx
  clear hT hE
  obtain ⟨LB, hLB⟩ : ∃ q : ByteArray, ⟨T.toArray⟩ = q := ⟨_, rfl⟩
  rw [hLB] at hRf
  have HWX : Hid _ := hWx
  have HH : Hid (IsK dcE w (.slice x n c) l ∧ IsK dcE wa (.slice (some ⟨g, 0, none⟩) n ca) l) := ⟨h, hIo⟩
  have HV9 : Hid (hV = hV) := rfl
  clear hWx h hIo
  go_wp2_with fail
  refine hRf.mono ?_
  rintro e w1 ⟨rfl, hb1⟩
  clear hRf
  have h1 := HWX.out w1 hb1
  go_wp2_with fail
  refine h1.mono ?_
  rintro e w2 ⟨⟨xx, m, cx, rfl, hm, hmx, hOx⟩, hb2⟩
  clear h1
  have hB2 : Below wa.heap.size wa w2 := hb1.trans (hb2.mono hb1.size)
  have h2 := HWX.out w2 hB2
  go_wp2_with fail
  refine h2.mono ?_
  rintro e w3 ⟨⟨yy, my, cy, rfl, hmy, hmcy, hOy⟩, hb3⟩
  clear h2
  obtain rfl : my = m := by omega
  have hB3 : Below wa.heap.size wa w3 := hB2.trans (hb3.mono hB2.size)
  have hOx3 := hOx.keep hb3
  have hXY : ∀ q, (Value.slice xx my cx).ownBlock = some q → (Value.slice yy my cy).ownBlock ≠ some q := fun q h1 h2 => by
    have := (hOx.lt q h1).2
    have := (hOy.lt q h2).1
    omega
  have s1 := hOx3.isB.str
  have s2 := hOy.isB.str
  rw [hLB] at s1 s2
  have hsm := same16_any l l (some ⟨g, 0, none⟩) x n n ca c w3 hn hn (HH.out.2.kept hB3) ((HH.out.1.kept hBaw).kept hB3) (by omega)
  rw [sameD_refl l] at hsm
  have c7 := cell_later hB3 c777
  have hwn : IntKind.i64.wrap ((n : Int) + 1) = (M : Int) := by rw [IntKind.wrap_i64]; have := HMV.out; omega
  have i1 : (0 : Int) ≤ (M : Int) := by omega
  have i2 : (M : Int) ≤ (ca : Int) := by have := HMV.out; omega
  have i3 : (n : Int) < (M : Int) := by have := HMV.out; omega
  clear c777 hLB j0 j1
  go_wp2_with fail
  refine hsm.mono ?_
  rintro e w4 ⟨rfl, hb4⟩
  clear hsm s1 s2
  have c7 := cell_later hb4 c7
  have hB4 : Below w.heap.size w w4 := hBaw.trans ((hB3.trans (hb4.mono hB3.size)).mono hBaw.size)
  obtain ⟨B, hBe⟩ : ∃ q, w.heap.size = q := ⟨_, rfl⟩
  have hB4' : Below B w w4 := by rw [← hBe]; exact hB4
  have hBx : B ≤ w1.heap.size := by rw [← hBe]; exact Nat.le_trans hBaw.size hb1.size
  have H0 : Hid (Mk2 B xx yy my cx cy T 0 w4) := ⟨(hOx3.keep hb4).le hBx, (hOy.keep hb4).le (Nat.le_trans hBx hb2.size)⟩
  have HXY : Hid (∀ q, (Value.slice xx my cx).ownBlock = some q → (Value.slice yy my cy).ownBlock ≠ some q) := hXY
  have HBE : Hid (w.heap.size = B ∧ Below B w w4 ∧ B ≤ w4.heap.size ∧ T.length = my) := ⟨hBe, hB4', by rw [← hBe]; exact hB4.size, hm⟩
  clear hOx hOy hOx3 hB3 hB2 hb1 hb2 hb3 hb4 hB4 hB4' hBx hXY hBe hm hmy hmx hmcy hB9w hBaw hB8 HH HWX HV9
  go_wp2
  clear c7 hwn i1 i2 i3
  go_loopw [12] (fun iv wr => ∃ i : Nat, i ≤ my ∧ iv = .int .i64 (i : Int) ∧ Mk2 B xx yy my cx cy T i wr ∧ Below B w wr ∧ B ≤ wr.heap.size) (fun iv _ => my - (intOf iv).toNat)
  case atStart => exact ⟨0, by omega, rfl, H0.out, HBE.out.2.1, HBE.out.2.2.1⟩
  case round =>
    clear H0
    obtain ⟨i, hi, rfl, ⟨hX, hY⟩, hBr, hsr⟩ := hrel
    by_cases hlt : i < my
    · have i0 : (0 : Int) ≤ (i : Int) := by omega
      have i1 : (i : Int) < (my : Int) := by omega
      have hTl := HBE.out.2.2.2
      obtain ⟨gx, rfl, hlx, hgx, hrx⟩ := hX.own (by omega)
      obtain ⟨gy, rfl, hly, hgy, hry⟩ := hY.own (by omega)
      have hne : gx ≠ gy := fun e => HXY.out gx rfl (by rw [e]; rfl)
      obtain ⟨u1, q1⟩ := Option.isSome_iff_exists.1 (hrx.there i (by have := hrx.le; omega))
      have z1 := hrx.soft i (by have := hrx.le; omega)
      obtain ⟨u2, q2⟩ := Option.isSome_iff_exists.1 (hry.there i (by have := hry.le; omega))
      have z2 := hry.soft i (by have := hry.le; omega)
      have hX1 := hX.set i 1 (by omega)
      have hg1 := grL_set wr gx i (.int .u8 ((1 : UInt8).toNat : Int))
      have hY1 := hY.other (w1 := wr.setCell ⟨gx, i, none⟩ (.int .u8 ((1 : UInt8).toNat : Int))) (fun q hq => hg1.block q (hY.lt q hq).2 (fun e => by have h9 : some gy = some q := hq; cases h9; cases e; exact hne rfl)) hg1.size
      have hY2 := hY1.set i 2 (by omega)
      have hg2 := grL_set (wr.setCell ⟨gx, i, none⟩ (.int .u8 ((1 : UInt8).toNat : Int))) gy i (.int .u8 ((2 : UInt8).toNat : Int))
      have hX2 := hX1.other (w1 := (wr.setCell ⟨gx, i, none⟩ (.int .u8 ((1 : UInt8).toNat : Int))).setCell ⟨gy, i, none⟩ (.int .u8 ((2 : UInt8).toNat : Int))) (fun q hq => hg2.block q (hX1.lt q hq).2 (fun e => by have h9 : some gx = some q := hq; cases h9; cases e; exact hne rfl)) hg2.size
      rw [rep_setB 1 T i (by omega)] at hX2
      rw [rep_setB 2 T i (by omega)] at hY2
      have q2' : (wr.setCell ⟨gx, i, none⟩ (.int .u8 1)).cell? ⟨gy, i, none⟩ = some u2 := by
        exact (World.cell?_of_block (a := ⟨gy, i, none⟩) (hg1.block gy hgy (fun e => by cases e; exact hne rfl))).trans q2
      have z2' : (wr.setCell ⟨gx, i, none⟩ (.int .u8 1)).frozen? ⟨gy, i, none⟩ = false := by
        exact (World.frozen?_of_block (a := ⟨gy, i, none⟩) (hg1.block gy hgy (fun e => by cases e; exact hne rfl))).trans z2
      have hBg : B ≤ gx ∧ B ≤ gy := ⟨(hX.lt gx rfl).1, (hY.lt gy rfl).1⟩
      have hBf : Below B w ((wr.setCell ⟨gx, i, none⟩ (.int .u8 ((1 : UInt8).toNat : Int))).setCell ⟨gy, i, none⟩ (.int .u8 ((2 : UInt8).toNat : Int))) := by
        have b1 : Below B wr (wr.setCell ⟨gx, i, none⟩ (.int .u8 ((1 : UInt8).toNat : Int))) := ⟨hg1.os, hg1.tape, hg1.output, hg1.size, fun q hq => hg1.block q (by omega) (fun e => by cases e; omega)⟩
        have b2 : Below B (wr.setCell ⟨gx, i, none⟩ (.int .u8 ((1 : UInt8).toNat : Int))) ((wr.setCell ⟨gx, i, none⟩ (.int .u8 ((1 : UInt8).toNat : Int))).setCell ⟨gy, i, none⟩ (.int .u8 ((2 : UInt8).toNat : Int))) := ⟨hg2.os, hg2.tape, hg2.output, hg2.size, fun q hq => hg2.block q (by have := hg1.size; omega) (fun e => by cases e; omega)⟩
        exact (hBr.trans b1).trans b2
      have HR : Hid (Mk2 B (some ⟨gx, 0, none⟩) (some ⟨gy, 0, none⟩) my cx cy T (i + 1) ((wr.setCell ⟨gx, i, none⟩ (.int .u8 1)).setCell ⟨gy, i, none⟩ (.int .u8 2)) ∧ Below B w ((wr.setCell ⟨gx, i, none⟩ (.int .u8 1)).setCell ⟨gy, i, none⟩ (.int .u8 2)) ∧ B ≤ ((wr.setCell ⟨gx, i, none⟩ (.int .u8 1)).setCell ⟨gy, i, none⟩ (.int .u8 2)).heap.size) := ⟨⟨hX2, hY2⟩, hBf, by have := hg1.size; have := hg2.size; exact Nat.le_trans (Nat.le_trans hsr hg1.size) hg2.size⟩
      have hwr : IntKind.i64.wrap ((i : Int) + 1) = (i : Int) + 1 := by rw [IntKind.wrap_i64]; omega
      clear hX hY hX1 hY1 hX2 hY2 hg1 hg2 hBf hBg hrx hry z2 q2 hne hBr hsr hlx hly hTl hgx hgy
      go_wp2
      go_roundw
      case rel => first | exact ⟨i + 1, by omega, by go_num, HR.out⟩ | ((repeat apply Exists.intro); refine ⟨⟨i + 1, by omega, ?_, HR.out⟩, rfl⟩; go_num)
      case measure => simp [intOf]; omega
    · obtain rfl : my = i := by omega
      have i1 : ¬ (my : Int) < (my : Int) := by omega
      have hTd : List.drop my T = [] := List.drop_of_length_le (by have := HBE.out.2.2.2; omega)
      rw [hTd, List.append_nil] at hX hY
      obtain ⟨W1, rfl⟩ : ∃ q, q = wr := ⟨_, rfl⟩
      have H1 : Hid (P16 B xx yy my cy w xx my cx 0 W1) := ⟨rfl, hX, hX.rdb (Nat.le_refl _), hY, HXY.out, hBr, hsr⟩
      clear hX hY hTd hBr hsr hlt hi
      go_wp2
      clear i1
      go_loopw [13, 15] (fun pv iv wr => ∃ (j : Nat) (px : Option Addr) (np cp : Nat), j ≤ 99 ∧ pv = .slice px np cp ∧ iv = .int .i64 (j : Int) ∧ P16 B xx yy my cy w px np cp j wr) (fun _ iv _ => 99 - (intOf iv).toNat)
      case atStart => exact ⟨0, xx, my, cx, by omega, rfl, rfl, H1.out⟩
      case round =>
        clear H1
        obtain ⟨j, px, np, cp, hj, rfl, rfl, hP⟩ := hrel
        have hmy : my ≤ 4094 := by have := HBE.out.2.2.2; omega
        by_cases hlt : j < 99
        · have i1 : (j : Int) < 99 := by omega
          obtain ⟨qx, qn, qc, w5, hr5, hP5⟩ := hP.app hmy hlt
          have hwr : IntKind.i64.wrap ((j : Int) + 1) = (j : Int) + 1 := by rw [IntKind.wrap_i64]; omega
          obtain ⟨z5, hz5⟩ : ∃ q, wr.heap.size = q := ⟨_, rfl⟩
          rw [hz5] at hr5
          have HR : Hid (P16 B xx yy my cy w qx qn qc (j + 1) w5) := hP5
          clear hP hP5
          go_wp2_with (at_builtin; refine wpL_app rfl _ _ rfl _ w5 (by exact hr5) ?_)
          go_roundw
          case rel => first | exact ⟨j + 1, qx, qn, qc, by omega, rfl, by go_num, HR.out⟩ | ((repeat apply Exists.intro); refine ⟨⟨j + 1, qx, qn, qc, by omega, rfl, ?_, HR.out⟩, rfl⟩; go_num)
          case measure => simp [intOf]; omega
        · obtain rfl : j = 99 := by omega
          obtain ⟨W2, rfl⟩ : ∃ q, q = wr := ⟨_, rfl⟩
          have H2 : Hid (Q16 B xx px yy my w yy my cy 0 W2) := hP.next
          have HNP : Hid (np = my + 99) := hP.1
          clear hP hlt hj hmy
          go_wp2
          go_loopw [14, 16] (fun pv iv wr => ∃ (j : Nat) (qx : Option Addr) (nq cq : Nat), j ≤ 99 ∧ pv = .slice qx nq cq ∧ iv = .int .i64 (j : Int) ∧ Q16 B xx px yy my w qx nq cq j wr) (fun _ iv _ => 99 - (intOf iv).toNat)
          case atStart => exact ⟨0, yy, my, cy, by omega, rfl, rfl, H2.out⟩
          case round =>
            clear H2
            obtain ⟨j, qx, nq, cq, hj, rfl, rfl, hP⟩ := hrel
            have hmy : my ≤ 4094 := by have := HBE.out.2.2.2; omega
            by_cases hlt : j < 99
            · have i1 : (j : Int) < 99 := by omega
              obtain ⟨rx, rn, rc, w5, hr5, hP5⟩ := hP.app hmy hlt
              have hwr : IntKind.i64.wrap ((j : Int) + 1) = (j : Int) + 1 := by rw [IntKind.wrap_i64]; omega
              obtain ⟨z5, hz5⟩ : ∃ q, wr.heap.size = q := ⟨_, rfl⟩
              rw [hz5] at hr5
              have HR : Hid (Q16 B xx px yy my w rx rn rc (j + 1) w5) := hP5
              clear hP hP5
              go_wp2_with (at_builtin; refine wpL_app rfl _ _ rfl _ w5 (by exact hr5) ?_)
              go_roundw
              case rel => first | exact ⟨j + 1, rx, rn, rc, by omega, rfl, by go_num, HR.out⟩ | ((repeat apply Exists.intro); refine ⟨⟨j + 1, rx, rn, rc, by omega, rfl, ?_, HR.out⟩, rfl⟩; go_num)
              case measure => simp [intOf]; omega
            · obtain rfl : j = 99 := by omega
              obtain ⟨W3, rfl⟩ : ∃ q, q = wr := ⟨_, rfl⟩
              obtain ⟨hnq, hOq, rx, rp, ry, hBw, hsw⟩ := hP
              have hrq : Rdb W3 qx my 2 := hOq.rdb (by omega)
              have HNQ : Hid (nq = my + 99) := hnq
              have HRR : Hid (Rdb W3 xx my 1 ∧ Rdb W3 px my 1 ∧ Rdb W3 yy my 2 ∧ Rdb W3 qx my 2) := ⟨rx, rp, ry, hrq⟩
              have HBW : Hid (Below B w W3) := hBw
              clear hnq hOq rx rp ry hBw hsw hrq hlt hj hmy
              go_wp2
              go_loopw [17] (fun iv wr => ∃ i : Nat, i ≤ my ∧ iv = .int .i64 (i : Int) ∧ wr = W3) (fun iv _ => my - (intOf iv).toNat)
              case atStart => exact ⟨0, by omega, rfl, rfl⟩
              case round =>
                obtain ⟨i, hi, rfl, rfl⟩ := hrel
                by_cases hlt : i < my
                · have i0 : (0 : Int) ≤ (i : Int) := by omega
                  have i1 : (i : Int) < (my : Int) := by omega
                  have i2 : (i : Int) < (np : Int) := by have := HNP.out; omega
                  have i3 : (i : Int) < (nq : Int) := by have := HNQ.out; omega
                  obtain ⟨g1, rfl, -, c1⟩ := HRR.out.1 i hlt
                  obtain ⟨g2, rfl, -, c2⟩ := HRR.out.2.1 i hlt
                  obtain ⟨g3, rfl, -, c3⟩ := HRR.out.2.2.1 i hlt
                  obtain ⟨g4, rfl, -, c4⟩ := HRR.out.2.2.2 i hlt
                  replace c1 : wr.cell? ⟨g1, i, none⟩ = some (.int .u8 1) := c1
                  replace c2 : wr.cell? ⟨g2, i, none⟩ = some (.int .u8 1) := c2
                  replace c3 : wr.cell? ⟨g3, i, none⟩ = some (.int .u8 2) := c3
                  replace c4 : wr.cell? ⟨g4, i, none⟩ = some (.int .u8 2) := c4
                  have hwr : IntKind.i64.wrap ((i : Int) + 1) = (i : Int) + 1 := by rw [IntKind.wrap_i64]; have := HBE.out.2.2.2; omega
                  go_wp2
                  go_roundw
                  case rel => exact ⟨i + 1, by omega, by go_num, trivial⟩
                  case measure => simp [intOf]; omega
                · have i1 : ¬ (i : Int) < (my : Int) := by omega
                  go_wp2
                  go_ret
                  exact ⟨rfl, by rw [HBE.out.1]; exact HBW.out⟩
end Go.Proofs.YtalnbddkhojjbaaGreatDoor
