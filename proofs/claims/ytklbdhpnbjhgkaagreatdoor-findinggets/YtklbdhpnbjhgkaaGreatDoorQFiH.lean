import Derived.Test.YtklbdhpnbjhgkaaGreatDoorQFiF
import Derived.Test.YtklbdhpnbjhgkaaGreatDoorQFia
import Derived.Test.YtklbdhpnbjhgkaaGreatDoorQFiG
namespace Go.Proofs.YtklbdhpnbjhgkaaGreatDoor
open Go.RowKit Go.Sort

/-! assaylaw22's same, digests, ints, alike, where they are alike -/
set_option linter.unusedSimpArgs false in
set_option maxRecDepth 100000 in
set_option maxHeartbeats 1600000 in
theorem same22 (w : World) (xa : Option Addr) (ca : Nat) (xb : Option Addr) (cb n : Nat) (l : List Fd) (hn : l.length = n) (ha : IsK fdE w (.slice xa n ca) l) (hb : IsK fdE w (.slice xb n cb) l) (hs : n ≤ 140737488355328) :
    Calls Tryz.prog 10 #[.slice xa n ca, .slice xb n cb] w fun e w' => e = .returned (.bool true) ∧ Below w.heap.size w w' := by
  go_enter Tryz.func10, Tryz.ntmps10
  go_wp2_with fail
  go_loopw [5] (fun v wr => ∃ k : Nat, k ≤ n ∧ v = .int .i64 k ∧ Below w.heap.size w wr) (fun v _ => n - (intOf v).toNat)
  case atStart => exact ⟨0, by omega, rfl, Below.refl _ _⟩
  case round =>
    obtain ⟨k, hk, rfl, hB⟩ := hrel
    by_cases hlt : k < n
    · have i0 : (k : Int) < (n : Int) := by omega
      have i1 : (0 : Int) ≤ (k : Int) := by omega
      have wk : IntKind.i64.wrap ((k : Int) + 1) = (k : Int) + 1 := by rw [IntKind.wrap_i64]; omega
      obtain ⟨v, hv⟩ : ∃ v, l[k]? = some v := ⟨_, List.getElem?_eq_getElem (by omega)⟩
      obtain ⟨ga, oa, rfl, -, -, -, a1, a2⟩ := fd_at (ha.kept hB) k v hv
      obtain ⟨gb, ob, rfl, -, -, -, b1, b2⟩ := fd_at (hb.kept hB) k v hv
      have heq : fdEq v v = true := by rw [fdEq_dec]; simp
      have HB : Hid (∀ q, Below w.heap.size w (wr.drewN q)) := fun q => hB.trans ((below_dN wr q).mono hB.size)
      clear hB hv
      go_upto_region 6 with fail
      go_quiet (fail)
      go_wp2
      go_roundw
      case rel => first | exact ⟨k + 1, by omega, by go_num, HB.out _⟩ | ((repeat apply Exists.intro); refine ⟨⟨k + 1, by omega, ?_, HB.out _⟩, rfl⟩; go_num)
      case measure => simp [intOf]; omega
    · obtain rfl : k = n := by omega
      have i0 : ¬ (k : Int) < (k : Int) := by omega
      go_wp2
      go_ret
      exact ⟨rfl, hB⟩
set_option linter.unusedSimpArgs false in
set_option maxRecDepth 100000 in
set_option maxHeartbeats 1600000 in
theorem digests22 (w : World) (xa : Option Addr) (ca : Nat) (xb : Option Addr) (cb n : Nat) (l : List Dg) (hn : l.length = n) (ha : IsK dgE w (.slice xa n ca) l) (hb : IsK dgE w (.slice xb n cb) l) (hs : n ≤ 140737488355328) :
    Calls Tryz.prog 29 #[.slice xa n ca, .slice xb n cb] w fun e w' => e = .returned (.bool true) ∧ Below w.heap.size w w' := by
  go_enter Tryz.func29, Tryz.ntmps29
  go_wp2_with fail
  go_loopw [5] (fun v wr => ∃ k : Nat, k ≤ n ∧ v = .int .i64 k ∧ Below w.heap.size w wr) (fun v _ => n - (intOf v).toNat)
  case atStart => exact ⟨0, by omega, rfl, Below.refl _ _⟩
  case round =>
    obtain ⟨k, hk, rfl, hB⟩ := hrel
    by_cases hlt : k < n
    · have i0 : (k : Int) < (n : Int) := by omega
      have i1 : (0 : Int) ≤ (k : Int) := by omega
      have wk : IntKind.i64.wrap ((k : Int) + 1) = (k : Int) + 1 := by rw [IntKind.wrap_i64]; omega
      obtain ⟨v, hv⟩ : ∃ v, l[k]? = some v := ⟨_, List.getElem?_eq_getElem (by omega)⟩
      obtain ⟨ga, oa, rfl, -, a1, a2⟩ := dg_at (ha.kept hB) k v hv
      obtain ⟨gb, ob, rfl, -, b1, b2⟩ := dg_at (hb.kept hB) k v hv
      have heq : dg_secEq v v = true := (dg_secEq_iff v v).2 fun _ _ => rfl
      have HB : Hid (∀ q, Below w.heap.size w (wr.drewN q)) := fun q => hB.trans ((below_dN wr q).mono hB.size)
      clear hB hv
      go_upto_region 6 with fail
      go_quiet (fail)
      go_wp2
      go_roundw
      case rel => first | exact ⟨k + 1, by omega, by go_num, HB.out _⟩ | ((repeat apply Exists.intro); refine ⟨⟨k + 1, by omega, ?_, HB.out _⟩, rfl⟩; go_num)
      case measure => simp [intOf]; omega
    · obtain rfl : k = n := by omega
      have i0 : ¬ (k : Int) < (k : Int) := by omega
      go_wp2
      go_ret
      exact ⟨rfl, hB⟩
set_option linter.unusedSimpArgs false in
set_option maxRecDepth 100000 in
set_option maxHeartbeats 1600000 in
theorem ints22 (w : World) (xa : Option Addr) (ca : Nat) (xb : Option Addr) (cb n : Nat) (l : List Int) (hn : l.length = n) (ha : IsG w (.slice xa n ca) (inV l)) (hb : IsG w (.slice xb n cb) (inV l)) (hs : n ≤ 140737488355328) :
    Calls Tryz.prog 30 #[.slice xa n ca, .slice xb n cb] w fun e w' => e = .returned (.bool true) ∧ Below w.heap.size w w' := by
  go_enter Tryz.func30, Tryz.ntmps30
  go_wp2_with fail
  go_loopw [5] (fun v wr => ∃ k : Nat, k ≤ n ∧ v = .int .i64 k ∧ Below w.heap.size w wr) (fun v _ => n - (intOf v).toNat)
  case atStart => exact ⟨0, by omega, rfl, Below.refl _ _⟩
  case round =>
    obtain ⟨k, hk, rfl, hB⟩ := hrel
    by_cases hlt : k < n
    · have i0 : (k : Int) < (n : Int) := by omega
      have i1 : (0 : Int) ≤ (k : Int) := by omega
      have wk : IntKind.i64.wrap ((k : Int) + 1) = (k : Int) + 1 := by rw [IntKind.wrap_i64]; omega
      obtain ⟨v, hv⟩ : ∃ v, l[k]? = some v := ⟨_, List.getElem?_eq_getElem (by omega)⟩
      have hA : IsG wr (.slice xa (inV l).length ca) (inV l) := by rw [inV_len, hn]; exact ha.kept hB
      have hB9 : IsG wr (.slice xb (inV l).length cb) (inV l) := by rw [inV_len, hn]; exact hb.kept hB
      obtain ⟨ga, oa, rfl, -, qa⟩ := hA.spot k (by rw [inV_len]; omega)
      obtain ⟨gb, ob, rfl, -, qb⟩ := hB9.spot k (by rw [inV_len]; omega)
      have a1 := qa k _ (inV_get l k v hv)
      have b1 := qb k _ (inV_get l k v hv)
      clear hA hB9 qa qb
      have HB : Hid (∀ q, Below w.heap.size w (wr.drewN q)) := fun q => hB.trans ((below_dN wr q).mono hB.size)
      clear hB hv
      go_upto_region 6 with fail
      go_quiet (fail)
      go_wp2
      go_roundw
      case rel => first | exact ⟨k + 1, by omega, by go_num, HB.out _⟩ | ((repeat apply Exists.intro); refine ⟨⟨k + 1, by omega, ?_, HB.out _⟩, rfl⟩; go_num)
      case measure => simp [intOf]; omega
    · obtain rfl : k = n := by omega
      have i0 : ¬ (k : Int) < (k : Int) := by omega
      go_wp2
      go_ret
      exact ⟨rfl, hB⟩
set_option linter.unusedSimpArgs false in
set_option maxHeartbeats 1600000 in
theorem alike22 (w : World) (r : Rp) (xa : Option Addr) (na ca : Nat) (xb : Option Addr) (nb cb : Nat) (xc : Option Addr) (nc cc : Nat) (xd : Option Addr) (cd : Nat) (xe : Option Addr) (ce : Nat) (xf : Option Addr) (cf : Nat)
    (h1 : RpI w r xa na ca xb nb cb xc nc cc) (h2 : RpI w r xd na cd xe nb ce xf nc cf) (s1 : na ≤ 140737488355328) (s2 : nb ≤ 140737488355328) (s3 : nc ≤ 140737488355328) :
    Calls Tryz.prog 13 #[.agg (rpA r.st (.slice xa na ca) (.slice xb nb cb) (.slice xc nc cc)), .agg (rpA r.st (.slice xd na cd) (.slice xe nb ce) (.slice xf nc cf))] w fun e w' => e = .returned (.bool true) ∧ Below w.heap.size w w' := by
  obtain ⟨st, hst⟩ : ∃ s, r.st = s := ⟨_, rfl⟩
  rw [hst]
  clear hst
  have b1 := below_alloc w (.cells (rpA st (.slice xa na ca) (.slice xb nb cb) (.slice xc nc cc)) 32)
  have b2 := below_alloc (w.alloc (.cells (rpA st (.slice xa na ca) (.slice xb nb cb) (.slice xc nc cc)) 32)) (.cells (rpA st (.slice xd na cd) (.slice xe nb ce) (.slice xf nc cf)) 32)
  have r1 := (RowC.new w (rpA st (.slice xa na ca) (.slice xb nb cb) (.slice xc nc cc)) 32).kept b2
  have r2 := RowC.new (w.alloc (.cells (rpA st (.slice xa na ca) (.slice xb nb cb) (.slice xc nc cc)) 32)) (rpA st (.slice xd na cd) (.slice xe nb ce) (.slice xf nc cf)) 32
  rw [World.size_alloc] at r2
  have b12 := b1.trans (b2.mono b1.size)
  obtain ⟨z1, hz1⟩ : ∃ z, w.heap.size = z := ⟨_, rfl⟩
  obtain ⟨z2, hz2⟩ : ∃ z, z1 + 1 = z := ⟨_, rfl⟩
  rw [hz1] at r1 r2
  rw [hz2] at r2
  have k1 := h1.kept b12
  have k2 := h2.kept b12
  go_enter Tryz.func13, Tryz.ntmps13
  go_upto_region 1 with fail
  have HB : Hid (Below w.heap.size w ((w.alloc (.cells (rpA st (.slice xa na ca) (.slice xb nb cb) (.slice xc nc cc)) 32)).alloc (.cells (rpA st (.slice xd na cd) (.slice xe nb ce) (.slice xf nc cf)) 32))) := b12
  generalize (w.alloc (.cells (rpA st (.slice xa na ca) (.slice xb nb cb) (.slice xc nc cc)) 32)).alloc (.cells (rpA st (.slice xd na cd) (.slice xe nb ce) (.slice xf nc cf)) 32) = W at r1 r2 k1 k2 HB ⊢
  clear b12 b1 b2 h1 h2 hz1 hz2
  have p0 : W.cell? ⟨z1, 0, none⟩ = some (.int .i64 st) := by rw [r1.cell]; rfl
  have p1 : W.cell? ⟨z1, 1, none⟩ = some (.slice xa na ca) := by rw [r1.cell]; rfl
  have p2 : W.cell? ⟨z1, 2, none⟩ = some (.slice xb nb cb) := by rw [r1.cell]; rfl
  have p3 : W.cell? ⟨z1, 3, none⟩ = some (.slice xc nc cc) := by rw [r1.cell]; rfl
  have q0 : W.cell? ⟨z2, 0, none⟩ = some (.int .i64 st) := by rw [r2.cell]; rfl
  have q1 : W.cell? ⟨z2, 1, none⟩ = some (.slice xd na cd) := by rw [r2.cell]; rfl
  have q2 : W.cell? ⟨z2, 2, none⟩ = some (.slice xe nb ce) := by rw [r2.cell]; rfl
  have q3 : W.cell? ⟨z2, 3, none⟩ = some (.slice xf nc cf) := by rw [r2.cell]; rfl
  have hS := same22 W xa ca xd cd na r.fs k1.nf k1.f k2.f s1
  have K1 : Hid _ := k1
  have K2 : Hid _ := k2
  clear r1 r2 k1 k2
  go_wp2_with fail
  refine hS.mono ?_
  rintro e w1 ⟨rfl, c1⟩
  replace p2 := cell_later c1 p2
  replace p3 := cell_later c1 p3
  replace q2 := cell_later c1 q2
  replace q3 := cell_later c1 q3
  have hD := digests22 w1 xb cb xe ce nb r.ds K1.out.nd (K1.out.d.kept c1) (K2.out.d.kept c1) s2
  clear hS p0 p1 q0 q1
  go_wp2_with fail
  refine hD.mono ?_
  rintro e w2 ⟨rfl, c2⟩
  replace p3 := cell_later c2 p3
  replace q3 := cell_later c2 q3
  have hN := ints22 w2 xc cc xf cf nc r.dr K1.out.ni ((K1.out.i.kept c1).kept c2) ((K2.out.i.kept c1).kept c2) s3
  clear hD p2 q2
  go_wp2_with fail
  refine hN.mono ?_
  rintro e w3 ⟨rfl, c3⟩
  have HB3 : Hid (Below w.heap.size w w3) := ((HB.out.trans (c1.mono HB.out.size)).trans (c2.mono (Nat.le_trans HB.out.size c1.size))).trans (c3.mono (Nat.le_trans (Nat.le_trans HB.out.size c1.size) c2.size))
  clear hN p3 q3
  go_wp2
  go_ret
  exact ⟨rfl, HB3.out⟩
end Go.Proofs.YtklbdhpnbjhgkaaGreatDoor
namespace Go.Proofs.YtklbdhpnbjhgkaaGreatDoor
open Go.RowKit Go.Sort

/-! assaylaw22's taken -/
theorem isK_nil22 {α : Type} (E : EK α) (w : World) : IsK E w (.slice none 0 0) [] := ⟨none, 0, rfl, Nat.le_refl _, fun i d h => by simp at h⟩
theorem isG_nil22 (w : World) : IsG w (.slice none 0 0) [] := .inl ⟨rfl, rfl⟩
theorem rpI_nil (w : World) (s : Int) : RpI w ⟨s, [], [], []⟩ none 0 0 none 0 0 none 0 0 := ⟨isK_nil22 _ _, isK_nil22 _ _, isG_nil22 _, rfl, rfl, rfl⟩
theorem put_len1 : (putM ⟨1, [], [], []⟩).length = 14 := by
  have h : checkM ⟨1, [], [], []⟩ = 0 := by decide
  unfold putM
  rw [if_pos h]
  rfl
theorem check1 : checkM ⟨1, [], [], []⟩ = 0 := by decide
theorem check3 : checkM ⟨3, [], [], []⟩ = 1 := by decide
def badB : List UInt8 := [65, 82, 1, 7, 0, 0, 0, 0, 0, 0]
theorem get_bad : getM badB = .error (3, 1) := by
  have h : rdH badB = .error (3, 1) := by
    unfold rdH badB headB okSt
    simp [lB]
  unfold getM rdR
  rw [h]
theorem sort_known : sortM [(2, 1), (1, 0), (2, 1)] = [(1, 0), (2, 1)] := by decide
theorem cat_known : ((⟨#[102, 105, 110, 100, 105, 110, 103, 58, 32, 97, 116, 32, 51, 58, 32]⟩ : ByteArray) ++ ⟨#[101, 114, 114, 111, 114, 32, 49]⟩).toList = [102, 105, 110, 100, 105, 110, 103, 58, 32, 97, 116, 32, 51, 58, 32, 101, 114, 114, 111, 114, 32, 49] := by
  rw [Lib.toList_data]; rfl
set_option linter.unusedSimpArgs false in
set_option maxRecDepth 100000 in
set_option maxHeartbeats 4000000 in
theorem taken22 (w : World) (hE : ETy w) : Calls Tryz.prog 7 #[] w fun e w' => e = .returned (.bool true) ∧ Below w.heap.size w w' := by
  have h1 := put22 w ⟨1, [], [], []⟩ none 0 0 none 0 0 none 0 0 (rpI_nil w 1)
  have mE := rl_methodError
  go_enter Tryz.func7, Tryz.ntmps7
  go_wp2_with fail
  refine h1.mono ?_
  rintro e w1 ⟨b1, v1, rfl, hO1⟩
  obtain ⟨x1, c1, hv1⟩ := hO1.isB.len
  rw [put_len1] at hv1
  subst hv1
  rw [check1]
  have h2 := put22 w1 ⟨3, [], [], []⟩ none 0 0 none 0 0 none 0 0 (rpI_nil w1 3)
  clear h1 hO1
  go_wp2_with fail
  refine h2.mono ?_
  rintro e w2 ⟨b2, v2, rfl, hO2⟩
  rw [check3]
  have b3 := below_alloc w2 (.cells #[.int .u8 65, .int .u8 82, .int .u8 1, .int .u8 7, .int .u8 0, .int .u8 0, .int .u8 0, .int .u8 0, .int .u8 0, .int .u8 0] 5)
  have hy : IsB (w2.alloc (.cells #[.int .u8 65, .int .u8 82, .int .u8 1, .int .u8 7, .int .u8 0, .int .u8 0, .int .u8 0, .int .u8 0, .int .u8 0, .int .u8 0] 5)) (.slice (some ⟨w2.heap.size, 0, none⟩) 10 10) badB := (show rowB (w2.alloc (.cells #[.int .u8 65, .int .u8 82, .int .u8 1, .int .u8 7, .int .u8 0, .int .u8 0, .int .u8 0, .int .u8 0, .int .u8 0, .int .u8 0] 5)) w2.heap.size badB from heap_alloc_last w2 _).isB 10
  have h3 := get22 _ (some ⟨w2.heap.size, 0, none⟩) 10 10 badB hy rfl (by omega) (by omega) (fun a ha => by cases ha; simp)
  rw [get_bad] at h3
  have B3 : Hid (Below w.heap.size w (w2.alloc (.cells #[.int .u8 65, .int .u8 82, .int .u8 1, .int .u8 7, .int .u8 0, .int .u8 0, .int .u8 0, .int .u8 0, .int .u8 0, .int .u8 0] 5))) := (b1.trans (b2.mono b1.size)).trans (b3.mono (Nat.le_trans b1.size b2.size))
  have HE : Hid (ETy w) := hE
  clear h2 hO2 b1 b2 b3 hy hE
  go_wp2_with fail
  refine h3.mono ?_
  rintro e w3 ⟨b4, q, rfl, hq, hRq⟩
  clear h3
  have b5 := below_alloc w3 (.cells (rpA 0 (.slice none 0 0) (.slice none 0 0) (.slice none 0 0)) 32)
  have st := run_store_rp (w3.alloc (.cells (rpA 0 (.slice none 0 0) (.slice none 0 0) (.slice none 0 0)) 32)) w3.heap.size (rpA 0 (.slice none 0 0) (.slice none 0 0) (.slice none 0 0)) (RowC.new w3 _ _).1 (by rw [(RowC.new w3 _ _).2]; rfl) rfl (rpA_one _ _ _ _ _ _ _ _ _ _)
  have B4 : Hid (Below w.heap.size w (w3.alloc (.cells (rpA 0 (.slice none 0 0) (.slice none 0 0) (.slice none 0 0)) 32))) := (B3.out.trans (b4.mono B3.out.size)).trans (b5.mono (Nat.le_trans B3.out.size b4.size))
  have hR5 := hRq.kept b5
  clear b4 b5 B3 hq hRq
  go_upto_region 5 with fail
  clear st
  generalize w3.alloc (.cells (rpA 0 (.slice none 0 0) (.slice none 0 0) (.slice none 0 0)) 32) = W at B4 hR5 ⊢
  have h5 := fault22 q 3 1 W (HE.out.later B4.out) hR5
  go_wp2_with fail
  refine h5.mono ?_
  rintro e w5 ⟨rfl, b6⟩
  have hR6 := hR5.kept b6
  have B6 : Hid (Below w.heap.size w w5) := B4.out.trans (b6.mono B4.out.size)
  have h6 := error31 q w5 hR6
  clear h5 hR5 b6 B4 hR6
  go_wp2_with fail
  refine h6.mono ?_
  rintro e w6 ⟨rfl, b7⟩
  have B7 : Hid (Below w.heap.size w w6) := B6.out.trans (b7.mono B6.out.size)
  have h7 := errno1 w6
  clear h6 b7 B6
  go_wp2_with fail
  refine h7.mono ?_
  rintro e w7 ⟨rfl, rfl⟩
  clear h7
  have hcat := cat_known
  have h8 := error_nil w7
  have h9 := unwrap_nil w7
  go_wp2_with fail
  refine h8.mono ?_
  rintro e w8 ⟨rfl, rfl⟩
  clear h8
  go_wp2_with fail
  refine h9.mono ?_
  rintro e w9 ⟨rfl, rfl⟩
  clear h9
  have o3 := own_fdLit3 w9 (2, 1) (1, 0) (2, 1)
  have b8 := below_alloc w9 (.cells ((flK fdE [(2, 1), (1, 0), (2, 1)]).toArray) 25)
  have hS := sortF22 (some ⟨w9.heap.size, 0, none⟩) 3 3 _ _ (o3.isK fdE_ok) rfl (by omega)
  rw [sort_known] at hS
  have B8 : Hid (Below w.heap.size w (w9.alloc (.cells ((flK fdE [(2, 1), (1, 0), (2, 1)]).toArray) 25))) := B7.out.trans (b8.mono B7.out.size)
  clear o3 b8 B7
  go_wp2_with fail
  refine hS.mono ?_
  rintro e w10 ⟨v, rfl, hOv, b9⟩
  obtain ⟨x9, c9, rfl⟩ := (hOv.isK fdE_ok).len
  have o2 := own_fdLit2 w10 (1, 0) (2, 1)
  have b10 := below_alloc w10 (.cells ((flK fdE [(1, 0), (2, 1)]).toArray) 25)
  have hQ := same22 _ x9 c9 (some ⟨w10.heap.size, 0, none⟩) 2 2 [(1, 0), (2, 1)] rfl ((hOv.isK fdE_ok).kept b10) (o2.isK fdE_ok) (by omega)
  have B10 : Hid (Below w.heap.size w (w10.alloc (.cells ((flK fdE [(1, 0), (2, 1)]).toArray) 25))) := (B8.out.trans (b9.mono B8.out.size)).trans (b10.mono (Nat.le_trans B8.out.size b9.size))
  clear hS o2 b9 b10 B8 hOv
  go_wp2_with fail
  refine hQ.mono ?_
  rintro e w11 ⟨rfl, b11⟩
  have B11 : Hid (Below w.heap.size w w11) := B10.out.trans (b11.mono B10.out.size)
  clear hQ b11 B10
  go_wp2
  go_ret
  exact ⟨rfl, B11.out⟩
end Go.Proofs.YtklbdhpnbjhgkaaGreatDoor
