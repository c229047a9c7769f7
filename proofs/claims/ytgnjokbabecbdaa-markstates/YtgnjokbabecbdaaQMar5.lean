import Derived.Test.YtgnjokbabecbdaaQMar4
import Derived.Test.YtgnjokbabecbdaaQKbt
namespace Go.Proofs.Ytgnjokbabecbdaa
open Go.RowKit

/-! MarkPuts -/
theorem atW_of {l : List Wr} {i : Nat} {x : Wr} (h : l[i]? = some x) : atW l i = x.1 := by
  unfold atW; rw [List.getD_eq_getElem?_getD, h]; rfl
theorem wrb_iff (l : List Wr) : WrB l ↔ ∀ (i : Nat) (x : Wr), l[i]? = some x → i64w x.1 := by
  constructor
  · intro h i x hx
    have := h i (List.getElem?_eq_some_iff.1 hx).1
    rwa [atW_of hx] at this
  · intro h i hi
    have hx : l[i]? = some l[i] := List.getElem?_eq_getElem hi
    rw [atW_of hx]
    exact h i _ hx
theorem wrb_snoc {l : List Wr} {d : Wr} (h : WrB l) (hd : i64w d.1) : WrB (l ++ [d]) := by
  rw [wrb_iff] at h ⊢
  intro i x hx
  by_cases hi : i < l.length
  · rw [List.getElem?_append_left hi] at hx; exact h i x hx
  · rw [List.getElem?_append_right (by omega)] at hx
    obtain rfl : d = x := by
      cases hj : i - l.length with
      | zero => rw [hj] at hx; simpa using hx
      | succ q => rw [hj] at hx; simp at hx
    exact hd
theorem wrb_take {l : List Wr} (h : WrB l) (k : Nat) : WrB (l.take k) := by
  rw [wrb_iff] at h ⊢
  intro i x hx
  rw [List.getElem?_take] at hx
  split at hx
  · exact h i x hx
  · cases hx
theorem wrb_set {l : List Wr} (h : WrB l) (k : Nat) (d : Wr) (hd : i64w d.1) : WrB (l.set k d) := by
  rw [wrb_iff] at h ⊢
  intro i x hx
  rw [List.getElem?_set] at hx
  split at hx
  · split at hx
    · cases hx; exact hd
    · cases hx
  · exact h i x hx
def incW (l : List Wr) : Nat → List Wr
  | 0 => l
  | k + 1 => (incW l k).set k (atW (incW l k) k, upd (dtW (incW l k) k) (k % 64) (dtW (incW l k) k (k % 64) + 1))
@[simp] theorem incW_len (l : List Wr) : ∀ k, (incW l k).length = l.length
  | 0 => rfl
  | k + 1 => by rw [incW, List.length_set, incW_len l k]
theorem incW_b {l : List Wr} (h : WrB l) : ∀ k, k ≤ l.length → WrB (incW l k)
  | 0, _ => h
  | k + 1, hk => by
    have h1 := incW_b h k (by omega)
    exact wrb_set h1 k _ (h1 k (by rw [incW_len]; omega))
theorem wrE_set (x : Wr) (j : Nat) (b : UInt8) (hj : j < 64) : (wrE.enc x).set (1 + j) (.int .u8 (b.toNat : Int)) = wrE.enc (x.1, upd x.2 j b) := by
  rw [wrE_enc, wrE_enc, wrA_list, wrA_list, Nat.add_comm, List.set_cons_succ]
  rw [← secA_set x.2 j b hj, Array.toList_setIfInBounds]
theorem copyE {α : Type} {E : EK α} (O : E.Ok) (w : World) (x : Option Addr) (n c : Nat) (ds : List α) (ty : TypeId) (hn : ds.length = n) (h : IsK E w (.slice x n c) ds) (hl : n * E.bytes ≤ 140737488355328) (h63 : n ≤ maxLen) :
    ∃ y c1 w1, (Builtin.append_ #[E.S, E.S] ty #[.slice (some ⟨w.heap.size, 0, none⟩) 0 0, .slice x n c]).run Try.prog (w.alloc (.cells #[] E.T)) = .ok (.slice y n c1) w1 ∧ OwnK E w1 w.heap.size (.slice y n c1) ds ∧ Below w.heap.size w w1 := by
  have hb := below_alloc w (.cells #[] E.T)
  have hO := OwnK.lit0 E w
  have hI := h.kept hb
  subst hn
  obtain ⟨y, c1, w1, hr, hO1, hB1⟩ := run_copyK O (w.alloc (.cells #[] E.T)) _ x c ds w.heap.size ty hO (by simp) hI hl h63
  exact ⟨y, c1, w1, hr, hO1, hb.trans hB1⟩
theorem u8_inc (b : UInt8) : IntKind.u8.wrap ((b.toNat : Int) + 1) = ((b + 1).toNat : Int) := by
  rw [IntKind.wrap_u8, UInt8.toNat_add]
  simp
set_option linter.unusedSimpArgs false in
set_option maxRecDepth 100000 in
set_option maxHeartbeats 4000000 in
theorem lawMarkPuts_any (hP : MPutOk) (hS : MStOk) (l m : List Wr) (xl xm : Option Addr) (L M cl cm : Nat) (n : Int) (w : World) (hL : l.length = L) (hM : m.length = M) (hL9 : L ≤ 1954687338211) (hM9 : M ≤ 1954687338211)
    (hl : IsK wrE w (.slice xl L cl) l) (hm : IsK wrE w (.slice xm M cm) m) (hlB : WrB l) (hmB : WrB m) (hn : i64w n) :
    Calls Try.prog 4 #[.slice xl L cl, .slice xm M cm, .int .i64 n] w fun r w' => r = .returned (.bool true) ∧ Below w.heap.size w w' := by
  have ht := taken9_any hP hS w
  have r1 := fun x c w hi => rPut9_any l x L c n w hL (by omega) hi hlB hn.1 hn.2
  have r2 := fun x c w hi => rPut9_any m x M c n w hM (by omega) hi hmB hn.1 hn.2
  have p1 := fun x c w hi => hP l x L c n w hL (by omega) hi hlB hn
  have p2 := fun x c w hi => hP m x M c n w hM (by omega) hi hmB hn
  generalize mPutS l n = A at r1 p1
  generalize mPutE l n = E1 at r1 p1
  generalize mPutS m n = D at r2 p2
  generalize mPutE m n = E2 at r2 p2
  have hAA := secEq_refl9 A
  have hDD := secEq_refl9 D
  go_enter Try.func4, Try.ntmps4
  go_wp2_with fail
  go_at_call 6
  refine ht.mono ?_
  rintro r w1 ⟨rfl, hB⟩
  clear ht
  go_upto_region 3 with fail
  go_wp2_with fail
  go_at_call 11
  refine (lent9_any xl L cl l w1 hL (hl.kept hB) (by omega)).mono ?_
  rintro r w2 ⟨g, c', rfl, hO, hb⟩
  replace hO := OwnK.le hO hB.size
  replace hB := hB.trans (hb.mono hB.size)
  clear hb
  go_upto_region 4 with fail
  go_wp2_with fail
  go_at_call 12
  refine (r1 _ _ _ (hl.kept hB)).mono ?_
  rintro r w3 ⟨rfl, hb⟩
  have h8 := ScR.new w3 A 28
  replace hO := (OwnK.keep hO hb).keep (below_alloc w3 (.cells (secA A) 28))
  replace hB := (hB.trans (hb.mono hB.size))
  replace hB := hB.alloc hB.size (.cells (secA A) 28)
  clear hb
  go_upto_region 5 with fail
  generalize w3.alloc (.cells (secA A) 28) = X3 at h8 hO hB ⊢
  generalize w3.heap.size = g8 at h8 ⊢
  go_wp2_with fail
  go_at_call 12
  refine (r2 _ _ _ (hm.kept hB)).mono ?_
  rintro r w4 ⟨rfl, hb⟩
  have h10 := ScR.new w4 D 28
  replace h8 := (h8.kept hb).kept (below_alloc w4 (.cells (secA D) 28))
  replace hO := (OwnK.keep hO hb).keep (below_alloc w4 (.cells (secA D) 28))
  replace hB := (hB.trans (hb.mono hB.size))
  replace hB := hB.alloc hB.size (.cells (secA D) 28)
  clear hb
  go_upto_region 6 with fail
  generalize w4.alloc (.cells (secA D) 28) = X4 at h8 h10 hO hB ⊢
  generalize w4.heap.size = g10 at h10 ⊢
  go_wp2_with fail
  go_at_call 7
  refine (p1 _ _ _ (lentIs wrE_ok hO hL)).mono ?_
  rintro r w5 ⟨rfl, hb⟩
  have h12 := ScR.new w5 A 28
  replace h8 := (h8.kept hb).kept (below_alloc w5 (.cells (secA A) 28))
  replace h10 := (h10.kept hb).kept (below_alloc w5 (.cells (secA A) 28))
  replace hO := (OwnK.keep hO hb).keep (below_alloc w5 (.cells (secA A) 28))
  replace hB := (hB.trans (hb.mono hB.size))
  replace hB := hB.alloc hB.size (.cells (secA A) 28)
  clear hb
  go_upto_region 7 with fail
  generalize w5.alloc (.cells (secA A) 28) = X5 at h8 h10 h12 hO hB ⊢
  generalize w5.heap.size = g12 at h12 ⊢
  go_wp2_with fail
  go_at_call 11
  refine (lent9_any xm M cm m _ hM (hm.kept hB) (by omega)).mono ?_
  rintro r w6 ⟨gm, cm', rfl, hOm, hb⟩
  replace h8 := h8.kept hb
  replace h10 := h10.kept hb
  replace h12 := h12.kept hb
  replace hO := OwnK.keep hO hb
  replace hB := hB.trans (hb.mono hB.size)
  clear hb
  go_wp2_with fail
  go_at_call 7
  refine (p2 _ _ _ (lentIs wrE_ok hOm hM)).mono ?_
  rintro r w7 ⟨rfl, hb⟩
  clear hOm
  have h14 := ScR.new w7 D 28
  replace h8 := (h8.kept hb).kept (below_alloc w7 (.cells (secA D) 28))
  replace h10 := (h10.kept hb).kept (below_alloc w7 (.cells (secA D) 28))
  replace h12 := (h12.kept hb).kept (below_alloc w7 (.cells (secA D) 28))
  replace hO := (OwnK.keep hO hb).keep (below_alloc w7 (.cells (secA D) 28))
  replace hB := (hB.trans (hb.mono hB.size))
  replace hB := hB.alloc hB.size (.cells (secA D) 28)
  clear hb
  go_upto_region 8 with fail
  generalize w7.alloc (.cells (secA D) 28) = X7 at h8 h10 h12 h14 hO hB ⊢
  generalize w7.heap.size = g14 at h14 ⊢
  go_wp2_with fail
  go_at_call 7
  refine (p1 _ _ _ (lentIs wrE_ok hO hL)).mono ?_
  rintro r w8 ⟨rfl, hb⟩
  have h16 := ScR.new w8 A 28
  replace h8 := (h8.kept hb).kept (below_alloc w8 (.cells (secA A) 28))
  replace h10 := (h10.kept hb).kept (below_alloc w8 (.cells (secA A) 28))
  replace h12 := (h12.kept hb).kept (below_alloc w8 (.cells (secA A) 28))
  replace h14 := (h14.kept hb).kept (below_alloc w8 (.cells (secA A) 28))
  replace hO := (OwnK.keep hO hb).keep (below_alloc w8 (.cells (secA A) 28))
  replace hB := (hB.trans (hb.mono hB.size))
  replace hB := hB.alloc hB.size (.cells (secA A) 28)
  clear hb r1 r2 p1 p2
  go_upto_region 9 with fail
  generalize w8.alloc (.cells (secA A) 28) = X8 at h8 h10 h12 h14 h16 hO hB ⊢
  generalize w8.heap.size = g16 at h16 ⊢
  have hs := sameW9_any (some ⟨g, 0, none⟩) xl c' cl L L l l X8 hL hL (lentIs wrE_ok hO hL) (hl.kept hB) (by omega)
  rw [decide_eq_true rfl] at hs
  obtain ⟨e8, k8⟩ := h8
  obtain ⟨e10, k10⟩ := h10
  obtain ⟨e12, k12⟩ := h12
  obtain ⟨e14, k14⟩ := h14
  obtain ⟨e16, k16⟩ := h16
  go_wp2_with fail
  go_at_call 9
  refine hs.mono ?_
  rintro r w9 ⟨rfl, hb⟩
  replace hO := OwnK.keep hO hb
  replace hB := hB.trans (hb.mono hB.size)
  clear hb hs e8 k8 e10 k10 e12 k12 e14 k14 e16 k16
  have hcap : L + 1 ≤ c' := by obtain ⟨-, -, -, -, hle, -⟩ := hO.heap; omega
  have hcap' : ((L : Int) + 1) ≤ (c' : Int) := by omega
  have hw1 : IntKind.i64.wrap ((L : Int) + 1) = ((L + 1 : Nat) : Int) := by rw [IntKind.wrap_i64]; omega
  have cL : w9.cell? ⟨g, L * 65, none⟩ = some (.int .i64 777) := (wr_at (OwnK.range wrE_ok hO L (777, secZ) (by rw [List.getElem?_append_right (by omega), hL]; simp))).1
  have hLL : (L : Int) < ((L + 1 : Nat) : Int) := by omega
  have hLL2 : L < L + 1 := by omega
  have hl' : (l ++ [(777, secZ)]).length = L + 1 := by simp [hL]
  have hlB' : WrB (l ++ [(777, secZ)]) := wrb_snoc hlB ⟨by show (-9223372036854775808 : Int) ≤ 777; omega, by show (777 : Int) ≤ 9223372036854775807; omega⟩
  generalize l ++ [(777, secZ)] = l2 at hO hl' hlB'
  have HO : Hid _ := hO
  have HB : Hid _ := hB
  clear hO hB
  go_upto_region 11 with fail
  clear cL hcap hcap' hw1 hLL hLL2
  go_wp2_with fail
  go_loopw [18] (fun iv wr => ∃ k : Nat, k ≤ L ∧ iv = .int .i64 k ∧ OwnK wrE wr w.heap.size (.slice (some ⟨g, 0, none⟩) (L + 1) c') (incW l2 k) ∧ Below w.heap.size w wr) (fun iv _ => L - (intOf iv).toNat)
  case atStart => exact ⟨0, by omega, rfl, HO.out, HB.out⟩
  case round =>
    clear HO HB
    obtain ⟨k, hk, rfl, hO, hB⟩ := hrel
    by_cases hlt : k < L
    · have hlt' : (k : Int) < (L : Int) := by omega
      have hge := OwnK.ge hO
      have hd : (incW l2 k)[k]? = some (atW (incW l2 k) k, dtW (incW l2 k) k) := by
        unfold atW dtW
        rw [List.getD_eq_getElem?_getD, List.getElem?_eq_getElem (by rw [incW_len]; omega)]; rfl
      have cc : wr.cell? ⟨g, k * 65 + 1 + k % 64, none⟩ = some (.int .u8 ((dtW (incW l2 k) k (k % 64)).toNat : Int)) := (wr_at (OwnK.range wrE_ok hO k _ hd)).2 (k % 64) (by omega)
      have hu := u8_inc (dtW (incW l2 k) k (k % 64))
      obtain ⟨b, hb⟩ : ∃ b, dtW (incW l2 k) k (k % 64) = b := ⟨_, rfl⟩
      rw [hb] at cc hu
      obtain ⟨q, hq⟩ : ∃ q, k % 64 = q := ⟨_, rfl⟩
      have hq64 : q < 64 := by omega
      have hrem : (k : Int) % 64 = (q : Int) := by omega
      rw [hq] at cc
      have hI : incW l2 (k + 1) = (incW l2 k).set k (atW (incW l2 k) k, upd (dtW (incW l2 k) k) q (b + 1)) := by rw [incW, hb, hq]
      have HI : Hid _ := hI
      have F1 : Hid (Int.tmod (k : Int) 64 = (q : Int)) := by show _ = _; rw [Int.tmod_eq_emod_of_nonneg (by omega)]; exact hrem
      have F4 : Hid (IntKind.u8.wrap ((b.toNat : Int) + 1) = ((b + 1).toNat : Int)) := hu
      have FK : Hid ((k : Int) < (L : Int)) := hlt'
      have FJ : Hid ((0 : Int) ≤ (q : Int) ∧ (q : Int) < 64) := by show _ ∧ _; omega
      have HO : Hid _ := hO
      have HB : Hid _ := hB
      have HD : Hid _ := hd
      go_upto_region 14 with fail
      clear hO hB hd hI hu hrem hb hlt'
      refine wp_reliesT [Fx (.slice (some ⟨g, 0, none⟩) L c'), Fx (.int .i64 ((k : Int))), Fx (.int .i64 ((k : Int))), Fx (.int .i64 ((q : Int))), Fx (.pointer (some ⟨g, k * 65, none⟩)), Fx (.pointer (some ⟨g, k * 65 + 1, none⟩)), Fx (.pointer (some ⟨g, k * 65 + 1 + q, none⟩)), Fx (.int .u8 (b.toNat : Int)), Fx (.int .u8 ((b + 1).toNat : Int)), Fx (.pointer (some ⟨g, k * 65, none⟩)), Fx (.pointer (some ⟨g, k * 65 + 1, none⟩)), Fx (.pointer (some ⟨g, k * 65 + 1 + q, none⟩))] (by kernel_rfl) (by kernel_rfl) ?_ ?_ ?_
      · repeat' (first | exact all_nil | apply all_cons)
        all_goals intro v y y' hv hb
        all_goals first | exact Fx_mono _ _ _ _ hv hb
      · refine ⟨?_, ?_, ?_, ?_, ?_, ?_, ?_, ?_, ?_, ?_, ?_, ?_, trivial⟩
        all_goals
          intro ρ x hp ρc ρg ρf ho hd
          have o7 : ρ (.tmp 7) = .slice (some ⟨g, 0, none⟩) L c' := ho 7 rfl
          have o18 : ρ (.tmp 18) = .int .i64 (k : Int) := ho 18 rfl
          clear ho
          have k1 := cell_later hp cc
          simp only [depsR, depR, slotR, Fx, List.getElem?_cons_succ, List.getElem?_cons_zero, Region.binds, forall_const] at hd
          simp only [guardR]
          go_split_ands
        · go_simp
        · go_simp
        · go_simp
        · have hq := F1.out
          go_simp
        · have hq := FK.out
          go_simp
        · go_simp
        · obtain ⟨z1, z2⟩ := FJ.out
          go_simp
        · go_simp
        · have hq := F4.out
          go_simp
        · have hq := FK.out
          go_simp
        · go_simp
        · obtain ⟨z1, z2⟩ := FJ.out
          go_simp
      · intro vs x1 hp hw
        simp only [owed, Fx] at hw
        obtain ⟨e0, e1, e2, e3, e4, e5, e6, e7, e8, e9, e10, e11, -⟩ := hw
        simp only [List.length_cons, List.length_nil, List.take_succ_cons, List.take_zero, List.drop_succ_cons, List.drop_zero, asg, List.cons_append, List.nil_append, e0, e1, e2, e3, e4, e5, e6, e7, e8, e9, e10, e11]
        clear e0 e1 e2 e3 e4 e5 e6 e7 e8 e9 e10 e11
        have hO1 := OwnK.keep HO.out hp
        have hB1 := HB.out.trans (hp.mono (Below.size HB.out))
        have hc1 := cell_later hp cc
        have hf1 := OwnK.frz hO1 (k * 65 + 1 + q)
        have hO2 : OwnK wrE (x1.setCell ⟨g, k * 65 + 1 + q, none⟩ (.int .u8 ((b + 1).toNat : Int))) w.heap.size (.slice (some ⟨g, 0, none⟩) (L + 1) c') (incW l2 (k + 1)) := by
          have := OwnK.cellPut wrE_ok hO1 k (1 + q) _ _ _ HD.out (by show 1 + q < 65; omega) (wrE_set _ q (b + 1) hq64)
          rw [← Nat.add_assoc] at this
          rw [HI.out]
          exact this
        have hB2 := hB1.setCell (p := ⟨g, k * 65 + 1 + q, none⟩) hge (.int .u8 ((b + 1).toNat : Int))
        have H2 : Hid _ := hO2
        have HB2 : Hid _ := hB2
        clear hO1 hB1 hp hO2 hB2 HO HB HD HI F1 F4 FK FJ cc
        go_wp2_with fail
        go_roundw
        case rel => exact ⟨k + 1, by omega, by go_num, H2.out, HB2.out⟩
        case measure => simp [intOf]; omega
    · obtain rfl : k = L := by omega
      have hlt' : ¬ (k : Int) < (k : Int) := by omega
      have hl3 : ((incW l2 k).take k).length = k := by rw [List.length_take, incW_len]; omega
      have hb3 : WrB ((incW l2 k).take k) := wrb_take (incW_b hlB' k (by omega)) k
      have hO3 := OwnK.cut wrE_ok hO k (by omega)
      generalize (incW l2 k).take k = l3 at hl3 hb3 hO3
      clear hO
      obtain ⟨y, c1, w10, hr1, hOy, hBy⟩ := copyE wrE_ok wr (some ⟨g, 0, none⟩) k c' l3 22 hl3 (hO3.isK wrE_ok) (by show k * 72 ≤ _; omega) (by unfold maxLen; omega)
      have hTS : wrE.S = 22 := rfl
      have hTT : wrE.T = 34 := rfl
      rw [hTS, hTT] at hr1
      have r3 := rPut9_any l3 y k c1 n w10 hl3 (by omega) (hOy.isK wrE_ok) hb3 hn.1 hn.2
      have p3 := fun w hi => hP l3 (some ⟨g, 0, none⟩) k c' n w hl3 (by omega) hi hb3 hn
      generalize mPutS l3 n = A3 at r3 p3
      generalize mPutE l3 n = E3 at r3 p3
      have h33 := secEq_refl9 A3
      replace hO3 := OwnK.keep hO3 (hBy.mono (Nat.le_refl _))
      replace hB := hB.trans (hBy.mono hB.size)
      clear hOy hBy
      go_wp2_with (at_builtin; refine wpL_appT 22 rfl _ _ rfl (.slice y k c1) w10 (by exact hr1) ?_)
      go_at_call 12
      refine r3.mono ?_
      rintro r w11 ⟨rfl, hb⟩
      clear r3 hr1
      have h19 := ScR.new w11 A3 28
      replace hO3 := (OwnK.keep hO3 hb).keep (below_alloc w11 (.cells (secA A3) 28))
      replace hB := (hB.trans (hb.mono hB.size))
      replace hB := hB.alloc hB.size (.cells (secA A3) 28)
      clear hb
      go_upto_region 16 with fail
      generalize w11.alloc (.cells (secA A3) 28) = X11 at h19 hO3 hB ⊢
      generalize w11.heap.size = g19 at h19 ⊢
      go_wp2_with fail
      go_at_call 7
      refine (p3 _ (hO3.isK wrE_ok)).mono ?_
      rintro r w12 ⟨rfl, hb⟩
      clear p3 hO3
      have h21 := ScR.new w12 A3 28
      replace h19 := (h19.kept hb).kept (below_alloc w12 (.cells (secA A3) 28))
      replace hB := (hB.trans (hb.mono hB.size))
      replace hB := hB.alloc hB.size (.cells (secA A3) 28)
      clear hb
      go_upto_region 17 with fail
      generalize w12.alloc (.cells (secA A3) 28) = X12 at h19 h21 hB ⊢
      generalize w12.heap.size = g21 at h21 ⊢
      have HB : Hid _ := hB
      clear hB
      obtain ⟨e19, k19⟩ := h19
      obtain ⟨e21, k21⟩ := h21
      go_wp2_with fail
      go_ret
      exact ⟨rfl, HB.out⟩
end Go.Proofs.Ytgnjokbabecbdaa
