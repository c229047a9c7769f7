import Derived.Test.YtalnbddkhojjbaaGreatDoorQManM
import Derived.Test.YtalnbddkhojjbaaGreatDoorQStr
import Derived.Test.YtalnbddkhojjbaaGreatDoorQDig2
import Derived.Test.YtalnbddkhojjbaaGreatDoorQRelt
import Derived.Test.YtalnbddkhojjbaaGreatDoorQApp
namespace Go.Proofs.YtalnbddkhojjbaaGreatDoor
open Go.RowKit

/-! assayref16.digits, list -/
theorem dg_fuel : ∀ (f n : Nat), n < 10 ^ f → 0 < f → digF (f + 1) n = digF f n
  | 0, n => fun _ h => by omega
  | f + 1, n => fun h _ => by
    rw [show digF (f + 1 + 1) n = if n < 10 then [u8 (48 + n)] else digF (f + 1) (n / 10) ++ [u8 (48 + n % 10)] from rfl, show digF (f + 1) n = if n < 10 then [u8 (48 + n)] else digF f (n / 10) ++ [u8 (48 + n % 10)] from rfl]
    by_cases h10 : n < 10
    · rw [if_pos h10, if_pos h10]
    · rw [if_neg h10, if_neg h10]
      cases f with
      | zero => simp at h; omega
      | succ f => rw [dg_fuel (f + 1) (n / 10) (by rw [Nat.pow_succ] at h; omega) (by omega)]
theorem dg_step (n : Nat) (h : n < 10 ^ 19) (h10 : ¬ n < 10) : digF 20 n = digF 20 (n / 10) ++ [u8 (48 + n % 10)] := by
  rw [dg_fuel 19 (n / 10) (by omega) (by omega), show digF 20 n = digF (19 + 1) n from rfl, digF, if_neg h10]
theorem dg_last (n : Nat) (h10 : n < 10) : digF 20 n = [u8 (48 + n)] := by
  rw [show digF 20 n = digF (19 + 1) n from rfl, digF, if_pos h10]
theorem dg_lenF : ∀ (f m : Nat), (digF f m).length ≤ f
  | 0, m => by simp [digF]
  | f + 1, m => by
    rw [digF]
    split
    · simp
    · have := dg_lenF f (m / 10)
      rw [List.length_append]; simp; omega
theorem dg16_u8 {n : Nat} (h : n < 256) : ((u8 n).toNat : Int) = (n : Int) := by
  unfold u8
  rw [UInt8.toNat_ofNat']
  omega
theorem dg16_str (w : World) (r : Nat) (hr : r < 10) : IsB (w.alloc (.cells #[.int .u8 (48 + (r : Int))] 5)) (.slice (some ⟨w.heap.size, 0, none⟩) 1 1) [u8 (48 + r)] := by
  have e8 : ((u8 (48 + r)).toNat : Int) = 48 + (r : Int) := by rw [dg16_u8 (by omega)]; omega
  exact .inr ⟨⟨w.heap.size, 0, none⟩, 1, rfl, fun i hi => by
    have : i = 0 := by simp at hi; omega
    subst this
    rw [addr_add, cell_of_row _ _ _ _ _ _ (heap_alloc_last _ _)]
    simp [e8]⟩
def dgL (r : Nat) : List UInt8 := [u8 (48 + r)]
theorem dg16_cv (w : World) (r : Nat) (hr : r < 10) : ∃ D1 : ByteArray, lS D1 = dgL r ∧ D1.size = 1 ∧ (convert 24 9 (.slice (some ⟨w.heap.size, 0, none⟩) 1 1)).run Tryz.prog (w.alloc (.cells #[.int .u8 (48 + (r : Int))] 5)) = .ok (.string D1) (w.alloc (.cells #[.int .u8 (48 + (r : Int))] 5)) :=
  ⟨⟨(dgL r).toArray⟩, lS_mk _, rfl, (dg16_str w r hr).str⟩
set_option linter.unusedSimpArgs false in
set_option maxRecDepth 100000 in
set_option maxHeartbeats 8000000 in
theorem digits16_any (m : Nat) (w : World) (hm : m ≤ 9223372036854775807) : Calls Tryz.prog 43 #[.int .i64 (m : Int)] w fun e w' => (∃ S, e = .returned (.string S) ∧ lS S = digN (m : Int)) ∧ Below w.heap.size w w' := by
  have hD : digN (m : Int) = digF 20 m := by unfold digN; rw [Int.toNat_natCast]
  rw [hD]
  obtain ⟨DD, hDD⟩ : ∃ q, digF 20 m = q := ⟨_, rfl⟩
  have HDD : Hid (digF 20 m = DD) := hDD
  have HL : Hid (DD.length ≤ 20) := by show _ ≤ _; rw [← hDD]; exact dg_lenF 20 m
  rw [hDD]
  clear hD hDD
  go_enter Tryz.func43, Tryz.ntmps43
  go_wp2
  go_loopw [0, 3] (fun nv sv wr => ∃ (q : Nat) (S : ByteArray), q ≤ m ∧ nv = .int .i64 (q : Int) ∧ sv = .string S ∧ digF 20 q ++ lS S = DD ∧ Below w.heap.size w wr) (fun nv _ _ => (intOf nv).toNat)
  case atStart => exact ⟨m, ⟨#[]⟩, Nat.le_refl _, rfl, rfl, by rw [HDD.out]; simp [lS], Below.refl _ _⟩
  case round =>
    obtain ⟨q, S, hq, rfl, rfl, hS, hB⟩ := hrel
    have hSl : S.size ≤ 20 := by have h1 := congrArg List.length hS; rw [List.length_append, lS_len] at h1; have := HL.out; omega
    by_cases h10 : q < 10
    · have i1 : ¬ (9 : Int) < (q : Int) := by omega
      have w1 : IntKind.i64.wrap (48 + (q : Int)) = 48 + (q : Int) := by rw [IntKind.wrap_i64]; omega
      have w2 : IntKind.u8.wrap (48 + (q : Int)) = 48 + (q : Int) := by rw [IntKind.wrap_u8]; omega
      obtain ⟨D1, hD1, hz1, hcv⟩ := dg16_cv wr q h10
      have HD1 : Hid (lS D1 = dgL q) := hD1
      have hs8 : ¬ 9223372036854775807 < 1 + S.size := by omega
      have HP : Hid (lS (D1 ++ S) = DD) := by show _ = _; rw [lS_app, HD1.out, ← hS, dg_last q h10]; rfl
      have bA : Below w.heap.size w (wr.alloc (.cells #[.int .u8 (48 + (q : Int))] 5)) := hB.trans ((below_alloc wr _).mono hB.size)
      clear hD1 hS hSl h10
      go_wp2
      go_ret
      exact ⟨⟨_, rfl, HP.out⟩, bA⟩
    · have i1 : (9 : Int) < (q : Int) := by omega
      obtain ⟨t, ht⟩ : ∃ t, q / 10 = t := ⟨_, rfl⟩
      obtain ⟨r, hr⟩ : ∃ r, q % 10 = r := ⟨_, rfl⟩
      have hr10 : r < 10 := by omega
      have t1 : (q : Int).tdiv 10 = (t : Int) := by rw [Int.tdiv_eq_ediv_of_nonneg (by omega)]; omega
      have t2 : (q : Int).tmod 10 = (r : Int) := by rw [Int.tmod_eq_emod_of_nonneg (by omega)]; omega
      have w0 : IntKind.i64.wrap (t : Int) = (t : Int) := by rw [IntKind.wrap_i64]; omega
      have w3 : IntKind.i64.wrap (r : Int) = (r : Int) := by rw [IntKind.wrap_i64]; omega
      have w1 : IntKind.i64.wrap (48 + (r : Int)) = 48 + (r : Int) := by rw [IntKind.wrap_i64]; omega
      have w2 : IntKind.u8.wrap (48 + (r : Int)) = 48 + (r : Int) := by rw [IntKind.wrap_u8]; omega
      obtain ⟨D1, hD1, hz1, hcv⟩ := dg16_cv wr r hr10
      have HD1 : Hid (lS D1 = dgL r) := hD1
      have hs8 : ¬ 9223372036854775807 < 1 + S.size := by omega
      have HP : Hid (digF 20 t ++ lS (D1 ++ S) = DD) := by show _ = _; rw [lS_app, HD1.out, ← hS, dg_step q (by omega) h10, ht, hr, List.append_assoc]; rfl
      have HT : Hid (t ≤ m ∧ t < q) := ⟨by omega, by omega⟩
      have bA : Below w.heap.size w (wr.alloc (.cells #[.int .u8 (48 + (r : Int))] 5)) := hB.trans ((below_alloc wr _).mono hB.size)
      clear hD1 hS hSl h10 ht hr hq
      go_wp2
      go_roundw
      case rel => exact ⟨t, D1 ++ S, HT.out.1, rfl, rfl, HP.out, bA⟩
      case measure => have := HT.out.2; simp [intOf]; omega
theorem digits16_is (m : Nat) (w : World) (hm : m ≤ 9223372036854775807) : Calls Tryz.prog 43 #[.int .i64 (m : Int)] w fun e w' => e = .returned (.string ⟨(digN (m : Int)).toArray⟩) ∧ Below w.heap.size w w' :=
  (digits16_any m w hm).mono fun e w' ⟨⟨S, he, hS⟩, hb⟩ => ⟨by rw [he, lS_inj (hS.trans (lS_mk _).symm)], hb⟩
theorem digN_len (z : Int) : (digN z).length ≤ 20 := dg_lenF 20 _
theorem dcT_len (d : Dc) : (dcT d).length ≤ 112 := by
  unfold dcT
  have := digN_len d.size
  have := textL_len d.key
  simp only [List.length_append, List.length_cons, List.length_nil]
  omega
theorem dcsT_len : ∀ (l : List Dc) (b : Bool), (dcsT l b).length ≤ 113 * l.length
  | [], b => by simp [dcsT]
  | d :: r, b => by
    have := dcsT_len r false
    have := dcT_len d
    rw [dcsT]
    cases b <;> simp only [List.length_append, List.length_cons, List.length_nil, cond_true, cond_false] <;> omega
theorem dcsT_take (l : List Dc) (i : Nat) (d : Dc) (h : l[i]? = some d) : dcsT (l.take (i + 1)) true = (dcsT (l.take i) true ++ (bif i == 0 then [] else [44])) ++ dcT d := by
  rw [List.take_add_one, h, Option.toList_some, dcsT_snoc]
  cases i with
  | zero => simp [dcsT]
  | succ i =>
    have hl := (List.getElem?_eq_some_iff.1 h).1
    cases l with
    | nil => simp at hl
    | cons a r => simp
set_option linter.unusedSimpArgs false in
set_option maxRecDepth 100000 in
set_option maxHeartbeats 8000000 in
theorem list16_any (l : List Dc) (x : Option Addr) (n c : Nat) (w : World) (hn : l.length = n) (h : IsK dcE w (.slice x n c) l) (hok : ∀ d ∈ l, dcOk d = true) (hle : n ≤ 32) : Calls Tryz.prog 21 #[.slice x n c] w fun e w' => e = .returned (.string ⟨(dcsT l true).toArray⟩) ∧ Below w.heap.size w w' := by
  have HH : Hid (l.length = n ∧ IsK dcE w (.slice x n c) l ∧ ∀ d ∈ l, dcOk d = true) := ⟨hn, h, hok⟩
  obtain ⟨RR, hRR⟩ : ∃ q : ByteArray, ⟨(dcsT l true).toArray⟩ = q := ⟨_, rfl⟩
  have HRR : Hid (lS RR = dcsT l true) := by show _ = _; rw [← hRR]; exact lS_mk _
  rw [hRR]
  clear h hok hRR hn
  go_enter Tryz.func21, Tryz.ntmps21
  go_wp2
  go_loopw [3, 4] (fun sv iv wr => ∃ (i : Nat) (S : ByteArray), i ≤ n ∧ sv = .string S ∧ iv = .int .i64 (i : Int) ∧ lS S = dcsT (l.take i) true ∧ Below w.heap.size w wr) (fun _ iv _ => n - (intOf iv).toNat)
  case atStart => exact ⟨0, ⟨#[]⟩, by omega, rfl, rfl, rfl, Below.refl _ _⟩
  case round =>
    obtain ⟨i, S, hi, rfl, rfl, hS, hB⟩ := hrel
    by_cases hlt : i < n
    · have i0 : (0 : Int) ≤ (i : Int) := by omega
      have i1 : (i : Int) < (n : Int) := by omega
      obtain ⟨d, hd⟩ : ∃ d, l[i]? = some d := ⟨_, List.getElem?_eq_getElem (by have := HH.out.1; omega)⟩
      obtain ⟨g, o, rfl, hg, -, -, hr1, hr2, cz⟩ := dcCells (HH.out.2.1.kept hB) i d hd
      have hdk := HH.out.2.2 d (List.mem_of_getElem? hd)
      simp only [dcOk, Bool.and_eq_true, decide_eq_true_eq] at hdk
      obtain ⟨Z9, hZ9⟩ : ∃ q : Nat, d.size = (q : Int) := ⟨d.size.toNat, by omega⟩
      obtain ⟨TX, hTX⟩ : ∃ q : ByteArray, ⟨(textL d.key).toArray⟩ = q := ⟨_, rfl⟩
      obtain ⟨DS, hDS⟩ : ∃ q : ByteArray, ⟨(digN d.size).toArray⟩ = q := ⟨_, rfl⟩
      have HLX : Hid (lS TX = textL d.key ∧ lS DS = digN d.size) := ⟨by rw [← hTX]; exact lS_mk _, by rw [← hDS]; exact lS_mk _⟩
      obtain ⟨K9, hK9⟩ : ∃ q, d.key = q := ⟨_, rfl⟩
      have HTX : Hid (∀ x, Calls Tryz.prog 42 #[.agg (dg_secA K9)] x fun e w' => e = .returned (.string TX) ∧ Below x.heap.size x w') := fun x => by
        have h9 := refText4_any d.key x
        rw [hTX, hK9] at h9; exact h9
      have HDG : Hid (∀ x, Calls Tryz.prog 43 #[.int .i64 (Z9 : Int)] x fun e w' => e = .returned (.string DS) ∧ Below x.heap.size x w') := fun x => by
        have h9 := digits16_is Z9 x (by omega)
        rw [← hZ9, hDS, hZ9] at h9; exact h9
      have HRG : Hid (∀ x, Below wr.heap.size wr x → rgOk x g (o + i * 33) 32 = true ∧ rg x g (o + i * 33) 32 = dg_secA K9) := fun x hb => by
        obtain ⟨e1, e2⟩ := rg_later hb hg (o + i * 33) 32
        exact ⟨by rw [e1]; exact hr1, by rw [e2, hr2, hK9]⟩
      have FK : Hid ((0 : Int) ≤ (i : Int) ∧ (i : Int) < (n : Int)) := ⟨i0, i1⟩
      rw [hZ9] at cz
      have hd9 := hd
      clear hr1 hr2 hTX hDS hdk
      by_cases h0 : i = 0
      · have i2 : ¬ (0 : Int) < (i : Int) := by omega
        obtain ⟨T0, hT0⟩ : ∃ q, S = q := ⟨_, rfl⟩
        have hl0 : lS T0 = dcsT (l.take i) true ++ (bif i == 0 then [] else [44]) := by rw [← hT0, hS, h0]; simp
        rw [hT0]
        clear hT0 hS hZ9 hK9 h0
        go_upto_region 7 with fail
        obtain ⟨T1, hT1⟩ : ∃ q, T0 ++ (⟨#[123, 34, 100, 105, 103, 101, 115, 116, 34, 58, 34]⟩ : ByteArray) = q := ⟨_, rfl⟩
        obtain ⟨T2, hT2⟩ : ∃ q, T1 ++ TX = q := ⟨_, rfl⟩
        obtain ⟨T3, hT3⟩ : ∃ q, T2 ++ (⟨#[34, 44, 34, 115, 105, 122, 101, 34, 58]⟩ : ByteArray) = q := ⟨_, rfl⟩
        obtain ⟨T4, hT4⟩ : ∃ q, T3 ++ DS = q := ⟨_, rfl⟩
        obtain ⟨T5, hT5⟩ : ∃ q, T4 ++ (⟨#[125]⟩ : ByteArray) = q := ⟨_, rfl⟩
        have l1 : lS T1 = lS T0 ++ [123, 34, 100, 105, 103, 101, 115, 116, 34, 58, 34] := by rw [← hT1, lS_app]; rfl
        have l2 : lS T2 = lS T1 ++ textL d.key := by rw [← hT2, lS_app, HLX.out.1]
        have l3 : lS T3 = lS T2 ++ [34, 44, 34, 115, 105, 122, 101, 34, 58] := by rw [← hT3, lS_app]; rfl
        have l4 : lS T4 = lS T3 ++ digN d.size := by rw [← hT4, lS_app, HLX.out.2]
        have l5 : lS T5 = lS T4 ++ [125] := by rw [← hT5, lS_app]; rfl
        have z0 : T0.size ≤ 4000 := by rw [← lS_len, hl0]; have := dcsT_len (l.take i) true; rw [List.length_take] at this; simp only [List.length_append]; cases (i == 0) <;> simp only [cond_true, cond_false, List.length_cons, List.length_nil] <;> omega
        have zz := textL_len d.key
        have zw := digN_len d.size
        have y1 := congrArg List.length l1
        have y2 := congrArg List.length l2
        have y3 := congrArg List.length l3
        have y4 := congrArg List.length l4
        have y5 := congrArg List.length l5
        simp only [lS_len, List.length_append, List.length_cons, List.length_nil] at y1 y2 y3 y4 y5
        have x1 : TX.size = 71 := by rw [← lS_len, HLX.out.1]; exact zz
        have x2 : DS.size ≤ 20 := by rw [← lS_len, HLX.out.2]; exact zw
        have s1 : ¬ 9223372036854775807 < T0.size + 11 := by omega
        have s2 : ¬ 9223372036854775807 < T1.size + 71 := by omega
        have s3 : ¬ 9223372036854775807 < T2.size + 9 := by omega
        have s4 : ¬ 9223372036854775807 < T3.size + DS.size := by omega
        have s5 : ¬ 9223372036854775807 < T4.size + 1 := by omega
        have HT5 : Hid (lS T5 = dcsT (l.take (i + 1)) true) := by
          show _ = _
          rw [l5, l4, l3, l2, l1, hl0, dcsT_take l i d hd]
          simp [dcT, List.append_assoc]
        clear y1 y2 y3 y4 y5 l1 l2 l3 l4 l5 hl0 z0 zz zw x2 hd
        clear i1
        refine wp_reliesT [Fx (.string T0), Fx (.string T1), Fx (.slice (some ⟨g, o, none⟩) n c), Fx (.int .i64 ((i : Int))), Fx (.pointer (some ⟨g, o + i * 33, none⟩)), Fx (.pointer (some ⟨g, o + i * 33, none⟩)), Fx (.agg (dg_secA K9)), Fx (.string TX), Fx (.string T2), Fx (.string T3), Fx (.slice (some ⟨g, o, none⟩) n c), Fx (.int .i64 ((i : Int))), Fx (.pointer (some ⟨g, o + i * 33, none⟩)), Fx (.pointer (some ⟨g, o + i * 33 + 32, none⟩)), Fx (.int .i64 ((Z9 : Int))), Fx (.string DS), Fx (.string T4), Fx (.string T5)] (by kernel_rfl) (by kernel_rfl) ?_ ?_ ?_
        · repeat' (first | exact all_nil | apply all_cons)
          all_goals intro v y y' hv hb
          all_goals first | exact Fx_mono _ _ _ _ hv hb
        · refine ⟨?_, ?_, ?_, ?_, ?_, ?_, ?_, ?_, ?_, ?_, ?_, ?_, ?_, ?_, ?_, ?_, ?_, ?_, trivial⟩
          all_goals
            intro ρ x hp ρc ρg ρf ho hd
            have o0 : ρ (.tmp 0) = .slice (some ⟨g, o, none⟩) n c := ho 0 rfl
            have o3 : ρ (.tmp 3) = .string T0 := ho 3 rfl
            have o4 : ρ (.tmp 4) = .int .i64 ((i : Int)) := ho 4 rfl
            clear ho
            obtain ⟨k1, k2⟩ := HRG.out x hp
            have k3 := cell_later hp cz
            simp only [depsR, depR, slotR, Fx, List.getElem?_cons_succ, List.getElem?_cons_zero, Region.binds, forall_const] at hd
            simp only [guardR]
            go_split_ands
          · go_simp
          · go_simp
          · go_simp
          · go_simp
          · obtain ⟨z1, z2⟩ := FK.out
            go_simp
          · go_simp
          · go_simp
          · go_simp
            refine (HTX.out x).mono ?_
            rintro e x' ⟨rfl, hb⟩
            exact ⟨_, rfl, rfl, hb⟩
          · go_simp
          · go_simp
          · go_simp
          · go_simp
          · obtain ⟨z1, z2⟩ := FK.out
            go_simp
          · go_simp
          · go_simp
          · go_simp
            refine (HDG.out x).mono ?_
            rintro e x' ⟨rfl, hb⟩
            exact ⟨_, rfl, rfl, hb⟩
          · go_simp
          · go_simp
        · intro vs x9 hp hw
          simp only [owed, Fx] at hw
          obtain ⟨e0, e1, e2, e3, e4, e5, e6, e7, e8, e9, e10, e11, e12, e13, e14, e15, e16, e17, -⟩ := hw
          simp only [List.length_cons, List.length_nil, List.take_succ_cons, List.take_zero, List.drop_succ_cons, List.drop_zero, asg, List.cons_append, List.nil_append, e0, e1, e2, e3, e4, e5, e6, e7, e8, e9, e10, e11, e12, e13, e14, e15, e16, e17]
          clear e0 e1 e2 e3 e4 e5 e6 e7 e8 e9 e10 e11 e12 e13 e14 e15 e16 e17
          have HBB : Hid (Below w.heap.size w x9) := hB.trans (hp.mono hB.size)
          clear hp cz hT1 hT2 hT3 hT4 hT5 s1 s2 s3 s4 s5 x1
          go_wp2
          go_roundw
          case rel => exact ⟨i + 1, T5, by have := FK.out; omega, rfl, by go_num, HT5.out, HBB.out⟩
          case measure => have := FK.out; simp [intOf]; omega
      · have i2 : (0 : Int) < (i : Int) := by omega
        obtain ⟨T0, hT0⟩ : ∃ q, S ++ (⟨#[44]⟩ : ByteArray) = q := ⟨_, rfl⟩
        have hl0 : lS T0 = dcsT (l.take i) true ++ (bif i == 0 then [] else [44]) := by rw [← hT0, lS_app, hS, show (i == 0) = false from beq_eq_false_iff_ne.2 h0]; rfl
        have s0 : ¬ 9223372036854775807 < S.size + 1 := by rw [← lS_len, hS]; have := dcsT_len (l.take i) true; rw [List.length_take] at this; omega
        clear hS hZ9 hK9 h0
        go_upto_region 7 with fail
        clear hT0 s0
        obtain ⟨T1, hT1⟩ : ∃ q, T0 ++ (⟨#[123, 34, 100, 105, 103, 101, 115, 116, 34, 58, 34]⟩ : ByteArray) = q := ⟨_, rfl⟩
        obtain ⟨T2, hT2⟩ : ∃ q, T1 ++ TX = q := ⟨_, rfl⟩
        obtain ⟨T3, hT3⟩ : ∃ q, T2 ++ (⟨#[34, 44, 34, 115, 105, 122, 101, 34, 58]⟩ : ByteArray) = q := ⟨_, rfl⟩
        obtain ⟨T4, hT4⟩ : ∃ q, T3 ++ DS = q := ⟨_, rfl⟩
        obtain ⟨T5, hT5⟩ : ∃ q, T4 ++ (⟨#[125]⟩ : ByteArray) = q := ⟨_, rfl⟩
        have l1 : lS T1 = lS T0 ++ [123, 34, 100, 105, 103, 101, 115, 116, 34, 58, 34] := by rw [← hT1, lS_app]; rfl
        have l2 : lS T2 = lS T1 ++ textL d.key := by rw [← hT2, lS_app, HLX.out.1]
        have l3 : lS T3 = lS T2 ++ [34, 44, 34, 115, 105, 122, 101, 34, 58] := by rw [← hT3, lS_app]; rfl
        have l4 : lS T4 = lS T3 ++ digN d.size := by rw [← hT4, lS_app, HLX.out.2]
        have l5 : lS T5 = lS T4 ++ [125] := by rw [← hT5, lS_app]; rfl
        have z0 : T0.size ≤ 4000 := by rw [← lS_len, hl0]; have := dcsT_len (l.take i) true; rw [List.length_take] at this; simp only [List.length_append]; cases (i == 0) <;> simp only [cond_true, cond_false, List.length_cons, List.length_nil] <;> omega
        have zz := textL_len d.key
        have zw := digN_len d.size
        have y1 := congrArg List.length l1
        have y2 := congrArg List.length l2
        have y3 := congrArg List.length l3
        have y4 := congrArg List.length l4
        have y5 := congrArg List.length l5
        simp only [lS_len, List.length_append, List.length_cons, List.length_nil] at y1 y2 y3 y4 y5
        have x1 : TX.size = 71 := by rw [← lS_len, HLX.out.1]; exact zz
        have x2 : DS.size ≤ 20 := by rw [← lS_len, HLX.out.2]; exact zw
        have s1 : ¬ 9223372036854775807 < T0.size + 11 := by omega
        have s2 : ¬ 9223372036854775807 < T1.size + 71 := by omega
        have s3 : ¬ 9223372036854775807 < T2.size + 9 := by omega
        have s4 : ¬ 9223372036854775807 < T3.size + DS.size := by omega
        have s5 : ¬ 9223372036854775807 < T4.size + 1 := by omega
        have HT5 : Hid (lS T5 = dcsT (l.take (i + 1)) true) := by
          show _ = _
          rw [l5, l4, l3, l2, l1, hl0, dcsT_take l i d hd]
          simp [dcT, List.append_assoc]
        clear y1 y2 y3 y4 y5 l1 l2 l3 l4 l5 hl0 z0 zz zw x2 hd
        clear i1
        refine wp_reliesT [Fx (.string T0), Fx (.string T1), Fx (.slice (some ⟨g, o, none⟩) n c), Fx (.int .i64 ((i : Int))), Fx (.pointer (some ⟨g, o + i * 33, none⟩)), Fx (.pointer (some ⟨g, o + i * 33, none⟩)), Fx (.agg (dg_secA K9)), Fx (.string TX), Fx (.string T2), Fx (.string T3), Fx (.slice (some ⟨g, o, none⟩) n c), Fx (.int .i64 ((i : Int))), Fx (.pointer (some ⟨g, o + i * 33, none⟩)), Fx (.pointer (some ⟨g, o + i * 33 + 32, none⟩)), Fx (.int .i64 ((Z9 : Int))), Fx (.string DS), Fx (.string T4), Fx (.string T5)] (by kernel_rfl) (by kernel_rfl) ?_ ?_ ?_
        · repeat' (first | exact all_nil | apply all_cons)
          all_goals intro v y y' hv hb
          all_goals first | exact Fx_mono _ _ _ _ hv hb
        · refine ⟨?_, ?_, ?_, ?_, ?_, ?_, ?_, ?_, ?_, ?_, ?_, ?_, ?_, ?_, ?_, ?_, ?_, ?_, trivial⟩
          all_goals
            intro ρ x hp ρc ρg ρf ho hd
            have o0 : ρ (.tmp 0) = .slice (some ⟨g, o, none⟩) n c := ho 0 rfl
            have o3 : ρ (.tmp 3) = .string T0 := ho 3 rfl
            have o4 : ρ (.tmp 4) = .int .i64 ((i : Int)) := ho 4 rfl
            clear ho
            obtain ⟨k1, k2⟩ := HRG.out x hp
            have k3 := cell_later hp cz
            simp only [depsR, depR, slotR, Fx, List.getElem?_cons_succ, List.getElem?_cons_zero, Region.binds, forall_const] at hd
            simp only [guardR]
            go_split_ands
          · go_simp
          · go_simp
          · go_simp
          · go_simp
          · obtain ⟨z1, z2⟩ := FK.out
            go_simp
          · go_simp
          · go_simp
          · go_simp
            refine (HTX.out x).mono ?_
            rintro e x' ⟨rfl, hb⟩
            exact ⟨_, rfl, rfl, hb⟩
          · go_simp
          · go_simp
          · go_simp
          · go_simp
          · obtain ⟨z1, z2⟩ := FK.out
            go_simp
          · go_simp
          · go_simp
          · go_simp
            refine (HDG.out x).mono ?_
            rintro e x' ⟨rfl, hb⟩
            exact ⟨_, rfl, rfl, hb⟩
          · go_simp
          · go_simp
        · intro vs x9 hp hw
          simp only [owed, Fx] at hw
          obtain ⟨e0, e1, e2, e3, e4, e5, e6, e7, e8, e9, e10, e11, e12, e13, e14, e15, e16, e17, -⟩ := hw
          simp only [List.length_cons, List.length_nil, List.take_succ_cons, List.take_zero, List.drop_succ_cons, List.drop_zero, asg, List.cons_append, List.nil_append, e0, e1, e2, e3, e4, e5, e6, e7, e8, e9, e10, e11, e12, e13, e14, e15, e16, e17]
          clear e0 e1 e2 e3 e4 e5 e6 e7 e8 e9 e10 e11 e12 e13 e14 e15 e16 e17
          have HBB : Hid (Below w.heap.size w x9) := hB.trans (hp.mono hB.size)
          clear hp cz hT1 hT2 hT3 hT4 hT5 s1 s2 s3 s4 s5 x1
          go_wp2
          go_roundw
          case rel => exact ⟨i + 1, T5, by have := FK.out; omega, rfl, by go_num, HT5.out, HBB.out⟩
          case measure => have := FK.out; simp [intOf]; omega
    · obtain rfl : n = i := by omega
      have i1 : ¬ (n : Int) < (n : Int) := by omega
      obtain rfl : S = RR := lS_inj (by rw [HRR.out, hS, List.take_of_length_le (by rw [HH.out.1]; exact Nat.le_refl _)])
      clear hS
      go_wp2
      go_ret
      exact ⟨rfl, hB⟩
end Go.Proofs.YtalnbddkhojjbaaGreatDoor
namespace Go.Proofs.YtalnbddkhojjbaaGreatDoor
open Go.RowKit

/-! assayref16.Write -/
theorem isK_tk {α : Type} {E : EK α} {w : World} {x : Option Addr} {n c : Nat} {ds : List α} (h : IsK E w (.slice x n c) ds) (k : Nat) (hk : k ≤ n) : IsK E w (.slice x k c) (ds.take k) := by
  obtain ⟨y, e, he, hc, hd⟩ := h
  simp only [Value.slice.injEq] at he
  obtain ⟨rfl, rfl, rfl⟩ := he
  refine ⟨x, c, by rw [List.length_take, Nat.min_eq_left hk], by rw [List.length_take]; omega, fun i d hi => hd i d ?_⟩
  rw [List.getElem?_take] at hi
  split at hi
  · exact hi
  · cases hi
theorem isK_dp {α : Type} {E : EK α} {w : World} {g o n c : Nat} {ds : List α} (h : IsK E w (.slice (some ⟨g, o, none⟩) n c) ds) (k : Nat) (hk : k ≤ n) : IsK E w (.slice (if c = k then some ⟨g, o, none⟩ else some ⟨g, o + k * E.k, none⟩) (n - k) (c - k)) (ds.drop k) := by
  obtain ⟨y, e, he, hc, hd⟩ := h
  simp only [Value.slice.injEq] at he
  obtain ⟨rfl, rfl, rfl⟩ := he
  refine ⟨_, c - k, by rw [List.length_drop], by rw [List.length_drop]; omega, fun i d hi => ?_⟩
  rw [List.getElem?_drop] at hi
  have hlt := (List.getElem?_eq_some_iff.1 hi).1
  rw [if_neg (by omega)]
  obtain ⟨b, p, hb, hl, hr⟩ := hd (k + i) d hi
  cases hb
  exact ⟨g, o + k * E.k, rfl, hl, by rw [Nat.add_assoc, ← Nat.add_mul]; exact hr⟩
set_option linter.unusedSimpArgs false in
set_option maxRecDepth 100000 in
set_option maxHeartbeats 16000000 in
theorem refWrite16_any (k : Int) (l : List Dc) (x : Option Addr) (n c : Nat) (w : World) (hn : l.length = n) (h : IsK dcE w (.slice x n c) l) : Calls Tryz.prog 10 #[.int .i64 k, .slice x n c] w fun e w' => e = .returned (.tuple #[.string ⟨(mwS k l).toArray⟩, .int .i64 (mwE k l)]) ∧ Below w.heap.size w w' := by
  have HH : Hid (l.length = n ∧ IsK dcE w (.slice x n c) l) := ⟨hn, h⟩
  clear h hn
  by_cases h1 : k = 1
  · subst h1
    by_cases hn0 : 1 ≤ n
    · have i9 : ¬ (n : Int) = 0 := by omega
      go_enter Tryz.func10, Tryz.ntmps10
      by_cases hle : n ≤ 32
      · have i32 : ¬ (32 : Int) < (n : Int) := by omega
        go_wp2
        go_loopw [6] (fun iv wr => ∃ i : Nat, i ≤ n ∧ iv = .int .i64 (i : Int) ∧ (∀ d ∈ l.take i, dcOk d = true) ∧ Below w.heap.size w wr) (fun iv _ => n - (intOf iv).toNat)
        case atStart => exact ⟨0, by omega, rfl, fun d h => by simp at h, Below.refl _ _⟩
        case round =>
          clear i32
          obtain ⟨i, hi, rfl, hA, hB⟩ := hrel
          by_cases hlt : i < n
          · have i0 : (0 : Int) ≤ (i : Int) := by omega
            have i1 : (i : Int) < (n : Int) := by omega
            obtain ⟨d, hd⟩ : ∃ d, l[i]? = some d := ⟨_, List.getElem?_eq_getElem (by have := HH.out.1; omega)⟩
            obtain ⟨g, o, rfl, -, -, -, -, -, cz⟩ := dcCells (HH.out.2.kept hB) i d hd
            obtain ⟨z, hz⟩ : ∃ q, d.size = q := ⟨_, rfl⟩
            rw [hz] at cz
            have HD : Hid (l[i]? = some d ∧ d.size = z) := ⟨hd, hz⟩
            have HA : Hid _ := hA
            clear hd hz hA
            have HNO : Hid (dcOk d = false → mwE 1 l = 13 ∧ mwS 1 l = []) := fun h9 => by
              have e9 : mwE 1 l = 13 := by
                unfold mwE
                rw [if_neg (by simp; intro h8; have := HH.out.1; rw [h8] at this; simp at this; omega), if_neg (by have := HH.out.1; omega), if_neg (by rw [List.all_eq_true]; intro h8; have := h8 d (List.mem_of_getElem? HD.out.1); rw [h9] at this; cases this)]
              exact ⟨e9, by unfold mwS; rw [if_neg (by rw [e9]; decide)]⟩
            by_cases hz0 : z < 0
            · go_wp2
              go_ret2
              obtain ⟨e1, e2⟩ := HNO.out (by unfold dcOk; rw [HD.out.2]; simp; omega)
              rw [e1, e2]
              exact ⟨rfl, hB⟩
            · by_cases hz1 : 2147483647 < z
              · go_wp2
                go_ret2
                obtain ⟨e1, e2⟩ := HNO.out (by unfold dcOk; rw [HD.out.2]; simp; omega)
                rw [e1, e2]
                exact ⟨rfl, hB⟩
              · have HA2 : Hid (∀ d ∈ l.take (i + 1), dcOk d = true) := fun d9 h9 => by
                  rw [List.take_add_one, HD.out.1, Option.toList_some] at h9
                  rcases List.mem_append.1 h9 with h9 | h9
                  · exact HA.out d9 h9
                  · rw [List.mem_singleton.1 h9]; unfold dcOk; rw [HD.out.2]; simp; omega
                have HLT : Hid (i < n) := hlt
                go_wp2
                go_roundw
                case rel => exact ⟨i + 1, by have := HLT.out; omega, by go_num, HA2.out, hB⟩
                case measure => have := HLT.out; simp [intOf]; omega
          · obtain rfl : n = i := by omega
            have i1 : ¬ (n : Int) < (n : Int) := by omega
            have HOK : Hid (∀ d ∈ l, dcOk d = true) := fun d hd => hA d (by rw [List.take_of_length_le (by rw [HH.out.1]; exact Nat.le_refl _)]; exact hd)
            clear hA hlt hi
            obtain ⟨d0, hd0⟩ : ∃ d, l[0]? = some d := ⟨_, List.getElem?_eq_getElem (by have := HH.out.1; omega)⟩
            obtain ⟨g, o, rfl, -⟩ := dcCells (HH.out.2.kept hB) 0 d0 hd0
            have hc9 := HH.out.2.cap.2
            have i1 : (1 : Int) ≤ (n : Int) := by omega
            have i2 : (1 : Int) ≤ (c : Int) := by omega
            obtain ⟨YY, hYY⟩ : ∃ q, (if c = 1 then some (⟨g, o, none⟩ : Addr) else some ⟨g, o + 33, none⟩) = q := ⟨_, rfl⟩
            obtain ⟨LT, hLT⟩ : ∃ q : ByteArray, ⟨(dcsT (l.take 1) true).toArray⟩ = q := ⟨_, rfl⟩
            obtain ⟨LR, hLR⟩ : ∃ q : ByteArray, ⟨(dcsT (l.drop 1) true).toArray⟩ = q := ⟨_, rfl⟩
            have lLT : lS LT = dcsT (l.take 1) true := by rw [← hLT]; exact lS_mk _
            have lLR : lS LR = dcsT (l.drop 1) true := by rw [← hLR]; exact lS_mk _
            have HL1 : Hid (∀ x, Below wr.heap.size wr x → Calls Tryz.prog 21 #[.slice (some ⟨g, o, none⟩) 1 c] x fun e w' => e = .returned (.string LT) ∧ Below x.heap.size x w') := fun x hb => by
              have h9 := list16_any (l.take 1) _ 1 c x (by rw [List.length_take]; have := HH.out.1; omega) (isK_tk ((HH.out.2.kept hB).kept hb) 1 hn0) (fun d hd => HOK.out d (List.mem_of_mem_take hd)) (by omega)
              rw [hLT] at h9; exact h9
            have HL2 : Hid (∀ x, Below wr.heap.size wr x → Calls Tryz.prog 21 #[.slice YY (n - 1) (c - 1)] x fun e w' => e = .returned (.string LR) ∧ Below x.heap.size x w') := fun x hb => by
              have h8 := isK_dp ((HH.out.2.kept hB).kept hb) 1 hn0
              rw [show dcE.k = 33 from rfl, Nat.one_mul, hYY] at h8
              have h9 := list16_any (l.drop 1) _ (n - 1) (c - 1) x (by rw [List.length_drop]; have := HH.out.1; omega) h8 (fun d hd => HOK.out d (List.mem_of_mem_drop hd)) (by omega)
              rw [hLR] at h9; exact h9
            obtain ⟨U1, hU1⟩ : ∃ q, (⟨#[123, 34, 115, 99, 104, 101, 109, 97, 86, 101, 114, 115, 105, 111, 110, 34, 58, 50, 44, 34, 99, 111, 110, 102, 105, 103, 34, 58]⟩ : ByteArray) ++ LT = q := ⟨_, rfl⟩
            obtain ⟨U2, hU2⟩ : ∃ q, U1 ++ (⟨#[44, 34, 108, 97, 121, 101, 114, 115, 34, 58, 91]⟩ : ByteArray) = q := ⟨_, rfl⟩
            obtain ⟨U3, hU3⟩ : ∃ q, U2 ++ LR = q := ⟨_, rfl⟩
            obtain ⟨U4, hU4⟩ : ∃ q, U3 ++ (⟨#[93, 125]⟩ : ByteArray) = q := ⟨_, rfl⟩
            have l1 : lS U1 = mHd ++ [34, 99, 111, 110, 102, 105, 103, 34, 58] ++ dcsT (l.take 1) true := by rw [← hU1, lS_app, lLT]; rfl
            have l2 : lS U2 = lS U1 ++ [44, 34, 108, 97, 121, 101, 114, 115, 34, 58, 91] := by rw [← hU2, lS_app]; rfl
            have l3 : lS U3 = lS U2 ++ dcsT (l.drop 1) true := by rw [← hU3, lS_app, lLR]
            have l4 : lS U4 = lS U3 ++ [93, 125] := by rw [← hU4, lS_app]; rfl
            have z1 : LT.size ≤ 4000 := by rw [← lS_len, lLT]; have := dcsT_len (l.take 1) true; rw [List.length_take] at this; omega
            have z2 : LR.size ≤ 4000 := by rw [← lS_len, lLR]; have := dcsT_len (l.drop 1) true; rw [List.length_drop] at this; have := HH.out.1; omega
            have y1 : U1.size ≤ 4100 := by have h9 := congrArg List.length l1; rw [lS_len] at h9; rw [h9, ← lLT]; simp only [List.length_append, lS_len, mHd, List.length_cons, List.length_nil]; omega
            have y2 : U2.size ≤ 4200 := by have h9 := congrArg List.length l2; simp only [List.length_append, lS_len, List.length_cons, List.length_nil] at h9; omega
            have y3 : U3.size ≤ 8200 := by have h9 := congrArg List.length l3; rw [← lLR] at h9; simp only [List.length_append, lS_len] at h9; omega
            have s1 : ¬ 9223372036854775807 < 28 + LT.size := by omega
            have s2 : ¬ 9223372036854775807 < U1.size + 11 := by omega
            have s3 : ¬ 9223372036854775807 < U2.size + LR.size := by omega
            have s4 : ¬ 9223372036854775807 < U3.size + 2 := by omega
            have HE9 : mwE 1 l = 0 := by unfold mwE; rw [if_neg (by simp; intro h9; have := HH.out.1; rw [h9] at this; simp at this; omega), if_neg (by have := HH.out.1; omega), if_pos (List.all_eq_true.2 HOK.out)]
            have HF : Hid (mwE 1 l = 0 ∧ (⟨(mwS 1 l).toArray⟩ : ByteArray) = U4) := ⟨HE9, lS_inj (by rw [lS_mk, l4, l3, l2, l1]; unfold mwS; rw [if_pos HE9]; unfold mwT; rw [if_neg (by decide)])⟩
            clear hLT lLT hLR lLR l1 l2 l3 l4 z1 z2 y1 y2 y3 HE9 hd0
            go_upto_region 12 with fail
            refine wp_relies [Fx (.slice (some ⟨g, o, none⟩) n c), Fx (.slice (some ⟨g, o, none⟩) 1 c), Fx (.string LT), Fx (.string U1), Fx (.string U2), Fx (.slice (some ⟨g, o, none⟩) n c), Fx (.slice YY (n - 1) (c - 1)), Fx (.string LR), Fx (.string U3), Fx (.string U4), Fx (.string U4), Fx (.int .i64 (0))] (by kernel_rfl) (by kernel_rfl) ?_ ?_ ?_
            · repeat' (first | exact all_nil | apply all_cons)
              all_goals intro v y y' hv hb
              all_goals first | exact Fx_mono _ _ _ _ hv hb
            · refine ⟨?_, ?_, ?_, ?_, ?_, ?_, ?_, ?_, ?_, ?_, ?_, ?_, trivial⟩
              all_goals
                intro ρ x hp ρc ρg ρf ho hd
                have o1 : ρ (.tmp 1) = .slice (some ⟨g, o, none⟩) n c := ho 1 rfl
                clear ho
                simp only [depsR, depR, slotR, Fx, List.getElem?_cons_succ, List.getElem?_cons_zero, Region.binds, forall_const] at hd
                simp only [guardR]
                go_split_ands
              · go_simp
              · go_simp
              · go_simp
                refine (HL1.out x hp).mono ?_
                rintro e x' ⟨rfl, hb⟩
                exact ⟨_, rfl, rfl, hb⟩
              · go_simp
              · go_simp
              · go_simp
              · go_simp
              · go_simp
                refine (HL2.out x hp).mono ?_
                rintro e x' ⟨rfl, hb⟩
                exact ⟨_, rfl, rfl, hb⟩
              · go_simp
              · go_simp
              · go_simp
              · go_simp
            · intro vs x9 hp hw
              simp only [owed, Fx] at hw
              obtain ⟨e0, e1, e2, e3, e4, e5, e6, e7, e8, e9, e10, e11, -⟩ := hw
              simp only [List.length_cons, List.length_nil, List.take_succ_cons, List.take_nil, List.drop_succ_cons, List.drop_nil, asg, List.cons_append, List.nil_append, e0, e1, e2, e3, e4, e5, e6, e7, e8, e9, e10, e11]
              clear e0 e1 e2 e3 e4 e5 e6 e7 e8 e9 e10 e11
              have HBB : Hid (Below w.heap.size w x9) := hB.trans (hp.mono hB.size)
              clear hp hB
              go_wp2
              go_ret2
              rw [HF.out.1, HF.out.2]
              exact ⟨rfl, HBB.out⟩
      · have i32 : (32 : Int) < (n : Int) := by omega
        have e9 : mwE 1 l = 2 := by unfold mwE; rw [if_neg (by simp; intro h8; have := HH.out.1; rw [h8] at this; simp at this; omega), if_pos (by have := HH.out.1; omega)]
        have e8 : mwS 1 l = [] := by unfold mwS; rw [if_neg (by rw [e9]; decide)]
        rw [e9, e8]
        clear e9 e8
        go_wp2
        go_ret2
        exact ⟨rfl, Below.refl _ _⟩
    · obtain rfl : n = 0 := by omega
      have e9 : mwE 1 l = 1 := by unfold mwE; rw [if_pos (.inr ⟨rfl, List.eq_nil_of_length_eq_zero HH.out.1⟩)]
      have e8 : mwS 1 l = [] := by unfold mwS; rw [if_neg (by rw [e9]; decide)]
      rw [e9, e8]
      clear e9 e8
      go_enter Tryz.func10, Tryz.ntmps10
      go_wp2
      go_ret2
      exact ⟨rfl, Below.refl _ _⟩
  · by_cases h2 : k = 2
    · subst h2
      go_enter Tryz.func10, Tryz.ntmps10
      by_cases hle : n ≤ 32
      · have i32 : ¬ (32 : Int) < (n : Int) := by omega
        go_wp2
        go_loopw [6] (fun iv wr => ∃ i : Nat, i ≤ n ∧ iv = .int .i64 (i : Int) ∧ (∀ d ∈ l.take i, dcOk d = true) ∧ Below w.heap.size w wr) (fun iv _ => n - (intOf iv).toNat)
        case atStart => exact ⟨0, by omega, rfl, fun d h => by simp at h, Below.refl _ _⟩
        case round =>
          clear i32
          obtain ⟨i, hi, rfl, hA, hB⟩ := hrel
          by_cases hlt : i < n
          · have i0 : (0 : Int) ≤ (i : Int) := by omega
            have i1 : (i : Int) < (n : Int) := by omega
            obtain ⟨d, hd⟩ : ∃ d, l[i]? = some d := ⟨_, List.getElem?_eq_getElem (by have := HH.out.1; omega)⟩
            obtain ⟨g, o, rfl, -, -, -, -, -, cz⟩ := dcCells (HH.out.2.kept hB) i d hd
            obtain ⟨z, hz⟩ : ∃ q, d.size = q := ⟨_, rfl⟩
            rw [hz] at cz
            have HD : Hid (l[i]? = some d ∧ d.size = z) := ⟨hd, hz⟩
            have HA : Hid _ := hA
            clear hd hz hA
            have HNO : Hid (dcOk d = false → mwE 2 l = 13 ∧ mwS 2 l = []) := fun h9 => by
              have e9 : mwE 2 l = 13 := by
                unfold mwE
                rw [if_neg (by simp), if_neg (by have := HH.out.1; omega), if_neg (by rw [List.all_eq_true]; intro h8; have := h8 d (List.mem_of_getElem? HD.out.1); rw [h9] at this; cases this)]
              exact ⟨e9, by unfold mwS; rw [if_neg (by rw [e9]; decide)]⟩
            by_cases hz0 : z < 0
            · go_wp2
              go_ret2
              obtain ⟨e1, e2⟩ := HNO.out (by unfold dcOk; rw [HD.out.2]; simp; omega)
              rw [e1, e2]
              exact ⟨rfl, hB⟩
            · by_cases hz1 : 2147483647 < z
              · go_wp2
                go_ret2
                obtain ⟨e1, e2⟩ := HNO.out (by unfold dcOk; rw [HD.out.2]; simp; omega)
                rw [e1, e2]
                exact ⟨rfl, hB⟩
              · have HA2 : Hid (∀ d ∈ l.take (i + 1), dcOk d = true) := fun d9 h9 => by
                  rw [List.take_add_one, HD.out.1, Option.toList_some] at h9
                  rcases List.mem_append.1 h9 with h9 | h9
                  · exact HA.out d9 h9
                  · rw [List.mem_singleton.1 h9]; unfold dcOk; rw [HD.out.2]; simp; omega
                have HLT : Hid (i < n) := hlt
                go_wp2
                go_roundw
                case rel => exact ⟨i + 1, by have := HLT.out; omega, by go_num, HA2.out, hB⟩
                case measure => have := HLT.out; simp [intOf]; omega
          · obtain rfl : n = i := by omega
            have i1 : ¬ (n : Int) < (n : Int) := by omega
            have HOK : Hid (∀ d ∈ l, dcOk d = true) := fun d hd => hA d (by rw [List.take_of_length_le (by rw [HH.out.1]; exact Nat.le_refl _)]; exact hd)
            clear hA hlt hi
            have hLI := list16_any l _ n c wr HH.out.1 (HH.out.2.kept hB) HOK.out hle
            obtain ⟨LT, hLT⟩ : ∃ q : ByteArray, ⟨(dcsT l true).toArray⟩ = q := ⟨_, rfl⟩
            have lLT : lS LT = dcsT l true := by rw [← hLT]; exact lS_mk _
            rw [hLT] at hLI
            obtain ⟨U1, hU1⟩ : ∃ q, (⟨#[123, 34, 115, 99, 104, 101, 109, 97, 86, 101, 114, 115, 105, 111, 110, 34, 58, 50, 44, 34, 109, 97, 110, 105, 102, 101, 115, 116, 115, 34, 58, 91]⟩ : ByteArray) ++ LT = q := ⟨_, rfl⟩
            obtain ⟨U2, hU2⟩ : ∃ q, U1 ++ (⟨#[93, 125]⟩ : ByteArray) = q := ⟨_, rfl⟩
            have l1 : lS U1 = mHd ++ [34, 109, 97, 110, 105, 102, 101, 115, 116, 115, 34, 58, 91] ++ dcsT l true := by rw [← hU1, lS_app, lLT]; rfl
            have l2 : lS U2 = lS U1 ++ [93, 125] := by rw [← hU2, lS_app]; rfl
            have z1 : LT.size ≤ 4000 := by rw [← lS_len, lLT]; have := dcsT_len l true; have := HH.out.1; omega
            have z2 : U1.size ≤ 4100 := by have h9 := congrArg List.length l1; rw [lS_len] at h9; rw [h9, ← lLT]; simp only [List.length_append, lS_len, mHd, List.length_cons, List.length_nil]; omega
            have s1 : ¬ 9223372036854775807 < 32 + LT.size := by omega
            have s2 : ¬ 9223372036854775807 < U1.size + 2 := by omega
            have HE9 : mwE 2 l = 0 := by unfold mwE; rw [if_neg (by simp), if_neg (by have := HH.out.1; omega), if_pos (List.all_eq_true.2 HOK.out)]
            have HF : Hid (mwE 2 l = 0 ∧ (⟨(mwS 2 l).toArray⟩ : ByteArray) = U2) := ⟨HE9, lS_inj (by rw [lS_mk, l2, l1]; unfold mwS; rw [if_pos HE9]; unfold mwT; rw [if_pos rfl])⟩
            clear hLT lLT l1 l2 z1 z2 HE9
            go_wp2_with fail
            refine hLI.mono ?_
            rintro e w1 ⟨rfl, hb1⟩
            clear hLI
            have HBB : Hid (Below w.heap.size w w1) := hB.trans (hb1.mono hB.size)
            clear hb1 hB
            go_wp2
            go_ret2
            rw [HF.out.1, HF.out.2]
            exact ⟨rfl, HBB.out⟩
      · have i32 : (32 : Int) < (n : Int) := by omega
        have e9 : mwE 2 l = 2 := by unfold mwE; rw [if_neg (by simp), if_pos (by have := HH.out.1; omega)]
        have e8 : mwS 2 l = [] := by unfold mwS; rw [if_neg (by rw [e9]; decide)]
        rw [e9, e8]
        clear e9 e8
        go_wp2
        go_ret2
        exact ⟨rfl, Below.refl _ _⟩
    · have e9 : mwE k l = 1 := by unfold mwE; rw [if_pos (.inl ⟨h1, h2⟩)]
      have e8 : mwS k l = [] := by unfold mwS; rw [if_neg (by rw [e9]; decide)]
      rw [e9, e8]
      clear e9 e8
      go_enter Tryz.func10, Tryz.ntmps10
      go_wp2
      go_ret2
      exact ⟨rfl, Below.refl _ _⟩
end Go.Proofs.YtalnbddkhojjbaaGreatDoor
namespace Go.Proofs.YtalnbddkhojjbaaGreatDoor
open Go.RowKit

/-! assaylaw16's same -/
def sameD : List Dc → List Dc → Bool
  | [], [] => true
  | a :: r, b :: t => dcEq a b && sameD r t
  | _, _ => false
theorem sameD_refl : ∀ l, sameD l l = true
  | [] => rfl
  | a :: r => by rw [sameD, dcEq_refl, sameD_refl r]; rfl
theorem sameD_len : ∀ (a b : List Dc), a.length ≠ b.length → sameD a b = false
  | [], [], h => by simp at h
  | [], _ :: _, _ => rfl
  | _ :: _, [], _ => rfl
  | a :: r, b :: t, h => by rw [sameD, sameD_len r t (by simpa using h), Bool.and_false]
theorem sameD_drop (a b : List Dc) (i : Nat) (x y : Dc) (hx : a[i]? = some x) (hy : b[i]? = some y) : sameD (a.drop i) (b.drop i) = (dcEq x y && sameD (a.drop (i + 1)) (b.drop (i + 1))) := by
  obtain ⟨h1, rfl⟩ := List.getElem?_eq_some_iff.1 hx
  obtain ⟨h2, rfl⟩ := List.getElem?_eq_some_iff.1 hy
  rw [List.drop_eq_getElem_cons h1, List.drop_eq_getElem_cons h2, sameD]
set_option linter.unusedSimpArgs false in
set_option maxRecDepth 100000 in
set_option maxHeartbeats 8000000 in
theorem same16_any (la lb : List Dc) (xa xb : Option Addr) (na nb ca cb : Nat) (w : World) (hna : la.length = na) (hnb : lb.length = nb) (hA : IsK dcE w (.slice xa na ca) la) (hB : IsK dcE w (.slice xb nb cb) lb) (h63 : na ≤ 4611686018427387904) : Calls Tryz.prog 9 #[.slice xa na ca, .slice xb nb cb] w fun e w' => e = .returned (.bool (sameD la lb)) ∧ Below w.heap.size w w' := by
  obtain ⟨SS, hSS⟩ : ∃ q, sameD la lb = q := ⟨_, rfl⟩
  have HS0 : Hid (sameD la lb = SS) := hSS
  rw [hSS]
  clear hSS
  by_cases hne : na = nb
  · subst hne
    have HH : Hid (la.length = na ∧ lb.length = na ∧ IsK dcE w (.slice xa na ca) la ∧ IsK dcE w (.slice xb na cb) lb) := ⟨hna, hnb, hA, hB⟩
    obtain ⟨n, rfl⟩ : ∃ q, q = na := ⟨_, rfl⟩
    clear hna hnb hA hB
    go_enter Tryz.func9, Tryz.ntmps9
    go_wp2_with fail
    go_loopw [5] (fun iv wr => ∃ k : Nat, k ≤ n ∧ iv = .int .i64 (k : Int) ∧ Hid (sameD (la.drop k) (lb.drop k) = SS) ∧ Below w.heap.size w wr) (fun iv _ => n - (intOf iv).toNat)
    case atStart => exact ⟨0, by omega, rfl, HS0, Below.refl _ _⟩
    case round =>
      obtain ⟨k, hk, rfl, HS, hBw⟩ := hrel
      by_cases hlt : k < n
      · have i0 : (0 : Int) ≤ (k : Int) := by omega
        have i1 : (k : Int) < (n : Int) := by omega
        obtain ⟨da, hda⟩ : ∃ q, la[k]? = some q := ⟨_, List.getElem?_eq_getElem (by have := HH.out.1; omega)⟩
        obtain ⟨db, hdb⟩ : ∃ q, lb[k]? = some q := ⟨_, List.getElem?_eq_getElem (by have := HH.out.2.1; omega)⟩
        obtain ⟨ga, oa, rfl, hga, a1, a2, -⟩ := dcCells (HH.out.2.2.1.kept hBw) k da hda
        obtain ⟨gb, ob, rfl, hgb, b1, b2, -⟩ := dcCells (HH.out.2.2.2.kept hBw) k db hdb
        have HA9 : Hid (∀ x, Below wr.heap.size wr x → rgOk x ga (oa + k * 33) 33 = true ∧ rg x ga (oa + k * 33) 33 = dcA da) := fun x hb => by
          obtain ⟨e1, e2⟩ := rg_later hb hga (oa + k * 33) 33
          exact ⟨by rw [e1]; exact a1, by rw [e2, a2]⟩
        have HB9 : Hid (∀ x, Below wr.heap.size wr x → rgOk x gb (ob + k * 33) 33 = true ∧ rg x gb (ob + k * 33) 33 = dcA db) := fun x hb => by
          obtain ⟨e1, e2⟩ := rg_later hb hgb (ob + k * 33) 33
          exact ⟨by rw [e1]; exact b1, by rw [e2, b2]⟩
        have FK : Hid ((0 : Int) ≤ (k : Int) ∧ (k : Int) < (n : Int)) := ⟨i0, i1⟩
        have HS2 : Hid ((dcEq da db && sameD (la.drop (k + 1)) (lb.drop (k + 1))) = SS) := by show _ = _; rw [← sameD_drop la lb k da db hda hdb]; exact HS.out
        clear a1 a2 b1 b2 hda hdb
        go_upto_region 6 with fail
        refine wp_relies [Fx (.slice (some ⟨ga, oa, none⟩) n ca), Fx (.int .i64 (k : Int)), Fx (.pointer (some ⟨ga, oa + k * 33, none⟩)), Fx (.agg (dcA da)), Fx (.slice (some ⟨gb, ob, none⟩) n cb), Fx (.int .i64 (k : Int)), Fx (.pointer (some ⟨gb, ob + k * 33, none⟩)), Fx (.agg (dcA db)), Fx (.bool (!dcEq da db))] (by kernel_rfl) (by kernel_rfl) ?_ ?_ ?_
        · repeat' (first | exact all_nil | apply all_cons)
          all_goals intro v y y' hv hb
          all_goals first | exact Fx_mono _ _ _ _ hv hb
        · refine ⟨?_, ?_, ?_, ?_, ?_, ?_, ?_, ?_, ?_, trivial⟩
          all_goals
            intro ρ x hp ρc ρg ρf ho hd
            have o0 : ρ (.tmp 0) = .slice (some ⟨ga, oa, none⟩) n ca := ho 0 rfl
            have o1 : ρ (.tmp 1) = .slice (some ⟨gb, ob, none⟩) n cb := ho 1 rfl
            have o5 : ρ (.tmp 5) = .int .i64 (k : Int) := ho 5 rfl
            clear ho
            obtain ⟨k1, k2⟩ := HA9.out x hp
            obtain ⟨k3, k4⟩ := HB9.out x hp
            simp only [depsR, depR, slotR, Fx, List.getElem?_cons_succ, List.getElem?_cons_zero, Region.binds, forall_const] at hd
            simp only [guardR]
            go_split_ands
          · go_simp
          · go_simp
          · obtain ⟨z1, z2⟩ := FK.out
            go_simp
          · go_simp
          · go_simp
          · go_simp
          · obtain ⟨z1, z2⟩ := FK.out
            go_simp
          · go_simp
          · go_simp
        · intro vs x9 hp hw
          simp only [owed, Fx] at hw
          obtain ⟨e0, e1, e2, e3, e4, e5, e6, e7, e8, -⟩ := hw
          simp only [List.length_cons, List.length_nil, List.take_succ_cons, List.take_nil, List.drop_succ_cons, List.drop_nil, asg, List.cons_append, List.nil_append, e0, e1, e2, e3, e4, e5, e6, e7, e8]
          clear e0 e1 e2 e3 e4 e5 e6 e7 e8
          have HB : Hid (Below w.heap.size w x9) := hBw.trans (hp.mono hBw.size)
          clear hp hBw HA9 HB9
          cases hq : dcEq da db with
          | false =>
            have HF : Hid (SS = false) := by show _ = _; rw [← HS2.out, hq]; rfl
            go_wp2
            go_ret
            rw [HF.out]
            exact ⟨rfl, HB.out⟩
          | true =>
            have HS3 : Hid (sameD (la.drop (k + 1)) (lb.drop (k + 1)) = SS) := by show _ = _; rw [← HS2.out, hq]; rfl
            go_wp2
            go_roundw
            case rel => first | exact ⟨k + 1, by have := FK.out; omega, by go_num, HS3, HB.out⟩ | ((repeat apply Exists.intro); refine ⟨⟨k + 1, by have := FK.out; omega, ?_, HS3, HB.out⟩, rfl⟩; go_num)
            case measure => have := FK.out; simp [intOf]; omega
      · obtain rfl : n = k := by omega
        have i1 : ¬ (n : Int) < (n : Int) := by omega
        have HT : Hid (SS = true) := by show _ = _; rw [← HS.out, List.drop_of_length_le (by rw [HH.out.1]; exact Nat.le_refl _), List.drop_of_length_le (by rw [HH.out.2.1]; exact Nat.le_refl _)]; rfl
        go_wp2
        go_ret
        rw [HT.out]
        exact ⟨rfl, hBw⟩
  · have hf : SS = false := by rw [← HS0.out, sameD_len la lb (by omega)]
    rw [hf]
    have i1 : ¬ (na : Int) = (nb : Int) := by omega
    have i2 : ((na : Int) == (nb : Int)) = false := beq_eq_false_iff_ne.2 i1
    clear hf
    go_enter Tryz.func9, Tryz.ntmps9
    go_wp2
    go_ret
    exact ⟨rfl, Below.refl _ _⟩
end Go.Proofs.YtalnbddkhojjbaaGreatDoor
