import Derived.Test.YtgnjokbabecbdaaQMar7
import Derived.Test.YtgnjokbabecbdaaQRelk
namespace Go.Proofs.Ytgnjokbabecbdaa
open Go.RowKit

/-! MarkBack -/
theorem rg_dt {w : World} {b o : Nat} {x : Wr} (h : w.rangeAt b o (wrE.enc x)) : rgOk w b (o + 1) 64 = true ∧ rg w b (o + 1) 64 = secA x.2 := by
  have := rg_of (w := w) (b := b) (o := o + 1) (k := 64) (cs := (secA x.2).toList) (fun j v hv => by
    have hj : j < 64 := by
      have := (List.getElem?_eq_some_iff.1 hv).1
      simpa using this
    rw [Array.getElem?_toList, Array.getElem?_eq_getElem (by simpa using hj), secA_getElem] at hv
    cases hv
    exact (wr_at h).2 j hj) (by simp)
  rwa [Array.toArray_toList] at this
theorem jrn_succ {l : List Wr} {k : Nat} (h : k < l.length) : (jrn l).take k ++ [dtW l k] = (jrn l).take (k + 1) := by
  rw [List.take_add_one, jrn_get h]; rfl
@[simp] theorem jrn_len (l : List Wr) : (jrn l).length = l.length := by unfold jrn; simp
def buLoad9 (p : Value) : Sem Next := bigLoad 25 p
@[go_sem ↓] theorem execOp_buLoad9 (ρ : Operand → Value) (dst : Option Tmp) (ty : TypeId) (pos : String) (after : Array Edge) (guard : Option (Nat × Bool)) (x : Operand) : execOp ρ { dst, op := .load 25 x, type := ty, pos, after, guard } = buLoad9 (ρ x) := by simp [execOp, buLoad9, bigLoad]
@[go_sem] theorem buA9_size (n a : Int) (m : Nat) : (buA9 n a m).size = 3 := rfl
@[go_sem] theorem run_buLoad9 (w : World) (g : Nat) (h : rowL w g = true) (hs : (rowAt w g).size = 3) : (buLoad9 (.pointer (some ⟨g, 0, none⟩))).run Try.prog w = .ok (.value (.agg (rowAt w g))) w := by
  have := run_bigLoad 25 _ 3 Try.underlying25 rfl (by kernel_rfl) w g 0 h (by omega)
  unfold buLoad9
  rw [this, Nat.zero_add, ← hs, Array.extract_size]
def SwI9 (B : Nat) (d : Sc) : List Value → World → Prop
  | [], _ => True
  | [v], x => ∃ g, v = .pointer (some ⟨g, 0, none⟩) ∧ B ≤ g ∧ ScR x g secZ
  | v :: _, x => ∃ g, v = .pointer (some ⟨g, 0, none⟩) ∧ B ≤ g ∧ ScR x g d
theorem SwI9_later (B : Nat) (d : Sc) : ∀ vs w w', SwI9 B d vs w → Below w.heap.size w w' → SwI9 B d vs w'
  | [], _, _, _, _ => trivial
  | [_], _, _, ⟨g5, h1, h2, h3⟩, hb => ⟨g5, h1, h2, h3.kept hb⟩
  | _ :: _ :: _, _, _, ⟨g5, h1, h2, h3⟩, hb => ⟨g5, h1, h2, h3.kept hb⟩
theorem fin9 {s : Sc} {j : List Sc} {n : Int} {f : Bool} (h : mComm s j n = !f) : (f = false → mStK s j n = 2 ∧ (mStL s j n).length ≠ 0) ∧ (f = true → mStK s j n ≠ 2 ∧ (mStL s j n).length = 0) := by
  constructor
  · rintro rfl
    obtain ⟨e1, e2⟩ := st_comm h
    have hb : batB n (stA s j) = true := by
      unfold mComm at h
      simp only [Bool.not_false, Bool.and_eq_true] at h
      exact h.2.2.1
    have := bat_len hb
    rw [e1, e2]
    exact ⟨rfl, by omega⟩
  · rintro rfl
    obtain ⟨e1, e2⟩ := st_not h
    rw [e2]
    exact ⟨e1, rfl⟩
theorem RowC.below9 {w w1 : World} {B g : Nat} {c : Array Value} (h : RowC w g c) (hb : Below B w w1) (hg : g < B) : RowC w1 g c := h.block (hb.block g hg)
set_option linter.unusedSimpArgs false in
set_option maxRecDepth 100000 in
set_option maxHeartbeats 4000000 in
theorem lawMarkBack_any (hP : MPutOk) (hS : MStOk) (l : List Wr) (xl : Option Addr) (L cl : Nat) (n on oa : Int) (om : Nat) (w : World) (hL : l.length = L) (hL9 : L ≤ 1954687338211)
    (hl : IsK wrE w (.slice xl L cl) l) (hlB : WrB l) (hn : i64w n) (hon : i64w on) (hoa : i64w oa) (hom : om < 4294967296) :
    Calls Try.prog 3 #[.slice xl L cl, .int .i64 n, .agg (buA9 on oa om)] w fun r w' => r = .returned (.bool true) ∧ Below w.heap.size w w' := by
  have ht := fun w => taken9_any hP hS w
  go_enter Try.func3, Try.ntmps3
  go_upto_region 1 with fail
  have q5 : RowC (w.alloc (.cells (buA9 on oa om) 25)) w.heap.size (buA9 on oa om) := RowC.new _ _ _
  have hB : Below w.heap.size w (w.alloc (.cells (buA9 on oa om) 25)) := below_alloc _ _
  obtain ⟨g5, hg5⟩ : ∃ g, w.heap.size = g := ⟨_, rfl⟩
  rw [hg5] at q5
  simp only [hg5]
  generalize w.alloc (.cells (buA9 on oa om) 25) = X0 at q5 hB ⊢
  go_wp2_with fail
  go_at_call 6
  refine (ht _).mono ?_
  rintro r w1 ⟨rfl, hb⟩
  replace q5 := q5.kept hb
  replace hB := hB.trans (hb.mono hB.size)
  clear ht hb
  obtain ⟨y, c1, w2, hr1, hOy, hb⟩ := copyE wrE_ok w1 xl L cl l 22 hL (hl.kept hB) (by show L * 72 ≤ _; omega) (by unfold maxLen; omega)
  have hTS : wrE.S = 22 := rfl
  have hTT : wrE.T = 34 := rfl
  rw [hTS, hTT] at hr1
  have p1 := hP l y L c1 n w2 hL (by omega) (hOy.isK wrE_ok) hlB hn
  obtain ⟨A, hA⟩ : ∃ s, mPutS l n = s := ⟨_, rfl⟩
  obtain ⟨E1, hE⟩ : ∃ s, mPutE l n = s := ⟨_, rfl⟩
  rw [hA, hE] at p1
  replace q5 := q5.kept hb
  replace hB := hB.trans (hb.mono hB.size)
  clear hOy hb
  go_upto_region 3 with fail
  go_wp2_with (at_builtin; refine wpL_appT 22 rfl _ _ rfl (.slice y L c1) w2 (by exact hr1) ?_)
  go_at_call 7
  refine p1.mono ?_
  rintro r w3 ⟨rfl, hb⟩
  clear p1 hr1
  have hg7w : w.heap.size ≤ w3.heap.size := (hB.trans (hb.mono hB.size)).size
  have h7 := ScR.new w3 A 28
  replace q5 := (q5.kept hb).kept (below_alloc w3 (.cells (secA A) 28))
  replace hB := hB.trans (hb.mono hB.size)
  replace hB := hB.alloc hB.size (.cells (secA A) 28)
  clear hb
  go_upto_region 4 with fail
  generalize w3.alloc (.cells (secA A) 28) = X3 at h7 q5 hB ⊢
  generalize w3.heap.size = g7 at h7 hg7w ⊢
  by_cases he : E1 = 0
  · subst he
    obtain ⟨-, -, hAm⟩ := put_yes hE
    rw [hA] at hAm
    subst hAm
    obtain ⟨t1, t2, t3, hl1, hl8⟩ := jrn_told hE []
    obtain ⟨u1, u2, u3, -, -⟩ := jrn_told hE mo8
    rw [List.append_nil] at t1 t2 t3
    rw [hL] at hl1 hl8 t3 u3
    clear hA
    go_upto_region 6 with fail
    obtain ⟨N0, hN0⟩ : ∃ q, X3.heap.size = q := ⟨_, rfl⟩
    have hN0w : w.heap.size ≤ N0 := by rw [← hN0]; exact hB.size
    have HBY : Hid _ := hB
    have HQ5 : Hid _ := q5
    have HQ7 : Hid _ := h7
    clear hB q5 h7
    go_wp2_with fail
    go_loopw [9, 10] (fun bv iv wr => ∃ k : Nat, k ≤ L ∧ iv = .int .i64 k ∧ OwnK secE wr N0 bv ((jrn l).take k) ∧ Below N0 X3 wr) (fun _ iv _ => L - (intOf iv).toNat)
    case atStart => exact ⟨0, by omega, rfl, OwnK.nil _ _ _, Below.refl _ _⟩
    case round =>
      obtain ⟨k, hk, rfl, hO, hBr⟩ := hrel
      have hszr : N0 ≤ wr.heap.size := by have := hBr.size; omega
      have hBw : Below w.heap.size w wr := HBY.out.trans (hBr.mono hN0w)
      by_cases hlt : k < L
      · have hlt' : (k : Int) < (L : Int) := by omega
        have hk0 : (0 : Int) ≤ (k : Int) := by omega
        have hg : l[k]? = some (atW l k, dtW l k) := by
          unfold atW dtW
          rw [List.getD_eq_getElem?_getD, List.getElem?_eq_getElem (by omega)]; rfl
        obtain ⟨bj, oj, rfl, hbj, hrj⟩ := (hl.kept hBw).at k _ hg
        obtain ⟨okj, rgj⟩ := rg_dt hrj
        have hkE : wrE.k = 65 := rfl
        rw [hkE] at okj rgj
        simp only at rgj
        obtain ⟨D, hD⟩ : ∃ d, dtW l k = d := ⟨_, rfl⟩
        rw [hD] at rgj
        have hA4 := below_alloc wr (.cells (secA D) 28)
        have hnew : (wr.alloc (.cells (secA D) 28)).rangeAt wr.heap.size 0 (secE.enc D) := fun i u hu => by
          rw [Nat.zero_add, cell_of_row _ _ i _ _ _ (heap_alloc_last wr _)]
          rw [secE_enc, Array.getElem?_toList] at hu; exact hu
        have hlen : ((jrn l).take k).length = k := by rw [List.length_take, jrn_len]; omega
        obtain ⟨g6, c6, w6, hr6, o1, -, o3, -⟩ := run_app1K secE_ok (wr.alloc (.cells (secA D) 28)) N0 wr.heap.size _ ((jrn l).take k) D 32 (hO.keep hA4) hnew (by simp) (by rw [hlen]; show (k + 1) * 64 ≤ _; omega) (by rw [hlen]; unfold maxLen; omega) (by simp; omega)
        have hTS : secE.S = 32 := rfl
        rw [hTS, hlen] at hr6
        rw [hlen, ← hD, jrn_succ (by omega)] at o1
        have hB6 : Below N0 X3 w6 := (hBr.trans (hA4.mono hszr)).trans ((hO.keep hA4).below o3 (by simp; omega))
        have HO6 : Hid _ := o1
        have HB6 : Hid _ := hB6
        clear o1 o3 hB6 hnew hA4 hO hBr hD hg hrj
        go_wp2_with (at_builtin; refine wpL_appT 32 rfl _ _ rfl _ w6 (by exact hr6) ?_)
        go_roundw
        case rel => exact ⟨k + 1, by omega, by go_num, HO6.out, HB6.out⟩
        case measure => simp [intOf]; omega
      · obtain rfl : k = L := by omega
        have hlt' : ¬ (k : Int) < (k : Int) := by omega
        rw [List.take_of_length_le (by rw [jrn_len]; omega)] at hO
        have q5 := RowC.below9 HQ5.out hBr (by rw [← hN0]; exact RowC.lt HQ5.out)
        have h7 := ScR.below9 HQ7.out hBr (by rw [← hN0]; exact ScR.lt HQ7.out)
        have hjl : (jrn l).length = k := by rw [jrn_len, hL]
        obtain ⟨yb, cb, rfl⟩ := (OwnK.isK secE_ok hO).len
        rw [hjl] at hO ⊢
        obtain ⟨y2, c2, w4, hr2, hO2, hb2⟩ := copyE secE_ok wr yb k cb (jrn l) 32 hjl (hO.isK secE_ok) (by show k * 64 ≤ _; omega) (by unfold maxLen; omega)
        have hA5 := below_alloc w4 (.cells mo8A 28)
        obtain ⟨g11, c11, w5, hr11, hO11, -, hgr, -⟩ := run_appKeep secE_ok (w4.alloc (.cells mo8A 28)) wr.heap.size (.slice y2 k c2) (jrn l) mo8 (some ⟨w4.heap.size, 0, none⟩) 8 32 (OwnK.keep hO2 hA5) (by rw [mo8_len]; exact (mo8_is w4).isK secE_ok) mo8_ne (by rw [hjl, mo8_len]; show (k + 8) * 64 ≤ _; omega) (by rw [hjl, mo8_len]; unfold maxLen; omega) (by have := hb2.size; simp; omega)
        have hb5 : Below wr.heap.size wr w5 := (hb2.trans (hA5.mono hb2.size)).trans ((OwnK.keep hO2 hA5).below hgr (by have := hb2.size; simp; omega))
        have hTS : secE.S = 32 := rfl
        have hTT : secE.T = 28 := rfl
        have hm8 := mo8_len
        rw [hTS, hTT] at hr2
        rw [hTS, hjl, hm8] at hr11
        rw [hjl, hm8] at hO11
        replace hO := OwnK.keep hO hb5
        replace q5 := q5.kept hb5
        replace h7 := h7.kept hb5
        replace hBw := hBw.trans (hb5.mono hBw.size)
        clear hO2 hA5 hgr hb5 hb2 hBr
        have HO : Hid _ := hO
        have HO11 : Hid _ := hO11
        have HBw : Hid _ := hBw
        clear hO hO11 hBw
        go_upto_region 11 with fail
        have h7' := h7
        obtain ⟨e7, k7⟩ := h7'
        have s12 := hS (marS l) (jrn l) yb k cb n w5 hjl (by omega) (OwnK.isK secE_ok HO.out) hn
        rw [t1, t3] at s12
        go_wp2_with (first | (at_builtin; refine wpL_appT 32 rfl _ _ rfl (.slice y2 k c2) w4 (by exact hr2) ?_; clear hr2) | (at_builtin; refine wpL_appT 32 rfl _ _ rfl (.slice (some ⟨g11, 0, none⟩) (k + 8) c11) w5 (by exact hr11) ?_))
        clear hr11
        go_at_call 8
        refine s12.mono ?_
        rintro r w6 ⟨y12, c12, rfl, hx, hb⟩
        clear s12 e7 k7
        replace q5 := q5.kept hb
        replace h7 := h7.kept hb
        replace HO : Hid _ := OwnK.keep HO.out hb
        replace HO11 : Hid _ := OwnK.keep HO11.out hb
        replace HBw : Hid _ := HBw.out.trans (hb.mono (Below.size HBw.out))
        clear hb
        go_upto_region 13 with fail
        have s13 := hS (marS l) (jrn l ++ mo8) (some ⟨g11, 0, none⟩) (k + 8) c11 n w6 (by rw [List.length_append, hjl, mo8_len]) (by omega) (OwnK.isK secE_ok HO11.out) hn
        rw [u1, u3] at s13
        have h7' := h7
        obtain ⟨e7, k7⟩ := h7'
        go_wp2_with fail
        go_at_call 8
        refine s13.mono ?_
        rintro r w7 ⟨y13, c13, rfl, hy, hb⟩
        clear s13 e7 k7 HO11
        replace q5 := q5.kept hb
        replace h7 := h7.kept hb
        replace hx := OwnK.keep hx hb
        replace HO : Hid _ := OwnK.keep HO.out hb
        replace HBw : Hid _ := HBw.out.trans (hb.mono (Below.size HBw.out))
        clear hb
        go_upto_region 14 with fail
        have s14 := sameW9_any y12 xl c12 cl k k _ l w7 t3 hL (OwnK.isK wrE_ok hx) (hl.kept HBw.out) (by omega)
        rw [decide_eq_true t2] at s14
        go_wp2_with fail
        go_at_call 9
        refine s14.mono ?_
        rintro r w8 ⟨rfl, hb⟩
        clear s14 hx
        replace q5 := q5.kept hb
        replace h7 := h7.kept hb
        replace hy := OwnK.keep hy hb
        replace HO : Hid _ := OwnK.keep HO.out hb
        replace HBw : Hid _ := HBw.out.trans (hb.mono (Below.size HBw.out))
        clear hb
        have s15 := sameW9_any y13 xl c13 cl k k _ l w8 u3 hL (OwnK.isK wrE_ok hy) (hl.kept HBw.out) (by omega)
        rw [decide_eq_true u2] at s15
        go_wp2_with fail
        go_at_call 9
        refine s15.mono ?_
        rintro r w9 ⟨rfl, hb⟩
        clear s15 hy t1 t2 t3 u1 u2 u3
        replace q5 := q5.kept hb
        replace h7 := h7.kept hb
        replace HO : Hid _ := OwnK.keep HO.out hb
        replace HBw : Hid _ := HBw.out.trans (hb.mono (Below.size HBw.out))
        clear hb
        go_upto_region 17 with fail
        have c50 : w9.cell? ⟨g5, 0, none⟩ = some (.int .i64 on) := q5.cell 0
        have hAO := fun s w => turned9_any s on oa om w hoa.1 hoa.2 hom
        have hBm := back_mark hE oa om
        have hBs := back_sec hE
        by_cases hin : 0 ≤ on ∧ on < (k : Int)
        · have hi0 : ¬ on < 0 := by omega
          have hi1 : on < (k : Int) := by omega
          have hi2 : ¬ (k : Int) ≤ on := by omega
          obtain ⟨o9, ho9⟩ : ∃ o : Nat, on = (o : Int) := ⟨on.toNat, by omega⟩
          subst ho9
          have ho9k : o9 < k := by omega
          have hO9 := HO.out
          obtain ⟨gb, rfl, hgb⟩ := OwnK.form hO9 (by omega)
          have hD9 : (jrn l)[o9]? = some (dtW l o9) := jrn_get (by omega)
          obtain ⟨D9, hD9e⟩ : ∃ d, dtW l o9 = d := ⟨_, rfl⟩
          have hc9 := hBs o9 (by omega) oa om
          rw [hD9e] at hD9 hc9
          have hrg : ∀ x, Below w9.heap.size w9 x → rgOk x gb (o9 * 64) 64 = true ∧ rg x gb (o9 * 64) 64 = secA D9 := fun x hx => by
            have := rg_of (OwnK.range secE_ok (OwnK.keep HO.out hx) o9 D9 hD9) (secE_ok.len _)
            rw [secE_arr, secE_k] at this
            exact this
          obtain ⟨F9, hF9⟩ : ∃ f, anyP (PB9 oa om) 32 = f := ⟨_, rfl⟩
          obtain ⟨T9, hT9⟩ : ∃ t, turnS D9 (PB9 oa om) oa.toNat 32 = t := ⟨_, rfl⟩
          have hA9 := fun w => hAO D9 w
          rw [hF9, hT9] at hA9
          rw [hT9] at hc9
          have FK : Hid ((o9 : Int) < (k : Int)) := hi1
          have Q5 : Hid _ := q5
          have HC9 : Hid _ := hc9
          clear hc9 hAO hBm hBs hO9 hin
          go_upto_region 19 with fail
          refine wp_reliesI (kokN9 (B := w9.heap.size)) (SwI9 w9.heap.size T9) [10, 11] [none, none, none, none, none, none, none, none, none, none, some (0, [], []), some (1, [], [])] [Fx (.slice (some ⟨gb, 0, none⟩) k cb), Fx (.pointer (some ⟨g5, 0, none⟩)), Fx (.int .i64 ((o9 : Int))), Fx (.pointer (some ⟨gb, o9 * 64, none⟩)), Fx (.agg (secA D9)), Fx (.agg (buA9 (o9 : Int) oa om)), Fx (.tuple #[.agg (secA T9), .bool F9]), Fx (.tuple #[.agg (secA T9), .bool F9]), Fx (.agg (secA T9)), Fx (.bool F9), fun _ _ => True, fun _ _ => True] rfl (by decide) rfl (by kernel_rfl) (by kernel_rfl) (by kernel_rfl) trivial (SwI9_later _ _) ?_ ?_ ?_ ?_
          · repeat' (first | exact all_nil | apply all_cons)
            all_goals intro v y y' hv hb
            all_goals first | exact Fx_mono _ _ _ _ hv hb | exact trivial
          · intro i9 f9 hf9 hl9 v y y' hv hb
            rcases i9 with _ | i9
            · first | (cases hl9; done) | (cases hf9; first | exact hv | exact trivial)
            rcases i9 with _ | i9
            · first | (cases hl9; done) | (cases hf9; first | exact hv | exact trivial)
            rcases i9 with _ | i9
            · first | (cases hl9; done) | (cases hf9; first | exact hv | exact trivial)
            rcases i9 with _ | i9
            · first | (cases hl9; done) | (cases hf9; first | exact hv | exact trivial)
            rcases i9 with _ | i9
            · first | (cases hl9; done) | (cases hf9; first | exact hv | exact trivial)
            rcases i9 with _ | i9
            · first | (cases hl9; done) | (cases hf9; first | exact hv | exact trivial)
            rcases i9 with _ | i9
            · first | (cases hl9; done) | (cases hf9; first | exact hv | exact trivial)
            rcases i9 with _ | i9
            · first | (cases hl9; done) | (cases hf9; first | exact hv | exact trivial)
            rcases i9 with _ | i9
            · first | (cases hl9; done) | (cases hf9; first | exact hv | exact trivial)
            rcases i9 with _ | i9
            · first | (cases hl9; done) | (cases hf9; first | exact hv | exact trivial)
            rcases i9 with _ | i9
            · first | (cases hl9; done) | (cases hf9; first | exact hv | exact trivial)
            rcases i9 with _ | i9
            · first | (cases hl9; done) | (cases hf9; first | exact hv | exact trivial)
            · simp at hf9
          · refine ⟨?_, ?_, ?_, ?_, ?_, ?_, ?_, ?_, ?_, ?_, ?_, ?_, trivial⟩
            all_goals
              intro ρ x hk hat ρc ρg ρf ho hd
              have o9 : ρ (.tmp 9) = .slice (some ⟨gb, 0, none⟩) k cb := ho 9 rfl
              have o5 : ρ (.tmp 5) = .pointer (some ⟨g5, 0, none⟩) := ho 5 rfl
              clear ho
              have kc := cell_later hk.below c50
              simp only [depsR, depR, slotR, Fx, List.getElem?_cons_succ, List.getElem?_cons_zero, Region.binds, forall_const] at hd
              simp only [guardR, List.contains_cons, List.contains_nil, List.elem_cons, List.elem_nil, Nat.reduceBEq, Bool.or_false, Bool.false_or, Bool.or_true, Bool.true_or, cond_true, cond_false]
              go_split_ands
            · go_simp
            · go_simp
            · go_simp
            · have hq := FK.out
              go_simp
            · obtain ⟨ok9, rg9⟩ := hrg x hk.below
              go_simp
            · obtain ⟨e5, k5⟩ := RowC.kept Q5.out hk.below
              go_simp
            · go_simp
              refine (hA9 _).mono ?_
              rintro e x' ⟨rfl, hw⟩
              exact ⟨_, rfl, rfl, hw⟩
            · go_simp
            · go_simp
            · go_simp
            · go_simp
              refine ⟨⟨trivial, x.heap.size, rfl, ?_, ScR.new x secZ 28⟩, KN9.of_below (below_alloc _ _)⟩
              exact hk.below.size
            · obtain ⟨g17, e17, hg17, hrc⟩ := hat
              simp only [valR, slotR, List.getElem?_cons_succ, List.getElem?_cons_zero] at e17
              have rok := hrc.1
              have rat := hrc.2
              go_simp
              refine ⟨⟨trivial, g17, ?_, hg17, rowOk_setRow_same _ _ _ rok (secA_size _), rowAt_setRow_same _ _ _ rok⟩, KN9.setRow hg17⟩
              exact e17
          · intro vs x1 hk hw hI
            simp only [owed, Fx] at hw
            obtain ⟨e0, e1, e2, e3, e4, e5, e6, e7, e8, e9, e10, e11, -⟩ := hw
            simp only [List.length_cons, List.length_nil, List.take_succ_cons, List.take_zero, List.drop_succ_cons, List.drop_zero, asg, List.cons_append, List.nil_append, e0, e1, e2, e3, e4, e5, e6, e7, e8, e9]
            clear e0 e1 e2 e3 e4 e5 e6 e7 e8 e9 e10 e11
            obtain ⟨g17, e10, hg17, hr17⟩ : ∃ g17, vs 10 = .pointer (some ⟨g17, 0, none⟩) ∧ w9.heap.size ≤ g17 ∧ ScR x1 g17 T9 := hI
            simp only [e10]
            have hb := hk.below
            clear hk e10
            have hO10 := OwnK.keep HO.out hb
            have h7b := h7.kept hb
            have q5b := q5.kept hb
            have hB10 := HBw.out.trans (hb.mono (Below.size HBw.out))
            have hg7N : g7 < N0 := by rw [← hN0]; exact ScR.lt HQ7.out
            have c5b : x1.cell? ⟨g5, 0, none⟩ = some (.int .i64 (o9 : Int)) := q5b.cell 0
            have hst := hO10.store secE_ok o9 T9 (by omega)
            have hO11 := hO10.put secE_ok o9 T9 (by omega)
            rw [secE_k] at hst hO11
            rw [secE_arr] at hst
            have hst2 : (secStore (.pointer (some ⟨gb, o9 * 64, none⟩)) (.agg (secA T9))).run Try.prog x1 = .ok .skip (x1.setCells gb (o9 * 64) (secE.enc T9)) := by
              have h9 : (Instr.storeAt 28 (.pointer (some ⟨gb, o9 * 64, none⟩)) (.agg (secA T9))).run Try.prog x1 = .ok () (x1.setCells gb (o9 * 64) (secE.enc T9)) := hst
              simp only [secStore, Sem.run_bind, h9, Result.andThen_ok]
              rfl
            have hN1 : N0 ≤ x1.heap.size := by have := (World.ownsRow.lt hO10 gb rfl); omega
            have hbS : Below N0 x1 (x1.setCells gb (o9 * 64) (secE.enc T9)) := hO10.below (grown_setC x1 gb (o9 * 64) (secE.enc T9)) hN1
            have h7c : ScR (x1.setCells gb (o9 * 64) (secE.enc T9)) g7 (marS l) := ScR.below9 h7b hbS hg7N
            have hBV := hB10.trans (hbS.mono hN0w)
            have HO9 : Hid _ := OwnK.isK secE_ok hO11
            have HBV : Hid _ := hBV
            obtain ⟨e17, k17⟩ := hr17
            clear hst hO11 hBV hbS h7b q5b hB10 hO10 hb HBw h7
            generalize x1.setCells gb (o9 * 64) (secE.enc T9) = V at hst2 h7c HO9 HBV
            have hi1 := FK.out
            go_upto_region 22 with fail
            clear hst2 e17 k17 c5b
            have hO9 := HO9.out
            have HBw := HBV
            have h7 := h7c
            have hc9 := HC9.out
            have hj9 : ((jrn l).set o9 T9).length = k := by rw [List.length_set]; exact hjl
            clear h7c HO9 HBV HC9
            generalize (jrn l).set o9 T9 = j9 at hO9 hc9 hj9
            generalize marS l = s9 at h7 hc9 ⊢
            obtain ⟨yb, hyb⟩ : ∃ y, (some ⟨gb, 0, none⟩ : Option Addr) = y := ⟨_, rfl⟩
            rw [hyb] at hO9 ⊢
            subst hF9
            have hFin := hS s9 j9 yb k cb n V (by rw [hj9]) (by omega) hO9 hn
            have hf9 := fin9 hc9
            generalize mStK s9 j9 n = K9 at hFin hf9
            generalize mStL s9 j9 n = Z9 at hFin hf9
            obtain ⟨Q9, hQ9⟩ : ∃ q, Z9.length = q := ⟨_, rfl⟩
            rw [hQ9] at hFin hf9
            obtain ⟨e7, k7⟩ := h7
            go_wp2_with fail
            go_at_call 8
            refine hFin.mono ?_
            rintro r w13 ⟨y13, c13, rfl, -, hb⟩
            have HB13 : Hid _ := HBw.out.trans (hb.mono (Below.size HBw.out))
            clear hFin hb e7 k7 hO9
            cases hfd : anyP (PB9 oa om) 32
            · rw [hfd] at hf9
              obtain ⟨rfl, hq0⟩ := hf9.1 rfl
              have hq0' : ((Q9 : Int) == 0) = false := by simp; omega
              simp only [hfd]
              go_wp2_with fail
              go_ret
              exact ⟨rfl, by first | exact HB13.out | exact hg5 ▸ HB13.out⟩
            · rw [hfd] at hf9
              obtain ⟨hk9', rfl⟩ := hf9.2 rfl
              have hk9 : (K9 == 2) = false := by simpa using hk9'
              simp only [hfd]
              go_wp2_with fail
              go_ret
              exact ⟨rfl, by first | exact HB13.out | exact hg5 ▸ HB13.out⟩
        · have hcase : on < 0 ∨ (¬ on < 0 ∧ (k : Int) ≤ on) := by omega
          have hj9 : (jrn l).length = k := hjl
          rcases hcase with hz | ⟨hz, hz2⟩
          all_goals
            have h7' := h7
            obtain ⟨e7, k7⟩ := h7'
            have q5' := q5
            obtain ⟨e5, k5⟩ := q5'
            go_upto_region 18 with fail
            go_wp2_with fail
            go_at_call 10
            refine (hAO _ _).mono ?_
            rintro r w10 ⟨rfl, hb⟩
            clear e5 k5 e7 k7
            generalize hs9 : turnS (marS l) (PB9 oa om) oa.toNat 32 = s9 at hBm
            have hO10 := OwnK.keep HO.out hb
            have h7b := h7.kept hb
            have hB10 := HBw.out.trans (hb.mono (Below.size HBw.out))
            have hg7N : g7 < N0 := by rw [← hN0]; exact ScR.lt HQ7.out
            have hO9 : IsK secE (w10.setRow g7 (secA s9)) (.slice yb k cb) (jrn l) := (OwnK.keeps hO10 (F := [g7]) (w' := w10.setRow g7 (secA s9)) ⟨rfl, rfl, rfl, by unfold World.setRow; simp, fun q _ hq => setRow_other _ g7 q _ (by simpa using hq)⟩ (fun q hq hm => by
              have := (World.ownsRow.lt hO10 q hq).1
              simp only [List.mem_singleton] at hm; omega)).isK secE_ok
            have h7c : ScR (w10.setRow g7 (secA s9)) g7 s9 := ⟨rowOk_setRow_same _ _ _ h7b.1 (secA_size _), rowAt_setRow_same _ _ _ h7b.1⟩
            have hBV : Below w.heap.size w (w10.setRow g7 (secA s9)) := hB10.trans ⟨rfl, rfl, rfl, by unfold World.setRow; simp, fun q hq => setRow_other _ g7 q _ (by omega)⟩
            obtain ⟨e7, k7⟩ := h7b
            have HO9 : Hid _ := hO9
            have HBV : Hid _ := hBV
            clear hO9 hBV hO10 hB10 hb h7
            go_upto_region 22 with fail
            clear e7 k7
            have hO9 := HO9.out
            clear HBw
            have HBw := HBV
            have h7 := h7c
            clear h7c HO9 HBV
            generalize w10.setRow g7 (secA s9) = V at hO9 HBw h7 ⊢
            have hc9 := hBm
            obtain ⟨j9, hj9e⟩ : ∃ j, jrn l = j := ⟨_, rfl⟩
            rw [hj9e] at hO9 hc9 hj9
            have hFin := hS s9 j9 yb k cb n V (by rw [hj9]) (by omega) hO9 hn
            have hf9 := fin9 hc9
            generalize mStK s9 j9 n = K9 at hFin hf9
            generalize mStL s9 j9 n = Z9 at hFin hf9
            obtain ⟨Q9, hQ9⟩ : ∃ q, Z9.length = q := ⟨_, rfl⟩
            rw [hQ9] at hFin hf9
            obtain ⟨e7, k7⟩ := h7
            go_wp2_with fail
            go_at_call 8
            refine hFin.mono ?_
            rintro r w13 ⟨y13, c13, rfl, -, hb⟩
            have HB13 : Hid _ := HBw.out.trans (hb.mono (Below.size HBw.out))
            clear hFin hb e7 k7 hO9
            cases hfd : anyP (PB9 oa om) 32
            · rw [hfd] at hf9
              obtain ⟨rfl, hq0⟩ := hf9.1 rfl
              have hq0' : ((Q9 : Int) == 0) = false := by simp; omega
              simp only [hfd]
              go_wp2_with fail
              go_ret
              exact ⟨rfl, by first | exact HB13.out | exact hg5 ▸ HB13.out⟩
            · rw [hfd] at hf9
              obtain ⟨hk9', rfl⟩ := hf9.2 rfl
              have hk9 : (K9 == 2) = false := by simpa using hk9'
              simp only [hfd]
              go_wp2_with fail
              go_ret
              exact ⟨rfl, by first | exact HB13.out | exact hg5 ▸ HB13.out⟩
  · have hE0 : mPutE l n ≠ 0 := by rw [hE]; exact he
    obtain ⟨s1, s2⟩ := put_no hE0
    rw [hA] at s1
    subst s1
    rw [hE] at s2
    have hzz := secEq_refl9 secZ
    have HB : Hid _ := hB
    clear hB
    obtain ⟨e7, k7⟩ := h7
    rcases s2 with rfl | rfl
    all_goals
      go_wp2_with fail
      go_ret
      exact ⟨rfl, by first | exact HB.out | exact hg5 ▸ HB.out⟩
end Go.Proofs.Ytgnjokbabecbdaa
