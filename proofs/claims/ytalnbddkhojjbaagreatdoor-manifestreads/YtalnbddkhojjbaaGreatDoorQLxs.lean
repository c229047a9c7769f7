import Derived.Test.YtalnbddkhojjbaaGreatDoorQLxb
import Derived.Test.YtalnbddkhojjbaaGreatDoorQLex9
namespace Go.Proofs.YtalnbddkhojjbaaGreatDoor
open Go.RowKit

theorem BdP.below {B b : Nat} {l : List UInt8} {w w1 : World} (h : BdP B b l w w1) : Below B w w1 := h.2.1
theorem Bd.iterAt {B b : Nat} {l : List UInt8} {w : World} (h : Bd B b l w) {k : Nat} {s : ByteArray} {pos : Nat} (hk : w.heap[k]? = some (.stringIter s pos)) (pos' : Nat) : Bd B b l (w.iterAt k s pos') := Lib.IsBuilderF.iterAt h hk pos'
theorem Bd.alloc {B b : Nat} {l : List UInt8} {w : World} (h : Bd B b l w) (o : Obj) : Bd B b l (w.alloc o) := Lib.IsBuilderF.alloc h o
theorem BdP.iter {B b : Nat} {l : List UInt8} {w w1 : World} (h : BdP B b l w w1) {k : Nat} {s : ByteArray} {pos : Nat} (hk : w.heap[k]? = some (.stringIter s pos)) (hkb : k ≠ b) : w1.heap[k]? = some (.stringIter s pos) := h.2.2.iter hk hkb
theorem Bd.lt {B b : Nat} {l : List UInt8} {w : World} (h : Bd B b l w) : b < w.heap.size := by
  rcases h with ⟨_, v, hb, _⟩ | ⟨_, v, hb, _⟩ <;> exact (Array.getElem?_eq_some_iff.1 hb).1
theorem extract_all (s : ByteArray) (k : Nat) : lS (s.extract k s.size) = (lS s).drop k := by
  rw [lS_cut, List.take_of_length_le]
  rw [List.length_drop, lS_len]
  exact Nat.le_refl _
theorem quF_go (l : List UInt8) (f k : Nat) (out : List UInt8) (hk : k < l.length) : quF l (f + 1) k out = if (rn (l.drop k)).2 = 0 then none else quF l f (k + (rn (l.drop k)).2) (out ++ quo (rn (l.drop k)).1) := by
  rw [quF, if_pos hk]
theorem quF_end (l : List UInt8) (f k : Nat) (out : List UInt8) (hk : ¬ k < l.length) : quF l (f + 1) k out = some (out ++ [34]) := by
  rw [quF, if_neg hk]
set_option linter.unusedSimpArgs false in
set_option maxRecDepth 100000 in
set_option maxHeartbeats 8000000 in
theorem quote_any (s : ByteArray) (w : World) (h44 : s.size ≤ 17592186044416) : Calls Tryz.prog 86 #[.string s] w fun e w' => QuP (lS s) w e w' := by
  have hls := lS_len s
  have hdec := fun k (h : k < s.size) => dec_rn s k h
  have hstr := fun v k W => isStray_any v (s.extract k s.size) W
  simp only [extract_all] at hstr
  have hcut := fun k (h : k ≤ s.size) W => run_sCut1 W s k h
  obtain ⟨l, hl⟩ : ∃ q, lS s = q := ⟨_, rfl⟩
  simp only [hl] at hls hdec hstr ⊢
  obtain ⟨n, hn⟩ : ∃ q, s.size = q := ⟨_, rfl⟩
  simp only [hn] at hls h44 hdec hstr hcut
  obtain ⟨RC, hRC⟩ : ∃ q, quA l = q := ⟨_, rfl⟩
  have HE : Hid (quS l = RC.getD [] ∧ quE l = (if RC.isNone then 30 else 0)) := by
    exact ⟨by unfold quS; rw [hRC], by unfold quE; rw [hRC]⟩
  have H0 : Hid (∃ f, n + 1 ≤ f + 0 ∧ quF l f 0 [34] = RC) := ⟨n + 1, by omega, by rw [← hRC]; unfold quA; rw [hls]⟩
  clear hRC
  have k0 := bdWB w.heap.size w.heap.size [] 34 _ (Bd.fresh w) (by simp) (by simp)
  have b0 := below_alloc w (.cells #[.pointer none, .slice none 0 0] 68)
  obtain ⟨B, hB⟩ : ∃ q, w.heap.size = q := ⟨_, rfl⟩
  have HB : Hid (w.heap.size = B) := hB
  simp only [hB] at k0 b0
  go_enter Tryz.func86, Tryz.ntmps86
  go_wp2_with fail
  refine k0.mono ?_
  rintro e w1 ⟨rfl, h1⟩
  simp only [List.nil_append] at h1
  have hb1 : Below B w w1 := b0.trans h1.below
  have hs1 : B ≤ w1.heap.size := Nat.le_trans (Nat.le_of_eq HB.out.symm) hb1.size
  have hI0 : Bd B B [34] (w1.iter s 0) := h1.1.alloc _
  have hi0 : (w1.iter s 0).heap[w1.heap.size]? = some (.stringIter s 0) := World.iter_heap w1 s 0
  have hbi : Below B w (w1.iter s 0) := hb1.alloc hs1 _
  have hneq : w1.heap.size ≠ B := Nat.ne_of_gt h1.1.lt
  obtain ⟨K, hK⟩ : ∃ q, w1.heap.size = q := ⟨_, rfl⟩
  simp only [hK] at hs1 hi0 hneq
  have HKn : Hid (K ≠ B ∧ B ≤ K) := ⟨hneq, hs1⟩
  clear k0 b0 h1 hb1 hB hneq hs1
  go_wp2_with fail
  clear hK
  go_loopw [] (fun wr => ∃ (k : Nat) (acc : List UInt8), k ≤ n ∧ acc.length ≤ 6 * k + 1 ∧ Bd B B acc wr ∧ wr.heap[K]? = some (.stringIter s k) ∧ Below B w wr ∧ Hid (∃ f, n + 1 ≤ f + k ∧ quF l f k acc = RC)) (fun wr => n - wr.iterPos K)
  case atStart => exact ⟨0, [34], by omega, by simp, hI0, hi0, hbi, H0⟩
  case round =>
    clear H0 hI0 hi0 hbi
    obtain ⟨k, acc, hk, hal, hI, hit, hbw, HI⟩ := hrel
    obtain ⟨f, hf, hF⟩ := HI.out
    clear HI
    obtain ⟨f', rfl⟩ : ∃ f', f = f' + 1 := ⟨f - 1, by omega⟩
    have hBr : B ≤ wr.heap.size := Nat.le_trans (Nat.le_of_eq HB.out.symm) hbw.size
    by_cases hlt : k < n
    · rw [quF_go l f' k acc (by omega)] at hF
      have hnx : ∀ ty, (Instr.next (.pointer (some ⟨K, 0, none⟩)) true ty).run Tryz.prog wr = _ := fun ty => Lib.run_next_any_at wr K s k ty hit (by omega)
      have hr9 := rn_range (l.drop k)
      have hp9 := stR_pos (rn (l.drop k))
      rw [hdec k hlt] at hnx
      have hst := hstr (stR (rn (l.drop k))).1 k
      rw [stray_rn] at hst
      have hcu := hcut k hk
      have hI2 := hI.iterAt hit (k + (stR (rn (l.drop k))).2)
      have hit2 := Lib.iterAt_heap wr K s k (k + (stR (rn (l.drop k))).2) hit
      have hbw2 := Lib.below_iterAt hbw HKn.out.2 s (k + (stR (rn (l.drop k))).2)
      have hBr2 : B ≤ (wr.iterAt K s (k + (stR (rn (l.drop k))).2)).heap.size := by rw [Lib.iterAt_size]; exact hBr
      have hit1 : Hid (wr.heap[K]? = some (.stringIter s k)) := hit
      generalize wr.iterAt K s (k + (stR (rn (l.drop k))).2) = W2 at hnx hI2 hit2 hbw2 hBr2
      clear hdec hstr hcut hit hI hbw hBr
      by_cases h0 : (rn (l.drop k)).2 = 0
      · rw [if_pos h0] at hF
        rw [decide_eq_true h0] at hst
        have HP : Hid (QuP l w (.returned (.tuple #[.string ⟨#[]⟩, .int .i64 30])) W2) := by
          refine ⟨?_, by rw [HB.out]; exact hbw2⟩
          rw [HE.out.1, HE.out.2, ← hF]; rfl
        clear hF HE h0 hr9 hp9
        generalize (stR (rn (l.drop k))).1 = v at hnx hst
        generalize s.extract k n = S9 at hcu hst
        go_wp2_with fail
        refine (hst _).mono ?_
        rintro e w' ⟨rfl, rfl⟩
        go_wp2
        go_ret2
        exact HP.out
      · rw [if_neg h0] at hF
        rw [decide_eq_false h0] at hst
        have hvr := (enc_rn (l.drop k) _ _ rfl h0).2.1
        have e9 : stR (rn (l.drop k)) = rn (l.drop k) := if_neg h0
        rw [e9] at hnx hst hit2
        have hrl : (rn (l.drop k)).2 ≤ n - k := by have := hr9.2.1; rw [List.length_drop, hls] at this; exact this
        have hq6 := quo_len (rn (l.drop k)).1
        have kw := fun hs => writeQuoted_any B B acc (rn (l.drop k)).1 hvr W2 hI2 (by omega) hs
        clear hr9 hp9 e9 hvr
        have HF : Hid _ := hF
        clear hF
        have HD : Hid _ := And.intro h0 hrl
        clear h0 hrl
        generalize (rn (l.drop k)).1 = v at hnx hst kw HF hq6
        generalize (rn (l.drop k)).2 = d at hnx HF hit2 HD
        generalize s.extract k n = S9 at hcu hst
        go_wp2_with fail
        refine (hst _).mono ?_
        rintro e w' ⟨rfl, rfl⟩
        go_wp2_with fail
        refine (kw hBr2).mono ?_
        rintro e w3 ⟨rfl, h3⟩
        go_wp2
        go_roundw
        case rel => exact ⟨k + d, acc ++ quo v, by have := HD.out; omega, by have := HD.out; rw [List.length_append]; omega, h3.1, h3.iter hit2 HKn.out.1, hbw2.trans h3.below, f', by have := HD.out; omega, HF.out⟩
        case measure =>
          simp only [World.iterPos, h3.iter hit2 HKn.out.1, hit1.out]
          have := HD.out
          omega
    · rw [quF_end l f' k acc (by omega)] at hF
      have hnx : ∀ ty, (Instr.next (.pointer (some ⟨K, 0, none⟩)) true ty).run Tryz.prog wr = _ := fun ty => Lib.run_next_end_at wr K s k ty hit (by omega)
      have kw := bdWB B B acc 34 wr hI (by omega) hBr
      have ks := fun W (hw : Bd B B (acc ++ [34]) W) hs => bdST B B (acc ++ [34]) W hw hs
      have HP : Hid (quS l = acc ++ [34] ∧ quE l = 0) := by
        rw [HE.out.1, HE.out.2, ← hF]; exact ⟨rfl, rfl⟩
      clear hF HE hdec hstr hcut hI
      go_wp2_with fail
      refine kw.mono ?_
      rintro e w2 ⟨rfl, h2⟩
      go_wp2_with fail
      refine (ks _ h2.1 (h2.size hBr)).mono ?_
      rintro e w3 ⟨rfl, h3⟩
      go_wp2
      go_ret2
      exact ⟨by rw [HP.out.1, HP.out.2]; rfl, by rw [HB.out]; exact (hbw.trans h2.below).trans h3.below⟩
end Go.Proofs.YtalnbddkhojjbaaGreatDoor
namespace Go.Proofs.YtalnbddkhojjbaaGreatDoor
set_option linter.unusedSimpArgs false
open Go.RowKit

def inWv (v : Nat) : Bool := decide (97 ≤ v ∧ v ≤ 122) || decide (65 ≤ v ∧ v ≤ 90) || decide (48 ≤ v ∧ v ≤ 57) || decide (v = 95) || decide (v = 43) || decide (v = 45) || decide (v = 46)
theorem inW_byte (b : UInt8) : inW b = inWv b.toNat := rfl
theorem inWv_high {v : Nat} (h : 128 ≤ v) : inWv v = false := by unfold inWv; simp; omega
set_option maxRecDepth 100000 in
set_option maxHeartbeats 4000000 in
theorem inWord_any (v : Nat) (w : World) : Calls Tryz.prog 115 #[.int .i32 (v : Int)] w fun e w' => e = .returned (.bool (inWv v)) ∧ w' = w := by
  rcases (by omega : v ≤ 42 ∨ (43 ≤ v ∧ v ≤ 43) ∨ (44 ≤ v ∧ v ≤ 44) ∨ (45 ≤ v ∧ v ≤ 45) ∨ (46 ≤ v ∧ v ≤ 46) ∨ (47 ≤ v ∧ v ≤ 47) ∨ (48 ≤ v ∧ v ≤ 57) ∨ (58 ≤ v ∧ v ≤ 64) ∨ (65 ≤ v ∧ v ≤ 90) ∨ (91 ≤ v ∧ v ≤ 94) ∨ (95 ≤ v ∧ v ≤ 95) ∨ (96 ≤ v ∧ v ≤ 96) ∨ (97 ≤ v ∧ v ≤ 122) ∨ 123 ≤ v) with hr | hr | hr | hr | hr | hr | hr | hr | hr | hr | hr | hr | hr | hr
  · have c1 : ¬ (97 : Int) ≤ (v : Int) := by omega
    have c2 : ¬ (65 : Int) ≤ (v : Int) := by omega
    have c3 : ¬ (48 : Int) ≤ (v : Int) := by omega
    have c4 : (v : Int) ≤ 122 := by omega
    have c5 : (v : Int) ≤ 90 := by omega
    have c6 : (v : Int) ≤ 57 := by omega
    have c7 : ((v : Int) == 95) = false := beq_eq_false_iff_ne.2 (by omega)
    have c8 : ((v : Int) == 43) = false := beq_eq_false_iff_ne.2 (by omega)
    have c9 : ((v : Int) == 45) = false := beq_eq_false_iff_ne.2 (by omega)
    have c10 : ((v : Int) == 46) = false := beq_eq_false_iff_ne.2 (by omega)
    rw [show inWv v = false by unfold inWv; simp; omega]
    clear hr
    go_enter Tryz.func115, Tryz.ntmps115
    go_wp2
    go_ret
    exact ⟨rfl, rfl⟩
  · have c1 : ¬ (97 : Int) ≤ (v : Int) := by omega
    have c2 : ¬ (65 : Int) ≤ (v : Int) := by omega
    have c3 : ¬ (48 : Int) ≤ (v : Int) := by omega
    have c4 : (v : Int) ≤ 122 := by omega
    have c5 : (v : Int) ≤ 90 := by omega
    have c6 : (v : Int) ≤ 57 := by omega
    have c7 : ((v : Int) == 95) = false := beq_eq_false_iff_ne.2 (by omega)
    have c8 : ((v : Int) == 43) = true := beq_iff_eq.2 (by omega)
    have c9 : ((v : Int) == 45) = false := beq_eq_false_iff_ne.2 (by omega)
    have c10 : ((v : Int) == 46) = false := beq_eq_false_iff_ne.2 (by omega)
    rw [show inWv v = true by unfold inWv; simp; omega]
    clear hr
    go_enter Tryz.func115, Tryz.ntmps115
    go_wp2
    go_ret
    exact ⟨rfl, rfl⟩
  · have c1 : ¬ (97 : Int) ≤ (v : Int) := by omega
    have c2 : ¬ (65 : Int) ≤ (v : Int) := by omega
    have c3 : ¬ (48 : Int) ≤ (v : Int) := by omega
    have c4 : (v : Int) ≤ 122 := by omega
    have c5 : (v : Int) ≤ 90 := by omega
    have c6 : (v : Int) ≤ 57 := by omega
    have c7 : ((v : Int) == 95) = false := beq_eq_false_iff_ne.2 (by omega)
    have c8 : ((v : Int) == 43) = false := beq_eq_false_iff_ne.2 (by omega)
    have c9 : ((v : Int) == 45) = false := beq_eq_false_iff_ne.2 (by omega)
    have c10 : ((v : Int) == 46) = false := beq_eq_false_iff_ne.2 (by omega)
    rw [show inWv v = false by unfold inWv; simp; omega]
    clear hr
    go_enter Tryz.func115, Tryz.ntmps115
    go_wp2
    go_ret
    exact ⟨rfl, rfl⟩
  · have c1 : ¬ (97 : Int) ≤ (v : Int) := by omega
    have c2 : ¬ (65 : Int) ≤ (v : Int) := by omega
    have c3 : ¬ (48 : Int) ≤ (v : Int) := by omega
    have c4 : (v : Int) ≤ 122 := by omega
    have c5 : (v : Int) ≤ 90 := by omega
    have c6 : (v : Int) ≤ 57 := by omega
    have c7 : ((v : Int) == 95) = false := beq_eq_false_iff_ne.2 (by omega)
    have c8 : ((v : Int) == 43) = false := beq_eq_false_iff_ne.2 (by omega)
    have c9 : ((v : Int) == 45) = true := beq_iff_eq.2 (by omega)
    have c10 : ((v : Int) == 46) = false := beq_eq_false_iff_ne.2 (by omega)
    rw [show inWv v = true by unfold inWv; simp; omega]
    clear hr
    go_enter Tryz.func115, Tryz.ntmps115
    go_wp2
    go_ret
    exact ⟨rfl, rfl⟩
  · have c1 : ¬ (97 : Int) ≤ (v : Int) := by omega
    have c2 : ¬ (65 : Int) ≤ (v : Int) := by omega
    have c3 : ¬ (48 : Int) ≤ (v : Int) := by omega
    have c4 : (v : Int) ≤ 122 := by omega
    have c5 : (v : Int) ≤ 90 := by omega
    have c6 : (v : Int) ≤ 57 := by omega
    have c7 : ((v : Int) == 95) = false := beq_eq_false_iff_ne.2 (by omega)
    have c8 : ((v : Int) == 43) = false := beq_eq_false_iff_ne.2 (by omega)
    have c9 : ((v : Int) == 45) = false := beq_eq_false_iff_ne.2 (by omega)
    have c10 : ((v : Int) == 46) = true := beq_iff_eq.2 (by omega)
    rw [show inWv v = true by unfold inWv; simp; omega]
    clear hr
    go_enter Tryz.func115, Tryz.ntmps115
    go_wp2
    go_ret
    exact ⟨rfl, rfl⟩
  · have c1 : ¬ (97 : Int) ≤ (v : Int) := by omega
    have c2 : ¬ (65 : Int) ≤ (v : Int) := by omega
    have c3 : ¬ (48 : Int) ≤ (v : Int) := by omega
    have c4 : (v : Int) ≤ 122 := by omega
    have c5 : (v : Int) ≤ 90 := by omega
    have c6 : (v : Int) ≤ 57 := by omega
    have c7 : ((v : Int) == 95) = false := beq_eq_false_iff_ne.2 (by omega)
    have c8 : ((v : Int) == 43) = false := beq_eq_false_iff_ne.2 (by omega)
    have c9 : ((v : Int) == 45) = false := beq_eq_false_iff_ne.2 (by omega)
    have c10 : ((v : Int) == 46) = false := beq_eq_false_iff_ne.2 (by omega)
    rw [show inWv v = false by unfold inWv; simp; omega]
    clear hr
    go_enter Tryz.func115, Tryz.ntmps115
    go_wp2
    go_ret
    exact ⟨rfl, rfl⟩
  · have c1 : ¬ (97 : Int) ≤ (v : Int) := by omega
    have c2 : ¬ (65 : Int) ≤ (v : Int) := by omega
    have c3 : (48 : Int) ≤ (v : Int) := by omega
    have c4 : (v : Int) ≤ 122 := by omega
    have c5 : (v : Int) ≤ 90 := by omega
    have c6 : (v : Int) ≤ 57 := by omega
    have c7 : ((v : Int) == 95) = false := beq_eq_false_iff_ne.2 (by omega)
    have c8 : ((v : Int) == 43) = false := beq_eq_false_iff_ne.2 (by omega)
    have c9 : ((v : Int) == 45) = false := beq_eq_false_iff_ne.2 (by omega)
    have c10 : ((v : Int) == 46) = false := beq_eq_false_iff_ne.2 (by omega)
    rw [show inWv v = true by unfold inWv; simp; omega]
    clear hr
    go_enter Tryz.func115, Tryz.ntmps115
    go_wp2
    go_ret
    exact ⟨rfl, rfl⟩
  · have c1 : ¬ (97 : Int) ≤ (v : Int) := by omega
    have c2 : ¬ (65 : Int) ≤ (v : Int) := by omega
    have c3 : (48 : Int) ≤ (v : Int) := by omega
    have c4 : (v : Int) ≤ 122 := by omega
    have c5 : (v : Int) ≤ 90 := by omega
    have c6 : ¬ (v : Int) ≤ 57 := by omega
    have c7 : ((v : Int) == 95) = false := beq_eq_false_iff_ne.2 (by omega)
    have c8 : ((v : Int) == 43) = false := beq_eq_false_iff_ne.2 (by omega)
    have c9 : ((v : Int) == 45) = false := beq_eq_false_iff_ne.2 (by omega)
    have c10 : ((v : Int) == 46) = false := beq_eq_false_iff_ne.2 (by omega)
    rw [show inWv v = false by unfold inWv; simp; omega]
    clear hr
    go_enter Tryz.func115, Tryz.ntmps115
    go_wp2
    go_ret
    exact ⟨rfl, rfl⟩
  · have c1 : ¬ (97 : Int) ≤ (v : Int) := by omega
    have c2 : (65 : Int) ≤ (v : Int) := by omega
    have c3 : (48 : Int) ≤ (v : Int) := by omega
    have c4 : (v : Int) ≤ 122 := by omega
    have c5 : (v : Int) ≤ 90 := by omega
    have c6 : ¬ (v : Int) ≤ 57 := by omega
    have c7 : ((v : Int) == 95) = false := beq_eq_false_iff_ne.2 (by omega)
    have c8 : ((v : Int) == 43) = false := beq_eq_false_iff_ne.2 (by omega)
    have c9 : ((v : Int) == 45) = false := beq_eq_false_iff_ne.2 (by omega)
    have c10 : ((v : Int) == 46) = false := beq_eq_false_iff_ne.2 (by omega)
    rw [show inWv v = true by unfold inWv; simp; omega]
    clear hr
    go_enter Tryz.func115, Tryz.ntmps115
    go_wp2
    go_ret
    exact ⟨rfl, rfl⟩
  · have c1 : ¬ (97 : Int) ≤ (v : Int) := by omega
    have c2 : (65 : Int) ≤ (v : Int) := by omega
    have c3 : (48 : Int) ≤ (v : Int) := by omega
    have c4 : (v : Int) ≤ 122 := by omega
    have c5 : ¬ (v : Int) ≤ 90 := by omega
    have c6 : ¬ (v : Int) ≤ 57 := by omega
    have c7 : ((v : Int) == 95) = false := beq_eq_false_iff_ne.2 (by omega)
    have c8 : ((v : Int) == 43) = false := beq_eq_false_iff_ne.2 (by omega)
    have c9 : ((v : Int) == 45) = false := beq_eq_false_iff_ne.2 (by omega)
    have c10 : ((v : Int) == 46) = false := beq_eq_false_iff_ne.2 (by omega)
    rw [show inWv v = false by unfold inWv; simp; omega]
    clear hr
    go_enter Tryz.func115, Tryz.ntmps115
    go_wp2
    go_ret
    exact ⟨rfl, rfl⟩
  · have c1 : ¬ (97 : Int) ≤ (v : Int) := by omega
    have c2 : (65 : Int) ≤ (v : Int) := by omega
    have c3 : (48 : Int) ≤ (v : Int) := by omega
    have c4 : (v : Int) ≤ 122 := by omega
    have c5 : ¬ (v : Int) ≤ 90 := by omega
    have c6 : ¬ (v : Int) ≤ 57 := by omega
    have c7 : ((v : Int) == 95) = true := beq_iff_eq.2 (by omega)
    have c8 : ((v : Int) == 43) = false := beq_eq_false_iff_ne.2 (by omega)
    have c9 : ((v : Int) == 45) = false := beq_eq_false_iff_ne.2 (by omega)
    have c10 : ((v : Int) == 46) = false := beq_eq_false_iff_ne.2 (by omega)
    rw [show inWv v = true by unfold inWv; simp; omega]
    clear hr
    go_enter Tryz.func115, Tryz.ntmps115
    go_wp2
    go_ret
    exact ⟨rfl, rfl⟩
  · have c1 : ¬ (97 : Int) ≤ (v : Int) := by omega
    have c2 : (65 : Int) ≤ (v : Int) := by omega
    have c3 : (48 : Int) ≤ (v : Int) := by omega
    have c4 : (v : Int) ≤ 122 := by omega
    have c5 : ¬ (v : Int) ≤ 90 := by omega
    have c6 : ¬ (v : Int) ≤ 57 := by omega
    have c7 : ((v : Int) == 95) = false := beq_eq_false_iff_ne.2 (by omega)
    have c8 : ((v : Int) == 43) = false := beq_eq_false_iff_ne.2 (by omega)
    have c9 : ((v : Int) == 45) = false := beq_eq_false_iff_ne.2 (by omega)
    have c10 : ((v : Int) == 46) = false := beq_eq_false_iff_ne.2 (by omega)
    rw [show inWv v = false by unfold inWv; simp; omega]
    clear hr
    go_enter Tryz.func115, Tryz.ntmps115
    go_wp2
    go_ret
    exact ⟨rfl, rfl⟩
  · have c1 : (97 : Int) ≤ (v : Int) := by omega
    have c2 : (65 : Int) ≤ (v : Int) := by omega
    have c3 : (48 : Int) ≤ (v : Int) := by omega
    have c4 : (v : Int) ≤ 122 := by omega
    have c5 : ¬ (v : Int) ≤ 90 := by omega
    have c6 : ¬ (v : Int) ≤ 57 := by omega
    have c7 : ((v : Int) == 95) = false := beq_eq_false_iff_ne.2 (by omega)
    have c8 : ((v : Int) == 43) = false := beq_eq_false_iff_ne.2 (by omega)
    have c9 : ((v : Int) == 45) = false := beq_eq_false_iff_ne.2 (by omega)
    have c10 : ((v : Int) == 46) = false := beq_eq_false_iff_ne.2 (by omega)
    rw [show inWv v = true by unfold inWv; simp; omega]
    clear hr
    go_enter Tryz.func115, Tryz.ntmps115
    go_wp2
    go_ret
    exact ⟨rfl, rfl⟩
  · have c1 : (97 : Int) ≤ (v : Int) := by omega
    have c2 : (65 : Int) ≤ (v : Int) := by omega
    have c3 : (48 : Int) ≤ (v : Int) := by omega
    have c4 : ¬ (v : Int) ≤ 122 := by omega
    have c5 : ¬ (v : Int) ≤ 90 := by omega
    have c6 : ¬ (v : Int) ≤ 57 := by omega
    have c7 : ((v : Int) == 95) = false := beq_eq_false_iff_ne.2 (by omega)
    have c8 : ((v : Int) == 43) = false := beq_eq_false_iff_ne.2 (by omega)
    have c9 : ((v : Int) == 45) = false := beq_eq_false_iff_ne.2 (by omega)
    have c10 : ((v : Int) == 46) = false := beq_eq_false_iff_ne.2 (by omega)
    rw [show inWv v = false by unfold inWv; simp; omega]
    clear hr
    go_enter Tryz.func115, Tryz.ntmps115
    go_wp2
    go_ret
    exact ⟨rfl, rfl⟩
theorem word_rn (x : List UInt8) (hx : 0 < x.length) : inWv (stR (rn x)).1 = inW (lB x 0) ∧ (inW (lB x 0) = true → (stR (rn x)).2 = 1) := by
  by_cases h1 : (lB x 0).toNat < 128
  · have e : rn x = ((lB x 0).toNat, 1) := by rw [rn_b x _ (by omega) rfl, if_pos h1]
    rw [e]
    exact ⟨rfl, fun _ => rfl⟩
  · have hb : inW (lB x 0) = false := by rw [inW_byte]; exact inWv_high (by omega)
    refine ⟨?_, fun h => by rw [hb] at h; cases h⟩
    rw [hb]
    apply inWv_high
    unfold stR
    split
    · show 128 ≤ 65533; omega
    · rename_i h0
      have h9 := enc_rn x (rn x).1 (rn x).2 rfl h0
      obtain ⟨ht, hv, hn⟩ := h9
      rcases Nat.lt_or_ge (rn x).1 128 with h | h
      · exfalso
        rw [enc_small _ h] at ht
        have hn1 : (rn x).2 = 1 := by
          have := congrArg List.length ht
          rw [List.length_take] at this
          simp at this
          omega
        rw [hn1, take1 x hx] at ht
        have h5 : lB x 0 = u8 (rn x).1 := (List.cons.inj ht).1
        have h6 := congrArg UInt8.toNat h5
        rw [u8_at (rn x).1 (by omega)] at h6
        omega
      · exact h
set_option maxRecDepth 100000 in
set_option maxHeartbeats 4000000 in
theorem word_any (s : ByteArray) (w : World) : Calls Tryz.prog 91 #[.string s] w fun e w' => (∃ S, e = .returned (.string S) ∧ lS S = (lS s).take (wl (lS s))) ∧ Below w.heap.size w w' := by
  have hls := lS_len s
  have hdec := fun k (h : k < s.size) => dec_rn s k h
  have hnext := fun (k : Nat) (h : k < s.size) (ty : TypeId) => run_next_any (P := Tryz.prog) w s k ty h
  have hend := fun (k : Nat) (h : ¬ k < s.size) (ty : TypeId) => run_next_end (P := Tryz.prog) w s k ty h
  have hcut := fun k (h : k ≤ s.size) W => run_sCut0 W s k h
  have hlc : ∀ k, lS (s.extract 0 k) = (lS s).take k := fun k => by rw [lS_cut]; rfl
  obtain ⟨l, hl⟩ : ∃ q, lS s = q := ⟨_, rfl⟩
  have HL : Hid (lS s = l) := hl
  simp only [hl] at hls hdec hlc ⊢
  obtain ⟨n, hn⟩ : ∃ q, s.size = q := ⟨_, rfl⟩
  simp only [hn] at hls hdec hnext hend hcut
  clear hl hn
  go_enter Tryz.func91, Tryz.ntmps91
  go_wp2_with fail
  go_loopw [] (fun wr => ∃ k : Nat, k ≤ n ∧ wr = w.iter s k ∧ Hid (wl l = k + wl (l.drop k))) (fun wr => n - wr.iterPos w.heap.size)
  case atStart => exact ⟨0, by omega, rfl, by show wl l = 0 + wl (l.drop 0); rw [List.drop_zero, Nat.zero_add]⟩
  case round =>
    obtain ⟨k, hk, rfl, HI⟩ := hrel
    by_cases hlt : k < n
    · have hnx := hnext k hlt
      rw [hdec k hlt] at hnx
      obtain ⟨g1, g2⟩ := word_rn (l.drop k) (by rw [List.length_drop]; omega)
      rw [lB_drop] at g1 g2
      have hw := wl_step l k (by omega)
      have hcu := hcut k hk
      have hin := fun W => inWord_any (stR (rn (l.drop k))).1 W
      rw [g1] at hin
      clear hdec hnext hend hcut g1
      by_cases hi : inW (lB l k) = true
      · rw [if_pos hi] at hw
        rw [hi] at hin
        rw [g2 hi] at hnx
        have HN : Hid (wl l = k + 1 + wl (l.drop (k + 1))) := by show wl l = _; rw [HI.out, hw]; omega
        clear HI hw hi g2 hcu
        generalize (stR (rn (l.drop k))).1 = v at hnx hin
        go_wp2_with fail
        refine (hin _).mono ?_
        rintro e w' ⟨rfl, rfl⟩
        go_wp2
        go_roundw
        case rel => exact ⟨k + 1, by omega, rfl, HN⟩
        case measure => simp; omega
      · rw [if_neg hi] at hw
        rw [show inW (lB l k) = false by simpa using hi] at hin
        have HP : Hid (lS (s.extract 0 k) = l.take (wl l)) := by show _ = _; rw [hlc, HI.out, hw]; rfl
        clear HI hw hi g2 hlc
        generalize (stR (rn (l.drop k))).1 = v at hnx hin
        generalize k + (stR (rn (l.drop k))).2 = k2 at hnx
        generalize s.extract 0 k = S9 at hcu HP
        go_wp2_with fail
        refine (hin _).mono ?_
        rintro e w' ⟨rfl, rfl⟩
        go_wp2
        go_ret
        exact ⟨⟨_, rfl, HP.out⟩, below_alloc w _⟩
    · obtain rfl : k = n := by omega
      have hnx := hend k (by omega)
      have HP : Hid (lS s = l.take (wl l)) := by
        show lS s = _
        rw [HL.out, HI.out, List.drop_of_length_le (by omega)]
        rw [show wl ([] : List UInt8) = 0 from rfl, Nat.add_zero, ← hls, List.take_length]
      clear hdec hnext hend hcut HI hlc
      go_wp2
      go_ret
      exact ⟨⟨_, rfl, HP.out⟩, below_alloc w _⟩
end Go.Proofs.YtalnbddkhojjbaaGreatDoor
