import Derived.Test.YtiokdcffpnjkcaaDoorQLxv
namespace Go.Proofs.YtiokdcffpnjkcaaDoor
open Go.RowKit

/-! lex.meaning -/
theorem nmV_least (l : List UInt8) (h0 : lB l 0 ≠ 48) : ∀ k v, nmV l (k + 1) = some v → 10 ^ k ≤ v
  | 0, v, h => by
    rw [nmV_go l 0 0 rfl] at h
    split at h
    · cases h
    · simp only [Option.some.injEq] at h
      have h9 : (lB l 0).toNat ≠ 48 := fun e => h0 (UInt8.toNat_inj.1 (by show _ = 48; omega))
      rw [Nat.pow_zero]
      omega
  | k + 1, v, h => by
    cases h1 : nmV l (k + 1) with
    | none => rw [nmV, h1] at h; cases h
    | some u =>
      have hu := nmV_least l h0 k u h1
      rw [nmV_go l (k + 1) u h1] at h
      split at h
      · cases h
      · simp only [Option.some.injEq] at h
        rw [Nat.pow_succ]
        omega
theorem numW_r10 (l : List UInt8) (h : ¬ (1 < l.length ∧ lB l 0 = 48)) : (r10 l = none ∧ numW l = -1) ∨ ∃ v : Nat, r10 l = some v ∧ numW l = (v : Int) ∧ v ≤ 9223372036854775807 := by
  unfold r10 numW
  by_cases h0 : l.length = 0
  · exact .inl ⟨if_pos h0, if_pos (.inl h0)⟩
  rw [if_neg h0]
  by_cases h19 : 19 < l.length
  · refine .inl ⟨?_, if_pos (.inr (.inl h19))⟩
    have h48 : lB l 0 ≠ 48 := fun e => h ⟨by omega, e⟩
    cases hv : nmV l l.length with
    | none => rfl
    | some v =>
      have h1 := nmV_least l h48 (l.length - 1) v (by rw [show l.length - 1 + 1 = l.length by omega]; exact hv)
      have h2 : 10 ^ 19 ≤ 10 ^ (l.length - 1) := Nat.pow_le_pow_right (by omega) (by omega)
      have h3 : (10 : Nat) ^ 19 = 10000000000000000000 := by decide
      exact if_pos (by omega)
  rw [if_neg (by rintro (a | a | a); exact h0 a; exact h19 a; exact h a)]
  cases hv : nmV l l.length with
  | none => exact .inl ⟨rfl, rfl⟩
  | some v =>
    by_cases hb : 9223372036854775807 < v
    · exact .inl ⟨if_pos hb, if_pos hb⟩
    · exact .inr ⟨v, if_neg hb, if_neg hb, by omega⟩
/-- What lex.meaning leaves. -/
def MnP (r : Tk × Nat) (w : World) (e : Ending) (w' : World) : Prop := e = .returned (.tuple #[.agg (tkA r.1.kind 0 r.1.n ⟨#[]⟩), .bool (decide (r.2 ≠ 0))]) ∧ Below w.heap.size w w'
theorem mn_lay {w W : World} {g : Nat} {c d : Array Value} (hg : w.heap.size = g) (hW : Below g w W) (hr : RowC W g c) : RowC (W.setRow g d) g d ∧ Below w.heap.size w (W.setRow g d) :=
  ⟨hr.setRow d, below_row14 (hg ▸ hW) (Nat.le_of_eq hg) d⟩
theorem lit_ne (S : ByteArray) (x : List UInt8) (h : lS S ≠ x) : (S.toList == x) = false := by
  have h9 := sNe14 (s := S) (t := ⟨x.toArray⟩) (by rw [lS_mk]; exact h)
  rwa [ByteArray.toList_eq ⟨x.toArray⟩] at h9
theorem lit_eq (S : ByteArray) (x : List UInt8) (h : lS S = x) : (S.toList == x) = true := by
  have h9 := sEq14 (s := S) (t := ⟨x.toArray⟩) (by rw [lS_mk]; exact h)
  rwa [ByteArray.toList_eq ⟨x.toArray⟩] at h9
set_option linter.unusedSimpArgs false in
set_option maxRecDepth 100000 in
set_option maxHeartbeats 4000000 in
theorem meaning_any (s : ByteArray) (w : World) (hV : Vx w) (hmax : s.size ≤ 140737488355328) : Calls Tryd.prog 31 #[.string s] w fun e w' => MnP (wordTk (lS s) 1) w e w' := by
  have hls := lS_len s
  have rX := RowC.new w (tkA 0 0 0 ⟨#[]⟩) 31
  have bX := below_alloc w (.cells (tkA 0 0 0 ⟨#[]⟩) 31)
  obtain ⟨g, hg⟩ : ∃ q, w.heap.size = q := ⟨_, rfl⟩
  have HG : Hid (w.heap.size = g) := hg
  rw [hg] at rX bX
  have hfin := fun (k n : Int) => mn_lay (d := tkA k 0 n ⟨#[]⟩) hg bX rX
  by_cases h : lS s = wdNull
  · have e : wordTk (lS s) 1 = (⟨7, 0, 0, []⟩, 1) := by rw [h]; rfl
    rw [e]
    have f0 : (s.toList == [110, 117, 108, 108]) = true := lit_eq s _ h
    have f1 : (s.toList == [116, 114, 117, 101]) = false := lit_ne s _ (by rw [h]; decide)
    have f2 : (s.toList == [102, 97, 108, 115, 101]) = false := lit_ne s _ (by rw [h]; decide)
    have HC : Hid _ := (hfin 7 0).1
    have HB : Hid _ := (hfin 7 0).2
    obtain ⟨c1, c2⟩ := rX
    clear h e hls hfin bX hmax
    go_enter Tryd.func31, Tryd.ntmps31
    go_upto_region 1 with fail
    clear hg
    generalize w.alloc (.cells (tkA 0 0 0 ⟨#[]⟩) 31) = X at c1 c2 HC HB ⊢
    go_wp2
    exact tl_bodyPost2 2 3 g (tkA 7 0 0 ⟨#[]⟩) rfl rfl rfl HC.out rfl ⟨rfl, HB.out⟩
  have n0 := h
  clear h
  by_cases h : lS s = wdTrue
  · have e : wordTk (lS s) 1 = (⟨8, 0, 0, []⟩, 1) := by rw [h]; rfl
    rw [e]
    have f0 : (s.toList == [110, 117, 108, 108]) = false := lit_ne s _ (by rw [h]; decide)
    have f1 : (s.toList == [116, 114, 117, 101]) = true := lit_eq s _ h
    have f2 : (s.toList == [102, 97, 108, 115, 101]) = false := lit_ne s _ (by rw [h]; decide)
    have HC : Hid _ := (hfin 8 0).1
    have HB : Hid _ := (hfin 8 0).2
    obtain ⟨c1, c2⟩ := rX
    clear h e hls hfin bX hmax
    go_enter Tryd.func31, Tryd.ntmps31
    go_upto_region 1 with fail
    clear hg
    generalize w.alloc (.cells (tkA 0 0 0 ⟨#[]⟩) 31) = X at c1 c2 HC HB ⊢
    go_wp2
    exact tl_bodyPost2 2 3 g (tkA 8 0 0 ⟨#[]⟩) rfl rfl rfl HC.out rfl ⟨rfl, HB.out⟩
  have n1 := h
  clear h
  by_cases h : lS s = wdFalse
  · have e : wordTk (lS s) 1 = (⟨9, 0, 0, []⟩, 1) := by rw [h]; rfl
    rw [e]
    have f0 : (s.toList == [110, 117, 108, 108]) = false := lit_ne s _ (by rw [h]; decide)
    have f1 : (s.toList == [116, 114, 117, 101]) = false := lit_ne s _ (by rw [h]; decide)
    have f2 : (s.toList == [102, 97, 108, 115, 101]) = true := lit_eq s _ h
    have HC : Hid _ := (hfin 9 0).1
    have HB : Hid _ := (hfin 9 0).2
    obtain ⟨c1, c2⟩ := rX
    clear h e hls hfin bX hmax
    go_enter Tryd.func31, Tryd.ntmps31
    go_upto_region 1 with fail
    clear hg
    generalize w.alloc (.cells (tkA 0 0 0 ⟨#[]⟩) 31) = X at c1 c2 HC HB ⊢
    go_wp2
    exact tl_bodyPost2 2 3 g (tkA 9 0 0 ⟨#[]⟩) rfl rfl rfl HC.out rfl ⟨rfl, HB.out⟩
  have n2 := h
  clear h
  have hwd : wordTk (lS s) 1 = if numW (lS s) < 0 then (tkZ, 0) else (⟨10, 0, numW (lS s), []⟩, 1) := by
    unfold wordTk
    rw [if_neg n0, if_neg n1, if_neg n2]
  have f0 : (s.toList == [110, 117, 108, 108]) = false := lit_ne s _ n0
  have f1 : (s.toList == [116, 114, 117, 101]) = false := lit_ne s _ n1
  have f2 : (s.toList == [102, 97, 108, 115, 101]) = false := lit_ne s _ n2
  clear n0 n1 n2
  have hz := (hfin 0 0)
  have zero : ∀ W, RowC W g (tkA 0 0 0 ⟨#[]⟩) → Below g w W → Hid (RowC (W.setRow g (tkA 0 0 0 ⟨#[]⟩)) g (tkA 0 0 0 ⟨#[]⟩) ∧ Below w.heap.size w (W.setRow g (tkA 0 0 0 ⟨#[]⟩))) := fun W hr hb => mn_lay HG.out hb hr
  clear hfin hz
  by_cases h1 : 1 < s.size
  · have i1 : (1 : Int) < (s.size : Int) := by omega
    have hat : ∀ W, (sAt (.string s) (.int .i64 0)).run Tryd.prog W = .ok (.value (.int .u8 ((lB (lS s) 0).toNat : Int))) W := fun W => run_sAt W s 0 (by omega)
    by_cases h48 : lB (lS s) 0 = 48
    · have hn : numW (lS s) = -1 := by unfold numW; rw [if_pos (.inr (.inr ⟨by omega, h48⟩))]
      rw [hn, if_pos (by omega)] at hwd
      rw [hwd]
      have c48 : (((lB (lS s) 0).toNat : Int) == 48) = true := by rw [h48]; rfl
      generalize lB (lS s) 0 = b at hat c48
      have HZ := zero _ rX bX
      obtain ⟨c1, c2⟩ := rX
      clear h48 hn hwd zero bX hls h1 hmax
      go_enter Tryd.func31, Tryd.ntmps31
      go_upto_region 1 with fail
      clear hg
      generalize w.alloc (.cells (tkA 0 0 0 ⟨#[]⟩) 31) = X at c1 c2 HZ ⊢
      go_wp2
      exact tl_bodyPost2 2 3 g (tkA 0 0 0 ⟨#[]⟩) rfl rfl rfl HZ.out.1 rfl ⟨rfl, HZ.out.2⟩
    · have c48 : (((lB (lS s) 0).toNat : Int) == 48) = false := beq_eq_false_iff_ne.2 fun e => h48 (UInt8.toNat_inj.1 (by show _ = 48; omega))
      have hc := numW_r10 (lS s) (fun h => h48 h.2)
      have kp := fun W hW => pU10 s W hW hmax
      generalize lB (lS s) 0 = b at hat c48
      generalize wordTk (lS s) 1 = WT at hwd ⊢
      generalize numW (lS s) = NW at hwd hc
      generalize r10 (lS s) = R at hc kp
      have hVX := hV.below (HG.out ▸ bX)
      have HK : Hid (∀ W, Vx W → Calls Tryd.prog 41 #[.string s, .int .i64 10, .int .i64 63] W fun e w' => PuP R W e w') := kp
      clear h48 hls h1 hmax kp
      go_enter Tryd.func31, Tryd.ntmps31
      go_upto_region 1 with fail
      clear hg
      generalize w.alloc (.cells (tkA 0 0 0 ⟨#[]⟩) 31) = X at rX bX hVX ⊢
      go_wp2_with fail
      refine (HK.out _ hVX).mono ?_
      rintro e w1 ⟨hb, ⟨v, rfl, rfl⟩ | ⟨rfl, x, t9, p9, rfl⟩⟩
      · have hr1 := rX.kept hb
        have hb1 : Below g w w1 := bX.trans (hb.mono (by have := rX.lt; omega))
        rcases hc with ⟨h9, -⟩ | ⟨v', h9, hN, hv9⟩
        · cases h9
        · cases h9
          rw [hN, if_neg (by omega)] at hwd
          have hfin := mn_lay (d := tkA 10 0 (v : Int) ⟨#[]⟩) HG.out hb1 hr1
          have HC : Hid _ := hfin.1
          have HB : Hid _ := hfin.2
          obtain ⟨c1, c2⟩ := hr1
          have HW : Hid _ := hwd
          clear hwd hfin zero rX bX hVX hb hb1 hN
          go_wp2
          exact tl_bodyPost2 2 3 g (tkA 10 0 (v : Int) ⟨#[]⟩) rfl rfl rfl HC.out rfl ⟨by rw [HW.out]; rfl, HB.out⟩
      · have hr1 := rX.kept hb
        have hb1 : Below g w w1 := bX.trans (hb.mono (by have := rX.lt; omega))
        rcases hc with ⟨-, hN⟩ | ⟨v', h9, -⟩
        · rw [hN, if_pos (by omega)] at hwd
          have HZ := zero _ hr1 hb1
          obtain ⟨c1, c2⟩ := hr1
          have HW : Hid _ := hwd
          clear hwd zero rX bX hVX hb hb1 hN
          go_wp2
          exact tl_bodyPost2 2 3 g (tkA 0 0 0 ⟨#[]⟩) rfl rfl rfl HZ.out.1 rfl ⟨by rw [HW.out]; rfl, HZ.out.2⟩
        · cases h9
  · have i1 : ¬ (1 : Int) < (s.size : Int) := by omega
    have hc := numW_r10 (lS s) (fun h => h1 (by rw [← hls]; exact h.1))
    have kp := fun W hW => pU10 s W hW hmax
    generalize wordTk (lS s) 1 = WT at hwd ⊢
    generalize numW (lS s) = NW at hwd hc
    generalize r10 (lS s) = R at hc kp
    have hVX := hV.below (HG.out ▸ bX)
    have HK : Hid (∀ W, Vx W → Calls Tryd.prog 41 #[.string s, .int .i64 10, .int .i64 63] W fun e w' => PuP R W e w') := kp
    clear hls h1 hmax kp
    go_enter Tryd.func31, Tryd.ntmps31
    go_upto_region 1 with fail
    clear hg
    generalize w.alloc (.cells (tkA 0 0 0 ⟨#[]⟩) 31) = X at rX bX hVX ⊢
    go_wp2_with fail
    refine (HK.out _ hVX).mono ?_
    rintro e w1 ⟨hb, ⟨v, rfl, rfl⟩ | ⟨rfl, x, t9, p9, rfl⟩⟩
    · have hr1 := rX.kept hb
      have hb1 : Below g w w1 := bX.trans (hb.mono (by have := rX.lt; omega))
      rcases hc with ⟨h9, -⟩ | ⟨v', h9, hN, hv9⟩
      · cases h9
      · cases h9
        rw [hN, if_neg (by omega)] at hwd
        have hfin := mn_lay (d := tkA 10 0 (v : Int) ⟨#[]⟩) HG.out hb1 hr1
        have HC : Hid _ := hfin.1
        have HB : Hid _ := hfin.2
        obtain ⟨c1, c2⟩ := hr1
        have HW : Hid _ := hwd
        clear hwd hfin zero rX bX hVX hb hb1 hN
        go_wp2
        exact tl_bodyPost2 2 3 g (tkA 10 0 (v : Int) ⟨#[]⟩) rfl rfl rfl HC.out rfl ⟨by rw [HW.out]; rfl, HB.out⟩
    · have hr1 := rX.kept hb
      have hb1 : Below g w w1 := bX.trans (hb.mono (by have := rX.lt; omega))
      rcases hc with ⟨-, hN⟩ | ⟨v', h9, -⟩
      · rw [hN, if_pos (by omega)] at hwd
        have HZ := zero _ hr1 hb1
        obtain ⟨c1, c2⟩ := hr1
        have HW : Hid _ := hwd
        clear hwd zero rX bX hVX hb hb1 hN
        go_wp2
        exact tl_bodyPost2 2 3 g (tkA 0 0 0 ⟨#[]⟩) rfl rfl rfl HZ.out.1 rfl ⟨by rw [HW.out]; rfl, HZ.out.2⟩
      · cases h9
end Go.Proofs.YtiokdcffpnjkcaaDoor
