
import Derived.Test.YtiokdcffpnjkcaaDoorLxu
namespace Go.Proofs.YtiokdcffpnjkcaaDoor
open Go.RowKit

/-! lex.quoted -/
/-- What lex.first and lex.quoted leave. -/
def FsP (r : Tk × Nat) (w : World) (e : Ending) (w' : World) : Prop := (∃ k a n S, e = .returned (.tuple #[.agg (tkA k a n S), .int .i64 (r.2 : Int)]) ∧ (r.2 ≠ 0 → k = r.1.kind ∧ a = 0 ∧ n = r.1.n ∧ lS S = r.1.text)) ∧ Below w.heap.size w w'
/-- Where the cutting of a string's content stands. -/
def AtQ (l : List UInt8) (m pos bh : Nat) (acc : List UInt8) (R : List UInt8 × Nat) : Prop := ∃ f k, (if pos < bh then bh else pos) + 1 = k ∧ l.length < f + k ∧ txt l f k acc = R ∧ acc.length ≤ k ∧ bh ≤ m ∧ ∀ j, pos ≤ j → j < bh → (lB l (j + 1)).toNat < 128
/-- A token laid into its variable, and what was there before. -/
theorem tl_lay {w X W : World} {g : Nat} {c d : Array Value} (hg : w.heap.size = g) (hX : Below g w X) (hW : Below (g + 1) X W) (hr : RowC W g c) : RowC (W.setRow g d) g d ∧ Below w.heap.size w (W.setRow g d) :=
  ⟨hr.setRow d, below_row14 (hg ▸ hX.trans (hW.mono (by omega))) (Nat.le_of_eq hg) d⟩
set_option linter.unusedSimpArgs false in
set_option maxRecDepth 100000 in
set_option maxHeartbeats 8000000 in
theorem quoted_any (s : ByteArray) (w : World) (hV : Vx w) (h1 : 1 ≤ s.size) (h40 : s.size ≤ 1099511627776) : Calls Tryd.prog 29 #[.string s] w fun e w' => FsP (⟨11, 0, 0, (txt (lS s) (lS s).length 1 []).1⟩, (txt (lS s) (lS s).length 1 []).2) w e w' := by
  have hls := lS_len s
  have hc1 : ∀ W, (sCut1 (.string s) (.int .i64 1)).run Tryd.prog W = .ok (.value (.string (s.extract 1 s.size))) W := fun W => run_sCut1 W s 1 h1
  have hct := extract_all s 1
  obtain ⟨t, ht⟩ : ∃ q, s.extract 1 s.size = q := ⟨_, rfl⟩
  rw [ht] at hc1 hct
  have htz : t.size = s.size - 1 := by rw [← lS_len, hct, List.length_drop, hls]
  have hdec := fun k (h : k < t.size) => dec_rn t k h
  have hstr := fun v k W => isStray_any v (t.extract k t.size) W
  have hesc := fun k W hW => escaped_any (t.extract k t.size) W hW (by rw [← lS_len, extract_all, List.length_drop, hct, List.length_drop, hls]; omega)
  simp only [extract_all] at hstr hesc
  have hcut := fun k (h : k ≤ t.size) W => run_sCut1 W t k h
  simp only [hct, List.drop_drop] at hdec hstr hesc
  obtain ⟨l, hl⟩ : ∃ q, lS s = q := ⟨_, rfl⟩
  simp only [hl] at hls hdec hstr hesc ⊢
  obtain ⟨R, hR⟩ : ∃ q, txt l l.length 1 [] = q := ⟨_, rfl⟩
  obtain ⟨m, hm⟩ : ∃ q, t.size = q := ⟨_, rfl⟩
  simp only [hm] at hdec hstr hesc hcut htz
  have H0 : Hid (AtQ l m 0 0 [] R) := ⟨l.length, 1, rfl, by omega, hR, by simp, by omega, fun j _ h => by omega⟩
  have HM : Hid (l.length = m + 1 ∧ m ≤ 1099511627776) := ⟨by omega, by omega⟩
  rw [hR]
  clear hR ht hct hl hls htz h1
  have rX := RowC.new w (tkA 0 0 0 ⟨#[]⟩) 31
  have bX := below_alloc w (.cells (tkA 0 0 0 ⟨#[]⟩) 31)
  obtain ⟨g, hg⟩ : ∃ q, w.heap.size = q := ⟨_, rfl⟩
  have HG : Hid (w.heap.size = g) := hg
  have hX : (w.alloc (.cells (tkA 0 0 0 ⟨#[]⟩) 31)).heap.size = g + 1 := by rw [← hg]; simp
  rw [hg] at rX bX
  go_enter Tryd.func29, Tryd.ntmps29
  go_upto_region 1 with fail
  clear hg
  have hfr := Bd.fresh (w.alloc (.cells (tkA 0 0 0 ⟨#[]⟩) 31))
  have hbb := below_alloc (w.alloc (.cells (tkA 0 0 0 ⟨#[]⟩) 31)) (.cells #[.pointer none, .slice none 0 0] 47)
  rw [hX] at hfr hbb
  generalize w.alloc (.cells (tkA 0 0 0 ⟨#[]⟩) 31) = X at rX bX hX hfr hbb ⊢
  go_upto_region 4 with fail
  have hY : (X.alloc (.cells #[.pointer none, .slice none 0 0] 47)).heap.size = g + 2 := by simp [hX]
  have rY := rX.block (hbb.block g (by omega))
  generalize X.alloc (.cells #[.pointer none, .slice none 0 0] 47) = Y at hfr hbb hY rY ⊢
  have hI0 : Bd (g + 1) (g + 1) [] (Y.iter t 0) := hfr.alloc _
  have hi0 : (Y.iter t 0).heap[g + 2]? = some (.stringIter t 0) := by rw [← hY]; exact World.iter_heap Y t 0
  have hbi : Below (g + 1) X (Y.iter t 0) := hbb.alloc (by omega) _
  have rI : RowC (Y.iter t 0) g (tkA 0 0 0 ⟨#[]⟩) := rX.block (hbi.block g (by omega))
  have hbwX : Below g w X := bX
  clear hfr hbb rY rX bX hX
  go_wp2_with fail
  clear hY
  go_loopw [6] (fun bv wr => ∃ (pos bh : Nat) (acc : List UInt8), pos ≤ m ∧ bv = .int .i64 (bh : Int) ∧ Bd (g + 1) (g + 1) acc wr ∧ wr.heap[g + 2]? = some (.stringIter t pos) ∧ Below (g + 1) X wr ∧ RowC wr g (tkA 0 0 0 ⟨#[]⟩) ∧ Hid (AtQ l m pos bh acc R)) (fun _ wr => m - wr.iterPos (g + 2))
  case atStart => exact ⟨0, 0, [], by omega, rfl, hI0, hi0, hbi, rI, H0⟩
  case round =>
    clear H0 hI0 hi0 hbi rI
    obtain ⟨pos, bh, acc, hk, rfl, hI, hit, hbw, hrow, HI⟩ := hrel
    obtain ⟨f, k, ek, hf, hF, hal, hbm, hasc⟩ := HI.out
    clear HI
    have hm1 := HM.out.1
    have hBr : g + 1 ≤ wr.heap.size := Nat.le_of_lt hI.lt
    have rl := hrow.1
    have rs : (rowAt wr g).size = 4 := by rw [hrow.2]; rfl
    by_cases hlt : pos < m
    · have hnx : ∀ ty, (Instr.next (.pointer (some ⟨g + 2, 0, none⟩)) true ty).run Tryd.prog wr = _ := fun ty => Lib.run_next_any_at wr (g + 2) t pos ty hit (by omega)
      rw [hdec pos hlt] at hnx
      have hst := hstr (stR (rn (l.drop (1 + pos)))).1 pos
      have hes := hesc pos
      have hcu := hcut pos hk
      rw [Nat.add_comm 1 pos] at hnx hst hes
      have hxl : 0 < (l.drop (pos + 1)).length := by rw [List.length_drop]; omega
      have hlb0 : ∀ j, lB (l.drop (pos + 1)) j = lB l (pos + 1 + j) := fun j => by unfold lB; rw [List.getElem?_drop]
      have hI2 := hI.iterAt hit (pos + (stR (rn (l.drop (pos + 1)))).2)
      have hit2 := Lib.iterAt_heap wr (g + 2) t pos (pos + (stR (rn (l.drop (pos + 1)))).2) hit
      have hbw2 := Lib.below_iterAt hbw (k := g + 2) (by omega) t (pos + (stR (rn (l.drop (pos + 1)))).2)
      have hrow2 : RowC (wr.iterAt (g + 2) t (pos + (stR (rn (l.drop (pos + 1)))).2)) g (tkA 0 0 0 ⟨#[]⟩) := hrow.block (Lib.iterAt_other wr (g + 2) g t _ (by omega))
      have hit1 : Hid (wr.heap[g + 2]? = some (.stringIter t pos)) := hit
      generalize wr.iterAt (g + 2) t (pos + (stR (rn (l.drop (pos + 1)))).2) = W2 at hnx hI2 hit2 hbw2 hrow2
      clear hdec hstr hesc hcut hit hI hbw hrow rl rs
      by_cases hbh : pos < bh
      · -- within an escape
        have h128 := hasc pos (Nat.le_refl _) hbh
        have e1 : stR (rn (l.drop (pos + 1))) = ((lB l (pos + 1)).toNat, 1) := by
          rw [rn_ascii _ hxl (by rw [hlb0]; exact h128), hlb0]; rfl
        rw [e1] at hnx hit2
        have i1 : (pos : Int) < (bh : Int) := by omega
        have HN : Hid (AtQ l m (pos + 1) bh acc R) := by
          refine ⟨f, k, ?_, hf, hF, hal, hbm, fun j h1 h2 => hasc j (by omega) h2⟩
          rw [if_pos hbh] at ek
          split <;> omega
        clear hst hes hcu hxl hlb0 h128 e1 hF hasc ek hf hal hbm hbh
        generalize (lB l (pos + 1)).toNat = v at hnx
        go_wp2
        go_roundw
        case rel => exact ⟨pos + 1, bh, acc, by omega, rfl, hI2, hit2, hbw2, hrow2, HN⟩
        case measure =>
          simp only [World.iterPos, hit2, hit1.out]
          omega
      · have i1 : ¬ (pos : Int) < (bh : Int) := by omega
        rw [if_neg hbh] at ek
        subst ek
        obtain ⟨f', rfl⟩ : ∃ f', f = f' + 1 := ⟨f - 1, by omega⟩
        rw [txt_go l f' (pos + 1) acc (by omega)] at hF
        have s34 := rn_sign (l.drop (pos + 1)) hxl 34 (by decide)
        have s92 := rn_sign (l.drop (pos + 1)) hxl 92 (by decide)
        rw [hlb0, Nat.add_zero] at s34 s92
        by_cases h34 : lB l (pos + 1) = 34
        · rw [if_pos h34] at hF
          have hv := s34.2 h34
          have c34 : (((stR (rn (l.drop (pos + 1)))).1 : Int) == 34) = true := by rw [hv]; rfl
          have ks := bdST (g + 1) (g + 1) acc W2 hI2 (Nat.le_of_lt hI2.lt)
          have hm40 := HM.out.2
          clear hv s34 s92 h34 hst hes hcu hI2 hlb0 hxl hasc hf
          generalize (stR (rn (l.drop (pos + 1)))).1 = v at hnx c34
          go_wp2_with fail
          refine ks.mono ?_
          rintro e w3 ⟨rfl, h3⟩
          have hr3 := hrow2.block (h3.below.block g (by omega))
          obtain ⟨c1, c2⟩ := hr3
          have hfin := tl_lay (d := tkA 11 0 0 ⟨acc.toArray⟩) HG.out hbwX (hbw2.trans h3.below) ⟨c1, c2⟩
          have HC : Hid _ := hfin.1
          have HB : Hid _ := hfin.2
          clear hfin h3 ks hrow2 hbw2 hit2
          go_wp2
          refine tl_bodyPost2 2 3 g (tkA 11 0 0 ⟨acc.toArray⟩) rfl rfl rfl HC.out rfl ⟨⟨11, 0, 0, ⟨acc.toArray⟩, ?_, fun _ => ⟨rfl, rfl, rfl, by rw [lS_mk, ← hF]⟩⟩, HB.out⟩
          rw [← hF]
          simp
          omega
        · rw [if_neg h34] at hF
          have c34 : (((stR (rn (l.drop (pos + 1)))).1 : Int) == 34) = false := beq_eq_false_iff_ne.2 fun e => h34 (s34.1 (by show _ = 34; omega))
          by_cases h92 : lB l (pos + 1) = 92
          · have hv := s92.2 h92
            have c92 : (((stR (rn (l.drop (pos + 1)))).1 : Int) == 92) = true := by rw [hv]; rfl
            have hb9 : (lB (l.drop (pos + 1)) 0) = 92 := by rw [hlb0]; exact h92
            rw [piece_esc _ hb9] at hF
            have e1 : (stR (rn (l.drop (pos + 1)))).2 = 1 := by
              rw [rn_ascii _ hxl (by rw [hb9]; decide)]; rfl
            rw [e1] at hit2
            have hbwW : Below w.heap.size w W2 := by rw [HG.out]; exact hbwX.trans (hbw2.mono (by omega))
            have ke := hes W2 (hV.below hbwW)
            have hel := (esc_range (l.drop (pos + 1)))
            have hea := esc_ascii (l.drop (pos + 1))
            rw [List.length_drop] at hel
            simp only [hlb0] at hea
            have hm40 := HM.out.2
            clear hv s34 s92 h34 h92 hst hes hlb0 hxl hasc hb9 e1 hbwW
            generalize (stR (rn (l.drop (pos + 1)))).1 = v at hnx c34 c92
            generalize escS (l.drop (pos + 1)) = E at ke hF hel hea
            generalize t.extract pos m = T9 at hcu ke
            go_wp2_with fail
            refine ke.mono ?_
            rintro e w3 ⟨⟨u, n, rfl, hn, hu⟩, hb3⟩
            have hr3 := hrow2.block (hb3.block g hrow2.lt)
            have hbw3 : Below (g + 1) X w3 := hbw2.trans (hb3.mono (Nat.le_of_lt hI2.lt))
            have hI3 := hI2.later hb3
            have hit3 := iter_later hit2 hb3
            rw [hn] at hF hel hea
            clear ke hb3 hrow2 hbw2 hI2 hit2 hn
            by_cases hn0 : n = 0
            · rw [if_pos hn0] at hF
              have cn : ((n : Int) == 0) = true := by rw [hn0]; rfl
              have hfin := tl_lay (d := tkA 0 0 0 ⟨#[]⟩) HG.out hbwX hbw3 hr3
              have HC : Hid _ := hfin.1
              have HB : Hid _ := hfin.2
              have HZ : Hid (R = ([], 0)) := hF.symm
              obtain ⟨c1, c2⟩ := hr3
              clear hF hfin hn0 hu hel hea hI3 hit3 hbw3
              go_wp2
              exact tl_bodyPost2 2 3 g (tkA 0 0 0 ⟨#[]⟩) rfl rfl rfl HC.out rfl ⟨⟨0, 0, 0, ⟨#[]⟩, by rw [HZ.out]; rfl, fun h => absurd (by rw [HZ.out]) h⟩, HB.out⟩
            · rw [if_neg hn0] at hF
              have cn : ((n : Int) == 0) = false := beq_eq_false_iff_ne.2 (by omega)
              obtain ⟨huv, hue⟩ := hu hn0
              rw [hue] at hF hel
              have kw := bdWR (g + 1) (g + 1) acc u huv w3 hI3 (by omega) (Nat.le_of_lt hI3.lt)
              have hn2 : n ≤ m - pos := by omega
              have HN : Hid (AtQ l m (pos + 1) (pos + n) (acc ++ enc u) R) := by
                refine ⟨f', pos + 1 + n, ?_, by omega, hF, by rw [List.length_append]; omega, by omega, fun j h1 h2 => ?_⟩
                · split <;> omega
                · have := hea hn0 (j - pos) (by omega) (by omega)
                  rwa [show pos + 1 + (j - pos) = j + 1 by omega] at this
              clear hF hu hea hn0 huv hue hel hal hf hbm
              go_wp2_with fail
              refine kw.mono ?_
              rintro e w4 ⟨⟨n9, rfl⟩, h4⟩
              have hr4 := hr3.block (h4.below.block g (by omega))
              have hit4 := h4.iter hit3 (by omega)
              have hbw4 := hbw3.trans h4.below
              have hI4 := h4.1
              clear kw h4 hr3 hit3 hbw3 hI3
              go_wp2
              go_roundw
              case rel => exact ⟨pos + 1, pos + n, acc ++ enc u, by omega, by go_num, hI4, hit4, hbw4, hr4, HN⟩
              case measure =>
                simp only [World.iterPos, hit4, hit1.out]
                omega
          · have c92 : (((stR (rn (l.drop (pos + 1)))).1 : Int) == 92) = false := beq_eq_false_iff_ne.2 fun e => h92 (s92.1 (by show _ = 92; omega))
            rw [piece_plain _ (by rw [hlb0]; exact h92)] at hF
            rw [stray_rn] at hst
            have hz0 := rn_zero (l.drop (pos + 1))
            have hrr := rn_range (l.drop (pos + 1))
            have her := fun h => enc_rn (l.drop (pos + 1)) (rn (l.drop (pos + 1))).1 (rn (l.drop (pos + 1))).2 rfl h
            rw [List.length_drop] at hrr
            have hm40 := HM.out.2
            clear s34 s92 h34 h92 hes hlb0 hxl hasc
            by_cases h0 : (rn (l.drop (pos + 1))).2 = 0
            · have hp32 : (rn (l.drop (pos + 1))).1 < 32 := by rw [hz0 h0]; omega
              rw [if_pos hp32] at hF
              rw [if_pos rfl] at hF
              clear hp32
              rw [decide_eq_true h0] at hst
              have e9 : (stR (rn (l.drop (pos + 1)))).1 = 65533 := by rw [stR0 h0]
              have c32 : ¬ ((stR (rn (l.drop (pos + 1)))).1 : Int) < 32 := by rw [e9]; omega
              have hfin := tl_lay (d := tkA 0 0 0 ⟨#[]⟩) HG.out hbwX hbw2 hrow2
              have HC : Hid _ := hfin.1
              have HB : Hid _ := hfin.2
              have HZ : Hid (R = ([], 0)) := hF.symm
              obtain ⟨c1, c2⟩ := hrow2
              clear hF hfin e9 hz0 hrr her h0 hI2 hit2 hbw2
              generalize (stR (rn (l.drop (pos + 1)))).1 = v at hnx c34 c92 c32 hst
              generalize t.extract pos m = T9 at hcu hst
              go_wp2_with fail
              refine (hst _).mono ?_
              rintro e w' ⟨rfl, rfl⟩
              go_wp2
              exact tl_bodyPost2 2 3 g (tkA 0 0 0 ⟨#[]⟩) rfl rfl rfl HC.out rfl ⟨⟨0, 0, 0, ⟨#[]⟩, by rw [HZ.out]; rfl, fun h => absurd (by rw [HZ.out]) h⟩, HB.out⟩
            · have e9 : stR (rn (l.drop (pos + 1))) = rn (l.drop (pos + 1)) := if_neg h0
              rw [e9] at hnx c34 c92 hst hit2
              rw [decide_eq_false h0] at hst
              obtain ⟨het, hev, -⟩ := her h0
              rw [het] at hF
              have hdl : (rn (l.drop (pos + 1))).2 = (enc (rn (l.drop (pos + 1))).1).length := by
                rw [← het, List.length_take, List.length_drop]; omega
              clear her het hz0 e9
              have HD : Hid _ := And.intro h0 hrr
              clear h0 hrr
              generalize (rn (l.drop (pos + 1))).1 = v at hnx c34 c92 hst hev HD hF hdl
              generalize (rn (l.drop (pos + 1))).2 = d at hnx hit2 HD hF hdl
              generalize t.extract pos m = T9 at hcu hst
              by_cases h32 : v < 32
              · rw [if_pos h32] at hF
                rw [if_pos rfl] at hF
                have c32 : (v : Int) < 32 := by omega
                have hfin := tl_lay (d := tkA 0 0 0 ⟨#[]⟩) HG.out hbwX hbw2 hrow2
                have HC : Hid _ := hfin.1
                have HB : Hid _ := hfin.2
                have HZ : Hid (R = ([], 0)) := hF.symm
                obtain ⟨c1, c2⟩ := hrow2
                clear hF hfin HD hst h32 hev hdl hI2 hit2 hbw2
                go_wp2
                exact tl_bodyPost2 2 3 g (tkA 0 0 0 ⟨#[]⟩) rfl rfl rfl HC.out rfl ⟨⟨0, 0, 0, ⟨#[]⟩, by rw [HZ.out]; rfl, fun h => absurd (by rw [HZ.out]) h⟩, HB.out⟩
              · rw [if_neg h32] at hF
                rw [if_neg HD.out.1] at hF
                have c32 : ¬ (v : Int) < 32 := by omega
                have kw := bdWR (g + 1) (g + 1) acc v hev W2 hI2 (by omega) (Nat.le_of_lt hI2.lt)
                have HN : Hid (AtQ l m (pos + d) bh (acc ++ enc v) R) := by
                  have := HD.out
                  refine ⟨f', pos + 1 + d, ?_, by omega, hF, by rw [List.length_append, ← hdl]; omega, hbm, fun j h1 h2 => by omega⟩
                  rw [if_neg (by omega)]; omega
                have hpd : pos + d ≤ m ∧ 0 < d := by have := HD.out; omega
                have HP : Hid _ := hpd
                clear hF HD hev h32 hal hf hbm hdl hI2 hpd
                go_wp2_with fail
                refine (hst _).mono ?_
                rintro e w' ⟨rfl, rfl⟩
                go_wp2_with fail
                refine kw.mono ?_
                rintro e w4 ⟨⟨n9, rfl⟩, h4⟩
                have hr4 := hrow2.block (h4.below.block g (by omega))
                have hit4 := h4.iter hit2 (by omega)
                have hbw4 := hbw2.trans h4.below
                have hI4 := h4.1
                clear kw h4 hrow2 hit2 hbw2 hst
                go_wp2
                go_roundw
                case rel => exact ⟨pos + d, bh, acc ++ enc v, HP.out.1, rfl, hI4, hit4, hbw4, hr4, HN⟩
                case measure =>
                  simp only [World.iterPos, hit4, hit1.out]
                  have := HP.out
                  omega
    · have hnx : ∀ ty, (Instr.next (.pointer (some ⟨g + 2, 0, none⟩)) true ty).run Tryd.prog wr = _ := fun ty => Lib.run_next_end_at wr (g + 2) t pos ty hit (by omega)
      have hz : R = ([], 0) := by
        rw [← hF]
        apply txt_end
        split at ek <;> omega
      have hfin := tl_lay (d := tkA 0 0 0 ⟨#[]⟩) HG.out hbwX hbw hrow
      have HC : Hid _ := hfin.1
      have HB : Hid _ := hfin.2
      have HZ : Hid _ := hz
      clear hF hdec hstr hesc hcut hasc hfin hz
      go_wp2
      exact tl_bodyPost2 2 3 g (tkA 0 0 0 ⟨#[]⟩) rfl rfl rfl HC.out rfl ⟨⟨0, 0, 0, ⟨#[]⟩, by rw [HZ.out]; rfl, fun h => absurd (by rw [HZ.out]) h⟩, HB.out⟩
end Go.Proofs.YtiokdcffpnjkcaaDoor
