import Derived.Test.YtalnbddkhojjbaaGreatDoorQLxp
import Derived.Test.YtalnbddkhojjbaaGreatDoorQLex9
namespace Go.Proofs.YtalnbddkhojjbaaGreatDoor
open Go.RowKit

theorem Bd.later {B b : Nat} {l : List UInt8} {w w' : World} (h : Bd B b l w) (hb : Below w.heap.size w w') : Bd B b l w' := by
  have hlt := h.lt
  rcases h with ⟨hB, v, hv, hown, hne⟩ | ⟨hB, v, hv, hown, hne⟩
  · exact .inl ⟨hB, v, (hb.block b hlt).trans hv, hown.kept (row := none) ⟨hb.os, hb.tape, hb.output, hb.size, fun k hk _ => hb.block k hk⟩ (Classical.em _), hne⟩
  · exact .inr ⟨hB, v, (hb.block b hlt).trans hv, hown.kept (row := none) ⟨hb.os, hb.tape, hb.output, hb.size, fun k hk _ => hb.block k hk⟩ (Classical.em _), hne⟩
theorem iter_later {w w' : World} {k : Nat} {s : ByteArray} {pos : Nat} (hk : w.heap[k]? = some (.stringIter s pos)) (hb : Below w.heap.size w w') : w'.heap[k]? = some (.stringIter s pos) := by
  rw [hb.block k (Array.getElem?_eq_some_iff.1 hk).1]; exact hk
theorem rn_ascii (x : List UInt8) (hx : 0 < x.length) (h : (lB x 0).toNat < 128) : rn x = ((lB x 0).toNat, 1) := by rw [rn_b x _ (by omega) rfl, if_pos h]
theorem rn_high (x : List UInt8) (hx : 0 < x.length) (h : ¬ (lB x 0).toNat < 128) : 128 ≤ (stR (rn x)).1 := by
  have hb : inWv (stR (rn x)).1 = inWv (stR (rn x)).1 := rfl
  unfold stR
  split
  · show 128 ≤ 65533; omega
  · rename_i h0
    obtain ⟨ht, hv, hn⟩ := enc_rn x (rn x).1 (rn x).2 rfl h0
    rcases Nat.lt_or_ge (rn x).1 128 with h1 | h1
    · exfalso
      rw [enc_small _ h1] at ht
      have hn1 : (rn x).2 = 1 := by
        have := congrArg List.length ht
        rw [List.length_take] at this
        simp at this
        omega
      rw [hn1, take1 x hx] at ht
      have h5 : lB x 0 = u8 (rn x).1 := (List.cons.inj ht).1
      have h6 := congrArg UInt8.toNat h5
      rw [u8_at (rn x).1 (by omega)] at h6
      omega
    · exact h1
theorem rn_sign (x : List UInt8) (hx : 0 < x.length) (c : UInt8) (hc : c.toNat < 128) : (stR (rn x)).1 = c.toNat ↔ lB x 0 = c := by
  by_cases h : (lB x 0).toNat < 128
  · rw [rn_ascii x hx h]
    show (lB x 0).toNat = c.toNat ↔ _
    exact UInt8.toNat_inj
  · have := rn_high x hx h
    constructor
    · intro e; omega
    · intro e; rw [e] at h; exact absurd hc h
theorem hexV_ascii (b : UInt8) (h : ¬ hexV b < 0) : b.toNat < 128 := by
  unfold hexV at h
  split at h
  · omega
  · split at h
    · omega
    · split at h
      · omega
      · exact absurd (by omega) h
theorem hx_digits (l : List UInt8) : ∀ k v, hx l k = some v → ∀ j, j < k → (lB l (2 + j)).toNat < 128
  | 0, _, _, j, hj => by omega
  | k + 1, v, h, j, hj => by
    rw [hx] at h
    split at h
    · cases h
    · rename_i u hu
      split at h
      · cases h
      · rename_i h9
        rcases Nat.lt_or_ge j k with h1 | h1
        · exact hx_digits l k u hu j h1
        · obtain rfl : j = k := by omega
          exact hexV_ascii _ h9
theorem escAt_sign (b : UInt8) : ∀ n i j, escAt b n i = some j → b = lB escSigns j
  | 0, _, _, h => by cases h
  | n + 1, i, j, h => by
    rw [escAt] at h
    split at h
    · rename_i h1
      cases h
      exact h1
    · exact escAt_sign b n (i + 1) j h
theorem signs_ascii (j : Nat) : (lB escSigns j).toNat < 128 := by
  rcases Nat.lt_or_ge j 8 with h | h
  · revert h; revert j; decide
  · unfold lB escSigns
    rw [List.getElem?_eq_none (by simpa using h)]
    decide
theorem esc_ascii (x : List UInt8) (h : (escS x).2 ≠ 0) (j : Nat) (h0 : 0 < j) (hj : j < (escS x).2) : (lB x j).toNat < 128 := by
  have hU : escS x = escU x → (lB x j).toNat < 128 := fun e => by
    rw [e] at h hj
    unfold escU at h hj
    split at h
    · exact absurd rfl h
    · rename_i h1
      rw [if_neg h1] at hj
      have h117 : lB x 1 = 117 := Classical.not_not.1 fun e => h1 (.inr e)
      cases hq : hx x 4 with
      | none => rw [hq] at h; exact absurd rfl h
      | some v =>
        simp only [hq] at h hj
        split at h
        · exact absurd rfl h
        · rename_i h2
          rw [if_neg h2] at hj
          rcases (by omega : j = 1 ∨ (2 ≤ j ∧ j < 6)) with rfl | ⟨h3, h4⟩
          · rw [h117]; decide
          · have := hx_digits x 4 v hq (j - 2) (by omega)
            rwa [show 2 + (j - 2) = j by omega] at this
  by_cases h1 : 1 < x.length
  · cases he : escAt (lB x 1) 8 0 with
    | none => exact hU (by unfold escS; rw [if_pos h1, he])
    | some i =>
      have e : escS x = ([lB escMeans i], 2) := by unfold escS; rw [if_pos h1, he]
      rw [e] at hj
      obtain rfl : j = 1 := by have : j < 2 := hj; omega
      rw [escAt_sign _ 8 0 i he]
      exact signs_ascii i
  · exact hU (by unfold escS; rw [if_neg h1])
theorem txt_go (l : List UInt8) (f k : Nat) (out : List UInt8) (h : k < l.length) : txt l (f + 1) k out = if lB l k = 34 then (out, k + 1) else if (piece (l.drop k)).2 = 0 then ([], 0) else txt l f (k + (piece (l.drop k)).2) (out ++ (piece (l.drop k)).1) := by
  rw [txt, if_pos h]
theorem txt_end (l : List UInt8) (f k : Nat) (out : List UInt8) (h : ¬ k < l.length) : txt l f k out = ([], 0) := by
  cases f with
  | zero => rfl
  | succ f => rw [txt, if_neg h]
theorem rn_zero (x : List UInt8) (h : (rn x).2 = 0) : (rn x).1 = 0 := by
  unfold rn at h ⊢
  have hN : ∀ n v, n ≠ 0 → (rnN x n v).2 = 0 → (rnN x n v).1 = 0 := fun n v hn h => by
    unfold rnN at h ⊢
    split
    · rfl
    · rename_i h1
      rw [if_neg h1] at h
      cases hc : cvR x v (n - 1) with
      | none => rfl
      | some u =>
        simp only [hc] at h ⊢
        split
        · rename_i h2
          rw [if_pos h2] at h
          exact absurd h hn
        · rfl
  split
  · rfl
  · rename_i h1
    rw [if_neg h1] at h
    split
    · rename_i h2; rw [if_pos h2] at h; exact absurd h (by simp)
    · rename_i h2
      rw [if_neg h2] at h
      split
      · rename_i h3; rw [if_pos h3] at h; exact hN _ _ (by omega) h
      · rename_i h3
        rw [if_neg h3] at h
        split
        · rename_i h4; rw [if_pos h4] at h; exact hN _ _ (by omega) h
        · rename_i h4
          rw [if_neg h4] at h
          split
          · rename_i h5; rw [if_pos h5] at h; exact hN _ _ (by omega) h
          · rfl
theorem piece_plain (x : List UInt8) (h92 : lB x 0 ≠ 92) : piece x = if (rn x).1 < 32 then (x.take (rn x).2, 0) else (x.take (rn x).2, (rn x).2) := by
  unfold piece
  rw [if_neg h92]
theorem piece_esc (x : List UInt8) (h92 : lB x 0 = 92) : piece x = escS x := by
  unfold piece
  rw [if_pos h92]
end Go.Proofs.YtalnbddkhojjbaaGreatDoor
namespace Go.Proofs.YtalnbddkhojjbaaGreatDoor
open Go.RowKit

def FsP (r : Tk × Nat) (w : World) (e : Ending) (w' : World) : Prop := (∃ k a n S, e = .returned (.tuple #[.agg (tkA k a n S), .int .i64 (r.2 : Int)]) ∧ (r.2 ≠ 0 → k = r.1.kind ∧ a = 0 ∧ n = r.1.n ∧ lS S = r.1.text)) ∧ Below w.heap.size w w'
def AtQ (l : List UInt8) (m pos bh : Nat) (acc : List UInt8) (R : List UInt8 × Nat) : Prop := ∃ f k, (if pos < bh then bh else pos) + 1 = k ∧ l.length < f + k ∧ txt l f k acc = R ∧ acc.length ≤ k ∧ bh ≤ m ∧ ∀ j, pos ≤ j → j < bh → (lB l (j + 1)).toNat < 128
theorem tl_lay {w X W : World} {g : Nat} {c d : Array Value} (hg : w.heap.size = g) (hX : Below g w X) (hW : Below (g + 1) X W) (hr : RowC W g c) : RowC (W.setRow g d) g d ∧ Below w.heap.size w (W.setRow g d) :=
  ⟨hr.setRow d, below_row14 (hg ▸ hX.trans (hW.mono (by omega))) (Nat.le_of_eq hg) d⟩
set_option linter.unusedSimpArgs false in
set_option maxRecDepth 100000 in
set_option maxHeartbeats 8000000 in
theorem quoted_any (s : ByteArray) (w : World) (hV : Vx w) (h1 : 1 ≤ s.size) (h40 : s.size ≤ 1099511627776) : Calls Tryz.prog 90 #[.string s] w fun e w' => FsP (⟨11, 0, 0, (txt (lS s) (lS s).length 1 []).1⟩, (txt (lS s) (lS s).length 1 []).2) w e w' := by
  have hls := lS_len s
  have hc1 : ∀ W, (sCut1 (.string s) (.int .i64 1)).run Tryz.prog W = .ok (.value (.string (s.extract 1 s.size))) W := fun W => run_sCut1 W s 1 h1
  have hct := extract_all s 1
  obtain ⟨t, ht⟩ : ∃ q, s.extract 1 s.size = q := ⟨_, rfl⟩
  rw [ht] at hc1 hct
  have htz : t.size = s.size - 1 := by rw [← lS_len, hct, List.length_drop, hls]
  have hdec := fun k (h : k < t.size) => dec_rn t k h
  have hstr := fun v k W => isStray_any v (t.extract k t.size) W
  have hesc := fun k W hW => escaped_any (t.extract k t.size) W hW (by rw [← lS_len, extract_all, List.length_drop, hct, List.length_drop, hls]; omega)
  simp only [extract_all] at hstr hesc
  have hcut := fun k (h : k ≤ t.size) W => run_sCut1 W t k h
  simp only [hct, List.drop_drop] at hdec hstr hesc
  obtain ⟨l, hl⟩ : ∃ q, lS s = q := ⟨_, rfl⟩
  simp only [hl] at hls hdec hstr hesc ⊢
  obtain ⟨R, hR⟩ : ∃ q, txt l l.length 1 [] = q := ⟨_, rfl⟩
  obtain ⟨m, hm⟩ : ∃ q, t.size = q := ⟨_, rfl⟩
  simp only [hm] at hdec hstr hesc hcut htz
  have H0 : Hid (AtQ l m 0 0 [] R) := ⟨l.length, 1, rfl, by omega, hR, by simp, by omega, fun j _ h => by omega⟩
  have HM : Hid (l.length = m + 1 ∧ m ≤ 1099511627776) := ⟨by omega, by omega⟩
  rw [hR]
  clear hR ht hct hl hls htz h1
  have rX := RowC.new w (tkA 0 0 0 ⟨#[]⟩) 86
  have bX := below_alloc w (.cells (tkA 0 0 0 ⟨#[]⟩) 86)
  obtain ⟨g, hg⟩ : ∃ q, w.heap.size = q := ⟨_, rfl⟩
  have HG : Hid (w.heap.size = g) := hg
  have hX : (w.alloc (.cells (tkA 0 0 0 ⟨#[]⟩) 86)).heap.size = g + 1 := by rw [← hg]; simp
  rw [hg] at rX bX
  go_enter Tryz.func90, Tryz.ntmps90
  go_upto_region 1 with fail
  clear hg
  have hfr := Bd.fresh (w.alloc (.cells (tkA 0 0 0 ⟨#[]⟩) 86))
  have hbb := below_alloc (w.alloc (.cells (tkA 0 0 0 ⟨#[]⟩) 86)) (.cells #[.pointer none, .slice none 0 0] 68)
  rw [hX] at hfr hbb
  generalize w.alloc (.cells (tkA 0 0 0 ⟨#[]⟩) 86) = X at rX bX hX hfr hbb ⊢
  go_upto_region 4 with fail
  have hY : (X.alloc (.cells #[.pointer none, .slice none 0 0] 68)).heap.size = g + 2 := by simp [hX]
  have rY := rX.block (hbb.block g (by omega))
  generalize X.alloc (.cells #[.pointer none, .slice none 0 0] 68) = Y at hfr hbb hY rY ⊢
  have hI0 : Bd (g + 1) (g + 1) [] (Y.iter t 0) := hfr.alloc _
  have hi0 : (Y.iter t 0).heap[g + 2]? = some (.stringIter t 0) := by rw [← hY]; exact World.iter_heap Y t 0
  have hbi : Below (g + 1) X (Y.iter t 0) := hbb.alloc (by omega) _
  have rI : RowC (Y.iter t 0) g (tkA 0 0 0 ⟨#[]⟩) := rX.block (hbi.block g (by omega))
  have hbwX : Below g w X := bX
  clear hfr hbb rY rX bX hX
  go_wp2_with fail
  clear hY
  go_loopw [6] (fun bv wr => ∃ (pos bh : Nat) (acc : List UInt8), pos ≤ m ∧ bv = .int .i64 (bh : Int) ∧ Bd (g + 1) (g + 1) acc wr ∧ wr.heap[g + 2]? = some (.stringIter t pos) ∧ Below (g + 1) X wr ∧ RowC wr g (tkA 0 0 0 ⟨#[]⟩) ∧ Hid (AtQ l m pos bh acc R)) (fun _ wr => m - wr.iterPos (g + 2))
  case atStart => exact ⟨0, 0, [], by omega, rfl, hI0, hi0, hbi, rI, H0⟩
  case round =>
    clear H0 hI0 hi0 hbi rI
    obtain ⟨pos, bh, acc, hk, rfl, hI, hit, hbw, hrow, HI⟩ := hrel
    obtain ⟨f, k, ek, hf, hF, hal, hbm, hasc⟩ := HI.out
    clear HI
    have hm1 := HM.out.1
    have hBr : g + 1 ≤ wr.heap.size := Nat.le_of_lt hI.lt
    have rl := hrow.1
    have rs : (rowAt wr g).size = 4 := by rw [hrow.2]; rfl
    by_cases hlt : pos < m
    · have hnx : ∀ ty, (Instr.next (.pointer (some ⟨g + 2, 0, none⟩)) true ty).run Tryz.prog wr = _ := fun ty => Lib.run_next_any_at wr (g + 2) t pos ty hit (by omega)
      rw [hdec pos hlt] at hnx
      have hst := hstr (stR (rn (l.drop (1 + pos)))).1 pos
      have hes := hesc pos
      have hcu := hcut pos hk
      rw [Nat.add_comm 1 pos] at hnx hst hes
      have hxl : 0 < (l.drop (pos + 1)).length := by rw [List.length_drop]; omega
      have hlb0 : ∀ j, lB (l.drop (pos + 1)) j = lB l (pos + 1 + j) := fun j => by unfold lB; rw [List.getElem?_drop]
      have hI2 := hI.iterAt hit (pos + (stR (rn (l.drop (pos + 1)))).2)
      have hit2 := Lib.iterAt_heap wr (g + 2) t pos (pos + (stR (rn (l.drop (pos + 1)))).2) hit
      have hbw2 := Lib.below_iterAt hbw (k := g + 2) (by omega) t (pos + (stR (rn (l.drop (pos + 1)))).2)
      have hrow2 : RowC (wr.iterAt (g + 2) t (pos + (stR (rn (l.drop (pos + 1)))).2)) g (tkA 0 0 0 ⟨#[]⟩) := hrow.block (Lib.iterAt_other wr (g + 2) g t _ (by omega))
      have hit1 : Hid (wr.heap[g + 2]? = some (.stringIter t pos)) := hit
      generalize wr.iterAt (g + 2) t (pos + (stR (rn (l.drop (pos + 1)))).2) = W2 at hnx hI2 hit2 hbw2 hrow2
      clear hdec hstr hesc hcut hit hI hbw hrow rl rs
      by_cases hbh : pos < bh
      · -- within an escape
        have h128 := hasc pos (Nat.le_refl _) hbh
        have e1 : stR (rn (l.drop (pos + 1))) = ((lB l (pos + 1)).toNat, 1) := by
          rw [rn_ascii _ hxl (by rw [hlb0]; exact h128), hlb0]; rfl
        rw [e1] at hnx hit2
        have i1 : (pos : Int) < (bh : Int) := by omega
        have HN : Hid (AtQ l m (pos + 1) bh acc R) := by
          refine ⟨f, k, ?_, hf, hF, hal, hbm, fun j h1 h2 => hasc j (by omega) h2⟩
          rw [if_pos hbh] at ek
          split <;> omega
        clear hst hes hcu hxl hlb0 h128 e1 hF hasc ek hf hal hbm hbh
        generalize (lB l (pos + 1)).toNat = v at hnx
        go_wp2
        go_roundw
        case rel => exact ⟨pos + 1, bh, acc, by omega, rfl, hI2, hit2, hbw2, hrow2, HN⟩
        case measure =>
          simp only [World.iterPos, hit2, hit1.out]
          omega
      · have i1 : ¬ (pos : Int) < (bh : Int) := by omega
        rw [if_neg hbh] at ek
        subst ek
        obtain ⟨f', rfl⟩ : ∃ f', f = f' + 1 := ⟨f - 1, by omega⟩
        rw [txt_go l f' (pos + 1) acc (by omega)] at hF
        have s34 := rn_sign (l.drop (pos + 1)) hxl 34 (by decide)
        have s92 := rn_sign (l.drop (pos + 1)) hxl 92 (by decide)
        rw [hlb0, Nat.add_zero] at s34 s92
        by_cases h34 : lB l (pos + 1) = 34
        · rw [if_pos h34] at hF
          have hv := s34.2 h34
          have c34 : (((stR (rn (l.drop (pos + 1)))).1 : Int) == 34) = true := by rw [hv]; rfl
          have ks := bdST (g + 1) (g + 1) acc W2 hI2 (Nat.le_of_lt hI2.lt)
          have hm40 := HM.out.2
          clear hv s34 s92 h34 hst hes hcu hI2 hlb0 hxl hasc hf
          generalize (stR (rn (l.drop (pos + 1)))).1 = v at hnx c34
          go_wp2_with fail
          refine ks.mono ?_
          rintro e w3 ⟨rfl, h3⟩
          have hr3 := hrow2.block (h3.below.block g (by omega))
          obtain ⟨c1, c2⟩ := hr3
          have hfin := tl_lay (d := tkA 11 0 0 ⟨acc.toArray⟩) HG.out hbwX (hbw2.trans h3.below) ⟨c1, c2⟩
          have HC : Hid _ := hfin.1
          have HB : Hid _ := hfin.2
          clear hfin h3 ks hrow2 hbw2 hit2
          go_wp2
          refine tl_bodyPost2 2 3 g (tkA 11 0 0 ⟨acc.toArray⟩) rfl rfl rfl HC.out rfl ⟨⟨11, 0, 0, ⟨acc.toArray⟩, ?_, fun _ => ⟨rfl, rfl, rfl, by rw [lS_mk, ← hF]⟩⟩, HB.out⟩
          rw [← hF]
          simp
          omega
        · rw [if_neg h34] at hF
          have c34 : (((stR (rn (l.drop (pos + 1)))).1 : Int) == 34) = false := beq_eq_false_iff_ne.2 fun e => h34 (s34.1 (by show _ = 34; omega))
          by_cases h92 : lB l (pos + 1) = 92
          · have hv := s92.2 h92
            have c92 : (((stR (rn (l.drop (pos + 1)))).1 : Int) == 92) = true := by rw [hv]; rfl
            have hb9 : (lB (l.drop (pos + 1)) 0) = 92 := by rw [hlb0]; exact h92
            rw [piece_esc _ hb9] at hF
            have e1 : (stR (rn (l.drop (pos + 1)))).2 = 1 := by
              rw [rn_ascii _ hxl (by rw [hb9]; decide)]; rfl
            rw [e1] at hit2
            have hbwW : Below w.heap.size w W2 := by rw [HG.out]; exact hbwX.trans (hbw2.mono (by omega))
            have ke := hes W2 (hV.below hbwW)
            have hel := (esc_range (l.drop (pos + 1)))
            have hea := esc_ascii (l.drop (pos + 1))
            rw [List.length_drop] at hel
            simp only [hlb0] at hea
            have hm40 := HM.out.2
            clear hv s34 s92 h34 h92 hst hes hlb0 hxl hasc hb9 e1 hbwW
            generalize (stR (rn (l.drop (pos + 1)))).1 = v at hnx c34 c92
            generalize escS (l.drop (pos + 1)) = E at ke hF hel hea
            generalize t.extract pos m = T9 at hcu ke
            go_wp2_with fail
            refine ke.mono ?_
            rintro e w3 ⟨⟨u, n, rfl, hn, hu⟩, hb3⟩
            have hr3 := hrow2.block (hb3.block g hrow2.lt)
            have hbw3 : Below (g + 1) X w3 := hbw2.trans (hb3.mono (Nat.le_of_lt hI2.lt))
            have hI3 := hI2.later hb3
            have hit3 := iter_later hit2 hb3
            rw [hn] at hF hel hea
            clear ke hb3 hrow2 hbw2 hI2 hit2 hn
            by_cases hn0 : n = 0
            · rw [if_pos hn0] at hF
              have cn : ((n : Int) == 0) = true := by rw [hn0]; rfl
              have hfin := tl_lay (d := tkA 0 0 0 ⟨#[]⟩) HG.out hbwX hbw3 hr3
              have HC : Hid _ := hfin.1
              have HB : Hid _ := hfin.2
              have HZ : Hid (R = ([], 0)) := hF.symm
              obtain ⟨c1, c2⟩ := hr3
              clear hF hfin hn0 hu hel hea hI3 hit3 hbw3
              go_wp2
              exact tl_bodyPost2 2 3 g (tkA 0 0 0 ⟨#[]⟩) rfl rfl rfl HC.out rfl ⟨⟨0, 0, 0, ⟨#[]⟩, by rw [HZ.out]; rfl, fun h => absurd (by rw [HZ.out]) h⟩, HB.out⟩
            · rw [if_neg hn0] at hF
              have cn : ((n : Int) == 0) = false := beq_eq_false_iff_ne.2 (by omega)
              obtain ⟨huv, hue⟩ := hu hn0
              rw [hue] at hF hel
              have kw := bdWR (g + 1) (g + 1) acc u huv w3 hI3 (by omega) (Nat.le_of_lt hI3.lt)
              have hn2 : n ≤ m - pos := by omega
              have HN : Hid (AtQ l m (pos + 1) (pos + n) (acc ++ enc u) R) := by
                refine ⟨f', pos + 1 + n, ?_, by omega, hF, by rw [List.length_append]; omega, by omega, fun j h1 h2 => ?_⟩
                · split <;> omega
                · have := hea hn0 (j - pos) (by omega) (by omega)
                  rwa [show pos + 1 + (j - pos) = j + 1 by omega] at this
              clear hF hu hea hn0 huv hue hel hal hf hbm
              go_wp2_with fail
              refine kw.mono ?_
              rintro e w4 ⟨⟨n9, rfl⟩, h4⟩
              have hr4 := hr3.block (h4.below.block g (by omega))
              have hit4 := h4.iter hit3 (by omega)
              have hbw4 := hbw3.trans h4.below
              have hI4 := h4.1
              clear kw h4 hr3 hit3 hbw3 hI3
              go_wp2
              go_roundw
              case rel => exact ⟨pos + 1, pos + n, acc ++ enc u, by omega, by go_num, hI4, hit4, hbw4, hr4, HN⟩
              case measure =>
                simp only [World.iterPos, hit4, hit1.out]
                omega
          · have c92 : (((stR (rn (l.drop (pos + 1)))).1 : Int) == 92) = false := beq_eq_false_iff_ne.2 fun e => h92 (s92.1 (by show _ = 92; omega))
            rw [piece_plain _ (by rw [hlb0]; exact h92)] at hF
            rw [stray_rn] at hst
            have hz0 := rn_zero (l.drop (pos + 1))
            have hrr := rn_range (l.drop (pos + 1))
            have her := fun h => enc_rn (l.drop (pos + 1)) (rn (l.drop (pos + 1))).1 (rn (l.drop (pos + 1))).2 rfl h
            rw [List.length_drop] at hrr
            have hm40 := HM.out.2
            clear s34 s92 h34 h92 hes hlb0 hxl hasc
            by_cases h0 : (rn (l.drop (pos + 1))).2 = 0
            · have hp32 : (rn (l.drop (pos + 1))).1 < 32 := by rw [hz0 h0]; omega
              rw [if_pos hp32] at hF
              rw [if_pos rfl] at hF
              clear hp32
              rw [decide_eq_true h0] at hst
              have e9 : (stR (rn (l.drop (pos + 1)))).1 = 65533 := by rw [stR0 h0]
              have c32 : ¬ ((stR (rn (l.drop (pos + 1)))).1 : Int) < 32 := by rw [e9]; omega
              have hfin := tl_lay (d := tkA 0 0 0 ⟨#[]⟩) HG.out hbwX hbw2 hrow2
              have HC : Hid _ := hfin.1
              have HB : Hid _ := hfin.2
              have HZ : Hid (R = ([], 0)) := hF.symm
              obtain ⟨c1, c2⟩ := hrow2
              clear hF hfin e9 hz0 hrr her h0 hI2 hit2 hbw2
              generalize (stR (rn (l.drop (pos + 1)))).1 = v at hnx c34 c92 c32 hst
              generalize t.extract pos m = T9 at hcu hst
              go_wp2_with fail
              refine (hst _).mono ?_
              rintro e w' ⟨rfl, rfl⟩
              go_wp2
              exact tl_bodyPost2 2 3 g (tkA 0 0 0 ⟨#[]⟩) rfl rfl rfl HC.out rfl ⟨⟨0, 0, 0, ⟨#[]⟩, by rw [HZ.out]; rfl, fun h => absurd (by rw [HZ.out]) h⟩, HB.out⟩
            · have e9 : stR (rn (l.drop (pos + 1))) = rn (l.drop (pos + 1)) := if_neg h0
              rw [e9] at hnx c34 c92 hst hit2
              rw [decide_eq_false h0] at hst
              obtain ⟨het, hev, -⟩ := her h0
              rw [het] at hF
              have hdl : (rn (l.drop (pos + 1))).2 = (enc (rn (l.drop (pos + 1))).1).length := by
                rw [← het, List.length_take, List.length_drop]; omega
              clear her het hz0 e9
              have HD : Hid _ := And.intro h0 hrr
              clear h0 hrr
              generalize (rn (l.drop (pos + 1))).1 = v at hnx c34 c92 hst hev HD hF hdl
              generalize (rn (l.drop (pos + 1))).2 = d at hnx hit2 HD hF hdl
              generalize t.extract pos m = T9 at hcu hst
              by_cases h32 : v < 32
              · rw [if_pos h32] at hF
                rw [if_pos rfl] at hF
                have c32 : (v : Int) < 32 := by omega
                have hfin := tl_lay (d := tkA 0 0 0 ⟨#[]⟩) HG.out hbwX hbw2 hrow2
                have HC : Hid _ := hfin.1
                have HB : Hid _ := hfin.2
                have HZ : Hid (R = ([], 0)) := hF.symm
                obtain ⟨c1, c2⟩ := hrow2
                clear hF hfin HD hst h32 hev hdl hI2 hit2 hbw2
                go_wp2
                exact tl_bodyPost2 2 3 g (tkA 0 0 0 ⟨#[]⟩) rfl rfl rfl HC.out rfl ⟨⟨0, 0, 0, ⟨#[]⟩, by rw [HZ.out]; rfl, fun h => absurd (by rw [HZ.out]) h⟩, HB.out⟩
              · rw [if_neg h32] at hF
                rw [if_neg HD.out.1] at hF
                have c32 : ¬ (v : Int) < 32 := by omega
                have kw := bdWR (g + 1) (g + 1) acc v hev W2 hI2 (by omega) (Nat.le_of_lt hI2.lt)
                have HN : Hid (AtQ l m (pos + d) bh (acc ++ enc v) R) := by
                  have := HD.out
                  refine ⟨f', pos + 1 + d, ?_, by omega, hF, by rw [List.length_append, ← hdl]; omega, hbm, fun j h1 h2 => by omega⟩
                  rw [if_neg (by omega)]; omega
                have hpd : pos + d ≤ m ∧ 0 < d := by have := HD.out; omega
                have HP : Hid _ := hpd
                clear hF HD hev h32 hal hf hbm hdl hI2 hpd
                go_wp2_with fail
                refine (hst _).mono ?_
                rintro e w' ⟨rfl, rfl⟩
                go_wp2_with fail
                refine kw.mono ?_
                rintro e w4 ⟨⟨n9, rfl⟩, h4⟩
                have hr4 := hrow2.block (h4.below.block g (by omega))
                have hit4 := h4.iter hit2 (by omega)
                have hbw4 := hbw2.trans h4.below
                have hI4 := h4.1
                clear kw h4 hrow2 hit2 hbw2 hst
                go_wp2
                go_roundw
                case rel => exact ⟨pos + d, bh, acc ++ enc v, HP.out.1, rfl, hI4, hit4, hbw4, hr4, HN⟩
                case measure =>
                  simp only [World.iterPos, hit4, hit1.out]
                  have := HP.out
                  omega
    · have hnx : ∀ ty, (Instr.next (.pointer (some ⟨g + 2, 0, none⟩)) true ty).run Tryz.prog wr = _ := fun ty => Lib.run_next_end_at wr (g + 2) t pos ty hit (by omega)
      have hz : R = ([], 0) := by
        rw [← hF]
        apply txt_end
        split at ek <;> omega
      have hfin := tl_lay (d := tkA 0 0 0 ⟨#[]⟩) HG.out hbwX hbw hrow
      have HC : Hid _ := hfin.1
      have HB : Hid _ := hfin.2
      have HZ : Hid _ := hz
      clear hF hdec hstr hesc hcut hasc hfin hz
      go_wp2
      exact tl_bodyPost2 2 3 g (tkA 0 0 0 ⟨#[]⟩) rfl rfl rfl HC.out rfl ⟨⟨0, 0, 0, ⟨#[]⟩, by rw [HZ.out]; rfl, fun h => absurd (by rw [HZ.out]) h⟩, HB.out⟩
end Go.Proofs.YtalnbddkhojjbaaGreatDoor
namespace Go.Proofs.YtalnbddkhojjbaaGreatDoor
open Go.RowKit

theorem nmV_least (l : List UInt8) (h0 : lB l 0 ≠ 48) : ∀ k v, nmV l (k + 1) = some v → 10 ^ k ≤ v
  | 0, v, h => by
    rw [nmV_go l 0 0 rfl] at h
    split at h
    · cases h
    · simp only [Option.some.injEq] at h
      have h9 : (lB l 0).toNat ≠ 48 := fun e => h0 (UInt8.toNat_inj.1 (by show _ = 48; omega))
      rw [Nat.pow_zero]
      omega
  | k + 1, v, h => by
    cases h1 : nmV l (k + 1) with
    | none => rw [nmV, h1] at h; cases h
    | some u =>
      have hu := nmV_least l h0 k u h1
      rw [nmV_go l (k + 1) u h1] at h
      split at h
      · cases h
      · simp only [Option.some.injEq] at h
        rw [Nat.pow_succ]
        omega
theorem numW_r10 (l : List UInt8) (h : ¬ (1 < l.length ∧ lB l 0 = 48)) : (r10 l = none ∧ numW l = -1) ∨ ∃ v : Nat, r10 l = some v ∧ numW l = (v : Int) ∧ v ≤ 9223372036854775807 := by
  unfold r10 numW
  by_cases h0 : l.length = 0
  · exact .inl ⟨if_pos h0, if_pos (.inl h0)⟩
  rw [if_neg h0]
  by_cases h19 : 19 < l.length
  · refine .inl ⟨?_, if_pos (.inr (.inl h19))⟩
    have h48 : lB l 0 ≠ 48 := fun e => h ⟨by omega, e⟩
    cases hv : nmV l l.length with
    | none => rfl
    | some v =>
      have h1 := nmV_least l h48 (l.length - 1) v (by rw [show l.length - 1 + 1 = l.length by omega]; exact hv)
      have h2 : 10 ^ 19 ≤ 10 ^ (l.length - 1) := Nat.pow_le_pow_right (by omega) (by omega)
      have h3 : (10 : Nat) ^ 19 = 10000000000000000000 := by decide
      exact if_pos (by omega)
  rw [if_neg (by rintro (a | a | a); exact h0 a; exact h19 a; exact h a)]
  cases hv : nmV l l.length with
  | none => exact .inl ⟨rfl, rfl⟩
  | some v =>
    by_cases hb : 9223372036854775807 < v
    · exact .inl ⟨if_pos hb, if_pos hb⟩
    · exact .inr ⟨v, if_neg hb, if_neg hb, by omega⟩
def MnP (r : Tk × Nat) (w : World) (e : Ending) (w' : World) : Prop := e = .returned (.tuple #[.agg (tkA r.1.kind 0 r.1.n ⟨#[]⟩), .bool (decide (r.2 ≠ 0))]) ∧ Below w.heap.size w w'
theorem mn_lay {w W : World} {g : Nat} {c d : Array Value} (hg : w.heap.size = g) (hW : Below g w W) (hr : RowC W g c) : RowC (W.setRow g d) g d ∧ Below w.heap.size w (W.setRow g d) :=
  ⟨hr.setRow d, below_row14 (hg ▸ hW) (Nat.le_of_eq hg) d⟩
theorem lit_ne (S : ByteArray) (x : List UInt8) (h : lS S ≠ x) : (S.toList == x) = false := by
  have h9 := sNe14 (s := S) (t := ⟨x.toArray⟩) (by rw [lS_mk]; exact h)
  rwa [ByteArray.toList_eq ⟨x.toArray⟩] at h9
theorem lit_eq (S : ByteArray) (x : List UInt8) (h : lS S = x) : (S.toList == x) = true := by
  have h9 := sEq14 (s := S) (t := ⟨x.toArray⟩) (by rw [lS_mk]; exact h)
  rwa [ByteArray.toList_eq ⟨x.toArray⟩] at h9
set_option linter.unusedSimpArgs false in
set_option maxRecDepth 100000 in
set_option maxHeartbeats 4000000 in
theorem meaning_any (s : ByteArray) (w : World) (hV : Vx w) (hmax : s.size ≤ 140737488355328) : Calls Tryz.prog 92 #[.string s] w fun e w' => MnP (wordTk (lS s) 1) w e w' := by
  have hls := lS_len s
  have rX := RowC.new w (tkA 0 0 0 ⟨#[]⟩) 86
  have bX := below_alloc w (.cells (tkA 0 0 0 ⟨#[]⟩) 86)
  obtain ⟨g, hg⟩ : ∃ q, w.heap.size = q := ⟨_, rfl⟩
  have HG : Hid (w.heap.size = g) := hg
  rw [hg] at rX bX
  have hfin := fun (k n : Int) => mn_lay (d := tkA k 0 n ⟨#[]⟩) hg bX rX
  by_cases h : lS s = wdNull
  · have e : wordTk (lS s) 1 = (⟨7, 0, 0, []⟩, 1) := by rw [h]; rfl
    rw [e]
    have f0 : (s.toList == [110, 117, 108, 108]) = true := lit_eq s _ h
    have f1 : (s.toList == [116, 114, 117, 101]) = false := lit_ne s _ (by rw [h]; decide)
    have f2 : (s.toList == [102, 97, 108, 115, 101]) = false := lit_ne s _ (by rw [h]; decide)
    have HC : Hid _ := (hfin 7 0).1
    have HB : Hid _ := (hfin 7 0).2
    obtain ⟨c1, c2⟩ := rX
    clear h e hls hfin bX hmax
    go_enter Tryz.func92, Tryz.ntmps92
    go_upto_region 1 with fail
    clear hg
    generalize w.alloc (.cells (tkA 0 0 0 ⟨#[]⟩) 86) = X at c1 c2 HC HB ⊢
    go_wp2
    exact tl_bodyPost2 2 3 g (tkA 7 0 0 ⟨#[]⟩) rfl rfl rfl HC.out rfl ⟨rfl, HB.out⟩
  have n0 := h
  clear h
  by_cases h : lS s = wdTrue
  · have e : wordTk (lS s) 1 = (⟨8, 0, 0, []⟩, 1) := by rw [h]; rfl
    rw [e]
    have f0 : (s.toList == [110, 117, 108, 108]) = false := lit_ne s _ (by rw [h]; decide)
    have f1 : (s.toList == [116, 114, 117, 101]) = true := lit_eq s _ h
    have f2 : (s.toList == [102, 97, 108, 115, 101]) = false := lit_ne s _ (by rw [h]; decide)
    have HC : Hid _ := (hfin 8 0).1
    have HB : Hid _ := (hfin 8 0).2
    obtain ⟨c1, c2⟩ := rX
    clear h e hls hfin bX hmax
    go_enter Tryz.func92, Tryz.ntmps92
    go_upto_region 1 with fail
    clear hg
    generalize w.alloc (.cells (tkA 0 0 0 ⟨#[]⟩) 86) = X at c1 c2 HC HB ⊢
    go_wp2
    exact tl_bodyPost2 2 3 g (tkA 8 0 0 ⟨#[]⟩) rfl rfl rfl HC.out rfl ⟨rfl, HB.out⟩
  have n1 := h
  clear h
  by_cases h : lS s = wdFalse
  · have e : wordTk (lS s) 1 = (⟨9, 0, 0, []⟩, 1) := by rw [h]; rfl
    rw [e]
    have f0 : (s.toList == [110, 117, 108, 108]) = false := lit_ne s _ (by rw [h]; decide)
    have f1 : (s.toList == [116, 114, 117, 101]) = false := lit_ne s _ (by rw [h]; decide)
    have f2 : (s.toList == [102, 97, 108, 115, 101]) = true := lit_eq s _ h
    have HC : Hid _ := (hfin 9 0).1
    have HB : Hid _ := (hfin 9 0).2
    obtain ⟨c1, c2⟩ := rX
    clear h e hls hfin bX hmax
    go_enter Tryz.func92, Tryz.ntmps92
    go_upto_region 1 with fail
    clear hg
    generalize w.alloc (.cells (tkA 0 0 0 ⟨#[]⟩) 86) = X at c1 c2 HC HB ⊢
    go_wp2
    exact tl_bodyPost2 2 3 g (tkA 9 0 0 ⟨#[]⟩) rfl rfl rfl HC.out rfl ⟨rfl, HB.out⟩
  have n2 := h
  clear h
  have hwd : wordTk (lS s) 1 = if numW (lS s) < 0 then (tkZ, 0) else (⟨10, 0, numW (lS s), []⟩, 1) := by
    unfold wordTk
    rw [if_neg n0, if_neg n1, if_neg n2]
  have f0 : (s.toList == [110, 117, 108, 108]) = false := lit_ne s _ n0
  have f1 : (s.toList == [116, 114, 117, 101]) = false := lit_ne s _ n1
  have f2 : (s.toList == [102, 97, 108, 115, 101]) = false := lit_ne s _ n2
  clear n0 n1 n2
  have hz := (hfin 0 0)
  have zero : ∀ W, RowC W g (tkA 0 0 0 ⟨#[]⟩) → Below g w W → Hid (RowC (W.setRow g (tkA 0 0 0 ⟨#[]⟩)) g (tkA 0 0 0 ⟨#[]⟩) ∧ Below w.heap.size w (W.setRow g (tkA 0 0 0 ⟨#[]⟩))) := fun W hr hb => mn_lay HG.out hb hr
  clear hfin hz
  by_cases h1 : 1 < s.size
  · have i1 : (1 : Int) < (s.size : Int) := by omega
    have hat : ∀ W, (sAt (.string s) (.int .i64 0)).run Tryz.prog W = .ok (.value (.int .u8 ((lB (lS s) 0).toNat : Int))) W := fun W => run_sAt W s 0 (by omega)
    by_cases h48 : lB (lS s) 0 = 48
    · have hn : numW (lS s) = -1 := by unfold numW; rw [if_pos (.inr (.inr ⟨by omega, h48⟩))]
      rw [hn, if_pos (by omega)] at hwd
      rw [hwd]
      have c48 : (((lB (lS s) 0).toNat : Int) == 48) = true := by rw [h48]; rfl
      generalize lB (lS s) 0 = b at hat c48
      have HZ := zero _ rX bX
      obtain ⟨c1, c2⟩ := rX
      clear h48 hn hwd zero bX hls h1 hmax
      go_enter Tryz.func92, Tryz.ntmps92
      go_upto_region 1 with fail
      clear hg
      generalize w.alloc (.cells (tkA 0 0 0 ⟨#[]⟩) 86) = X at c1 c2 HZ ⊢
      go_wp2
      exact tl_bodyPost2 2 3 g (tkA 0 0 0 ⟨#[]⟩) rfl rfl rfl HZ.out.1 rfl ⟨rfl, HZ.out.2⟩
    · have c48 : (((lB (lS s) 0).toNat : Int) == 48) = false := beq_eq_false_iff_ne.2 fun e => h48 (UInt8.toNat_inj.1 (by show _ = 48; omega))
      have hc := numW_r10 (lS s) (fun h => h48 h.2)
      have kp := fun W hW => pU10 s W hW hmax
      generalize lB (lS s) 0 = b at hat c48
      generalize wordTk (lS s) 1 = WT at hwd ⊢
      generalize numW (lS s) = NW at hwd hc
      generalize r10 (lS s) = R at hc kp
      have hVX := hV.below (HG.out ▸ bX)
      have HK : Hid (∀ W, Vx W → Calls Tryz.prog 116 #[.string s, .int .i64 10, .int .i64 63] W fun e w' => PuP R W e w') := kp
      clear h48 hls h1 hmax kp
      go_enter Tryz.func92, Tryz.ntmps92
      go_upto_region 1 with fail
      clear hg
      generalize w.alloc (.cells (tkA 0 0 0 ⟨#[]⟩) 86) = X at rX bX hVX ⊢
      go_wp2_with fail
      refine (HK.out _ hVX).mono ?_
      rintro e w1 ⟨hb, ⟨v, rfl, rfl⟩ | ⟨rfl, x, t9, p9, rfl⟩⟩
      · have hr1 := rX.kept hb
        have hb1 : Below g w w1 := bX.trans (hb.mono (by have := rX.lt; omega))
        rcases hc with ⟨h9, -⟩ | ⟨v', h9, hN, hv9⟩
        · cases h9
        · cases h9
          rw [hN, if_neg (by omega)] at hwd
          have hfin := mn_lay (d := tkA 10 0 (v : Int) ⟨#[]⟩) HG.out hb1 hr1
          have HC : Hid _ := hfin.1
          have HB : Hid _ := hfin.2
          obtain ⟨c1, c2⟩ := hr1
          have HW : Hid _ := hwd
          clear hwd hfin zero rX bX hVX hb hb1 hN
          go_wp2
          exact tl_bodyPost2 2 3 g (tkA 10 0 (v : Int) ⟨#[]⟩) rfl rfl rfl HC.out rfl ⟨by rw [HW.out]; rfl, HB.out⟩
      · have hr1 := rX.kept hb
        have hb1 : Below g w w1 := bX.trans (hb.mono (by have := rX.lt; omega))
        rcases hc with ⟨-, hN⟩ | ⟨v', h9, -⟩
        · rw [hN, if_pos (by omega)] at hwd
          have HZ := zero _ hr1 hb1
          obtain ⟨c1, c2⟩ := hr1
          have HW : Hid _ := hwd
          clear hwd zero rX bX hVX hb hb1 hN
          go_wp2
          exact tl_bodyPost2 2 3 g (tkA 0 0 0 ⟨#[]⟩) rfl rfl rfl HZ.out.1 rfl ⟨by rw [HW.out]; rfl, HZ.out.2⟩
        · cases h9
  · have i1 : ¬ (1 : Int) < (s.size : Int) := by omega
    have hc := numW_r10 (lS s) (fun h => h1 (by rw [← hls]; exact h.1))
    have kp := fun W hW => pU10 s W hW hmax
    generalize wordTk (lS s) 1 = WT at hwd ⊢
    generalize numW (lS s) = NW at hwd hc
    generalize r10 (lS s) = R at hc kp
    have hVX := hV.below (HG.out ▸ bX)
    have HK : Hid (∀ W, Vx W → Calls Tryz.prog 116 #[.string s, .int .i64 10, .int .i64 63] W fun e w' => PuP R W e w') := kp
    clear hls h1 hmax kp
    go_enter Tryz.func92, Tryz.ntmps92
    go_upto_region 1 with fail
    clear hg
    generalize w.alloc (.cells (tkA 0 0 0 ⟨#[]⟩) 86) = X at rX bX hVX ⊢
    go_wp2_with fail
    refine (HK.out _ hVX).mono ?_
    rintro e w1 ⟨hb, ⟨v, rfl, rfl⟩ | ⟨rfl, x, t9, p9, rfl⟩⟩
    · have hr1 := rX.kept hb
      have hb1 : Below g w w1 := bX.trans (hb.mono (by have := rX.lt; omega))
      rcases hc with ⟨h9, -⟩ | ⟨v', h9, hN, hv9⟩
      · cases h9
      · cases h9
        rw [hN, if_neg (by omega)] at hwd
        have hfin := mn_lay (d := tkA 10 0 (v : Int) ⟨#[]⟩) HG.out hb1 hr1
        have HC : Hid _ := hfin.1
        have HB : Hid _ := hfin.2
        obtain ⟨c1, c2⟩ := hr1
        have HW : Hid _ := hwd
        clear hwd hfin zero rX bX hVX hb hb1 hN
        go_wp2
        exact tl_bodyPost2 2 3 g (tkA 10 0 (v : Int) ⟨#[]⟩) rfl rfl rfl HC.out rfl ⟨by rw [HW.out]; rfl, HB.out⟩
    · have hr1 := rX.kept hb
      have hb1 : Below g w w1 := bX.trans (hb.mono (by have := rX.lt; omega))
      rcases hc with ⟨-, hN⟩ | ⟨v', h9, -⟩
      · rw [hN, if_pos (by omega)] at hwd
        have HZ := zero _ hr1 hb1
        obtain ⟨c1, c2⟩ := hr1
        have HW : Hid _ := hwd
        clear hwd zero rX bX hVX hb hb1 hN
        go_wp2
        exact tl_bodyPost2 2 3 g (tkA 0 0 0 ⟨#[]⟩) rfl rfl rfl HZ.out.1 rfl ⟨by rw [HW.out]; rfl, HZ.out.2⟩
      · cases h9
end Go.Proofs.YtalnbddkhojjbaaGreatDoor
namespace Go.Proofs.YtalnbddkhojjbaaGreatDoor
open Go.RowKit

theorem word_text (x : List UInt8) (n : Nat) : (wordTk x n).1.text = [] := by
  unfold wordTk
  (repeat' split) <;> rfl
theorem word_one (x : List UInt8) (n : Nat) : wordTk x n = if (wordTk x 1).2 = 0 then (tkZ, 0) else ((wordTk x 1).1, n) := by
  unfold wordTk
  (repeat' split) <;> first | rfl | simp_all
set_option linter.unusedSimpArgs false in
set_option maxRecDepth 100000 in
set_option maxHeartbeats 4000000 in
theorem first_any (s : ByteArray) (w : World) (hV : Vx w) (h1 : 1 ≤ s.size) (h40 : s.size ≤ 1099511627776) : Calls Tryz.prog 63 #[.string s] w fun e w' => FsP (oneTk (lS s)) w e w' := by
  have hls := lS_len s
  have hat : ∀ W, (sAt (.string s) (.int .i64 0)).run Tryz.prog W = .ok (.value (.int .u8 ((lB (lS s) 0).toNat : Int))) W := fun W => run_sAt W s 0 (by omega)
  have S1 := sgn_R (lS s)
  have S2 := sgn_no (lS s)
  have rX := RowC.new w (tkA 0 0 0 ⟨#[]⟩) 86
  have bX := below_alloc w (.cells (tkA 0 0 0 ⟨#[]⟩) 86)
  have hVX := hV.below bX
  have kq := fun W hW => quoted_any s W hW h1 h40
  have kw := fun W => word_any s W
  have hwl := wl_le (lS s)
  obtain ⟨l, hl⟩ : ∃ q, lS s = q := ⟨_, rfl⟩
  simp only [hl] at hls hat S1 S2 kq kw hwl ⊢
  obtain ⟨g, hg⟩ : ∃ q, w.heap.size = q := ⟨_, rfl⟩
  have HG : Hid (w.heap.size = g) := hg
  rw [hg] at rX bX
  generalize lB l 0 = c at hat S1 S2
  clear hl h1
  by_cases hc : c = 123
  · have c0 : ((c.toNat : Int) == 123) = true := by rw [hc]; rfl
    have c1 : ((c.toNat : Int) == 125) = false := by rw [hc]; rfl
    have c2 : ((c.toNat : Int) == 91) = false := by rw [hc]; rfl
    have c3 : ((c.toNat : Int) == 93) = false := by rw [hc]; rfl
    have c4 : ((c.toNat : Int) == 58) = false := by rw [hc]; rfl
    have c5 : ((c.toNat : Int) == 44) = false := by rw [hc]; rfl
    have c6 : ((c.toNat : Int) == 34) = false := by rw [hc]; rfl
    have hT : oneTk l = (⟨1, 0, 0, []⟩, 1) := S1 0 (by rw [hc]; rfl)
    rw [hT]
    have hfin := mn_lay (d := tkA 1 0 0 ⟨#[]⟩) hg bX rX
    have HC : Hid _ := hfin.1
    have HB : Hid _ := hfin.2
    obtain ⟨d1, d2⟩ := rX
    clear hT hc S1 S2 hfin bX kq kw hls hVX
    go_enter Tryz.func63, Tryz.ntmps63
    go_upto_region 1 with fail
    clear hg
    generalize w.alloc (.cells (tkA 0 0 0 ⟨#[]⟩) 86) = X at d1 d2 HC HB ⊢
    go_wp2
    exact tl_bodyPost2 2 3 g (tkA 1 0 0 ⟨#[]⟩) rfl rfl rfl HC.out rfl ⟨⟨1, 0, 0, ⟨#[]⟩, rfl, fun _ => ⟨rfl, rfl, rfl, rfl⟩⟩, HB.out⟩
  have n123 := hc
  clear hc
  by_cases hc : c = 125
  · have c0 : ((c.toNat : Int) == 123) = false := by rw [hc]; rfl
    have c1 : ((c.toNat : Int) == 125) = true := by rw [hc]; rfl
    have c2 : ((c.toNat : Int) == 91) = false := by rw [hc]; rfl
    have c3 : ((c.toNat : Int) == 93) = false := by rw [hc]; rfl
    have c4 : ((c.toNat : Int) == 58) = false := by rw [hc]; rfl
    have c5 : ((c.toNat : Int) == 44) = false := by rw [hc]; rfl
    have c6 : ((c.toNat : Int) == 34) = false := by rw [hc]; rfl
    have hT : oneTk l = (⟨2, 0, 0, []⟩, 1) := S1 1 (by rw [hc]; rfl)
    rw [hT]
    have hfin := mn_lay (d := tkA 2 0 0 ⟨#[]⟩) hg bX rX
    have HC : Hid _ := hfin.1
    have HB : Hid _ := hfin.2
    obtain ⟨d1, d2⟩ := rX
    clear hT hc S1 S2 hfin bX kq kw hls hVX
    go_enter Tryz.func63, Tryz.ntmps63
    go_upto_region 1 with fail
    clear hg
    generalize w.alloc (.cells (tkA 0 0 0 ⟨#[]⟩) 86) = X at d1 d2 HC HB ⊢
    go_wp2
    exact tl_bodyPost2 2 3 g (tkA 2 0 0 ⟨#[]⟩) rfl rfl rfl HC.out rfl ⟨⟨2, 0, 0, ⟨#[]⟩, rfl, fun _ => ⟨rfl, rfl, rfl, rfl⟩⟩, HB.out⟩
  have n125 := hc
  clear hc
  by_cases hc : c = 91
  · have c0 : ((c.toNat : Int) == 123) = false := by rw [hc]; rfl
    have c1 : ((c.toNat : Int) == 125) = false := by rw [hc]; rfl
    have c2 : ((c.toNat : Int) == 91) = true := by rw [hc]; rfl
    have c3 : ((c.toNat : Int) == 93) = false := by rw [hc]; rfl
    have c4 : ((c.toNat : Int) == 58) = false := by rw [hc]; rfl
    have c5 : ((c.toNat : Int) == 44) = false := by rw [hc]; rfl
    have c6 : ((c.toNat : Int) == 34) = false := by rw [hc]; rfl
    have hT : oneTk l = (⟨3, 0, 0, []⟩, 1) := S1 2 (by rw [hc]; rfl)
    rw [hT]
    have hfin := mn_lay (d := tkA 3 0 0 ⟨#[]⟩) hg bX rX
    have HC : Hid _ := hfin.1
    have HB : Hid _ := hfin.2
    obtain ⟨d1, d2⟩ := rX
    clear hT hc S1 S2 hfin bX kq kw hls hVX
    go_enter Tryz.func63, Tryz.ntmps63
    go_upto_region 1 with fail
    clear hg
    generalize w.alloc (.cells (tkA 0 0 0 ⟨#[]⟩) 86) = X at d1 d2 HC HB ⊢
    go_wp2
    exact tl_bodyPost2 2 3 g (tkA 3 0 0 ⟨#[]⟩) rfl rfl rfl HC.out rfl ⟨⟨3, 0, 0, ⟨#[]⟩, rfl, fun _ => ⟨rfl, rfl, rfl, rfl⟩⟩, HB.out⟩
  have n91 := hc
  clear hc
  by_cases hc : c = 93
  · have c0 : ((c.toNat : Int) == 123) = false := by rw [hc]; rfl
    have c1 : ((c.toNat : Int) == 125) = false := by rw [hc]; rfl
    have c2 : ((c.toNat : Int) == 91) = false := by rw [hc]; rfl
    have c3 : ((c.toNat : Int) == 93) = true := by rw [hc]; rfl
    have c4 : ((c.toNat : Int) == 58) = false := by rw [hc]; rfl
    have c5 : ((c.toNat : Int) == 44) = false := by rw [hc]; rfl
    have c6 : ((c.toNat : Int) == 34) = false := by rw [hc]; rfl
    have hT : oneTk l = (⟨4, 0, 0, []⟩, 1) := S1 3 (by rw [hc]; rfl)
    rw [hT]
    have hfin := mn_lay (d := tkA 4 0 0 ⟨#[]⟩) hg bX rX
    have HC : Hid _ := hfin.1
    have HB : Hid _ := hfin.2
    obtain ⟨d1, d2⟩ := rX
    clear hT hc S1 S2 hfin bX kq kw hls hVX
    go_enter Tryz.func63, Tryz.ntmps63
    go_upto_region 1 with fail
    clear hg
    generalize w.alloc (.cells (tkA 0 0 0 ⟨#[]⟩) 86) = X at d1 d2 HC HB ⊢
    go_wp2
    exact tl_bodyPost2 2 3 g (tkA 4 0 0 ⟨#[]⟩) rfl rfl rfl HC.out rfl ⟨⟨4, 0, 0, ⟨#[]⟩, rfl, fun _ => ⟨rfl, rfl, rfl, rfl⟩⟩, HB.out⟩
  have n93 := hc
  clear hc
  by_cases hc : c = 58
  · have c0 : ((c.toNat : Int) == 123) = false := by rw [hc]; rfl
    have c1 : ((c.toNat : Int) == 125) = false := by rw [hc]; rfl
    have c2 : ((c.toNat : Int) == 91) = false := by rw [hc]; rfl
    have c3 : ((c.toNat : Int) == 93) = false := by rw [hc]; rfl
    have c4 : ((c.toNat : Int) == 58) = true := by rw [hc]; rfl
    have c5 : ((c.toNat : Int) == 44) = false := by rw [hc]; rfl
    have c6 : ((c.toNat : Int) == 34) = false := by rw [hc]; rfl
    have hT : oneTk l = (⟨5, 0, 0, []⟩, 1) := S1 4 (by rw [hc]; rfl)
    rw [hT]
    have hfin := mn_lay (d := tkA 5 0 0 ⟨#[]⟩) hg bX rX
    have HC : Hid _ := hfin.1
    have HB : Hid _ := hfin.2
    obtain ⟨d1, d2⟩ := rX
    clear hT hc S1 S2 hfin bX kq kw hls hVX
    go_enter Tryz.func63, Tryz.ntmps63
    go_upto_region 1 with fail
    clear hg
    generalize w.alloc (.cells (tkA 0 0 0 ⟨#[]⟩) 86) = X at d1 d2 HC HB ⊢
    go_wp2
    exact tl_bodyPost2 2 3 g (tkA 5 0 0 ⟨#[]⟩) rfl rfl rfl HC.out rfl ⟨⟨5, 0, 0, ⟨#[]⟩, rfl, fun _ => ⟨rfl, rfl, rfl, rfl⟩⟩, HB.out⟩
  have n58 := hc
  clear hc
  by_cases hc : c = 44
  · have c0 : ((c.toNat : Int) == 123) = false := by rw [hc]; rfl
    have c1 : ((c.toNat : Int) == 125) = false := by rw [hc]; rfl
    have c2 : ((c.toNat : Int) == 91) = false := by rw [hc]; rfl
    have c3 : ((c.toNat : Int) == 93) = false := by rw [hc]; rfl
    have c4 : ((c.toNat : Int) == 58) = false := by rw [hc]; rfl
    have c5 : ((c.toNat : Int) == 44) = true := by rw [hc]; rfl
    have c6 : ((c.toNat : Int) == 34) = false := by rw [hc]; rfl
    have hT : oneTk l = (⟨6, 0, 0, []⟩, 1) := S1 5 (by rw [hc]; rfl)
    rw [hT]
    have hfin := mn_lay (d := tkA 6 0 0 ⟨#[]⟩) hg bX rX
    have HC : Hid _ := hfin.1
    have HB : Hid _ := hfin.2
    obtain ⟨d1, d2⟩ := rX
    clear hT hc S1 S2 hfin bX kq kw hls hVX
    go_enter Tryz.func63, Tryz.ntmps63
    go_upto_region 1 with fail
    clear hg
    generalize w.alloc (.cells (tkA 0 0 0 ⟨#[]⟩) 86) = X at d1 d2 HC HB ⊢
    go_wp2
    exact tl_bodyPost2 2 3 g (tkA 6 0 0 ⟨#[]⟩) rfl rfl rfl HC.out rfl ⟨⟨6, 0, 0, ⟨#[]⟩, rfl, fun _ => ⟨rfl, rfl, rfl, rfl⟩⟩, HB.out⟩
  have n44 := hc
  clear hc
  have hno : sgnAt c 6 0 = none := by simp [sgnAt, sgns, lB, n123, n125, n91, n93, n58, n44]
  have hT := S2 hno
  clear S1 S2 hno
  by_cases hc : c = 34
  · have c0 : ((c.toNat : Int) == 123) = false := by rw [hc]; rfl
    have c1 : ((c.toNat : Int) == 125) = false := by rw [hc]; rfl
    have c2 : ((c.toNat : Int) == 91) = false := by rw [hc]; rfl
    have c3 : ((c.toNat : Int) == 93) = false := by rw [hc]; rfl
    have c4 : ((c.toNat : Int) == 58) = false := by rw [hc]; rfl
    have c5 : ((c.toNat : Int) == 44) = false := by rw [hc]; rfl
    have c6 : ((c.toNat : Int) == 34) = true := by rw [hc]; rfl
    rw [if_pos hc] at hT
    rw [← hT] at kq
    generalize oneTk l = R at kq ⊢
    clear hT hc kw n123 n125 n91 n93 n58 n44 hls
    go_enter Tryz.func63, Tryz.ntmps63
    go_upto_region 1 with fail
    clear hg
    generalize w.alloc (.cells (tkA 0 0 0 ⟨#[]⟩) 86) = X at rX bX hVX ⊢
    go_wp2_with fail
    refine (kq _ hVX).mono ?_
    rintro e w1 ⟨⟨k, a, n, S, rfl, hR⟩, hb⟩
    have hr1 := rX.kept hb
    have hb1 : Below g w w1 := bX.trans (hb.mono (by have := rX.lt; omega))
    have hfin := mn_lay (d := tkA k a n S) HG.out hb1 hr1
    have HC : Hid _ := hfin.1
    have HB : Hid _ := hfin.2
    obtain ⟨d1, d2⟩ := hr1
    clear hfin rX bX hVX hb hb1 kq
    have h1c : OneC (tkA k a n S) = true := tk_one k a n S
    have hsz : (tkA k a n S).size = 4 := by simp [tkA]
    have d3 : (rowAt w1 g).size = 4 := by rw [d2]; simp [tkA]
    go_wp2
    exact tl_bodyPost2 2 3 g (tkA k a n S) rfl rfl rfl HC.out rfl ⟨⟨k, a, n, S, rfl, hR⟩, HB.out⟩
  have n34 := hc
  rw [if_neg hc] at hT
  have c0 : ((c.toNat : Int) == 123) = false := beq_eq_false_iff_ne.2 fun e => n123 (UInt8.toNat_inj.1 (by show c.toNat = 123; omega))
  have c1 : ((c.toNat : Int) == 125) = false := beq_eq_false_iff_ne.2 fun e => n125 (UInt8.toNat_inj.1 (by show c.toNat = 125; omega))
  have c2 : ((c.toNat : Int) == 91) = false := beq_eq_false_iff_ne.2 fun e => n91 (UInt8.toNat_inj.1 (by show c.toNat = 91; omega))
  have c3 : ((c.toNat : Int) == 93) = false := beq_eq_false_iff_ne.2 fun e => n93 (UInt8.toNat_inj.1 (by show c.toNat = 93; omega))
  have c4 : ((c.toNat : Int) == 58) = false := beq_eq_false_iff_ne.2 fun e => n58 (UInt8.toNat_inj.1 (by show c.toNat = 58; omega))
  have c5 : ((c.toNat : Int) == 44) = false := beq_eq_false_iff_ne.2 fun e => n44 (UInt8.toNat_inj.1 (by show c.toNat = 44; omega))
  have c6 : ((c.toNat : Int) == 34) = false := beq_eq_false_iff_ne.2 fun e => n34 (UInt8.toNat_inj.1 (by show c.toNat = 34; omega))
  clear hc n123 n125 n91 n93 n58 n44 n34 kq
  rw [word_one] at hT
  have hx : (l.take (wl l)).length = wl l := by rw [List.length_take]; omega
  have km := fun (S : ByteArray) W hW (h : lS S = l.take (wl l)) => meaning_any S W hW (by rw [← lS_len, h, hx]; omega)
  generalize oneTk l = R at hT ⊢
  have HL : Hid (wl l ≤ 1099511627776) := by show _ ≤ _; omega
  clear hwl hls
  generalize wl l = L at hT kw km hx HL
  generalize l.take L = x at hT kw km hx
  go_enter Tryz.func63, Tryz.ntmps63
  go_upto_region 1 with fail
  clear hg
  generalize w.alloc (.cells (tkA 0 0 0 ⟨#[]⟩) 86) = X at rX bX hVX ⊢
  go_wp2_with fail
  refine (kw _).mono ?_
  rintro e w1 ⟨⟨S, rfl, hS⟩, hb⟩
  have hr1 := rX.kept hb
  have hb1 : Below g w w1 := bX.trans (hb.mono (by have := rX.lt; omega))
  have hV1 := hVX.below hb
  have k2 := km S w1 hV1 hS
  rw [hS] at k2
  have hSz : S.size = L := by rw [← lS_len, hS, hx]
  clear kw km rX bX hVX hb hS hx
  unfold MnP at k2
  have hWt := word_text x 1
  generalize wordTk x 1 = WT at k2 hT hWt
  obtain ⟨ok, hok⟩ : ∃ q, decide (WT.2 ≠ 0) = q := ⟨_, rfl⟩
  rw [hok] at k2
  have HO : Hid (decide (WT.2 ≠ 0) = ok) := hok
  have HT : Hid (R = if WT.2 = 0 then (tkZ, 0) else (WT.1, L)) := hT
  have HWt : Hid (WT.1.text = []) := hWt
  clear hok hT hWt
  go_wp2_with fail
  refine k2.mono ?_
  rintro e w2 ⟨rfl, hb⟩
  have hr2 := hr1.kept hb
  have hb2 : Below g w w2 := hb1.trans (hb.mono (by have := hr1.lt; omega))
  have hlt := hr2.lt
  have hC := tk_one WT.1.kind 0 WT.1.n ⟨#[]⟩
  have hC1 : OneC (tkA WT.1.kind 0 WT.1.n ⟨#[]⟩) = true := hC
  have hsz : (tkA WT.1.kind 0 WT.1.n ⟨#[]⟩).size = 4 := by simp [tkA]
  clear k2 hr1 hb1 hV1 hb hC
  have hr5 : RowC (w2.alloc (.cells (tkA WT.1.kind 0 WT.1.n ⟨#[]⟩) 86)) w2.heap.size (tkA WT.1.kind 0 WT.1.n ⟨#[]⟩) := RowC.new w2 _ _
  have hb6 : Below g w (w2.alloc (.cells (tkA WT.1.kind 0 WT.1.n ⟨#[]⟩) 86)) := hb2.alloc (by omega) _
  have hr6 : RowC (w2.alloc (.cells (tkA WT.1.kind 0 WT.1.n ⟨#[]⟩) 86)) g (tkA 0 0 0 ⟨#[]⟩) := hr2.kept (below_alloc w2 _)
  obtain ⟨g2, hg2⟩ : ∃ q, w2.heap.size = q := ⟨_, rfl⟩
  rw [hg2] at hr5
  have hne : g ≠ g2 := by omega
  clear hr2 hb2 hlt
  go_upto_region 18 with fail
  generalize w2.alloc (.cells (tkA WT.1.kind 0 WT.1.n ⟨#[]⟩) 86) = W6 at hr5 hr6 hb6 ⊢
  clear hg2
  cases ok with
  | false =>
    have h0 : WT.2 = 0 := Classical.not_not.1 (of_decide_eq_false HO.out)
    have HR : Hid (R = (tkZ, 0)) := by show _ = _; rw [HT.out, if_pos h0]
    have hfin := mn_lay (d := tkA 0 0 0 ⟨#[]⟩) HG.out hb6 hr6
    have HC : Hid _ := hfin.1
    have HB : Hid _ := hfin.2
    obtain ⟨d1, d2⟩ := hr6
    clear h0 hfin hb6 hr5 hne
    go_wp2
    exact tl_bodyPost2 2 3 g (tkA 0 0 0 ⟨#[]⟩) rfl rfl rfl HC.out rfl ⟨⟨0, 0, 0, ⟨#[]⟩, by rw [HR.out]; rfl, fun h => absurd (by rw [HR.out]) h⟩, HB.out⟩
  | true =>
    have h0 : WT.2 ≠ 0 := of_decide_eq_true HO.out
    have HR : Hid (R = (WT.1, L)) := by show _ = _; rw [HT.out, if_neg h0]
    have hfin := mn_lay (d := tkA WT.1.kind 0 WT.1.n ⟨#[]⟩) HG.out hb6 hr6
    have HC : Hid _ := hfin.1
    have HB : Hid _ := hfin.2
    obtain ⟨d1, d2⟩ := hr6
    have d3 : (rowAt W6 g).size = 4 := by rw [d2]; simp [tkA]
    obtain ⟨e1, e2⟩ := hr5
    have e3 : (rowAt W6 g2).size = 4 := by rw [e2]; simp [tkA]
    clear h0 hfin hb6 hne
    go_wp2
    exact tl_bodyPost2 2 3 g (tkA WT.1.kind 0 WT.1.n ⟨#[]⟩) rfl rfl rfl HC.out rfl ⟨⟨WT.1.kind, 0, WT.1.n, ⟨#[]⟩, by rw [HR.out]; rfl, fun _ => by rw [HR.out]; exact ⟨rfl, rfl, rfl, HWt.out.symm⟩⟩, HB.out⟩
end Go.Proofs.YtalnbddkhojjbaaGreatDoor
namespace Go.Proofs.YtalnbddkhojjbaaGreatDoor
set_option linter.unusedSimpArgs false
open Go.RowKit

set_option maxRecDepth 100000 in
theorem isBlank_any (b : UInt8) (w : World) : Calls Tryz.prog 62 #[.int .u8 (b.toNat : Int)] w fun e w' => e = .returned (.bool (blk b)) ∧ w' = w := by
  have nb : ∀ v : UInt8, b ≠ v → ((b.toNat : Int) == (v.toNat : Int)) = false := fun v h => beq_eq_false_iff_ne.2 (fun e => h (UInt8.toNat_inj.1 (by omega)))
  by_cases h32 : b = 32
  · have f0 : ((b.toNat : Int) == 32) = true := by rw [h32]; rfl
    have f1 : ((b.toNat : Int) == 9) = false := by rw [h32]; rfl
    have f2 : ((b.toNat : Int) == 10) = false := by rw [h32]; rfl
    have f3 : ((b.toNat : Int) == 13) = false := by rw [h32]; rfl
    rw [show blk b = true by rw [h32]; rfl]
    clear h32 nb
    go_enter Tryz.func62, Tryz.ntmps62
    go_wp2
    go_ret
    exact ⟨rfl, rfl⟩
  by_cases h9 : b = 9
  · have f0 : ((b.toNat : Int) == 32) = false := by rw [h9]; rfl
    have f1 : ((b.toNat : Int) == 9) = true := by rw [h9]; rfl
    have f2 : ((b.toNat : Int) == 10) = false := by rw [h9]; rfl
    have f3 : ((b.toNat : Int) == 13) = false := by rw [h9]; rfl
    rw [show blk b = true by rw [h9]; rfl]
    clear h9 nb
    go_enter Tryz.func62, Tryz.ntmps62
    go_wp2
    go_ret
    exact ⟨rfl, rfl⟩
  by_cases h10 : b = 10
  · have f0 : ((b.toNat : Int) == 32) = false := by rw [h10]; rfl
    have f1 : ((b.toNat : Int) == 9) = false := by rw [h10]; rfl
    have f2 : ((b.toNat : Int) == 10) = true := by rw [h10]; rfl
    have f3 : ((b.toNat : Int) == 13) = false := by rw [h10]; rfl
    rw [show blk b = true by rw [h10]; rfl]
    clear h10 nb
    go_enter Tryz.func62, Tryz.ntmps62
    go_wp2
    go_ret
    exact ⟨rfl, rfl⟩
  by_cases h13 : b = 13
  · have f0 : ((b.toNat : Int) == 32) = false := by rw [h13]; rfl
    have f1 : ((b.toNat : Int) == 9) = false := by rw [h13]; rfl
    have f2 : ((b.toNat : Int) == 10) = false := by rw [h13]; rfl
    have f3 : ((b.toNat : Int) == 13) = true := by rw [h13]; rfl
    rw [show blk b = true by rw [h13]; rfl]
    clear h13 nb
    go_enter Tryz.func62, Tryz.ntmps62
    go_wp2
    go_ret
    exact ⟨rfl, rfl⟩
  have f0 : ((b.toNat : Int) == 32) = false := nb 32 h32
  have f1 : ((b.toNat : Int) == 9) = false := nb 9 h9
  have f2 : ((b.toNat : Int) == 10) = false := nb 10 h10
  have f3 : ((b.toNat : Int) == 13) = false := nb 13 h13
  rw [show blk b = false by unfold blk; simp [h32, h9, h10, h13]]
  clear h32 h9 h10 h13 nb
  go_enter Tryz.func62, Tryz.ntmps62
  go_wp2
  go_ret
  exact ⟨rfl, rfl⟩
theorem tkEL_enc (x : Tk) : tkEL.enc x = (tkR x).toList := rfl
def tlBS (x : Value) : Sem Next := do pure (.value (← Instr.buildSlice 78 1 #[(0, x)]))
section
variable (ρ : Operand → Value) (dst : Option Tmp) (ty : TypeId) (pos : String) (after : Array Edge) (guard : Option (Nat × Bool))
@[go_sem ↓] theorem execOp_tlBS (x : Operand) : execOp ρ { dst, op := .buildSlice 78 1 #[(0, x)], type := ty, pos, after, guard } = tlBS (ρ x) := by simp [execOp, tlBS]
end
@[go_sem] theorem run_tlBS (w : World) (x : Tk) : (tlBS (.agg (tkR x))).run Tryz.prog w = .ok (.value (.slice (some ⟨w.heap.size, 0, none⟩) 1 1)) (w.alloc (.cells (tkR x) 86)) := by
  have h := run_litK1 tkEL_ok (by show 4 ≤ 1000; omega) w x
  simp only [tkEL, Array.toArray_toList] at h
  simp only [tlBS, Sem.run_bind, h]
  rfl
set_option maxRecDepth 100000 in
set_option maxHeartbeats 8000000 in
theorem lexAll_any (l : List UInt8) (x : Option Addr) (L c : Nat) (w : World) (hL : l.length = L) (hl : IsB w (.slice x L c) l) (hV : Vx w) : Calls Tryz.prog 33 #[.slice x L c] w fun e w' => AllP tkEL l w e w' := by
  by_cases h4 : 4096 < L
  · have i0 : (4096 : Int) < (L : Int) := by omega
    have HP : Hid (AllP tkEL l w (.returned (.tuple #[.slice none 0 0, .int .i64 2, .int .i64 0])) w) := ⟨⟨none, 0, 0, by unfold cutE cutP; rw [if_pos (by omega), if_pos (by omega)], by unfold cutL; rw [if_pos (by omega)]; exact OwnK.nil _ _ _⟩, Below.refl _ _⟩
    go_enter Tryz.func33, Tryz.ntmps33
    go_wp2
    go_ret3
    exact HP.out
  have i0 : ¬ (4096 : Int) < (L : Int) := by omega
  have hst := hl.str
  obtain ⟨s, hs⟩ : ∃ q, ByteArray.mk l.toArray = q := ⟨_, rfl⟩
  have hls : lS s = l := by rw [← hs, lS_mk]
  have hsz : s.size = L := by rw [← lS_len, hls, hL]
  rw [hs] at hst
  clear hs hl
  obtain ⟨RC, hRC⟩ : ∃ q, cutA l = q := ⟨_, rfl⟩
  have HE : Hid (cutL l = RC.1.getD [] ∧ cutE l = (if RC.1.isNone then 30 else 0) ∧ cutP l = (RC.2 : Int)) := by
    have h4' : ¬ 4096 < l.length := by omega
    exact ⟨by unfold cutL; rw [if_neg h4', hRC], by unfold cutE; rw [if_neg h4', hRC], by unfold cutP; rw [if_neg h4', hRC]⟩
  have H0 : Hid (∃ f, L + 1 ≤ f + 0 ∧ cutF l f 0 [] = RC) := ⟨L + 1, by omega, by rw [← hRC]; unfold cutA; rw [hL]⟩
  clear hRC
  go_enter Tryz.func33, Tryz.ntmps33
  go_wp2_with fail
  clear hst
  go_loopw [6, 7] (fun lv iv wr => ∃ (k : Nat) (y : Option Addr) (n c : Nat) (ts : List Tk), k ≤ L ∧ lv = .slice y n c ∧ iv = .int .i64 k ∧ ts.length ≤ k ∧ OwnK tkEL wr w.heap.size (.slice y n c) ts ∧ Hid (∃ f, L + 1 ≤ f + k ∧ cutF l f k ts = RC) ∧ Below w.heap.size w wr) (fun _ iv _ => L - (intOf iv).toNat)
  case atStart => exact ⟨0, none, 0, 0, [], by omega, rfl, rfl, Nat.zero_le _, OwnK.nil _ _ _, H0, Below.refl _ _⟩
  case round =>
    clear H0
    obtain ⟨k, y, n0, c0, ts, hk, rfl, rfl, hts, hO, HI, hB⟩ := hrel
    obtain ⟨f, hf, hF⟩ := HI.out
    clear HI
    by_cases hlt : k < L
    · have q0 : (0 : Int) ≤ (k : Int) := by omega
      have q1 : (k : Int) < (L : Int) := by omega
      obtain ⟨f', rfl⟩ : ∃ f', f = f' + 1 := ⟨f - 1, by omega⟩
      rw [cutF_go l f' k ts (by omega)] at hF
      obtain ⟨b, hb⟩ : ∃ q, lB l k = q := ⟨_, rfl⟩
      have hbk : ∀ W, (sAt (.string s) (.int .i64 (k : Int))).run Tryz.prog W = .ok (.value (.int .u8 (b.toNat : Int))) W := fun W => by
        have := run_sAt W s k (by omega)
        rw [hls, hb] at this; exact this
      rw [hb] at hF
      have HG : Hid _ := hF
      have hone := fun W hW => first_any (s.extract k L) W hW (by rw [← lS_len, lS_cut, hls, List.length_take, List.length_drop]; omega) (by rw [← lS_len, lS_cut, hls, List.length_take, List.length_drop]; omega)
      simp only [lS_cut, hls] at hone
      clear hF hb
      have hib := fun W => isBlank_any b W
      by_cases he : blk b = true
      · have HN : Hid (∃ f, L + 1 ≤ f + (k + 1) ∧ cutF l f (k + 1) ts = RC) := by
          have h9 := HG.out
          rw [he, if_pos rfl] at h9
          exact ⟨f', by omega, h9⟩
        rw [he] at hib
        clear HG he hone
        go_wp2_with fail
        refine (hib _).mono ?_
        rintro e w' ⟨rfl, rfl⟩
        go_wp2
        go_roundw
        case rel => first | exact ⟨k + 1, _, _, _, ts, by omega, rfl, by go_num, by omega, hO, HN, hB⟩ | ((repeat apply Exists.intro); refine ⟨⟨k + 1, _, _, _, ts, by omega, rfl, ?_, by omega, hO, HN, hB⟩, rfl⟩; go_num)
        case measure => simp [intOf]; omega
      have hnb : blk b = false := by simpa using he
      have HG2 : Hid ((if (oneTk (l.drop k)).2 = 0 then (none, k) else cutF l f' (k + (oneTk (l.drop k)).2) (ts ++ [{ (oneTk (l.drop k)).1 with at_ := (k : Int) }])) = RC) := by
        have h9 := HG.out
        rw [hnb, if_neg (by simp)] at h9; exact h9
      rw [hnb] at hib
      clear he hnb HG
      have htk : (l.drop k).take (L - k) = l.drop k := List.take_of_length_le (by rw [List.length_drop]; omega)
      simp only [htk] at hone
      have hle := one_le (l.drop k) (by rw [List.length_drop]; omega)
      rw [List.length_drop, hL] at hle
      have hat := one_at (l.drop k)
      unfold FsP at hone
      obtain ⟨TN, hTN⟩ : ∃ q, oneTk (l.drop k) = q := ⟨_, rfl⟩
      rw [hTN] at HG2 hle hat
      simp only [hTN] at hone
      clear hTN htk
      obtain ⟨⟨tk1, tk2, tk3, tk4⟩, n⟩ := TN
      simp only at HG2 hle hat hone
      subst hat
      have hcut : ∀ W, (sCut1 (.string s) (.int .i64 (k : Int))).run Tryz.prog W = .ok (.value (.string (s.extract k L))) W := fun W => by
        have := run_sCut1 W s k (by omega)
        rw [hsz] at this; exact this
      generalize s.extract k L = SK at hone hcut
      go_wp2_with fail
      refine (hib _).mono ?_
      rintro e w' ⟨rfl, rfl⟩
      go_wp2_with fail
      refine (hone _ (hV.below hB)).mono ?_
      rintro e w1 ⟨⟨j1, j2, j3, S, rfl, hS⟩, hb9⟩
      have hO1 := hO.keep hb9
      have hVl : ∀ q, (Value.slice y n0 c0).ownBlock = some q → q < w1.heap.size := fun q hq => (World.ownsRow.lt hO1 q hq).2
      have hB1 := hB.trans (hb9.mono hB.size)
      have bA := below_alloc w1 (.cells (tkA j1 j2 j3 S) 86)
      have hO2 := hO1.keep bA
      have hB2 := hB1.trans (bA.mono hB1.size)
      have rA := RowC.new w1 (tkA j1 j2 j3 S) 86
      have hsto : (bigStore 86 (.pointer (some ⟨w1.heap.size, 0, none⟩)) (.agg (tkA j1 j2 j3 S))).run Tryz.prog (w1.alloc (.cells (tkA 0 0 0 ⟨#[]⟩) 86)) = .ok .skip (w1.alloc (.cells (tkA j1 j2 j3 S) 86)) := by
        rw [run_store_tl _ _ _ (rowL_new _ _ _ _ rfl) (by rw [rowAt_new _ _ _ _ rfl]; rfl) rfl (tkA_one _ _ _ _), setRow_new _ _ _ _ _ rfl]
      have hgl : w1.heap.size < (w1.alloc (.cells (tkA j1 j2 j3 S) 86)).heap.size := by simp
      clear hone hcut hO hB hb9 hbk hO1 bA hib
      go_upto_region 10 with fail
      obtain ⟨g, hg⟩ : ∃ q, w1.heap.size = q := ⟨_, rfl⟩
      have hgw : w.heap.size ≤ g := by have := hB1.size; omega
      have hgV : (Value.slice y n0 c0).ownBlock ≠ some g := fun e9 => by have := hVl g e9; omega
      rw [hg] at rA hgl
      simp only [hg]
      clear hg hB1 hsto
      generalize w1.alloc (.cells (tkA j1 j2 j3 S) 86) = W2 at hO2 hB2 rA hgl ⊢
      by_cases hn0 : n = 0
      · have z0 : ((n : Int) == 0) = true := beq_iff_eq.2 (by omega)
        have HP : Hid (AllP tkEL l w (.returned (.tuple #[.slice none 0 0, .int .i64 30, .int .i64 (k : Int)])) W2) := by
          have h9 := HG2.out
          rw [if_pos hn0] at h9
          obtain ⟨e1, e2, e3⟩ := HE.out
          refine ⟨⟨none, 0, 0, ?_, ?_⟩, hB2⟩
          · rw [e2, e3, ← h9]; rfl
          · rw [e1, ← h9]; exact OwnK.nil _ _ _
        clear HG2 hn0 hS
        go_wp2
        go_ret3
        exact HP.out
      · have z0 : ((n : Int) == 0) = false := beq_eq_false_iff_ne.2 (by omega)
        have HG3 : Hid (cutF l f' (k + n) (ts ++ [⟨tk1, (k : Int), tk3, tk4⟩]) = RC) := by
          have h9 := HG2.out
          rw [if_neg hn0] at h9; exact h9
        clear HG2
        obtain ⟨q1, q2, q3, hS4⟩ := hS hn0
        obtain rfl := q1.symm
        obtain rfl := q2.symm
        obtain rfl := q3.symm
        obtain rfl : S = ⟨tk4.toArray⟩ := lS_eq hS4
        clear hS hS4
        have c1 : W2.cell? ⟨g, 1, none⟩ = some (.int .i64 0) := by rw [rA.cell 1]; rfl
        have z1 := rA.frozen 1
        have rB : RowC (W2.setCell ⟨g, 1, none⟩ (.int .i64 (k : Int))) g (tkR ⟨tk1, (k : Int), tk3, tk4⟩) := rA.set 1 (.int .i64 (k : Int))
        have hO3 : OwnK tkEL (W2.setCell ⟨g, 1, none⟩ (.int .i64 (k : Int))) w.heap.size (.slice y n0 c0) ts := hO2.other14 (fun q hq => heap_setCell_ne _ _ _ _ _ (fun e9 => hgV (by rw [hq, e9])))
        have hB3 : Below w.heap.size w (W2.setCell ⟨g, 1, none⟩ (.int .i64 (k : Int))) := hB2.setCell (p := ⟨g, 1, none⟩) hgw _
        obtain ⟨W3, hW3⟩ : ∃ q, W2.setCell ⟨g, 1, none⟩ (.int .i64 (k : Int)) = q := ⟨_, rfl⟩
        rw [hW3] at rB hO3 hB3
        have HW3 : Hid _ := hW3
        obtain ⟨tx, htx⟩ : ∃ q, (⟨tk1, (k : Int), tk3, tk4⟩ : Tk) = q := ⟨_, rfl⟩
        rw [htx] at rB HG3
        have b4 := below_alloc W3 (.cells (tkR tx) 86)
        have hO4 := hO3.keep b4
        have hB4 := hB3.trans (b4.mono hB3.size)
        have hrg : (W3.alloc (.cells (tkR tx) 86)).rangeAt W3.heap.size 0 (tkEL.enc tx) := fun q u hu => by
          rw [Nat.zero_add, cell_of_row _ _ q _ _ _ (heap_alloc_last W3 _)]
          rw [tkEL_enc, Array.getElem?_toList] at hu; exact hu
        obtain ⟨g5, c5, w5, hr, hO5, -, hgr, -⟩ := run_app1K tkEL_ok _ w.heap.size W3.heap.size _ ts tx 78 hO4 hrg (by simp) (by show (ts.length + 1) * 40 ≤ _; omega) (by unfold maxLen; omega) (Nat.le_trans hB3.size b4.size)
        have hB5 := hB4.trans (below_grown14 hO4 hgr (Nat.le_trans hB3.size b4.size))
        have hT9 : tkEL.S = 78 := rfl
        rw [hT9] at hr
        have hkn : IntKind.i64.wrap ((k : Int) + (n : Int)) = (k : Int) + (n : Int) := by rw [IntKind.wrap_i64]; omega
        have HN : Hid (∃ f, L + 1 ≤ f + (k + n) ∧ cutF l f (k + n) (ts ++ [tx]) = RC) := ⟨f', by omega, HG3.out⟩
        obtain ⟨rB1, rB2⟩ := rB
        have rB3 : (rowAt W3 g).size = 4 := by rw [rB2]; rfl
        have HO5 : Hid _ := hO5
        have HL5 : Hid ((ts ++ [tx]).length ≤ k + n) := by show _ ≤ _; rw [List.length_append, List.length_singleton]; omega
        clear hW3 HG3 htx hO2 hO3 hO4 hB2 hB3 hB4 b4 hrg hgr rA hO5 hgV hVl hgl
        go_upto_region 13 with fail
        rw [HW3.out]
        clear HW3 c1 z1
        go_wp2_with (at_builtin; refine wpL_appG 78 rfl _ _ rfl _ w5 (by exact hr) ?_)
        go_roundw
        case rel => first | exact ⟨k + n, _, _, _, ts ++ [tx], by omega, rfl, by go_num, HL5.out, HO5.out, HN, hB5⟩ | ((repeat apply Exists.intro); refine ⟨⟨k + n, _, _, _, ts ++ [tx], by omega, rfl, ?_, HL5.out, HO5.out, HN, hB5⟩, rfl⟩; go_num)
        case measure => simp [intOf]; omega
    · obtain rfl : k = L := by omega
      have hlt' : ¬ (k : Int) < (k : Int) := by omega
      obtain ⟨f', rfl⟩ : ∃ f', f = f' + 1 := ⟨f - 1, by omega⟩
      rw [cutF, if_neg (by omega)] at hF
      have HP : Hid (AllP tkEL l w (.returned (.tuple #[.slice y n0 c0, .int .i64 0, .int .i64 0])) wr) := by
        obtain ⟨e1, e2, e3⟩ := HE.out
        refine ⟨⟨y, n0, c0, ?_, ?_⟩, hB⟩
        · rw [e2, e3, ← hF]; rfl
        · rw [e1, ← hF]; exact hO
      clear hF
      go_wp2
      go_ret3
      exact HP.out
theorem lexOk : LexOk := ⟨fun l x L c w hL _ _ hl hV => lexAll_any l x L c w hL hl hV, fun s w h => quote_any s w h⟩
end Go.Proofs.YtalnbddkhojjbaaGreatDoor
