
import Derived.Test.YtmbkkdojjfdliaaStbd
namespace Go.Proofs.Ytmbkkdojjfdliaa
open Go.RowKit

/-! What Left asks of each write; slices.IndexFunc, slices.DeleteFunc -/
attribute [local go_sem ↓] execOp_cutW1 execOp_cutW0
/-- The closure's variable: the set, in the cell cb. -/
structure Cap26 (w : World) (cb b : Nat) (p : Int → Bool) : Prop where
  cell : w.cell? ⟨cb, 0, none⟩ = some (.map (some b))
  set : SetI w b p
theorem Cap26.lt {w : World} {cb b : Nat} {p : Int → Bool} (h : Cap26 w cb b p) : cb < w.heap.size := World.block_lt_of_cell? _ _ h.cell
theorem Cap26.keep {w w' : World} {cb b : Nat} {p : Int → Bool} (h : Cap26 w cb b p) (hb : Below w.heap.size w w') : Cap26 w' cb b p := ⟨cell_later hb h.cell, h.set.keep hb⟩
theorem Cap26.keeps {w w' : World} {cb b g : Nat} {p : Int → Bool} (h : Cap26 w cb b p) (hb : Keep [g] w w') (h1 : cb ≠ g) (h2 : b ≠ g) : Cap26 w' cb b p := ⟨by
  have := h.cell
  unfold World.cell? at this ⊢
  rw [hb.block cb h.lt (by simpa using h1)]; exact this, h.set.keeps hb (by simpa using h2)⟩
abbrev dlV (cb : Nat) : Value := .func (.func 19) #[] #[.pointer (some ⟨cb, 0, none⟩)]
set_option linter.unusedSimpArgs false in
theorem del26 (x : Wr) (w : World) (cb b : Nat) (p : Int → Bool) (h : Cap26 w cb b p) : Calls Try.prog 19 #[.agg (wrA x), .pointer (some ⟨cb, 0, none⟩)] w fun e w' => e = .returned (.bool (p x.1)) ∧ Below w.heap.size w w' := by
  have b1 := below_alloc w (.cells (wrA x) 29)
  have h2 := h.keep b1
  have hl := h2.set.look x.1
  have hc := h2.cell
  have c2 := cell_wr0 w x
  have B : Hid _ := b1
  clear b1 h h2
  go_enter Try.func19, Try.ntmps19
  go_wp2
  go_ret
  have b2 := below_alloc (w.alloc (.cells (wrA x) 29)) (.cells #[] 40)
  exact ⟨rfl, B.out.trans (b2.mono B.out.size)⟩
theorem new_rg26 (w : World) (x : Wr) : rgOk (w.alloc (.cells (wrA x) 29)) w.heap.size 0 65 = true ∧ rg (w.alloc (.cells (wrA x) 29)) w.heap.size 0 65 = wrA x := by
  refine wr_rg26 (fun j u hu => ?_)
  rw [cell_of_row _ _ _ _ _ _ (heap_alloc_new w (.cells (wrA x) 29)), Nat.zero_add]
  rw [wrE_enc26] at hu
  rw [← Array.getElem?_toList]; exact hu
set_option linter.unusedSimpArgs false in
set_option maxHeartbeats 4000000 in
theorem index26 (w : World) (B cb b n c : Nat) (x0 : Option Addr) (S : List Wr) (p : Int → Bool) (h : OwnK wrE w B (.slice x0 n c) S) (hC : Cap26 w cb b p) (hn : n ≤ 140737488355328) :
    Calls Try.prog 27 #[.slice x0 n c, dlV cb] w fun e w' => ((∃ i : Nat, e = .returned (.int .i64 (i : Int)) ∧ i < n ∧ p (gw S i).1 = true ∧ ∀ t, t < i → p (gw S t).1 = false) ∨ (e = .returned (.int .i64 (-1)) ∧ ∀ t, t < n → p (gw S t).1 = false)) ∧ Below w.heap.size w w' := by
  go_enter Try.func27, Try.ntmps27
  go_wp2_with fail
  go_loopw [8] (fun iv wr => ∃ i : Nat, i ≤ n ∧ iv = .int .i64 (i : Int) ∧ (∀ t, t < i → p (gw S t).1 = false) ∧ Below w.heap.size w wr) (fun iv _ => n - (intOf iv).toNat)
  case atStart => exact ⟨0, by omega, rfl, fun t ht => by omega, Below.refl _ _⟩
  case round =>
    obtain ⟨i, hi, rfl, hP, hB⟩ := hrel
    by_cases hlt : i < n
    · have hc : (i : Int) < (n : Int) := by omega
      have hc0 : (0 : Int) ≤ (i : Int) := by omega
      obtain ⟨g, hg, -⟩ := h.form (by rw [own_len h]; omega)
      subst hg
      have hr := own_rg (h.keep hB) i hlt
      obtain ⟨x, hx⟩ : ∃ x, gw S i = x := ⟨_, rfl⟩
      rw [hx] at hr
      obtain ⟨r1, r2⟩ := hr
      have hD := del26 x wr cb b p (hC.keep hB)
      have HX : Hid (gw S i = x ∧ i < n ∧ (∀ t, t < i → p (gw S t).1 = false)) := ⟨hx, hlt, hP⟩
      have wi := wAdd1 i (i + 1) rfl (by omega)
      clear hx hlt hP hi
      go_wp2_with fail
      refine hD.mono ?_
      rintro e w2 ⟨rfl, b2⟩
      clear hD r1 r2
      have HB : Hid (Below w.heap.size w w2) := hB.trans (b2.mono hB.size)
      clear b2 hB
      obtain ⟨bb, hbb⟩ : ∃ t, p x.1 = t := ⟨_, rfl⟩
      have HBB : Hid (p x.1 = bb) := hbb
      rw [hbb]
      clear hbb
      cases bb with
      | true =>
        go_wp2
        go_ret
        refine ⟨.inl ⟨i, rfl, HX.out.2.1, by rw [HX.out.1]; exact HBB.out, HX.out.2.2⟩, HB.out⟩
      | false =>
        go_wp2
        go_roundw
        case rel =>
          obtain ⟨q1, q2, q3⟩ := HX.out
          refine ⟨i + 1, q2, by go_num, fun t ht => ?_, HB.out⟩
          rcases Nat.lt_or_ge t i with h1 | h1
          · exact q3 t h1
          · obtain rfl : t = i := by omega
            rw [q1]; exact HBB.out
        case measure => have := HX.out.2.1; simp [intOf]; omega
    · obtain rfl : i = n := by omega
      have hc : ¬ (i : Int) < (i : Int) := by omega
      have HP : Hid _ := hP
      clear hP hi hlt
      go_wp2
      go_ret
      exact ⟨.inr ⟨rfl, HP.out⟩, hB⟩
theorem filt_next (S : List Wr) (q : Wr → Bool) (j : Nat) (hj : j < S.length) : (S.take (j + 1)).filter q = (S.take j).filter q ++ (if q (gw S j) then [gw S j] else []) := by
  rw [take_next S j hj, List.filter_append]
  congr 1
  rw [List.filter_cons]
  simp
theorem filt_all (S : List Wr) (q : Wr → Bool) (i : Nat) (hi : i ≤ S.length) (h : ∀ t, t < i → q (gw S t) = true) : (S.take i).filter q = S.take i := by
  induction i with
  | zero => simp
  | succ i ih => rw [filt_next S q i (by omega), ih (by omega) (fun t ht => h t (by omega)), if_pos (h i (by omega)), take_next S i (by omega)]
set_option linter.unusedSimpArgs false in
set_option maxHeartbeats 4000000 in
theorem delete26 (w : World) (B cb b n c : Nat) (x0 : Option Addr) (S : List Wr) (p : Int → Bool) (h : OwnK wrE w B (.slice x0 n c) S) (hC : Cap26 w cb b p) (hcB : cb < B) (hbB : b < B) (hBw : B ≤ w.heap.size) (hn : n ≤ 140737488355328) :
    Calls Try.prog 18 #[.slice x0 n c, dlV cb] w fun e w' => ∃ k, e = .returned (.slice x0 k c) ∧ OwnK wrE w' B (.slice x0 k c) (S.filter fun x => !p x.1) ∧ Below B w w' := by
  have hI := index26 w B cb b n c x0 S p h hC hn
  have hlen := own_len h
  have hnc : n ≤ c := (h.isK wrE_ok).cap.2
  go_enter Try.func18, Try.ntmps18
  go_wp2_with fail
  refine hI.mono ?_
  rintro e w1 ⟨hE, b1⟩
  clear hI
  have h1 := h.keep b1
  have hC1 := hC.keep b1
  have hB1 : Below B w w1 := b1.mono hBw
  clear h hC b1
  rcases hE with ⟨i, rfl, hi, hpi, hP⟩ | ⟨rfl, hP⟩
  · obtain ⟨g, hg, -⟩ := h1.form (by omega)
    subst hg
    have hgB : B ≤ g := (World.ownsRow.lt h1 g rfl).1
    have hne : ¬ (i : Int) = -1 := by omega
    have hne2 : ((i : Int) == -1) = false := by simp
    have wi := wAdd1 i (i + 1) rfl (by omega)
    have HL : Hid (S.length = n ∧ B ≤ g ∧ cb < B ∧ b < B ∧ B ≤ w1.heap.size) := ⟨hlen, hgB, hcB, hbB, by have := hB1.size; omega⟩
    have HF : Hid ((S.take (i + 1)).filter (fun x => !p x.1) = S.take i) := by
      show _ = _
      rw [filt_next S _ i (by omega), filt_all S _ i (by omega) (fun t ht => by simp [hP t ht]), if_neg (by simp [hpi]), List.append_nil]
    have h1' : OwnK wrE w1 B (.slice (some ⟨g, 0, none⟩) n c) (S.take i ++ S.drop i) := by rw [List.take_append_drop]; exact h1
    have hik : (S.take i).length = i := by rw [List.length_take]; omega
    clear h1 hP hpi hlen hgB
    go_wp2_with fail
    go_loopw [5, 6] (fun iv jv wr => ∃ (K j : Nat) (rs : List Wr), iv = .int .i64 (K : Int) ∧ jv = .int .i64 (j : Int) ∧ K < j ∧ j ≤ n ∧ rs.length = K ∧ (S.take j).filter (fun x => !p x.1) = rs ∧ OwnK wrE wr B (.slice (some ⟨g, 0, none⟩) n c) (rs ++ S.drop K) ∧ Cap26 wr cb b p ∧ Below B w wr) (fun _ jv _ => n - (intOf jv).toNat)
    case atStart => exact ⟨i, i + 1, S.take i, rfl, by go_num, by omega, by omega, hik, HF.out, h1', hC1, hB1⟩
    case round =>
      clear h1' hC1 hB1 hik
      obtain ⟨K, j, rs, rfl, rfl, hKj, hjn, hrl, hS, hO, hC, hB⟩ := hrel
      by_cases hlt : j < n
      · have hc : (j : Int) < (n : Int) := by omega
        have hc0 : (0 : Int) ≤ (j : Int) := by omega
        obtain ⟨x, hx⟩ : ∃ x, gw S j = x := ⟨_, rfl⟩
        have hr := own_rg hO j hlt
        rw [gw_rest rs S K j hrl (by omega), hx] at hr
        obtain ⟨r1, r2⟩ := hr
        have ba := below_alloc wr (.cells (wrA x) 29)
        have hD := del26 x _ cb b p (hC.keep ba)
        have hF := filt_next S (fun x => !p x.1) j (by rw [HL.out.1]; exact hlt)
        simp only [hx] at hF
        rw [hS] at hF
        have n1 := new_rg26 wr x
        have HX : Hid (K < j ∧ j < n ∧ rs.length = K ∧ (S.take (j + 1)).filter (fun x => !p x.1) = rs ++ (if (!p x.1) = true then [x] else [])) := ⟨hKj, hlt, hrl, hF⟩
        have HO : Hid (OwnK wrE wr B (.slice (some ⟨g, 0, none⟩) n c) (rs ++ S.drop K) ∧ Cap26 wr cb b p ∧ Below B w wr ∧ Below wr.heap.size wr (wr.alloc (.cells (wrA x) 29)) ∧ (rgOk (wr.alloc (.cells (wrA x) 29)) wr.heap.size 0 65 = true ∧ rg (wr.alloc (.cells (wrA x) 29)) wr.heap.size 0 65 = wrA x)) := ⟨hO, hC, hB, ba, n1⟩
        have wj := wAdd1 j (j + 1) rfl (by omega)
        obtain ⟨n3, n4⟩ := n1
        clear hx hF hS hKj hlt hjn hrl hO hC hB ba
        go_wp2_with fail
        refine hD.mono ?_
        rintro e w2 ⟨rfl, b2⟩
        clear hD r1 r2 n3 n4
        obtain ⟨q1, q2, q3, q4, q5⟩ := HO.out
        have hO2 := (q1.keep q4).keep b2
        have hC2 := (q2.keep q4).keep b2
        have hB2 : Below B w w2 := q3.trans ((q4.trans (b2.mono q4.size)).mono (by have := HL.out.2.2.2.2; have := q3.size; omega))
        have hn2 : rgOk w2 wr.heap.size 0 65 = true ∧ rg w2 wr.heap.size 0 65 = wrA x := by
          have := rg_later b2 (by rw [World.size_alloc]; omega) (b := wr.heap.size) 0 65
          rw [this.1, this.2]; exact q5
        clear HO q1 q2 q3 q4 q5 b2
        obtain ⟨bb, hbb⟩ : ∃ t, p x.1 = t := ⟨_, rfl⟩
        have HBB : Hid (p x.1 = bb) := hbb
        rw [hbb]
        clear hbb
        cases bb with
        | true =>
          have HE : Hid (OwnK wrE w2 B (.slice (some ⟨g, 0, none⟩) n c) (rs ++ S.drop K) ∧ Cap26 w2 cb b p ∧ Below B w w2 ∧ (S.take (j + 1)).filter (fun x => !p x.1) = rs) := ⟨hO2, hC2, hB2, by have := HX.out.2.2.2; rw [HBB.out] at this; simpa using this⟩
          clear hO2 hC2 hB2 hn2
          go_wp2
          go_roundw
          case rel =>
            obtain ⟨p1, p2, p3, p4⟩ := HX.out
            obtain ⟨e1, e2, e3, e4⟩ := HE.out
            exact ⟨K, j + 1, rs, rfl, by go_num, by omega, p2, p3, e4, e1, e2, e3⟩
          case measure => have := HX.out.2.1; simp [intOf]; omega
        | false =>
          obtain ⟨p1, p2, p3, p4⟩ := HX.out
          have hKn : K < n := by omega
          have hst := own_st hO2 K hKn x
          have hK0 : (0 : Int) ≤ (K : Int) := by omega
          have hK1 : (K : Int) < (n : Int) := by omega
          have wK := wAdd1 K (K + 1) rfl (by omega)
          have HE : Hid (OwnK wrE (w2.setCells g (K * 65) (wrE.enc x)) B (.slice (some ⟨g, 0, none⟩) n c) ((rs ++ [x]) ++ S.drop (K + 1)) ∧ Cap26 (w2.setCells g (K * 65) (wrE.enc x)) cb b p ∧ Below B w (w2.setCells g (K * 65) (wrE.enc x)) ∧ (S.take (j + 1)).filter (fun x => !p x.1) = rs ++ [x]) := by
            obtain ⟨l1, l2, l3, l4, l5⟩ := HL.out
            refine ⟨?_, hC2.keeps (keep_st w2 g _ _) (by omega) (by omega), hB2.trans ((keep_st w2 g (K * 65) (wrE.enc x)).below (fun q hq => by simp at hq; omega) (by have := hB2.size; omega)), by rw [HBB.out] at p4; simpa using p4⟩
            have := own_put hO2 K hKn x
            rw [put_rest rs S K x p3 (by rw [l1]; exact hKn)] at this
            exact this
          obtain ⟨n3, n4⟩ := hn2
          clear hO2 hC2 hB2 p1 p2 p3 p4
          go_wp2
          go_roundw
          case rel =>
            obtain ⟨p1, p2, p3, p4⟩ := HX.out
            obtain ⟨e1, e2, e3, e4⟩ := HE.out
            exact ⟨K + 1, j + 1, rs ++ [x], by go_num, by go_num, by omega, p2, by simp; omega, e4, e1, e2, e3⟩
          case measure => have := HX.out.2.1; simp [intOf]; omega
      · obtain rfl : j = n := by omega
        have hc : ¬ (j : Int) < (j : Int) := by omega
        rw [List.take_of_length_le (by rw [HL.out.1]; omega)] at hS
        obtain ⟨r9, hr9⟩ : ∃ r, K + r = j := ⟨j - K, by omega⟩
        obtain ⟨d9, hd9⟩ : ∃ d, K + d = c := ⟨c - K, by omega⟩
        have hcut : ∀ W, (cutW1 (.slice (some ⟨g, 0, none⟩) j c) (.int .i64 (K : Int))).run Try.prog W = .ok (.value (.slice (some ⟨g, K * 65, none⟩) r9 d9)) W := fun W => by
          have := run_cutW1 W g 0 j c K r9 d9 hr9 hd9 (by omega)
          rwa [Nat.zero_add] at this
        have hcut0 : ∀ W, (cutW0 (.slice (some ⟨g, 0, none⟩) j c) (.int .i64 (K : Int))).run Try.prog W = .ok (.value (.slice (some ⟨g, 0, none⟩) K c)) W := fun W => run_cutW0 W g 0 j c K (by omega)
        obtain ⟨vs, hcl⟩ := own_clear hO K r9 d9 hr9 (by omega)
        have HE : Hid (OwnK wrE (wr.setCells g (K * 65) vs) B (.slice (some ⟨g, 0, none⟩) K c) rs ∧ Below B w (wr.setCells g (K * 65) vs) ∧ S.filter (fun x => !p x.1) = rs) := by
          obtain ⟨l1, l2, l3, l4, l5⟩ := HL.out
          have h9 := own_past (hO.cut wrE_ok K (by omega)) vs
          rw [List.take_left' hrl] at h9
          exact ⟨h9, hB.trans ((keep_st wr g (K * 65) vs).below (fun q hq => by simp at hq; omega) (by have := hB.size; omega)), hS⟩
        clear hS hO hC hB hKj hr9 hd9 hjn hrl hlt
        go_wp2
        go_ret
        obtain ⟨e1, e2, e3⟩ := HE.out
        exact ⟨K, rfl, by rw [e3]; exact e1, e2⟩
  · have HF : Hid (S.filter (fun x => !p x.1) = S) := by
      show _ = _
      have := filt_all S (fun x => !p x.1) n (by omega) (fun t ht => by simp [hP t ht])
      rwa [List.take_of_length_le (by omega)] at this
    have HO : Hid _ := h1
    clear hP h1 hlen
    go_wp2
    go_ret
    exact ⟨n, rfl, by rw [HF.out]; exact HO.out, hB1⟩
end Go.Proofs.Ytmbkkdojjfdliaa
