
import Derived.Test.YtfnffkommcepoaaBitY
import Derived.Test.YtfnffkommcepoaaCrcS
import Derived.Test.YtfnffkommcepoaaGeoT
import Derived.Test.YtfnffkommcepoaaBit5
import Derived.Test.YtfnffkommcepoaaRnr
namespace Go.Proofs.Ytfnffkommcepoaa
open Go.RowKit Go.Shelf
attribute [local go_sem] Oper.semAt_some

/-! bits.Put -/
theorem geo_many (n : Nat) (h0 : 64 ≤ n) (h1 : n ≤ 1024) : geoF (n : Int) 2 = ((manyN n : Nat) : Int) := by
  unfold geoF manyN
  rw [if_pos (by omega), if_pos ⟨h0, h1⟩]
  simp only
  omega
def orS (s : Sc) (r : Nat) : Sc := upd s (r / 8) (s (r / 8) ||| oneAt r)
set_option linter.unusedSimpArgs false in
theorem fbit_or (s : Sc) (r t : Nat) : fbit (orS s r) t = (fbit s t || decide (t = r)) := by
  unfold fbit orS upd
  by_cases h : t / 8 = r / 8
  · simp only [h, if_true, ↓reduceIte]
    rw [UInt8.toNat_or, Nat.testBit_or, oneAt_bit r (t % 8) (by omega)]
    congr 1
    by_cases h2 : t % 8 = r % 8
    · have : t = r := by omega
      simp [h2, this]
    · have : t ≠ r := fun e => h2 (by rw [e])
      simp [h2, this]
  · have : t ≠ r := fun e => h (by rw [e])
    simp [h, this]
theorem or87 (a b : UInt8) : bits .or .u8 (a.toNat : Int) (b.toNat : Int) = ((a ||| b).toNat : Int) := by
  rw [u8_or_nat _ _ a.toNat_lt b.toNat_lt, UInt8.toNat_or]
/-- What is put in the end. -/
theorem flK_congr : ∀ (a b : List Sc), a.length = b.length → (∀ (q : Nat) s1 s2, a[q]? = some s1 → b[q]? = some s2 → kS s1 = kS s2) → flK secE a = flK secE b
  | [], [], _, _ => rfl
  | x :: a, y :: b, hl, h => by
    rw [flK, flK, flK_congr a b (by simpa using hl) (fun q s1 s2 h1 h2 => h (q + 1) s1 s2 (by simpa using h1) (by simpa using h2))]
    have e := h 0 x y rfl rfl
    rw [secE_enc, secE_enc, (secA_inj x y).2 (fun i hi => kS_at e i hi)]
theorem OwnK.swap {w : World} {B : Nat} {v : Value} {a b : List Sc} (h : OwnK secE w B v a) (hl : a.length = b.length) (he : flK secE a = flK secE b) : OwnK secE w B v b := by
  unfold OwnK at h ⊢
  rw [← hl, ← he]; exact h
theorem put_last (b : List Bool) (L L' : List Sc) (hl : L.length = manyN b.length) (hl' : L'.length = manyN b.length)
    (h : ∀ (q t : Nat) s, L[q]? = some s → t < 480 → (fbit s t = true ↔ ∃ z ∈ hitL (bAt b) b.length b.length, z.1 = q * 480 + t)) (h' : ∀ (q : Nat) s, L[q]? = some s → L'[q]? = some (sealS s)) :
    flK secE L' = flK secE (putL b) := by
  apply flK_congr
  · rw [hl', putL_len]
  intro q s1 s2 h1 h2
  have hq : q < manyN b.length := by rw [← hl']; exact (List.getElem?_eq_some_iff.1 h1).1
  obtain ⟨s, hs⟩ : ∃ s, L[q]? = some s := ⟨_, List.getElem?_eq_getElem (by omega)⟩
  have e1 := h' q s hs
  rw [h1] at e1
  cases e1
  rw [putL_get b q hq] at h2
  cases h2
  apply sealS_congr
  apply low_of_bits
  intro t ht
  rw [fbit_raw b q t ht, Bool.eq_iff_iff, h q t s hs ht]
  constructor
  · rintro ⟨z, _, hz⟩
    rw [← hz]; exact z.2.2
  · intro hb
    have hlt : q * 480 + t < b.length := by
      apply Nat.lt_of_not_le
      intro hge
      unfold bAt at hb
      rw [List.getElem?_eq_none (by omega)] at hb
      cases hb
    exact ⟨⟨q * 480 + t, hlt, hb⟩, hitL_mem _ _ _ _ hlt, rfl⟩
/-- The bits, one more set. -/
theorem put_step {α : Type} (val : α → Nat) (L : List Sc) (pre : List α) (z : α) (q r : Nat) (s : Sc) (hs : L[q]? = some s) (hr : r < 480) (hz : val z = q * 480 + r)
    (h : ∀ (q t : Nat) s, L[q]? = some s → t < 480 → (fbit s t = true ↔ ∃ z ∈ pre, val z = q * 480 + t)) :
    ∀ (q' t : Nat) s', (L.set q (orS s r))[q']? = some s' → t < 480 → (fbit s' t = true ↔ ∃ y ∈ pre ++ [z], val y = q' * 480 + t) := by
  intro q' t s' hs' ht
  have hlt := (List.getElem?_eq_some_iff.1 hs).1
  rw [set_get _ _ _ _ hlt] at hs'
  by_cases hq : q' = q
  · rw [if_pos hq] at hs'
    cases hs'
    rw [fbit_or, Bool.or_eq_true, h q t s hs ht, decide_eq_true_iff, hq]
    constructor
    · rintro (⟨y, h1, h2⟩ | rfl)
      · exact ⟨y, by simp [h1], h2⟩
      · exact ⟨z, by simp, hz⟩
    · rintro ⟨y, h1, h2⟩
      rcases List.mem_append.1 h1 with h3 | h3
      · exact .inl ⟨y, h3, h2⟩
      · simp at h3
        subst h3
        exact .inr (by omega)
  · rw [if_neg hq] at hs'
    rw [h q' t s' hs' ht]
    constructor
    · rintro ⟨y, h1, h2⟩
      exact ⟨y, by simp [h1], h2⟩
    · rintro ⟨y, h1, h2⟩
      rcases List.mem_append.1 h1 with h3 | h3
      · exact ⟨y, h3, h2⟩
      · simp at h3
        subst h3
        exfalso
        omega
set_option maxRecDepth 100000 in
set_option maxHeartbeats 400000 in
theorem put_no (b : List Bool) (x : Option Addr) (n c : Nat) (w : World) (hn : b.length = n) (hl : n ≤ 140737488355328) (hno : ¬ (64 ≤ n ∧ n ≤ 1024)) :
    Calls Try.prog 7 #[.slice x n c] w fun e w' => ∃ y c', e = .returned (.slice y (manyN n) c') ∧ OwnK secE w' w.heap.size (.slice y (manyN n) c') (putL b) ∧ Below w.heap.size w w' := by
  have hm : manyN n = 0 := by unfold manyN; rw [if_neg hno]
  have hp : putL b = [] := by unfold putL; rw [hn, hm]; rfl
  rw [hm, hp]
  clear hm hp
  go_enter Try.func7, Try.ntmps7
  go_wp2_with (go_at_call 16; refine (of_no (n : Int) _ (by omega) (by omega) (by omega)).mono ?_; rintro e w1 ⟨rfl, hb⟩)
  go_ret
  exact ⟨_, _, rfl, OwnK.nil _ _ _, hb.alloc hb.size _⟩
set_option maxRecDepth 100000 in
set_option maxHeartbeats 2000000 in
theorem put_yes (b : List Bool) (x : Option Addr) (n c : Nat) (w : World) (hn : b.length = n) (h0 : 64 ≤ n) (h1 : n ≤ 1024) (hb : IsG w (.slice x n c) (bV b)) :
    Calls Try.prog 7 #[.slice x n c] w fun e w' => ∃ y c', e = .returned (.slice y (manyN n) c') ∧ OwnK secE w' w.heap.size (.slice y (manyN n) c') (putL b) ∧ Below w.heap.size w w' := by
  have hg2 := geo_many n h0 h1
  have hM3 := manyN_le n
  have hO := fun w => of_yes (n : Int) w (by omega) (by omega)
  generalize hM : manyN n = M at hg2 hM3 ⊢
  generalize hF : geoF (n : Int) = f at hO hg2
  clear hF
  have hMk : (M : Int) ≤ 1000 := by omega
  have hMz : (0 : Int) ≤ (M : Int) := by omega
  refine calls_marks Try.func7 rfl ?_
  simp only [Try.ntmps7, List.size_toArray, List.length_cons, List.length_nil, Nat.reduceAdd, Nat.reduceSub, Array.replicate_succ, Array.replicate_zero, List.push_toArray, List.append_toArray, List.nil_append, List.cons_append]
  go_upto_region 5 with (go_at_call 16; refine (hO _).mono ?_; rintro e w1 ⟨rfl, hb1⟩)
  have hgw := hb1.size
  have hB2 : Below w.heap.size w (((w1.alloc (.cells (gA f) 43)).alloc (.cells (rowZ M) 29)).alloc (.cells #[.slice (some ⟨w1.heap.size + 1, 0, none⟩) M M] 24)) := ((hb1.alloc hgw _).alloc (by simp; omega) _).alloc (by simp; omega) _
  have hG2 := hb.kept hB2
  have hK2 : OwnK secE (((w1.alloc (.cells (gA f) 43)).alloc (.cells (rowZ M) 29)).alloc (.cells #[.slice (some ⟨w1.heap.size + 1, 0, none⟩) M M] 24)) w.heap.size (.slice (some ⟨w1.heap.size + 1, 0, none⟩) M M) (List.replicate M secZ) := by
    have := ((ownS_new (w1.alloc (.cells (gA f) 43)) M (by unfold maxLen; omega)).keep (below_alloc _ (.cells #[.slice (some ⟨w1.heap.size + 1, 0, none⟩) M M] 24))).le (B' := w.heap.size) (by simp; omega)
    rwa [World.size_alloc] at this
  have hX2 : Boxed (((w1.alloc (.cells (gA f) 43)).alloc (.cells (rowZ M) 29)).alloc (.cells #[.slice (some ⟨w1.heap.size + 1, 0, none⟩) M M] 24)) (w1.heap.size + 1 + 1) 24 (.slice (some ⟨w1.heap.size + 1, 0, none⟩) M M) := by
    have := Boxed.new ((w1.alloc (.cells (gA f) 43)).alloc (.cells (rowZ M) 29)) 24 (.slice (some ⟨w1.heap.size + 1, 0, none⟩) M M)
    rwa [World.size_alloc, World.size_alloc] at this
  generalize ((w1.alloc (.cells (gA f) 43)).alloc (.cells (rowZ M) 29)).alloc (.cells #[.slice (some ⟨w1.heap.size + 1, 0, none⟩) M M] 24) = w2 at hB2 hG2 hK2 hX2 ⊢
  have hgw' : w.heap.size ≤ w1.heap.size + 1 := by omega
  generalize w1.heap.size + 1 = g at hgw' hK2 hX2 ⊢
  clear hgw hb1 hO hg2
  go_wp2_with (go_at_call 17; refine (taken_it _ _ _ _).mono ?_; rintro e w3 ⟨rfl, rfl⟩)
  have hB3 := hB2.trans ((below_alloc w2 (.cells #[.slice x n c] 22)).mono hB2.size)
  subst hn
  refine wp_range (fun W => IsG W (.slice x b.length c) (bV b)) (stands_isG _ _) (gf := 27) (lb := #[.pointer (some ⟨w2.heap.size, 0, none⟩)]) rfl (enters_of Try.func27 (by kernel_rfl) rfl)
    (taken_stops _ _ b x c h1 (by simp) (Boxed.new w2 22 (.slice x b.length c)).cell (hG2.kept (below_alloc _ _))) (fun _ => rfl) w.heap.size w (Nat.le_refl _)
    (fun pre W => ∃ L : List Sc, (L.length = M ∧ ∀ (q t : Nat) s, L[q]? = some s → t < 480 → (fbit s t = true ↔ ∃ z ∈ pre, z.1 = q * 480 + t)) ∧ OwnK secE W w.heap.size (.slice (some ⟨g, 0, none⟩) M M) L ∧ Boxed W (g + 1) 24 (.slice (some ⟨g, 0, none⟩) M M))
    (fun _ _ _ => False)
    (fun _ => Stands.ex fun _ => (Stands.pure _).and ((stands_ownK _ _ _ _).and (stands_box _ _ _))) (fun _ _ => Stands.pure _) ⟨List.replicate M secZ, ⟨by simp, fun q t s hs _ => ?z0⟩, hK2.keep (below_alloc _ _), hX2.alloc _⟩ hB3 ?fr ?assign ?body ?done ?stop
  case assign =>
    intro l z W K hK
    gi_wp2
    exact hK
  case z0 =>
    rw [List.getElem?_replicate] at hs
    split at hs
    · cases hs; simp [fbit_z]
    · cases hs
  case stop =>
    rintro D c pre W _ _ h _
    exact h.elim
  case body =>
    rintro l pre z W ⟨L, ⟨hlen, hbits⟩, hK, hX⟩ hB
    have hz := z.2.1
    obtain ⟨i, hi⟩ := z
    dsimp only at hz ⊢
    obtain ⟨q, hqd⟩ : ∃ q, i / 480 = q := ⟨_, rfl⟩
    obtain ⟨r, hrd⟩ : ∃ r, i % 480 = r := ⟨_, rfl⟩
    have hq : q < M := by
      rw [← hM, ← hqd]
      exact manyN_mul (manyN_pos.2 ⟨h0, h1⟩) _ hz
    have eq' : (i : Int) / 480 = (q : Int) := by omega
    have er' : (i : Int) % 480 = (r : Int) := by omega
    have hr : r < 480 := by omega
    have hid : i = q * 480 + r := by omega
    obtain ⟨s, hs⟩ : ∃ s, L[q]? = some s := ⟨_, List.getElem?_eq_getElem (by omega)⟩
    have hca := hK.cellAt q s hs (r / 8) (by omega)
    have hxc := hX.cell
    have hstep := put_step (fun z : Hit (bAt b) b.length => z.1) L pre ⟨i, hi⟩ q r s hs hr hid hbits
    have HL : Hid _ := hstep
    have HK : Hid (OwnK secE W w.heap.size (.slice (some ⟨g, 0, none⟩) M M) L) := hK
    have HX : Hid (Boxed W (g + 1) 24 (.slice (some ⟨g, 0, none⟩) M M)) := hX
    have HB : Hid (Below w.heap.size w W) := hB
    obtain ⟨A, hA⟩ : ∃ A, s (r / 8) = A := ⟨_, rfl⟩
    obtain ⟨B, hBd⟩ : ∃ B, A ||| oneAt r = B := ⟨_, rfl⟩
    have HS : Hid (orS s r = upd s (r / 8) B) := by show _ = _; unfold orS; rw [hA, hBd]
    rw [hA] at hca
    have F0 : Hid (IntKind.i64.wrap ((i : Int) / 480) = (q : Int)) := by show _ = _; rw [IntKind.wrap_i64]; omega
    have F1 : Hid (IntKind.i64.wrap ((r : Int) / 8) = (r : Int) / 8) := by show _ = _; rw [IntKind.wrap_i64]; omega
    have F2 : Hid ((r : Int).tmod 8 = (r : Int) % 8) := by show _ = _; rw [Int.tmod_eq_emod_of_nonneg (by omega)]
    have F3 : Hid (IntKind.u8.wrap (2 ^ ((r : Int) % 8).toNat) = ((oneAt r).toNat : Int)) := by
      show _ = _
      have h8 := (oneAt r).toNat_lt
      rw [show ((r : Int) % 8).toNat = r % 8 by omega, show (2 : Int) ^ (r % 8) = ((2 ^ (r % 8) : Nat) : Int) by simp, ← oneAt_nat r, IntKind.wrap_u8]; omega
    have F4 : Hid (bits .or .u8 (A.toNat : Int) ((oneAt r).toNat : Int) = (B.toNat : Int)) := by show _ = _; rw [or87, hBd]
    have F5 : Hid ((0 : Int) ≤ (r : Int) / 8 ∧ (r : Int) / 8 < 64 ∧ ((r : Int) / 8).toNat = r / 8) := by show _ ∧ _; omega
    have FK : Hid ((q : Int) < (M : Int)) := by show _ < _; omega
    have Hb0 : Hid (IsG w (.slice x b.length c) (bV b)) := hb
    clear hbits hK hX hK2 hX2 hG2 hb hstep hqd hrd hA hBd hid eq' hB
    gi_wp2
    rw [er']
    clear er'
    refine wpR_reliesT (fun ⟨_, _, h⟩ => h) (by kernel_rfl) [Fx (.slice (some ⟨g, 0, none⟩) M M), Fx (.int .i64 ((i : Int))), Fx (.int .i64 ((q : Int))), Fx (.int .i64 ((r : Int))), Fx (.int .i64 ((r : Int) / 8)), Fx (.pointer (some ⟨g, q * 64, none⟩)), Fx (.pointer (some ⟨g, q * 64 + r / 8, none⟩)), Fx (.int .u8 (A.toNat : Int)), Fx (.int .i64 ((r : Int))), Fx (.int .i64 ((r : Int) % 8)), Fx (.int .u8 ((oneAt r).toNat : Int)), Fx (.int .u8 (B.toNat : Int)), Fx (.pointer (some ⟨g, q * 64, none⟩)), Fx (.pointer (some ⟨g, q * 64 + r / 8, none⟩))] (by kernel_rfl) (by kernel_rfl) ?_ ?_ ?_
    · repeat' (first | exact all_nil | apply all_cons)
      all_goals intro v y y' hv hb
      all_goals first | exact Fx_mono _ _ _ _ hv hb
    · refine ⟨?_, ?_, ?_, ?_, ?_, ?_, ?_, ?_, ?_, ?_, ?_, ?_, ?_, ?_, trivial⟩
      all_goals
        intro ρ x hp ρc ρg ρf ho hd
        have o5 : ρ (.tmp 5) = .pointer (some ⟨g + 1, 0, none⟩) := ho 5 rfl
        have o6 : ρ (.tmp 6) = .int .i64 ((i : Int)) := ho 6 rfl
        have o7 : ρ (.tmp 7) = .int .i64 ((r : Int)) := ho 7 rfl
        clear ho
        have c1 := cell_later hp hca
        have c2 := cell_later hp hxc
        simp only [depsR, depR, slotR, Fx, List.getElem?_cons_succ, List.getElem?_cons_zero, Region.binds, forall_const] at hd
        simp only [guardR]
        go_split_ands
      · go_simp
      · go_simp
      · have hq := F0.out
        go_simp
      · go_simp
      · have hq := F1.out
        go_simp
      · have hq := FK.out
        go_simp
      · obtain ⟨q1, q2, q3⟩ := F5.out
        go_simp
      · go_simp
      · go_simp
      · have hq := F2.out
        go_simp
      · have hq := F3.out
        go_simp
      · have hq := F4.out
        go_simp
      · have hq := FK.out
        go_simp
      · obtain ⟨q1, q2, q3⟩ := F5.out
        go_simp
    · intro vs x1 hp hw
      simp only [owed, Fx] at hw
      obtain ⟨e0, e1, e2, e3, e4, e5, e6, e7, e8, e9, e10, e11, e12, e13, -⟩ := hw
      simp only [List.length_cons, List.length_nil, List.take_succ_cons, List.take_zero, List.drop_succ_cons, List.drop_zero, asg, List.cons_append, List.nil_append, e0, e1, e2, e3, e4, e5, e6, e7, e8, e9, e10, e11, e12, e13]
      clear e0 e1 e2 e3 e4 e5 e6 e7 e8 e9 e10 e11 e12 e13
      have hK1 := OwnK.keep HK.out hp
      have hB1 := HB.out.trans (hp.mono (Below.size HB.out))
      have hc1 := cell_later hp hca
      have hf1 := hK1.cellOf q (r / 8)
      have hK2 := hK1.byte q (r / 8) s B hs (by omega)
      rw [← HS.out] at hK2
      have HK2 : Hid _ := hK2
      have HB2 : Hid _ := hB1.setCell (p := ⟨g, q * 64 + r / 8, none⟩) hgw' (.int .u8 (B.toNat : Int))
      have HX2 : Hid _ := ((box_later HX.out hp).kept (grown_c1 x1 g (q * 64 + r / 8) (.int .u8 (B.toNat : Int))) (by simp))
      have HI : Hid _ := Hb0.out.kept HB2.out
      clear hK1 hB1 hK2 HK HB HX HS F0 F1 F2 F3 F4 F5 FK
      go_wp2
      exact ⟨(keeps_below hp).trans (KeepsOthers.setCell _ _ _), fun _ => HI.out, ⟨L.set q (orS s r), ⟨by rw [List.length_set]; exact hlen, HL.out⟩, HK2.out, HX2.out⟩, HB2.out⟩
  case done =>
    rintro D ys W hD hys ⟨L, ⟨hlen, hbits⟩, hK, hX⟩ hB - hDk
    have hys' : ys = hitL (bAt b) b.length b.length := hys
    rw [hys'] at hbits
    rw [World.size_alloc] at hD
    have HD : Hid (w.heap.size ≤ D) := by have := hB2.size; show _ ≤ _; omega
    have HL : Hid _ := hbits
    have HM : Hid (manyN b.length = M) := hM
    clear hys hys' hbits hK2 hX2 hG2 hB2 hB3 hD h0 h1 hb hM
    have hxc := hX.cell
    have HX : Hid _ := hX
    have HK : Hid _ := hK
    clear hX hK
    go_wp2
    go_loopw [42] (fun kv wr => ∃ (k : Nat) (L' : List Sc), k ≤ M ∧ kv = .int .i64 k ∧ L'.length = M ∧ (∀ (q : Nat) s, q < k → L[q]? = some s → L'[q]? = some (sealS s)) ∧ (∀ q : Nat, k ≤ q → L'[q]? = L[q]?) ∧ OwnK secE wr w.heap.size (.slice (some ⟨g, 0, none⟩) M M) L' ∧ Boxed wr (g + 1) 24 (.slice (some ⟨g, 0, none⟩) M M) ∧ Below w.heap.size w wr ∧ wr.heap[D]? = some (.deferred (some []))) (fun kv _ => M - (intOf kv).toNat)
    case atStart => exact ⟨0, L, by omega, rfl, hlen, fun q s hq => by omega, fun _ _ => rfl, HK.out, HX.out, hB, hDk⟩
    case round =>
      clear hB hDk HX HK hxc
      obtain ⟨k, L', hk, rfl, hl', hd1, hd2, hK, hX, hB, hDk⟩ := hrel
      have hxc := hX.cell
      by_cases hlt : k < M
      · have hlt' : (k : Int) < (M : Int) := by omega
        obtain ⟨s, hs⟩ : ∃ s, L[k]? = some s := ⟨_, List.getElem?_eq_getElem (by omega)⟩
        have hs' : L'[k]? = some s := by rw [hd2 k (Nat.le_refl _)]; exact hs
        have hr := hK.range secE_ok k s hs'
        obtain ⟨ok2, rg2⟩ := rg_of hr (secE_ok.len _)
        rw [secE_arr] at rg2
        rw [secE_k] at ok2 rg2
        clear hr
        go_upto_region 12 with fail
        have hA := below_alloc wr (.cells (secA s) 29)
        have hS := ScR.new wr s 29
        have hK1 := hK.keep hA
        have hX1 := hX.alloc (.cells (secA s) 29)
        have hB1 := hB.trans (hA.mono hB.size)
        have hD1 := (hA.block D (Array.getElem?_eq_some_iff.1 hDk).1).trans hDk
        generalize wr.alloc (.cells (secA s) 29) = x0 at hS hK1 hX1 hB1 hD1 ⊢
        generalize wr.heap.size = gs at hS ⊢
        clear hA hK hX hB hDk hxc ok2 rg2
        have HK : Hid _ := hK1
        have HX : Hid _ := hX1
        have HB : Hid _ := hB1
        have HDk : Hid _ := hD1
        have FK : Hid ((k : Int) < (M : Int)) := hlt'
        have hxc := hX1.cell
        clear hK1 hX1 hB1 hD1 hlt'
        refine wp_reliesT [Fx (.slice (some ⟨g, 0, none⟩) M M), Fx (.int .i64 ((k : Int))), Fx (.agg (secA s)), Fx (.agg (secA (sealS s))), Fx (.pointer (some ⟨g, k * 64, none⟩))] (by kernel_rfl) (by kernel_rfl) ?_ ?_ ?_
        · repeat' (first | exact all_nil | apply all_cons)
          all_goals intro v y y' hv hb
          all_goals first | exact Fx_mono _ _ _ _ hv hb
        · refine ⟨?_, ?_, ?_, ?_, ?_, trivial⟩
          all_goals
            intro ρ x hp ρc ρg ρf ho hd
            have o5 : ρ (.tmp 5) = .pointer (some ⟨g + 1, 0, none⟩) := ho 5 rfl
            have o8 : ρ (.tmp 8) = .int .i64 ((k : Int)) := ho 8 rfl
            have o9 : ρ (.tmp 9) = .pointer (some ⟨gs, 0, none⟩) := ho 9 rfl
            clear ho
            obtain ⟨r1, r2⟩ := hS.kept hp
            have c2 := cell_later hp hxc
            simp only [depsR, depR, slotR, Fx, List.getElem?_cons_succ, List.getElem?_cons_zero, Region.binds, forall_const] at hd
            simp only [guardR]
            go_split_ands
          · go_simp
          · go_simp
          · go_simp
          · go_simp
            refine (seal_any s _).mono ?_
            rintro e x' ⟨rfl, hb⟩
            exact ⟨_, rfl, rfl, hb⟩
          · have hq := FK.out
            go_simp
        · intro vs x1 hp hw
          simp only [owed, Fx] at hw
          obtain ⟨e0, e1, e2, e3, e4, -⟩ := hw
          simp only [List.length_cons, List.length_nil, List.take_succ_cons, List.take_zero, List.drop_succ_cons, List.drop_zero, asg, List.cons_append, List.nil_append, e0, e1, e2, e3, e4]
          clear e0 e1 e2 e3 e4
          have hK1 := OwnK.keep HK.out hp
          have hst := hK1.store secE_ok k (sealS s) hlt
          have hK6 := hK1.put secE_ok k (sealS s) hlt
          rw [secE_k] at hst hK6
          rw [secE_arr] at hst
          have hst2 : (secStore (.pointer (some ⟨g, k * 64, none⟩)) (.agg (secA (sealS s)))).run Try.prog x1 = .ok .skip (x1.setCells g (k * 64) (secE.enc (sealS s))) := by
            have h9 : (Instr.storeAt 29 (.pointer (some ⟨g, k * 64, none⟩)) (.agg (secA (sealS s)))).run Try.prog x1 = .ok () (x1.setCells g (k * 64) (secE.enc (sealS s))) := hst
            simp only [secStore, Sem.run_bind, h9, Result.andThen_ok]
            rfl
          have hB6 := HB.out.trans (hp.mono (Below.size HB.out))
          have hgr := grown_setC x1 g (k * 64) (secE.enc (sealS s))
          have HB6 : Hid (Below w.heap.size w (x1.setCells g (k * 64) (secE.enc (sealS s)))) := hB6.trans (hK1.below hgr hB6.size)
          have HX6 : Hid (Boxed (x1.setCells g (k * 64) (secE.enc (sealS s))) (g + 1) 24 (.slice (some ⟨g, 0, none⟩) M M)) := (box_later HX.out hp).kept hgr (by simp)
          have hD6 := (hp.block D (Array.getElem?_eq_some_iff.1 HDk.out).1).trans HDk.out
          have HD6 : Hid ((x1.setCells g (k * 64) (secE.enc (sealS s))).heap[D]? = some (.deferred (some []))) := (hgr.block D (Array.getElem?_eq_some_iff.1 hD6).1 (fun e => by
            obtain ⟨cur, h1, h2, h3, h4⟩ := hK1.heap
            cases e
            rw [h3] at hD6; cases hD6)).trans hD6
          have HK6 : Hid _ := hK6
          have hcl : k < L'.length := by omega
          have HR1 : Hid (∀ (q : Nat) s2, q < k + 1 → L[q]? = some s2 → (L'.set k (sealS s))[q]? = some (sealS s2)) := fun q s2 hq h2 => by
            rw [set_get _ _ _ _ hcl]
            by_cases e : q = k
            · subst e; rw [if_pos rfl]; rw [hs] at h2; cases h2; rfl
            · rw [if_neg e]; exact hd1 q s2 (by omega) h2
          have HR2 : Hid (∀ q : Nat, k + 1 ≤ q → (L'.set k (sealS s))[q]? = L[q]?) := fun q hq => by
            rw [set_get _ _ _ _ hcl, if_neg (by omega)]; exact hd2 q (by omega)
          clear hst hK1 hK6 hB6 hgr hD6 HK HX HB HDk hd1 hd2 hS
          generalize x1.setCells g (k * 64) (secE.enc (sealS s)) = X6 at hst2 HK6 HB6 HX6 HD6
          go_wp2
          go_roundw
          case rel => exact ⟨k + 1, _, by omega, by go_num, by rw [List.length_set]; exact hl', HR1.out, HR2.out, HK6.out, HX6.out, HB6.out, HD6.out⟩
          case measure => simp [intOf]; omega
      · obtain rfl : k = M := by omega
        have hfin := put_last b L L' (by rw [HM.out]; exact hlen) (by rw [HM.out]; exact hl') HL.out (fun q s hs => hd1 q s (by have := (List.getElem?_eq_some_iff.1 hs).1; omega) hs)
        have hKf := hK.swap (by rw [hl', putL_len, HM.out]) hfin
        have HK : Hid _ := hKf
        have HB : Hid _ := hB
        have HDk : Hid _ := hDk
        clear hK hKf hB hDk hd1 hd2 hfin
        go_wp2
        have hdd : ∀ D' ∈ [D], wr.heap[D']? = some (.deferred (some [])) := fun D' h => by simp at h; subst h; exact HDk.out
        refine leave_marks [D] _ (by simp) hdd ⟨_, results_tmp (t := 2) rfl _ _ _, _, _, rfl, ?_, ?_⟩
        · exact shut_stands (stands_ownK _ _ _ _) [D] _ (by simp) hdd HK.out
        · exact shut_below [D] _ (by simp) hdd (fun D' h => by simp at h; subst h; exact HD.out) HB.out
theorem putOk : PutOk := fun b x n c w hn _ _ hl hb => by
  by_cases h : 64 ≤ n ∧ n ≤ 1024
  · exact put_yes b x n c w hn h.1 h.2 hb
  · exact put_no b x n c w hn hl h
end Go.Proofs.Ytfnffkommcepoaa
