import Derived.Test.YtklbdhpnbjhgkaaGreatDoorQFin3
namespace Go.Proofs.YtklbdhpnbjhgkaaGreatDoor
open Go.RowKit Go.Sort

/-! The reader: the first four bytes; the end -/
def rdH9 (b : List UInt8) : Except (Nat × Nat) (Int × Nat) := match rdH b with
  | .error p => .error p
  | .ok s => .ok (s, 4)
theorem IsB.front9 {w : World} {x : Option Addr} {n c : Nat} {l : List UInt8} (h : IsB w (.slice x n c) l) (m : Nat) (hm : m ≤ l.length) : IsB w (.slice x m c) (l.take m) := by
  rcases h with ⟨h1, h2⟩ | ⟨a, d, he, hc⟩
  · simp only [Value.slice.injEq] at h1
    obtain ⟨rfl, rfl, rfl⟩ := h1
    subst h2
    simp at hm
    subst hm
    exact .inl ⟨rfl, rfl⟩
  · simp only [Value.slice.injEq] at he
    obtain ⟨rfl, rfl, rfl⟩ := he
    refine .inr ⟨a, _, by rw [List.length_take, Nat.min_eq_left hm], fun i hi => ?_⟩
    have hi' : i < m := by rw [List.length_take] at hi; omega
    rw [hc i (by omega)]
    simp
set_option linter.unusedSimpArgs false in
set_option maxRecDepth 100000 in
set_option maxHeartbeats 1600000 in
theorem status22 (w : World) (g : Nat) (x : Option Addr) (n c : Nat) (b : List UInt8) (h : RdI w g x n c b 0) :
    Calls Tryz.prog 42 #[.pointer (some ⟨g, 0, none⟩)] w fun e w' => RdQ (fun v : Int => .int .i64 v) (.int .i64 0) w g x n c b (rdH9 b) e w' := by
  have ht := take22 w g x n c b 0 4 (by omega) h
  have hL := h.len
  by_cases hlt : n < 0 + 4
  · have hr : rdH9 b = .error (0, 10) := by unfold rdH9 rdH; rw [if_pos (by omega)]
    rw [hr]
    clear hr h
    go_enter Tryz.func42, Tryz.ntmps42
    go_wp2_with fail
    refine ht.mono ?_
    rintro e w1 ⟨-, h2⟩
    obtain ⟨q, rfl, hq, hR, hK⟩ := h2 hlt
    clear hlt ht hL
    go_wp2
    go_ret2
    exact ⟨hK, q, rfl, hq, hR⟩
  · have hr : rdH9 b = if b.take 3 = headB then (bif okSt ((lB b 3).toNat : Int) then .ok (((lB b 3).toNat : Int), 4) else .error (3, 1)) else .error (0, 11) := by
      unfold rdH9 rdH
      rw [if_neg (by omega)]
      by_cases h3 : b.take 3 = headB
      · rw [if_pos h3, if_pos h3]
        cases okSt ((lB b 3).toNat : Int) <;> rfl
      · rw [if_neg h3, if_neg h3]
    have e3 : ((b.drop 0).take 4).take 3 = b.take 3 := by simp [List.take_take]
    have l4 : ((b.drop 0).take 4).length = 4 := by simp; omega
    have e4 : lB ((b.drop 0).take 4) 3 = lB b 3 := by unfold lB; simp
    obtain ⟨RES, hres⟩ : ∃ r, rdH9 b = r := ⟨_, rfl⟩
    rw [hres]
    have HRES : Hid _ := hr.symm.trans hres
    clear hr hres h hL
    go_enter Tryz.func42, Tryz.ntmps42
    go_wp2_with fail
    refine ht.mono ?_
    rintro e w1 ⟨h2, -⟩
    obtain ⟨y, d, hd, rfl, hyb, hR, hK⟩ := h2 (by omega)
    have hf := hyb.front9 3 (by omega)
    rw [e3] at hf
    have hs := hf.str
    have hyb9 : IsB w1 (.slice y ((b.drop 0).take 4).length d) ((b.drop 0).take 4) := by rw [l4]; exact hyb
    obtain ⟨gb, o, rfl, hgb, c3⟩ := hyb9.spot 3 (by rw [l4]; omega)
    clear hyb9
    have e5 : (((b.drop 0).take 4)[3]?.getD 0) = lB b 3 := e4
    rw [e5] at c3
    have hst := isStatus22 ((lB b 3).toNat : Int)
    obtain ⟨z, hz⟩ : ∃ z, (lB b 3).toNat = z := ⟨_, rfl⟩
    have hz9 : z < 256 := by rw [← hz]; exact (lB b 3).toNat_lt
    rw [hz] at c3 hst
    have HZ : Hid ((lB b 3).toNat = z) := hz
    obtain ⟨t3, ht3⟩ : ∃ t, b.take 3 = t := ⟨_, rfl⟩
    rw [ht3] at hs
    have HT : Hid (b.take 3 = t3) := ht3
    clear hz ht3 e3 l4 e4 e5 hyb hf ht h2 hlt
    by_cases h3 : t3 = headB
    · have HR3 : Hid ((bif okSt (z : Int) then .ok ((z : Int), 4) else .error (3, 1)) = RES) := by
        have := HRES.out
        rw [HT.out, if_pos h3, HZ.out] at this
        exact this
      rw [h3] at hs
      clear HRES HT HZ h3
      have hzw : (z : Int) % 256 = z := by omega
      cases hok : okSt (z : Int)
      · rw [hok] at hst
        have bb := below_alloc w1 (.cells (ftA 3 1) 72)
        have K4 : Hid (Keep [g] w (w1.alloc (.cells (ftA 3 1) 72))) := hK.trans (Keep.of_below bb)
        have hq : Hid (w.heap.size ≤ w1.heap.size) := hK.size
        have hN : Hid (RowC (w1.alloc (.cells (ftA 3 1) 72)) w1.heap.size (ftA 3 1)) := RowC.new _ _ _
        clear bb hK hR
        unfold headB at hs
        go_wp2_with fail
        refine (hst w1).mono ?_
        rintro e w2 ⟨rfl, rfl⟩
        go_wp2
        go_ret2
        rw [← HR3.out, hok]
        exact ⟨K4.out, _, rfl, hq.out, hN.out⟩
      · rw [hok] at hst
        unfold headB at hs
        go_wp2_with fail
        refine (hst w1).mono ?_
        rintro e w2 ⟨rfl, rfl⟩
        go_wp2
        go_ret2
        rw [← HR3.out, hok]
        exact ⟨hK, rfl, hR⟩
    · have HR3 : Hid (.error (0, 11) = RES) := by
        have := HRES.out
        rw [HT.out, if_neg h3] at this
        exact this
      have bb := below_alloc w1 (.cells (ftA 0 11) 72)
      have K4 : Hid (Keep [g] w (w1.alloc (.cells (ftA 0 11) 72))) := hK.trans (Keep.of_below bb)
      have hq : Hid (w.heap.size ≤ w1.heap.size) := hK.size
      have hN : Hid (RowC (w1.alloc (.cells (ftA 0 11) 72)) w1.heap.size (ftA 0 11)) := RowC.new _ _ _
      have h3' : (t3 == [65, 82, 1]) = false := beq_eq_false_iff_ne.2 h3
      clear bb hK hR HRES HT HZ h3 hst
      go_wp2
      go_ret2
      rw [← HR3.out]
      exact ⟨K4.out, _, rfl, hq.out, hN.out⟩
theorem take4_at (b : List UInt8) (i s : Nat) (hi : i + 4 ≤ b.length) (hs : s < 4294967296) : ((b.drop i).take 4 = le4 s) ↔ numN (lB b) i 4 = s := by
  have h0 : (b.drop i).take 4 = le4 s ↔ At b i (le4 s) := by
    constructor
    · intro h
      refine ⟨by rw [le4_len]; exact hi, fun k hk => ?_⟩
      rw [le4_len] at hk
      rw [← h]; unfold lB; rw [List.getElem?_take_of_lt hk, List.getElem?_drop]
    · intro h
      refine eq_of_lB (by rw [le4_len]; simp; omega) fun k hk => ?_
      have hk4 : k < 4 := by simp at hk; omega
      rw [← h.2 k (by rw [le4_len]; exact hk4)]
      unfold lB; rw [List.getElem?_take_of_lt hk4, List.getElem?_drop]
  rw [h0, le4_at hs]
  exact ⟨fun h => h.2, fun h => ⟨hi, h⟩⟩
/-- What the end leaves. -/
def EnQ (w : World) (g : Nat) (r : Option (Nat × Nat)) (e : Ending) (w' : World) : Prop := Keep [g] w w' ∧ match r with
  | none => e = .returned (.pointer none)
  | some p => ∃ q, e = .returned (.pointer (some ⟨q, 0, none⟩)) ∧ w.heap.size ≤ q ∧ RowC w' q (ftA p.1 p.2)
set_option linter.unusedSimpArgs false in
set_option maxRecDepth 100000 in
set_option maxHeartbeats 1600000 in
theorem end22 (w : World) (g : Nat) (x : Option Addr) (n c : Nat) (b : List UInt8) (i : Nat) (h : RdI w g x n c b i) :
    Calls Tryz.prog 51 #[.pointer (some ⟨g, 0, none⟩)] w fun e w' => EnQ w g (rdE b i) e w' := by
  have ht := take22 w g x n c b i 4 (by omega) h
  have hL := h.len
  have c1 : w.cell? ⟨g, 1, none⟩ = some (.int .i64 (i : Int)) := by rw [h.row.cell]; rfl
  by_cases hlt : n < i + 4
  · have hr : rdE b i = some (i, 10) := by unfold rdE; rw [if_pos (by omega)]
    rw [hr]
    clear hr h
    go_enter Tryz.func51, Tryz.ntmps51
    go_wp2_with fail
    refine ht.mono ?_
    rintro e w1 ⟨-, h2⟩
    obtain ⟨q, rfl, hq, hR, hK⟩ := h2 hlt
    clear hlt ht hL c1
    go_wp2
    go_ret
    exact ⟨hK, q, rfl, hq, hR⟩
  · have hs9 := sum_lt (b.take i)
    have h4 := take4_at b i (sumL (b.take i)).toNat (by omega) hs9
    have hr : rdE b i = if numN (lB b) i 4 = (sumL (b.take i)).toNat then (if i + 4 < b.length then some (i + 4, 14) else none) else some (i, 12) := by unfold rdE; rw [if_neg (by omega)]
    rw [hr]
    clear hr h
    go_enter Tryz.func51, Tryz.ntmps51
    go_wp2_with fail
    refine ht.mono ?_
    rintro e w1 ⟨h2, -⟩
    obtain ⟨y, d, hd, rfl, hyb, hR, hK⟩ := h2 (by omega)
    have hf := hR.isb.front9 i (by omega)
    have d0 : w1.cell? ⟨g, 0, none⟩ = some (.slice x n c) := by rw [hR.row.cell]; rfl
    have d1 : w1.cell? ⟨g, 1, none⟩ = some (.int .i64 ((i + 4 : Nat) : Int)) := by rw [hR.row.cell]; rfl
    have hcap := hR.cap
    have hsm := hR.small
    have hu := sumOf22 x i c (b.take i) w1 hf (by unfold maxLen; simp; omega)
    have hic : (i : Int) ≤ (c : Int) := by omega
    have hi0 : (0 : Int) ≤ (i : Int) := by omega
    clear ht c1 h2
    go_wp2_with fail
    refine hu.mono ?_
    rintro e w2 ⟨gs, rfl, hgs, hrow, b2⟩
    have hq := bytesEqual22 (.slice y 4 d) (.slice (some ⟨gs, 0, none⟩) 4 4) _ _ w2 (hyb.kept b2) (hrow.isB 4)
    have d0' := cell_later b2 d0
    have d1' := cell_later b2 d1
    have hK2 : Hid (Keep [g] w w2) := hK.trans (Keep.of_below b2)
    clear hu hf hyb hrow hgs d0 d1 b2 hd hR hK
    by_cases hn : numN (lB b) i 4 = (sumL (b.take i)).toNat
    · have he : decide ((b.drop i).take 4 = le4 (sumL (b.take i)).toNat) = true := decide_eq_true (h4.2 hn)
      rw [he] at hq
      clear he h4 hs9
      go_wp2_with fail
      refine hq.mono ?_
      rintro e w3 ⟨rfl, rfl⟩
      clear hq
      by_cases hlt2 : i + 4 < n
      · have HR3 : Hid (i + 4 < b.length) := by show _ < _; omega
        have q1 : ((i + 4 : Nat) : Int) < (n : Int) := by omega
        clear hL hcap hsm hic hi0 hlt hlt2
        go_upto_region 7 with fail
        go_quiet (fail)
        have b3 := below_dN w3 nq
        replace d1' := cell_later b3 d1'
        have hK3 : Keep [g] w (w3.drewN nq) := hK2.out.trans (Keep.of_below b3)
        generalize w3.drewN nq = W at b3 d1' hK3 ⊢
        have bb := below_alloc W (.cells (ftA ((i + 4 : Nat) : Int) 14) 72)
        have K4 : Hid (Keep [g] w (W.alloc (.cells (ftA ((i + 4 : Nat) : Int) 14) 72))) := hK3.trans (Keep.of_below bb)
        have hq : Hid (w.heap.size ≤ W.heap.size) := hK3.size
        have hN : Hid (RowC (W.alloc (.cells (ftA ((i + 4 : Nat) : Int) 14) 72)) W.heap.size (ftA ((i + 4 : Nat) : Int) 14)) := RowC.new _ _ _
        have HN : Hid _ := hn
        clear bb hK3 b3 hn
        go_wp2
        go_ret
        try rw [if_pos HN.out, if_pos HR3.out]
        exact ⟨K4.out, _, rfl, hq.out, hN.out⟩
      · have HR3 : Hid (¬ i + 4 < b.length) := by show ¬ _ < _; omega
        have q1 : ¬ ((i + 4 : Nat) : Int) < (n : Int) := by omega
        clear hL hcap hsm hic hi0 hlt hlt2
        go_upto_region 7 with fail
        go_quiet (fail)
        have b3 := below_dN w3 nq
        have hK3 : Hid (Keep [g] w (w3.drewN nq)) := hK2.out.trans (Keep.of_below b3)
        have HN : Hid _ := hn
        clear b3 hn
        go_wp2
        go_ret
        try rw [if_pos HN.out, if_neg HR3.out]
        exact ⟨hK3.out, rfl⟩
    · have he : decide ((b.drop i).take 4 = le4 (sumL (b.take i)).toNat) = false := decide_eq_false (fun h => hn (h4.1 h))
      rw [he] at hq
      clear he h4 hs9
      have HN : Hid _ := hn
      clear hn
      go_wp2_with fail
      refine hq.mono ?_
      rintro e w3 ⟨rfl, rfl⟩
      clear hq
      have bb := below_alloc w3 (.cells (ftA (i : Int) 12) 72)
      have K4 : Hid (Keep [g] w (w3.alloc (.cells (ftA (i : Int) 12) 72))) := hK2.out.trans (Keep.of_below bb)
      have hq : Hid (w.heap.size ≤ w3.heap.size) := hK2.out.size
      have hN : Hid (RowC (w3.alloc (.cells (ftA (i : Int) 12) 72)) w3.heap.size (ftA (i : Int) 12)) := RowC.new _ _ _
      clear bb
      go_wp2
      go_ret
      try rw [if_neg HN.out]
      exact ⟨K4.out, _, rfl, hq.out, hN.out⟩
end Go.Proofs.YtklbdhpnbjhgkaaGreatDoor
