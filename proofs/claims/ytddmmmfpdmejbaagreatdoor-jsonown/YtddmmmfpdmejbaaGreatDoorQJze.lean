import Derived.Test.YtddmmmfpdmejbaaGreatDoorQJzl
import Derived.Test.YtddmmmfpdmejbaaGreatDoorQJzd
import Derived.Test.YtddmmmfpdmejbaaGreatDoorQJop
namespace Go.Proofs.YtddmmmfpdmejbaaGreatDoor
open Go.RowKit

/-! A token alone; an object's key -/
theorem mem_lS {s : ByteArray} {kb : List ByteArray} {t : List UInt8} (h : lS s = t) : s ∈ kb ↔ t ∈ kb.map lS := by
  constructor
  · intro hs; exact List.mem_map.2 ⟨s, hs, h⟩
  · intro ht
    obtain ⟨x, hx, he⟩ := List.mem_map.1 ht
    rw [← lS_inj (he.trans h.symm)]; exact hx
theorem contains15_any (w : World) (B : Nat) (x : Option Addr) (n c : Nat) (kb : List ByteArray) (s : ByteArray) (h : OwnG 9 w B (.slice x n c) (strs kb)) :
    Calls Tryz.prog 107 #[.slice x n c, .string s] w fun e w' => e = .returned (.bool (decide (lS s ∈ kb.map lS))) ∧ w' = w := by
  have hn : n = kb.length := by have := h.num; rw [this]; simp [strs]
  subst hn
  by_cases h0 : kb = []
  · subst h0
    refine (Any.slices_Contains_string_empty layCn x c s w).mono ?_
    rintro e w' ⟨rfl, rfl⟩
    exact ⟨by simp, rfl⟩
  · obtain ⟨g, c9, he, -, -, hc9, hm9⟩ := h.form (by simpa [strs] using h0)
    simp only [Value.slice.injEq] at he
    obtain ⟨rfl, -, rfl⟩ := he
    refine (Any.slices_Contains_string layCn g 0 kb.length c kb s w (Nat.le_refl _) (by unfold maxLen at hm9; have h9 : (strs kb).length = kb.length := by { simp [strs] }; omega) (fun j hj => ?_)).mono ?_
    · have := h.cell j (.string kb[j]) (by simp [strs, hj])
      rw [Nat.zero_add, this, List.getD_eq_getElem?_getD, List.getElem?_eq_getElem hj]
      rfl
    · rintro e w' ⟨rfl, rfl⟩
      refine ⟨?_, rfl⟩
      rw [List.take_length]
      congr 2
      rw [Bool.eq_iff_iff, Lib.containsS_iff, decide_eq_true_eq]
      exact mem_lS rfl
def PtkP (t : Tk) (w : World) (e : Ending) (w' : World) : Prop := (∃ v b, e = .returned (.tuple #[v, .bool b]) ∧ (∀ d, pln1 t = some d → b = true ∧ ∀ B, VlO w' B v d [] []) ∧ (pln1 t = none → b = false ∧ v = .nilIface)) ∧ Below w.heap.size w w'
set_option linter.unusedSimpArgs false in
set_option maxRecDepth 100000 in
set_option maxHeartbeats 4000000 in
theorem plainT15_any (w : World) (t : Tk) (hn : t.kind = 10 → 0 ≤ t.n ∧ t.n ≤ 9223372036854775807) :
    Calls Tryz.prog 59 #[.agg (tkR t)] w fun e w' => PtkP t w e w' := by
  have bA := below_alloc w (.cells (tkR t) 85)
  have rA := RowC.new w (tkR t) 85
  obtain ⟨n0, hn0⟩ : ∃ q, w.heap.size = q := ⟨_, rfl⟩
  rw [hn0] at rA
  have c0 := rA.cell 0
  have c2 := rA.cell 2
  have c3 := rA.cell 3
  have HB : Hid (Below w.heap.size w (w.alloc (.cells (tkR t) 85))) := bA
  have e0 : (tkR t)[0]? = some (.int .i64 t.kind) := rfl
  have e2 : (tkR t)[2]? = some (.int .i64 t.n) := rfl
  have e3 : (tkR t)[3]? = some (.string ⟨t.text.toArray⟩) := rfl
  rw [e0] at c0; rw [e2] at c2; rw [e3] at c3
  clear e0 e2 e3 bA
  have HP : Hid (pln1 t = if t.kind = 7 then some (ndK 1 0 []) else if t.kind = 8 then some (ndK 2 1 []) else if t.kind = 9 then some (ndK 2 0 []) else if t.kind = 10 then some (ndK 3 t.n []) else if t.kind = 11 then some (ndK 4 0 t.text) else none) := rfl
  go_enter Tryz.func59, Tryz.ntmps59
  go_upto_region 1 with fail
  generalize w.alloc (.cells (tkR t) 85) = Y at *
  clear hn0
  by_cases h7 : t.kind = 7
  · have f7 : (t.kind == 7) = true := beq_iff_eq.2 h7
    have HQ : Hid (pln1 t = some (ndK 1 0 [])) := by show _ = _; rw [HP.out, if_pos h7]
    clear h7 HP hn
    go_wp2
    go_ret2
    exact ⟨⟨_, _, rfl, fun d hd => by rw [HQ.out] at hd; cases hd; exact ⟨rfl, fun B => .null⟩, fun hd => by rw [HQ.out] at hd; cases hd⟩, HB.out⟩
  have f7 : (t.kind == 7) = false := beq_eq_false_iff_ne.2 h7
  by_cases h8 : t.kind = 8
  · have f8 : (t.kind == 8) = true := beq_iff_eq.2 h8
    have HQ : Hid (pln1 t = some (ndK 2 1 [])) := by show _ = _; rw [HP.out, if_neg h7, if_pos h8]
    clear h7 h8 HP hn
    go_wp2
    go_ret2
    exact ⟨⟨_, _, rfl, fun d hd => by rw [HQ.out] at hd; cases hd; exact ⟨rfl, fun B => .bool true⟩, fun hd => by rw [HQ.out] at hd; cases hd⟩, HB.out⟩
  have f8 : (t.kind == 8) = false := beq_eq_false_iff_ne.2 h8
  by_cases h9 : t.kind = 9
  · have f9 : (t.kind == 9) = true := beq_iff_eq.2 h9
    have HQ : Hid (pln1 t = some (ndK 2 0 [])) := by show _ = _; rw [HP.out, if_neg h7, if_neg h8, if_pos h9]
    clear h7 h8 h9 HP hn
    go_wp2
    go_ret2
    exact ⟨⟨_, _, rfl, fun d hd => by rw [HQ.out] at hd; cases hd; exact ⟨rfl, fun B => .bool false⟩, fun hd => by rw [HQ.out] at hd; cases hd⟩, HB.out⟩
  have f9 : (t.kind == 9) = false := beq_eq_false_iff_ne.2 h9
  by_cases h10 : t.kind = 10
  · have f10 : (t.kind == 10) = true := beq_iff_eq.2 h10
    have HQ : Hid (pln1 t = some (ndK 3 t.n [])) := by show _ = _; rw [HP.out, if_neg h7, if_neg h8, if_neg h9, if_pos h10]
    have HN : Hid (-9223372036854775808 ≤ t.n ∧ t.n ≤ 9223372036854775807) := by show _ ∧ _; have := hn h10; omega
    clear h7 h8 h9 h10 HP hn
    go_wp2
    go_ret2
    exact ⟨⟨_, _, rfl, fun d hd => by rw [HQ.out] at hd; cases hd; exact ⟨rfl, fun B => .num _ HN.out⟩, fun hd => by rw [HQ.out] at hd; cases hd⟩, HB.out⟩
  have f10 : (t.kind == 10) = false := beq_eq_false_iff_ne.2 h10
  by_cases h11 : t.kind = 11
  · have f11 : (t.kind == 11) = true := beq_iff_eq.2 h11
    have HQ : Hid (pln1 t = some (ndK 4 0 t.text)) := by show _ = _; rw [HP.out, if_neg h7, if_neg h8, if_neg h9, if_neg h10, if_pos h11]
    clear h7 h8 h9 h10 h11 HP hn
    go_wp2
    go_ret2
    refine ⟨⟨_, _, rfl, fun d hd => ?_, fun hd => by rw [HQ.out] at hd; cases hd⟩, HB.out⟩
    rw [HQ.out] at hd
    cases hd
    refine ⟨rfl, fun B => ?_⟩
    have h9 := VlO.str (w := Y) (B := B) ⟨t.text.toArray⟩
    rw [lS_mk] at h9
    exact h9
  have f11 : (t.kind == 11) = false := beq_eq_false_iff_ne.2 h11
  have HQ : Hid (pln1 t = none) := by show _ = _; rw [HP.out, if_neg h7, if_neg h8, if_neg h9, if_neg h10, if_neg h11]
  clear h7 h8 h9 h10 h11 HP hn
  go_wp2
  go_ret2
  exact ⟨⟨_, _, rfl, fun d hd => (by rw [HQ.out] at hd; cases hd), fun hd => ⟨rfl, rfl⟩⟩, HB.out⟩
/-- What key leaves: a new key with its colon, or an error at the next token. -/
def KeyP15 (ts : List Tk) (en : Int) (i op g : Nat) (kb : List ByteArray) (w : World) (e : Ending) (w' : World) : Prop :=
  ∃ (s : ByteArray) (er : Int) (i' : Nat), e = .returned (.tuple #[.string s, .int .i64 er]) ∧ RdL w' g ts en i' op ∧ w.grownBy w' (some g) ∧
    (er = 0 → (nxP ts en i).kind = 11 ∧ (nxP ts en i).text ∉ kb.map lS ∧ (nxP ts en (i + 1)).kind = 5 ∧ i' = i + 2 ∧ lS s = (nxP ts en i).text) ∧
    (er ≠ 0 → ∀ f vs, (pairP ts en (prsF ts en f none) (kb.map lS) vs (stZ i op)).2.2.e = er ∧ (pairP ts en (prsF ts en f none) (kb.map lS) vs (stZ i op)).2.2.bad = (nxP ts en i').at_)
set_option linter.unusedSimpArgs false in
set_option maxRecDepth 100000 in
set_option maxHeartbeats 4000000 in
theorem key15_any (w : World) (g : Nat) (ts : List Tk) (en : Int) (i op : Nat) (h : RdL w g ts en i op) (B : Nat) (ks a : Sl) (kb : List ByteArray) (hk : OwnG 9 w B ks.v (strs kb)) (hkg : ks.v.ownBlock ≠ some g) :
    Calls Tryz.prog 87 #[.pointer (some ⟨g, 0, none⟩), .agg #[ks.v, a.v]] w fun e w' => KeyP15 ts en i op g kb w e w' := by
  obtain ⟨n0, hn0⟩ : ∃ q, w.heap.size = q := ⟨_, rfl⟩
  have hgl := h.lt
  have bA := below_alloc w (.cells #[ks.v, a.v] 70)
  have rA := RowC.new w #[ks.v, a.v] 70
  have hRA := h.grown bA
  have hkA := hk.keep bA
  rw [hn0] at rA
  obtain ⟨kx, kn, kc⟩ := ks
  obtain ⟨ax, an, ac⟩ := a
  simp only [Sl.v] at *
  go_enter Tryz.func87, Tryz.ntmps87
  go_upto_region 1 with fail
  obtain ⟨Y, hY⟩ : ∃ q, w.alloc (.cells #[.slice kx kn kc, .slice ax an ac] 70) = q := ⟨_, rfl⟩
  rw [hY] at bA rA hRA hkA ⊢
  have hN := next15_any Y g ts en i op hRA
  go_wp2_with fail
  refine hN.mono ?_
  rintro e w1 ⟨rfl, hb1⟩
  clear hN
  obtain ⟨t, ht⟩ : ∃ q, nxP ts en i = q := ⟨_, rfl⟩
  have HT : Hid (nxP ts en i = t) := ht
  rw [ht]
  clear ht
  obtain ⟨n1, hn1⟩ : ∃ q, w1.heap.size = q := ⟨_, rfl⟩
  have hgn : g < n1 := by have := hRA.lt; have := hb1.size; omega
  have rT := RowC.new w1 (tkA 0 0 0 ⟨#[]⟩) 85
  rw [hn1] at rT
  obtain ⟨q1, q2⟩ := id rT
  have q3 : (rowAt (w1.alloc (.cells (tkA 0 0 0 ⟨#[]⟩) 85)) n1).size = 4 := by rw [q2]; rfl
  clear q2
  have ho1 : OneC (tkR t) = true := tkA_one _ _ _ _
  have ho2 : (tkR t).size = 4 := by unfold tkR tkA; simp
  have e0 : (tkR t)[0]? = some (.int .i64 t.kind) := rfl
  have e3 : (tkR t)[3]? = some (.string ⟨t.text.toArray⟩) := rfl
  have rZ := RowC.new w1 (tkR t) 85
  rw [hn1] at rZ
  have hbZ := below_alloc w1 (.cells (tkR t) 85)
  have hBZ := hb1.trans (hbZ.mono hb1.size)
  have rAZ := rA.kept hBZ
  have hRZ := hRA.grown hBZ
  have hkZ := hkA.keep hBZ
  generalize tkR t = R at *
  go_upto_region 2 with fail
  generalize w1.alloc (.cells R 85) = Z at rZ hbZ hBZ rAZ hRZ hkZ ⊢
  have hWZ : Below w.heap.size w Z := bA.trans (hBZ.mono bA.size)
  have c0 := rZ.cell 0
  have c3 := rZ.cell 3
  rw [e0] at c0; rw [e3] at c3
  have HE3 : Hid (R[3]? = some (.string ⟨t.text.toArray⟩)) := e3
  have d0 : Z.cell? ⟨n0, 0, none⟩ = some (.slice kx kn kc) := rAZ.cell 0
  have HWZ : Hid (Below w.heap.size w Z) := hWZ
  clear bA rA hRA hkA hb1 rT q1 q3 ho1 ho2 e0 e3 rAZ hbZ hBZ hWZ hn1 hY
  by_cases h11 : t.kind = 11
  · have f11 : (t.kind == 11) = true := beq_iff_eq.2 h11
    have HK : Hid ((nxP ts en i).kind = 11) := by show _ = _; rw [HT.out]; exact h11
    go_upto_region 4 with fail
    clear f11 h11
    have hC := contains15_any Z B kx kn kc kb ⟨t.text.toArray⟩ hkZ
    rw [lS_mk] at hC
    by_cases hm : t.text ∈ kb.map lS
    · rw [decide_eq_true hm] at hC
      have HM : Hid ((nxP ts en i).text ∈ kb.map lS) := by show _ ∈ _; rw [HT.out]; exact hm
      clear hm
      go_wp2_with fail
      refine hC.mono ?_
      rintro e w2 ⟨rfl, rfl⟩
      clear hC
      go_wp2
      go_ret2
      refine ⟨_, _, i, rfl, hRZ, grL_of HWZ.out, fun h9 => absurd h9 (by decide), fun _ f vs => ?_⟩
      rw [pair_twice HK.out HM.out]
      exact ⟨rfl, rfl⟩
    · rw [decide_eq_false hm] at hC
      have HM : Hid ((nxP ts en i).text ∉ kb.map lS) := by show _ ∉ _; rw [HT.out]; exact hm
      clear hm
      go_wp2_with fail
      refine hC.mono ?_
      rintro e w2 ⟨rfl, rfl⟩
      clear hC
      have hT1 := take15_any w2 g ts en 11 i op hRZ (by decide)
      rw [decide_eq_true HK.out] at hT1
      unfold tkI at hT1
      rw [if_pos HK.out] at hT1
      go_wp2_with fail
      refine hT1.mono ?_
      rintro e w3 ⟨rfl, hR3, hg3⟩
      clear hT1
      have hT2 := take15_any w3 g ts en 5 (i + 1) op hR3 (by decide)
      have rZ3 := rZ.block (hg3.block n1 rZ.lt (fun e => by cases e; omega))
      have hgW : w.grownBy w3 (some g) := grL_below HWZ.out hg3
      clear hkZ d0 rZ hg3 c0 c3 HWZ
      by_cases h5 : (nxP ts en (i + 1)).kind = 5
      · rw [decide_eq_true h5] at hT2
        unfold tkI at hT2
        rw [if_pos h5] at hT2
        have H5 : Hid ((nxP ts en (i + 1)).kind = 5) := h5
        clear h5
        go_wp2_with fail
        refine hT2.mono ?_
        rintro e w4 ⟨rfl, hR4, hg4⟩
        clear hT2
        have rZ4 := rZ3.block (hg4.block n1 rZ3.lt (fun e => by cases e; omega))
        have c3 := rZ4.cell 3
        rw [HE3.out] at c3
        go_wp2
        go_ret2
        refine ⟨_, _, i + 2, rfl, hR4, grL_trans hgW hg4, fun _ => ⟨HK.out, HM.out, H5.out, rfl, ?_⟩, fun h9 => absurd rfl h9⟩
        rw [HT.out]
        exact lS_mk _
      · rw [decide_eq_false h5] at hT2
        unfold tkI at hT2
        rw [if_neg h5] at hT2
        have H5 : Hid ((nxP ts en (i + 1)).kind ≠ 5) := h5
        clear h5
        go_wp2_with fail
        refine hT2.mono ?_
        rintro e w4 ⟨rfl, hR4, hg4⟩
        clear hT2
        go_wp2
        go_ret2
        refine ⟨_, _, i + 1, rfl, hR4, grL_trans hgW hg4, fun h9 => absurd h9 (by decide), fun _ f vs => ?_⟩
        rw [pair_colon HK.out HM.out H5.out]
        exact ⟨rfl, rfl⟩
  · have f11 : (t.kind == 11) = false := beq_eq_false_iff_ne.2 h11
    have HK : Hid ((nxP ts en i).kind ≠ 11) := by show _ ≠ _; rw [HT.out]; exact h11
    clear h11
    go_wp2
    go_ret2
    refine ⟨_, _, i, rfl, hRZ, grL_of HWZ.out, fun h9 => absurd h9 (by decide), fun _ f vs => ?_⟩
    rw [pair_no HK.out]
    exact ⟨rfl, rfl⟩
end Go.Proofs.YtddmmmfpdmejbaaGreatDoor
namespace Go.Proofs.YtddmmmfpdmejbaaGreatDoor
open Go.RowKit

/-! between: elements with a comma between each two -/
structure Fg (n g : Nat) (w w' : World) : Prop where
  os : w'.os = w.os
  tape : w'.tape = w.tape
  output : w'.output = w.output
  size : w.heap.size ≤ w'.heap.size
  block : ∀ k, k < n → k ≠ g → w'.heap[k]? = w.heap[k]?
theorem Fg.refl (n g : Nat) (w : World) : Fg n g w w := ⟨rfl, rfl, rfl, Nat.le_refl _, fun _ _ _ => rfl⟩
theorem Fg.trans {n g : Nat} {w w1 w2 : World} (h : Fg n g w w1) (k : Fg n g w1 w2) : Fg n g w w2 :=
  ⟨k.os.trans h.os, k.tape.trans h.tape, k.output.trans h.output, Nat.le_trans h.size k.size, fun b hb hn => (k.block b hb hn).trans (h.block b hb hn)⟩
theorem Fg.of {n g : Nat} {w w1 : World} {r : Option Nat} (h : w.grownBy w1 r) (hn : n ≤ w.heap.size) (hr : ∀ q, r = some q → q = g ∨ n ≤ q) : Fg n g w w1 :=
  ⟨h.os, h.tape, h.output, h.size, fun b hb hne => h.block b (by omega) (fun e => by rcases hr b e.symm with h | h <;> omega)⟩
theorem Fg.ofg {n g : Nat} {w w1 : World} (h : w.grownBy w1 (some g)) (hn : n ≤ w.heap.size) : Fg n g w w1 := Fg.of h hn (fun q hq => .inl (by cases hq; rfl))
theorem Fg.below {n g m : Nat} {w w1 : World} (h : Below m w w1) (hn : n ≤ m) : Fg n g w w1 := ⟨h.os, h.tape, h.output, h.size, fun b hb _ => h.block b (by omega)⟩
theorem Fg.grown {g : Nat} {w w1 : World} (h : Fg w.heap.size g w w1) : w.grownBy w1 (some g) := ⟨h.os, h.tape, h.output, h.size, fun b hb hne => h.block b hb (fun e => hne (by rw [e]))⟩
theorem Fg.mono {n m g : Nat} {w w1 : World} (h : Fg n g w w1) (hm : m ≤ n) : Fg m g w w1 := ⟨h.os, h.tape, h.output, h.size, fun b hb hne => h.block b (by omega) hne⟩
theorem RdL.op1 {w : World} {g : Nat} {ts : List Tk} {en : Int} {i op : Nat} (h : RdL w g ts en i op) (p : Nat) : RdL (w.setCell ⟨g, 2, none⟩ (.int .i64 (p : Int))) g ts en i p := by
  obtain ⟨⟨b, c, x, y, hr, hO, hx, hne⟩, hi⟩ := h
  exact ⟨⟨b, c, x, y, hr.set 2 (.int .i64 (p : Int)), hO.other14 (fun q hq => heap_setCell_ne _ _ _ _ _ (fun e => by have := hne q hq; omega)), hx, hne⟩, hi⟩
def leftN (w : World) (g : Nat) : Nat := match w.cell? ⟨g, 0, none⟩ with | some (.slice _ n _) => n | _ => 0
theorem RdL.left {w : World} {g : Nat} {ts : List Tk} {en : Int} {i op : Nat} (h : RdL w g ts en i op) : leftN w g = ts.length - i := by
  obtain ⟨⟨b, c, x, y, hr, hO, hx, hne⟩, hi⟩ := h
  unfold leftN
  rw [show w.cell? ⟨g, 0, none⟩ = some (.slice x (ts.length - i) (c - i)) from hr.cell 0]
def lenM : Md → Nat
  | none => 0
  | (some (.inl acc)) => acc.length
  | (some (.inr (_, vs))) => vs.length
theorem lenM_el (ts : List Tk) (en : Int) (f : Nat) (m : Md) (s : Ps) : lenM (elP ts en f m s).1 ≤ lenM m + 1 := by
  cases m using Md.cs with
  | v => exact Nat.le_succ _
  | l acc => show (acc ++ [_]).length ≤ acc.length + 1; simp
  | o ks vs =>
    show (pairP ts en (prsF ts en f none) ks vs s).2.1.length ≤ vs.length + 1
    unfold pairP
    cases isP ts 11 s with
    | true => show (vs ++ [_]).length ≤ _; simp
    | false => exact Nat.le_succ _
/-- What an element owes. -/
def ElP (ts : List Tk) (en : Int) (g n f : Nat) (A : World → Md → Prop) (J : World → Prop) (m : Md) (i op : Nat) (w : World) (e : Ending) (w' : World) : Prop :=
  ∃ (er : Int) (i' op' : Nat), e = .returned (.int .i64 er) ∧ RdL w' g ts en i' op' ∧ Fg n g w w' ∧ n ≤ w'.heap.size ∧ J w' ∧ (elP ts en f m (stZ i op)).2.e = er ∧
    (er = 0 → (elP ts en f m (stZ i op)).2 = stZ i' op ∧ op' = op ∧ i < i' ∧ A w' (elP ts en f m (stZ i op)).1) ∧
    (er ≠ 0 → (elP ts en f m (stZ i op)).2.bad = (nxP ts en i').at_)
def ElOk (ts : List Tk) (en : Int) (g n : Nat) (F : FuncId) (fr : Array Value) (A : World → Md → Prop) (J : World → Prop) (f : Nat) : Prop :=
  ∀ (w : World) (m : Md) (i op : Nat), m ≠ none → lenM m ≤ i → 2 * (ts.length - i) + 1 ≤ f → op ≤ 6 → n ≤ w.heap.size → RdL w g ts en i op → A w m → Calls Tryz.prog F fr w fun e w' => ElP ts en g n f A J m i op w e w'
/-- What between leaves: k the opening token's kind. -/
def BtP (ts : List Tk) (en : Int) (g n f : Nat) (A : World → Md → Prop) (J : World → Prop) (i op : Nat) (w : World) (e : Ending) (w' : World) : Prop :=
  ∃ (er : Int) (i' op' : Nat), e = .returned (.int .i64 er) ∧ RdL w' g ts en i' op' ∧ Fg n g w w' ∧ n ≤ w'.heap.size ∧ J w' ∧ (prsF ts en (f + 1) none (stZ i op)).2.e = er ∧
    (er = 0 → (prsF ts en (f + 1) none (stZ i op)).2 = stZ i' op ∧ op' = op ∧ i < i' ∧ ∃ m, m ≠ none ∧ lenM m ≤ i' ∧ A w' m ∧ ndM m = (prsF ts en (f + 1) none (stZ i op)).1) ∧
    (er ≠ 0 → (prsF ts en (f + 1) none (stZ i op)).2.bad = (nxP ts en i').at_)
/-- What holds ahead of each round. -/
def BtI (ts : List Tk) (en : Int) (g n f : Nat) (A : World → Md → Prop) (k : Int) (i0 op : Nat) (PR : Nd × Ps) (w wr : World) : Prop :=
  ∃ (m : Md) (i fu : Nat), i0 ≤ i ∧ lenM m ≤ i ∧ m ≠ none ∧ clK m = k + 1 ∧ RdL wr g ts en i (op + 1) ∧ A wr m ∧ 2 * (ts.length - i) + 2 ≤ fu ∧ fu ≤ f ∧ prsF ts en fu m (stZ i (op + 1)) = PR ∧ Fg n g w wr ∧ n ≤ wr.heap.size
set_option linter.unusedSimpArgs false in
set_option maxRecDepth 100000 in
set_option maxHeartbeats 8000000 in
theorem between15_any (ts : List Tk) (en : Int) (g n f : Nat) (F : FuncId) (fa fb : Value) (A : World → Md → Prop) (J : World → Prop) (hF : ∀ args w, (callFunc F args).run Tryz.prog w = .ok (.enter F args) w)
    (hA : ∀ w w' m, A w m → w.grownBy w' (some g) → A w' m) (hJ : ∀ w w', J w → w.grownBy w' (some g) → J w') (hAJ : ∀ w m, A w m → J w) (hEl : ∀ f', f' < f → ElOk ts en g n F #[fa, fb] A J f') (w : World) (i op : Nat) (k : Int) (hk : (nxP ts en i).kind = k) (h31 : k = 3 ∨ k = 1)
    (hf : 2 * (ts.length - i) + 1 ≤ f + 1) (hop : op ≤ 6) (hn : n ≤ w.heap.size) (hR : RdL w g ts en i op) (hA0 : A w (mdB k)) :
    Calls Tryz.prog 84 #[.pointer (some ⟨g, 0, none⟩), .int .i64 k, .int .i64 (k + 1), .func (.func F) #[] #[fa, fb]] w fun e w' => BtP ts en g n f A J i op w e w' := by
  have hil : i < ts.length := nx_lt (en := en) (by rw [hk]; rcases h31 with rfl | rfl <;> decide)
  have hk0 : k ≠ 0 := by rcases h31 with rfl | rfl <;> decide
  have hk1 : k + 1 ≠ 0 := by rcases h31 with rfl | rfl <;> decide
  have hmd : mdB k ≠ none ∧ clK (mdB k) = k + 1 ∧ lenM (mdB k) = 0 := by rcases h31 with rfl | rfl <;> exact ⟨by unfold mdB; simp, rfl, rfl⟩
  obtain ⟨K1, hK1⟩ : ∃ q, k + 1 = q := ⟨_, rfl⟩
  have c2 : w.cell? ⟨g, 2, none⟩ = some (.int .i64 (op : Int)) := by
    obtain ⟨⟨b, c, x, y, hr, -⟩, -⟩ := hR
    exact hr.cell 2
  have HK1 : Hid (k + 1 = K1) := hK1
  rw [hK1]
  clear hK1
  by_cases h6 : op = 6
  · subst h6
    have hd := prs_deep (f := f) hk h31 (by omega)
    have HD : Hid ((prsF ts en (f + 1) none (stZ i 6)).2.e = 32 ∧ (prsF ts en (f + 1) none (stZ i 6)).2.bad = (nxP ts en i).at_) := hd
    clear hd
    go_enter Tryz.func84, Tryz.ntmps84
    go_wp2
    go_ret
    exact ⟨32, i, 6, rfl, hR, Fg.refl _ _ _, hn, hAJ _ _ hA0, HD.out.1, fun h9 => absurd h9 (by decide), fun _ => HD.out.2⟩
  have f6 : ((op : Int) == 6) = false := beq_eq_false_iff_ne.2 (by omega)
  have hT1 := take15_any w g ts en k i op hR hk0
  rw [decide_eq_true hk] at hT1
  unfold tkI at hT1
  rw [if_pos hk] at hT1
  have HPO : Hid (prsF ts en (f + 1) none (stZ i op) = bif isP ts (k + 1) (opnP ts (stZ (i + 1) op)) then (ndM (mdB k), clsP (advP (opnP ts (stZ (i + 1) op)))) else prsF ts en f (mdB k) (opnP ts (stZ (i + 1) op))) := prs_open hk h31
  have hopn : opnP ts (stZ (i + 1) op) = stZ (i + 1) (op + 1) := opnL_st (by omega)
  go_enter Tryz.func84, Tryz.ntmps84
  go_upto_region 3 with fail
  go_wp2_with fail
  refine hT1.mono ?_
  rintro e w1 ⟨rfl, hR1, hg1⟩
  clear hT1 c2
  have hA1 := hA _ _ _ hA0 hg1
  have hF1 : Fg n g w w1 := Fg.ofg hg1 hn
  have hn1 : n ≤ w1.heap.size := Nat.le_trans hn hg1.size
  have hT2 := take15_any w1 g ts en K1 (i + 1) op hR1 (by rw [← HK1.out]; exact hk1)
  by_cases hc : (nxP ts en (i + 1)).kind = K1
  · rw [decide_eq_true hc] at hT2
    unfold tkI at hT2
    rw [if_pos hc] at hT2
    have HP : Hid (prsF ts en (f + 1) none (stZ i op) = (ndM (mdB k), stZ (i + 2) op)) := by
      show _ = _
      rw [HPO.out, hopn, isP_st (en := en) hk1, HK1.out, decide_eq_true hc]
      rfl
    clear HPO hc hopn
    go_wp2_with fail
    refine hT2.mono ?_
    rintro e w2 ⟨rfl, hR2, hg2⟩
    clear hT2
    have hA2 := hA _ _ _ hA1 hg2
    go_wp2
    go_ret
    exact ⟨0, i + 2, op, rfl, hR2, hF1.trans (Fg.ofg hg2 hn1), Nat.le_trans hn1 hg2.size, hAJ _ _ hA2, by rw [HP.out]; rfl, fun _ => ⟨by rw [HP.out], rfl, by omega, mdB k, hmd.1, by rw [hmd.2.2]; omega, hA2, by rw [HP.out]⟩, fun h9 => absurd rfl h9⟩
  · rw [decide_eq_false hc] at hT2
    unfold tkI at hT2
    rw [if_neg hc] at hT2
    have HP : Hid (prsF ts en (f + 1) none (stZ i op) = prsF ts en f (mdB k) (stZ (i + 1) (op + 1))) := by
      show _ = _
      rw [HPO.out, hopn, isP_st (en := en) hk1, HK1.out, decide_eq_false hc]
      rfl
    clear HPO hc hopn
    go_wp2_with fail
    refine hT2.mono ?_
    rintro e w2 ⟨rfl, hR2, hg2⟩
    clear hT2
    have hA2 := hA _ _ _ hA1 hg2
    have hF2 : Fg n g w w2 := hF1.trans (Fg.ofg hg2 hn1)
    have hn2 : n ≤ w2.heap.size := Nat.le_trans hn1 hg2.size
    have c2 : w2.cell? ⟨g, 2, none⟩ = some (.int .i64 (op : Int)) := by
      obtain ⟨⟨b, c, x, y, hr, -⟩, -⟩ := hR2
      exact hr.cell 2
    have z2 : w2.frozen? ⟨g, 2, none⟩ = false := by
      obtain ⟨⟨b, c, x, y, hr, -⟩, -⟩ := hR2
      exact hr.frozen 2
    have hw : IntKind.i64.wrap ((op : Int) + 1) = (op : Int) + 1 := by rw [IntKind.wrap_i64]; omega
    have hR3 : RdL (w2.setCell ⟨g, 2, none⟩ (.int .i64 ((op : Int) + 1))) g ts en (i + 1) (op + 1) := hR2.op1 (op + 1)
    have hg3 := grL_set w2 g 2 (.int .i64 ((op : Int) + 1))
    have hA3 := hA _ _ _ hA2 hg3
    have hF3 := hF2.trans (Fg.ofg hg3 hn2)
    have hn3 := Nat.le_trans hn2 hg3.size
    clear hA2 hA1 hF1 hF2 hn1 hn2 hg2 hg1 hR1 hR hR2
    obtain ⟨PR, hPR⟩ : ∃ q, prsF ts en f (mdB k) (stZ (i + 1) (op + 1)) = q := ⟨_, rfl⟩
    have H0 : BtI ts en g n f A k i op PR w (w2.setCell ⟨g, 2, none⟩ (.int .i64 ((op : Int) + 1))) := ⟨mdB k, i + 1, f, by omega, by rw [hmd.2.2]; omega, hmd.1, hmd.2.1, hR3, hA3, by omega, Nat.le_refl _, hPR, hF3, hn3⟩
    have HPR : Hid (prsF ts en (f + 1) none (stZ i op) = PR) := by show _ = _; rw [HP.out, hPR]
    clear hPR HP hmd hA3 hR3 hF3 hn3 hg3
    go_wp2_with fail
    generalize w2.setCell ⟨g, 2, none⟩ (.int .i64 ((op : Int) + 1)) = w3 at H0 ⊢
    go_loopw [] (fun wr => BtI ts en g n f A k i op PR w wr) (fun wr => leftN wr g)
    case atStart => exact H0
    case round =>
      clear H0 c2 z2 hw
      obtain ⟨m, j, fu, hij, hln, hm, hcl, hRj, hAj, hb1, hb2, hpr, hFj, hnj⟩ := hrel
      obtain ⟨fu, rfl⟩ : ∃ q, fu = q + 1 := ⟨fu - 1, by omega⟩
      have hE := hEl fu (by omega) wr m j (op + 1) hm hln (by omega) (by omega) hnj hRj hAj
      have hLf := hRj.left
      have hpe := prs_el ts en fu m (stZ j (op + 1)) hm
      have hebad := fun h9 => el_bad (ts := ts) (en := en) (f := fu) (m := m) (s := stZ j (op + 1)) hm h9
      have hclE := elP_cl ts en fu m (stZ j (op + 1))
      have hlE := lenM_el ts en fu m (stZ j (op + 1))
      rw [hpr] at hpe hebad
      have hmE : (elP ts en fu m (stZ j (op + 1))).1 ≠ none := by cases m using Md.cs with
        | v => exact absurd rfl hm
        | l acc => exact (fun h => by cases h)
        | o ks vs => exact (fun h => by cases h)
      unfold ElP at hE
      generalize elP ts en fu m (stZ j (op + 1)) = SE at *
      obtain ⟨m4, s4⟩ := SE
      simp only at hE hpe hebad hclE hmE hlE
      have HPE : Hid (PR = bif isP ts 6 s4 then prsF ts en fu m4 (advP s4) else (ndM m4, clsP (needP ts en (clK m) s4))) := hpe
      have HEB : Hid (s4.e ≠ 0 → PR.2.e = s4.e ∧ PR.2.bad = s4.bad) := hebad
      clear hpe hebad hpr
      go_wp2_with fail
      refine hE.mono ?_
      rintro e w4 ⟨er, j', op', rfl, hR4, hF4, hn4, hJ4, hee, hok, hbad⟩
      clear hE
      have hFw := hFj.trans hF4
      by_cases he0 : er = 0
      · subst he0
        obtain ⟨hs, rfl, hjj, hA4⟩ := hok rfl
        subst hs
        clear hok hbad HEB hee
        have hT3 := take15_any w4 g ts en K1 j' (op + 1) hR4 (by rw [← HK1.out]; exact hk1)
        by_cases hc3 : (nxP ts en j').kind = K1
        · rw [decide_eq_true hc3] at hT3
          unfold tkI at hT3
          rw [if_pos hc3] at hT3
          have HQ : Hid (PR = (ndM m4, stZ (j' + 1) op)) := by
            show _ = _
            rw [HPE.out, isP_st (en := en) (by decide), hc3, decide_eq_false (by rw [← HK1.out]; rcases h31 with rfl | rfl <;> decide), cond_false]
            unfold needP
            rw [isP_st (en := en) (by rw [hcl]; exact hk1), hcl, HK1.out, decide_eq_true hc3]
            rfl
          clear hc3 HPE
          go_wp2_with fail
          refine hT3.mono ?_
          rintro e w5 ⟨rfl, hR5, hg5⟩
          clear hT3
          have hA5 := hA _ _ _ hA4 hg5
          have hF5 := hFw.trans (Fg.ofg hg5 hn4)
          have hn5 := Nat.le_trans hn4 hg5.size
          have c2 : w5.cell? ⟨g, 2, none⟩ = some (.int .i64 ((op : Int) + 1)) := by
            obtain ⟨⟨b, c, x, y, hr, -⟩, -⟩ := hR5
            exact hr.cell 2
          have z2 : w5.frozen? ⟨g, 2, none⟩ = false := by
            obtain ⟨⟨b, c, x, y, hr, -⟩, -⟩ := hR5
            exact hr.frozen 2
          have hw : IntKind.i64.wrap ((op : Int) + 1 - 1) = (op : Int) := by rw [IntKind.wrap_i64]; omega
          have hR6 := hR5.op1 op
          have hg6 := grL_set w5 g 2 (.int .i64 (op : Int))
          have hA6 := hA _ _ _ hA5 hg6
          have hF6 := hF5.trans (Fg.ofg hg6 hn5)
          have hn6 := Nat.le_trans hn5 hg6.size
          clear hA5 hA4 hF5 hn5 hg6 hg5 hR5 hR4
          go_wp2
          go_ret
          refine ⟨0, j' + 1, op, rfl, hR6, hF6, hn6, hAJ _ _ hA6, ?_, fun _ => ⟨?_, rfl, ?_, m4, hmE, ?_, hA6, ?_⟩, fun h9 => absurd rfl h9⟩
          · rw [HPR.out, HQ.out]; rfl
          · rw [HPR.out, HQ.out]
          · omega
          · omega
          · rw [HPR.out, HQ.out]
        · rw [decide_eq_false hc3] at hT3
          unfold tkI at hT3
          rw [if_neg hc3] at hT3
          go_wp2_with fail
          refine hT3.mono ?_
          rintro e w5 ⟨rfl, hR5, hg5⟩
          clear hT3
          have hA5 := hA _ _ _ hA4 hg5
          have hF5 := hFw.trans (Fg.ofg hg5 hn4)
          have hn5 := Nat.le_trans hn4 hg5.size
          have hT4 := take15_any w5 g ts en 6 j' (op + 1) hR5 (by decide)
          by_cases hc6 : (nxP ts en j').kind = 6
          · rw [decide_eq_true hc6] at hT4
            unfold tkI at hT4
            rw [if_pos hc6] at hT4
            have hj6 : j' < ts.length := nx_lt (en := en) (by rw [hc6]; decide)
            have HQ : Hid (prsF ts en fu m4 (stZ (j' + 1) (op + 1)) = PR) := by
              show _ = _
              rw [HPE.out, isP_st (en := en) (by decide), decide_eq_true hc6]
              rfl
            clear hc3 hc6 HPE
            go_wp2_with fail
            refine hT4.mono ?_
            rintro e w6 ⟨rfl, hR6, hg6⟩
            clear hT4
            have hA6 := hA _ _ _ hA5 hg6
            have hF6 := hF5.trans (Fg.ofg hg6 hn5)
            have hn6 := Nat.le_trans hn5 hg6.size
            have HI : Hid (BtI ts en g n f A k i op PR w w6) := ⟨m4, j' + 1, fu, by omega, by omega, hmE, by rw [hclE, hcl], hR6, hA6, by omega, by omega, HQ.out, hF6, hn6⟩
            have HL : Hid (leftN w6 g < leftN wr g) := by show _ < _; rw [hR6.left, hLf]; omega
            clear hA5 hA4 hF5 hn5 hg5 hg6 hR5 hR4 hR6 hA6 hF6 hn6 hLf
            go_wp2
            exact ⟨HI.out, HL.out⟩
          · rw [decide_eq_false hc6] at hT4
            unfold tkI at hT4
            rw [if_neg hc6] at hT4
            have HQ : Hid (PR.2.e = 31 ∧ PR.2.bad = (nxP ts en j').at_) := by
              show _ ∧ _
              rw [HPE.out, isP_st (en := en) (by decide), decide_eq_false hc6, cond_false]
              unfold needP
              rw [isP_st (en := en) (by rw [hcl]; exact hk1), hcl, HK1.out, decide_eq_false hc3, cond_false, atP_st]
              exact ⟨rfl, rfl⟩
            clear hc3 hc6 HPE
            go_wp2_with fail
            refine hT4.mono ?_
            rintro e w6 ⟨rfl, hR6, hg6⟩
            clear hT4
            have hF6 := hF5.trans (Fg.ofg hg6 hn5)
            have hn6 := Nat.le_trans hn5 hg6.size
            have hJ6 := hJ _ _ (hJ _ _ hJ4 hg5) hg6
            clear hA5 hA4 hF5 hn5 hg5 hg6 hR5 hR4
            go_wp2
            go_ret
            exact ⟨31, j', op + 1, rfl, hR6, hF6, hn6, hJ6, by rw [HPR.out]; exact HQ.out.1, fun h9 => absurd h9 (by decide), fun _ => by rw [HPR.out]; exact HQ.out.2⟩
      · have hf0 : (er == 0) = false := beq_eq_false_iff_ne.2 he0
        have HQ : Hid (PR.2.e = er ∧ PR.2.bad = (nxP ts en j').at_) := by
          show _ ∧ _
          have h9 := HEB.out (by rw [hee]; exact he0)
          rw [hee, hbad he0] at h9
          exact h9
        have HE0 : Hid (er ≠ 0) := he0
        clear hok hbad HEB HPE hee he0
        go_wp2
        go_ret
        exact ⟨er, j', op', rfl, hR4, hFw, hn4, hJ4, by rw [HPR.out]; exact HQ.out.1, fun h9 => absurd h9 HE0.out, fun _ => by rw [HPR.out]; exact HQ.out.2⟩
end Go.Proofs.YtddmmmfpdmejbaaGreatDoor
