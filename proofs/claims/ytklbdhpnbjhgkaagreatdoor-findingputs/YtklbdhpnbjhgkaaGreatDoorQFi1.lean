import Derived.Test.YtklbdhpnbjhgkaaGreatDoorQFiG
import Derived.Test.YtklbdhpnbjhgkaaGreatDoorQFin3
namespace Go.Proofs.YtklbdhpnbjhgkaaGreatDoor
open Go.RowKit Go.Sort

/-! assayref22.Ahead, Sort -/
theorem isK_drop22 {α : Type} {E : EK α} (O : E.Ok) {W : World} {B g n c : Nat} {ds : List α} (h : OwnK E W B (.slice (some ⟨g, 0, none⟩) n c) ds) (k : Nat) (hk : k ≤ n) : IsK E W (.slice (if c = k then some ⟨g, 0, none⟩ else some ⟨g, k * E.k, none⟩) (n - k) (c - k)) (ds.drop k) := by
  obtain ⟨cur, h1, h2, h3, h4, h5, h6, h7⟩ := h.heap
  by_cases hc : c = k
  · rw [if_pos hc]
    have hcap := (h.isK O).cap
    have hd : ds.drop k = [] := List.drop_eq_nil_of_le (by omega)
    rw [hd]
    exact ⟨some ⟨g, 0, none⟩, c - k, by rw [show n - k = 0 by omega]; rfl, Nat.zero_le _, fun i d hi => by simp at hi⟩
  · rw [if_neg hc]
    refine ⟨some ⟨g, k * E.k, none⟩, c - k, by rw [List.length_drop, ← h1], by rw [List.length_drop]; omega, fun i d hi => ?_⟩
    rw [List.getElem?_drop] at hi
    refine ⟨g, k * E.k, rfl, (Array.getElem?_eq_some_iff.1 h3).1, ?_⟩
    have := h.range O (k + i) d hi
    rwa [Nat.add_mul] at this
theorem isK_take22 {α : Type} {E : EK α} (O : E.Ok) {W : World} {B g n c : Nat} {ds : List α} (h : OwnK E W B (.slice (some ⟨g, 0, none⟩) n c) ds) (k : Nat) (hk : k ≤ n) : IsK E W (.slice (some ⟨g, 0, none⟩) k c) (ds.take k) := (h.cut O k hk).isK O
def Ap22 (v u : Value) : Prop := v.ownBlock = none ∨ v.ownBlock ≠ u.ownBlock
/-- append of any list, an empty one too: what is apart stays, and stays apart. -/
theorem run_appAll22 {α : Type} {E : EK α} (O : E.Ok) (w : World) (B : Nat) (v : Option Addr) (n c' : Nat) (ds es : List α) (x : Option Addr) (m c N : Nat) (ty : TypeId) (h : OwnK E w B (.slice v n c') ds) (hx : IsK E w (.slice x m c) es) (hn : ds.length = n) (hm : es.length = m) (hN : n + m = N) (hl : N * E.bytes ≤ 140737488355328) (h63 : N ≤ maxLen) (hb : B ≤ w.heap.size) :
    ∃ v' c'' w', (Builtin.append_ #[E.S, E.S] ty #[.slice v n c', .slice x m c]).run Tryz.prog w = .ok (.slice v' N c'') w' ∧ OwnK E w' B (.slice v' N c'') (ds ++ es) ∧ Below B w w' ∧ (0 < N → v' ≠ none) ∧
      ∀ (v2 : Value) (e : TypeId) (k m2 : Nat) (xs : List Value), w.ownsRow B e k v2 m2 xs → Ap22 v2 (.slice v n c') → w'.ownsRow B e k v2 m2 xs ∧ Ap22 v2 (.slice v' N c'') := by
  subst hn hm hN
  by_cases h0 : es = []
  · subst h0
    have hcap := (h.isK O).cap
    have hv0 : v = none → ds.length = 0 := fun hv => by
      subst hv
      rcases Nat.eq_zero_or_pos ds.length with h1 | h1
      · exact h1
      · obtain ⟨g, e, -⟩ := h.form h1
        cases e
    exact ⟨v, c', w, run_appK0 O w v ds.length c' hcap.2 x c ty hv0, by simpa using h, Below.refl _ _, fun h9 hv => by have := hv0 hv; simp at h9; omega, fun _ _ _ _ _ h1 h2 => ⟨h1, h2⟩⟩
  · obtain ⟨g, c2, w', hr, hO, hg, hway⟩ := run_appK O w B (.slice v ds.length c') ds es x c ty h hx h0 hl h63 hb
    refine ⟨_, c2, w', hr, hO, h.below hg hb, fun _ => by simp, fun v2 e k m2 xs hv hap => ⟨World.ownsRow.kept hv hg hap, ?_⟩⟩
    unfold Ap22
    cases hq : v2.ownBlock with
    | none => exact .inl rfl
    | some q =>
      right
      intro he
      have hql := (World.ownsRow.lt hv q hq).2
      have hqg : q = g := by simpa [Value.ownBlock] using he
      rcases hway with h1 | h1
      · rcases hap with h2 | h2
        · rw [hq] at h2; cases h2
        · exact h2 (by rw [hq, h1, hqg])
      · omega
set_option linter.unusedSimpArgs false in
theorem refAhead22 (a b : Fd) (w : World) : Calls Tryz.prog 24 #[.agg (fdA a), .agg (fdA b)] w fun e w' => e = .returned (.bool (ltF a b)) ∧ Below w.heap.size w w' := by
  have b0 := below_al2 w (.cells (fdA a) 25) (.cells (fdA b) 25)
  unfold ltF
  by_cases h1 : a.1 < b.1
  · go_enter Tryz.func24, Tryz.ntmps24
    go_wp2
    go_ret
    exact ⟨by congr 2 <;> first | (simp; omega) | simp, b0⟩
  · by_cases h2 : a.1 = b.1
    · by_cases h3 : a.2 < b.2
      · go_enter Tryz.func24, Tryz.ntmps24
        go_wp2
        go_ret
        exact ⟨by congr 2 <;> first | (simp; omega) | simp, b0⟩
      · go_enter Tryz.func24, Tryz.ntmps24
        go_wp2
        go_ret
        exact ⟨by congr 2 <;> first | (simp; omega) | simp, b0⟩
    · go_enter Tryz.func24, Tryz.ntmps24
      go_wp2
      go_ret
      exact ⟨by congr 2 <;> first | (simp; omega) | simp, b0⟩
theorem OwnK.len22 {α : Type} {E : EK α} (O : E.Ok) {w : World} {B n c : Nat} {x : Option Addr} {ds : List α} (h : OwnK E w B (.slice x n c) ds) : ds.length = n := ((h.isK O).cap.1).symm
theorem cutF0n (w : World) (k : Int) (hk : k = 0) : (cutF0 (.slice none 0 0) (.int .i64 k)).run Tryz.prog w = .ok (.value (.slice none 0 0)) w := by
  subst hk
  have b1 : ∀ W : World, (Instr.sliceBound (.int .i64 0) 0 BoundsCode.sliceAcap).run Tryz.prog W = .ok 0 W := fun W => by
    have := run_sliceBound (P := Tryz.prog) W .i64 0 0 BoundsCode.sliceAcap (by omega) (by omega)
    simpa using this
  simp [cutF0, Instr.sliceAt, Instr.slice, run_underlying Tryz.underlying22, Instr.sliceBounds, b1]
theorem cutFn (w : World) (k : Int) (hk : k = 0) : (cutF (.slice none 0 0) (.int .i64 k)).run Tryz.prog w = .ok (.value (.slice none 0 0)) w := by
  subst hk
  have b1 : ∀ W : World, (Instr.sliceBound (.int .i64 0) 0 BoundsCode.sliceB).run Tryz.prog W = .ok 0 W := fun W => by
    have := run_sliceBound (P := Tryz.prog) W .i64 0 0 BoundsCode.sliceB (by omega) (by omega)
    simpa using this
  simp [cutF, Instr.sliceAt, Instr.slice, run_underlying Tryz.underlying22, Instr.sliceBounds, b1]
/-- out[:k], out[k:] of a list of the call's own. -/
theorem cut_both22 {W : World} {B m co : Nat} {xo : Option Addr} {O : List Fd} (h : OwnK fdE W B (.slice xo m co) O) (k : Nat) (hk : k ≤ m) : ∃ y1 c1 y2 m2 c2, (∀ w', (cutF0 (.slice xo m co) (.int .i64 (k : Int))).run Tryz.prog w' = .ok (.value (.slice y1 k c1)) w') ∧ (∀ w', (cutF (.slice xo m co) (.int .i64 (k : Int))).run Tryz.prog w' = .ok (.value (.slice y2 m2 c2)) w') ∧ k + m2 = m ∧
    (∀ W', OwnK fdE W' B (.slice xo m co) O → IsK fdE W' (.slice y1 k c1) (O.take k) ∧ IsK fdE W' (.slice y2 m2 c2) (O.drop k)) := by
  have hm := h.len22 fdE_ok
  by_cases h0 : O = []
  · subst h0
    obtain rfl : m = 0 := by simpa using hm.symm
    obtain rfl : k = 0 := by omega
    rcases h.2 with ⟨h1, -⟩ | ⟨g, cap, cur, h1, h2, h3, h4, -⟩
    · simp only [Value.slice.injEq] at h1
      obtain ⟨rfl, -, rfl⟩ := h1
      exact ⟨none, 0, none, 0, 0, fun w' => cutF0n w' _ rfl, fun w' => cutFn w' _ rfl, rfl, fun W' _ => ⟨⟨none, 0, rfl, Nat.le_refl _, fun i d hi => by simp at hi⟩, ⟨none, 0, rfl, Nat.le_refl _, fun i d hi => by simp at hi⟩⟩⟩
    · simp only [Value.slice.injEq] at h1
      obtain ⟨rfl, -, rfl⟩ := h1
      by_cases hc : co = 0
      · subst hc
        refine ⟨some ⟨g, 0, none⟩, 0, some ⟨g, 0, none⟩, 0, 0, fun w' => run_cutF0 w' g 0 0 0 0 (Nat.le_refl _), fun w' => ?_, rfl, fun W' _ => ⟨⟨_, _, rfl, Nat.zero_le _, fun i d hi => by simp at hi⟩, ⟨_, _, rfl, Nat.zero_le _, fun i d hi => by simp at hi⟩⟩⟩
        have b1 : ∀ W : World, (Instr.sliceBound (.int .i64 0) 0 BoundsCode.sliceB).run Tryz.prog W = .ok 0 W := fun W => by
          have := run_sliceBound (P := Tryz.prog) W .i64 0 0 BoundsCode.sliceB (by omega) (by omega)
          simpa using this
        simp [cutF, Instr.sliceAt, Instr.slice, run_underlying Tryz.underlying22, Instr.sliceBounds, b1]
      · refine ⟨some ⟨g, 0, none⟩, co, some ⟨g, 0 + 0 * 2, none⟩, 0, co, fun w' => run_cutF0 w' g 0 0 co 0 (by omega), fun w' => run_cutF w' g 0 0 co 0 0 co rfl (by omega) (by omega), rfl, fun W' _ => ⟨⟨_, _, rfl, Nat.zero_le _, fun i d hi => by simp at hi⟩, ⟨_, _, rfl, Nat.zero_le _, fun i d hi => by simp at hi⟩⟩⟩
  · obtain ⟨g, rfl, -⟩ := OwnK.form h (List.length_pos_iff.2 h0)
    have hcap := (h.isK fdE_ok).cap
    by_cases hc : co = k
    · subst hc
      have hkm : co = m := by omega
      subst hkm
      refine ⟨some ⟨g, 0, none⟩, co, some ⟨g, 0, none⟩, 0, 0, fun w' => run_cutF0 w' g 0 co co co (Nat.le_refl _), fun w' => ?_, by omega, fun W' h9 => ⟨isK_take22 fdE_ok h9 co (Nat.le_refl _), ?_⟩⟩
      · have b1 : ∀ W : World, (Instr.sliceBound (.int .i64 (co : Int)) co BoundsCode.sliceB).run Tryz.prog W = .ok co W := fun W => by
          have := run_sliceBound (P := Tryz.prog) W .i64 (co : Int) co BoundsCode.sliceB (by omega) (by omega)
          simpa using this
        simp [cutF, Instr.sliceAt, Instr.slice, run_underlying Tryz.underlying22, Instr.sliceBounds, b1]
      · have hd : O.drop co = [] := List.drop_eq_nil_of_le (by omega)
        rw [hd]
        exact ⟨_, _, rfl, Nat.zero_le _, fun i d hi => by simp at hi⟩
    · refine ⟨some ⟨g, 0, none⟩, co, some ⟨g, 0 + k * 2, none⟩, m - k, co - k, fun w' => run_cutF0 w' g 0 m co k (by omega), fun w' => run_cutF w' g 0 m co k (m - k) (co - k) (by omega) (by omega) (by omega), by omega, fun W' h9 => ⟨isK_take22 fdE_ok h9 k hk, ?_⟩⟩
      have := isK_drop22 fdE_ok h9 k hk
      rw [if_neg hc, fdE_k] at this
      rwa [Nat.zero_add]
theorem ins_eq22 (O : List Fd) (v : Fd) (k : Nat) (hk : k ≤ O.length) (hpre : ∀ j u, j < k → O[j]? = some u → ltF u v = true) (hd : ∀ u, O[k]? = some u → ltF u v = false ∧ u ≠ v) : insF O v = O.take k ++ [v] ++ O.drop k := by
  rw [insF_at v O k hpre hk]
  cases hq : O.drop k with
  | nil => simp [insF]
  | cons u r =>
    have hu : O[k]? = some u := by
      have : (O.drop k)[0]? = some u := by rw [hq]; rfl
      rwa [List.getElem?_drop, Nat.add_zero] at this
    obtain ⟨h1, h2⟩ := hd u hu
    simp [insF, h1, h2]
theorem ins_same22 (O : List Fd) (v : Fd) (k : Nat) (hk : k ≤ O.length) (hpre : ∀ j u, j < k → O[j]? = some u → ltF u v = true) (hd : O[k]? = some v) : insF O v = O := by
  rw [insF_at v O k hpre hk]
  have h9 := List.take_append_drop k O
  have hq : O.drop k = v :: O.drop (k + 1) := by
    obtain ⟨hk', rfl⟩ := List.getElem?_eq_some_iff.1 hd
    exact List.drop_eq_getElem_cons hk'
  rw [hq] at h9 ⊢
  simp only [insF, ltF_irr, cond_false, decide_true, cond_true]
  exact h9
theorem ap_nil22 (v : Value) : Ap22 v (.slice none 0 0) := by
  unfold Ap22
  cases h : v.ownBlock with
  | none => exact .inl rfl
  | some q => right; simp [Value.ownBlock]
/-- next = append(append(append(nil, out[:k]...), v), out[k:]...) -/
theorem ins_way22 (X : World) (B : Nat) (xo : Option Addr) (m co : Nat) (O : List Fd) (hO : OwnK fdE X B (.slice xo m co) O) (k : Nat) (hk : k ≤ m) (v : Fd) (hb : B ≤ X.heap.size) (hs : (m + 1) * 16 ≤ 140737488355328) :
    ∃ y1 c1 y2 m2 c2 v1 d1 X1 v2 d2 X3 v3 d3 X4, (∀ w', (cutF0 (.slice xo m co) (.int .i64 (k : Int))).run Tryz.prog w' = .ok (.value (.slice y1 k c1)) w') ∧ (∀ w', (cutF (.slice xo m co) (.int .i64 (k : Int))).run Tryz.prog w' = .ok (.value (.slice y2 m2 c2)) w') ∧
      (Builtin.append_ #[22, 22] 22 #[.slice none 0 0, .slice y1 k c1]).run Tryz.prog X = .ok (.slice v1 k d1) X1 ∧
      (Builtin.append_ #[22, 22] 22 #[.slice v1 k d1, .slice (some ⟨X1.heap.size, 0, none⟩) 1 1]).run Tryz.prog (X1.alloc (.cells (fdA v) 25)) = .ok (.slice v2 (k + 1) d2) X3 ∧
      (Builtin.append_ #[22, 22] 22 #[.slice v2 (k + 1) d2, .slice y2 m2 c2]).run Tryz.prog X3 = .ok (.slice v3 (m + 1) d3) X4 ∧
      OwnK fdE X4 B (.slice v3 (m + 1) d3) (O.take k ++ [v] ++ O.drop k) ∧ Below B X X1 ∧ Below B X X4 := by
  have hm := hO.len22 fdE_ok
  obtain ⟨y1, c1, y2, m2, c2, ct1, ct2, hm2, hcut⟩ := cut_both22 hO k hk
  have h63 : ∀ z, z ≤ m + 1 → z ≤ maxLen := fun z hz => by unfold maxLen; omega
  have htk : (O.take k).length = k := by rw [List.length_take]; omega
  obtain ⟨v1, d1, X1, a1, O1, B1, -, ap1⟩ := run_appAll22 fdE_ok X B none 0 0 [] (O.take k) y1 k c1 k 22 (OwnK.nil _ _ _) (hcut X hO).1 rfl htk (by omega) (by show k * 16 ≤ _; omega) (h63 _ (by omega)) hb
  rw [List.nil_append] at O1
  obtain ⟨hO1, apo1⟩ := ap1 _ _ _ _ _ hO (ap_nil22 _)
  have hb1 : B ≤ X1.heap.size := Nat.le_trans hb B1.size
  have BA := below_alloc X1 (.cells (fdA v) 25)
  have O2 : OwnK fdE (X1.alloc (.cells (fdA v) 25)) B (.slice v1 k d1) (O.take k) := O1.keep BA
  have hO2 : OwnK fdE (X1.alloc (.cells (fdA v) 25)) B (.slice xo m co) O := OwnK.keep hO1 BA
  have hlit : IsK fdE (X1.alloc (.cells (fdA v) 25)) (.slice (some ⟨X1.heap.size, 0, none⟩) 1 1) [v] := by
    have := (OwnK.lit1 fdE_ok X1 v).isK fdE_ok
    rwa [fdE_arr] at this
  obtain ⟨v2, d2, X3, a2, O3, B3, -, ap3⟩ := run_appAll22 fdE_ok _ B v1 k d1 (O.take k) [v] (some ⟨X1.heap.size, 0, none⟩) 1 1 (k + 1) 22 O2 hlit htk rfl rfl (by show (k + 1) * 16 ≤ _; omega) (h63 _ (by omega)) (Nat.le_trans hb1 BA.size)
  obtain ⟨hO3, -⟩ := ap3 _ _ _ _ _ hO2 apo1
  obtain ⟨v3, d3, X4, a3, O4, B4, -, -⟩ := run_appAll22 fdE_ok X3 B v2 (k + 1) d2 (O.take k ++ [v]) (O.drop k) y2 m2 c2 (m + 1) 22 O3 (hcut X3 hO3).2 (by rw [List.length_append, htk]; rfl) (by rw [List.length_drop]; omega) (by omega) (by show (m + 1) * 16 ≤ _; omega) (h63 _ (by omega)) (Nat.le_trans (Nat.le_trans hb1 BA.size) B3.size)
  exact ⟨y1, c1, y2, m2, c2, v1, d1, X1, v2, d2, X3, v3, d3, X4, ct1, ct2, a1, a2, a3, O4, B1, (B1.trans (BA.mono hb1)).trans (B3.trans B4)⟩
set_option linter.unusedSimpArgs false in
set_option maxRecDepth 100000 in
set_option maxHeartbeats 6000000 in
theorem refSort22 (w : World) (xl : Option Addr) (n c : Nat) (l : List Fd) (hl : IsK fdE w (.slice xl n c) l) (hn : l.length = n) (hs : n * 16 ≤ 140737488355328) :
    Calls Tryz.prog 9 #[.slice xl n c] w fun e w' => ∃ v, e = .returned v ∧ OwnK fdE w' w.heap.size v (sortM l) ∧ Below w.heap.size w w' := by
  obtain ⟨RES, hres⟩ : ∃ r, sortM l = r := ⟨_, rfl⟩
  have HRES : Hid (sortM l = RES) := hres
  rw [hres]
  clear hres
  go_enter Tryz.func9, Tryz.ntmps9
  go_wp2_with fail
  go_loopw [3, 4] (fun ov iv wr => ∃ (ov0 : Value) (i : Nat) (O : List Fd), ov0 = ov ∧ i ≤ n ∧ iv = .int .i64 i ∧ OwnK fdE wr w.heap.size ov0 O ∧ O = (l.take i).foldl insF [] ∧ Below w.heap.size w wr) (fun _ iv _ => n - (intOf iv).toNat)
  case atStart => exact ⟨_, 0, [], rfl, by omega, rfl, OwnK.nil _ _ _, rfl, Below.refl _ _⟩
  case round =>
    obtain ⟨ov, i, O, rfl, hi, rfl, hO, hOe, hB⟩ := hrel
    by_cases hlt : i < n
    · obtain ⟨v, hv⟩ : ∃ v, l[i]? = some v := ⟨_, List.getElem?_eq_getElem (by omega)⟩
      obtain ⟨gl, o, rfl, hgl, -, -, k1, k2⟩ := fd_at (hl.kept hB) i v hv
      obtain ⟨xo, co, hov⟩ := (hO.isK fdE_ok).len
      obtain ⟨m, hm⟩ : ∃ z, O.length = z := ⟨_, rfl⟩
      rw [hm] at hov
      subst hov
      have hmi : m ≤ i := by
        have h9 := sortM_len (l.take i) []
        rw [← hOe, hm, List.length_take] at h9
        simp at h9
        omega
      have hnext : (l.take (i + 1)).foldl insF [] = insF O v := by
        rw [take_snocF l i v hv, List.foldl_append, ← hOe]; rfl
      have i0 : (i : Int) < (n : Int) := by omega
      have i1 : (0 : Int) ≤ (i : Int) := by omega
      have wi : IntKind.i64.wrap ((i : Int) + 1) = (i : Int) + 1 := by rw [IntKind.wrap_i64]; omega
      have HN : Hid _ := hnext
      have HL : Hid (IsK fdE w (.slice (some ⟨gl, o, none⟩) n c) l) := hl
      have HV : Hid (l[i]? = some v) := hv
      have HB : Hid (Below w.heap.size w wr) := hB
      have HS : Hid (n * 16 ≤ 140737488355328) := hs
      have HNN : Hid (l.length = n) := hn
      clear hnext hOe k1 k2 hgl hv hs hn hl hB
      obtain ⟨W9, hW9⟩ : ∃ z, z = wr := ⟨_, rfl⟩
      subst hW9
      go_wp2_with fail
      go_loopw [5] (fun kv wq => ∃ k : Nat, k ≤ m ∧ kv = .int .i64 k ∧ (∀ j u, j < k → O[j]? = some u → ltF u v = true) ∧ Below W9.heap.size W9 wq) (fun kv _ => m - (intOf kv).toNat)
      case atStart => exact ⟨0, by omega, rfl, fun j u hj => by omega, Below.refl _ _⟩
      case round =>
        obtain ⟨k, hk, rfl, hpre, hBq⟩ := hrel
        have hO2 := hO.keep hBq
        have HL2 : Hid (IsK fdE wr (.slice (some ⟨gl, o, none⟩) n c) l) := (HL.out.kept HB.out).kept hBq
        have HV2 : Hid _ := HV.out
        by_cases hkm : k < m
        · obtain ⟨u, hu⟩ : ∃ u, O[k]? = some u := ⟨_, List.getElem?_eq_getElem (by omega)⟩
          obtain ⟨go, rfl, -⟩ := OwnK.form hO (by omega)
          have CU : Hid (∀ y, Below wr.heap.size wr y → (bigLoad 25 (.pointer (some ⟨go, k * 2, none⟩))).run Tryz.prog y = .ok (.value (.agg (fdA u))) y) := fun y hy => by
            obtain ⟨b', o', he, -, -, -, k1, k2⟩ := fd_at ((hO2.isK fdE_ok).kept hy) k u hu
            cases he
            rw [Nat.zero_add] at k1 k2
            have h9 := run_fd_mid y _ _ k1
            rw [k2] at h9
            exact h9
          have CV : Hid (∀ y, Below wr.heap.size wr y → (bigLoad 25 (.pointer (some ⟨gl, o + i * 2, none⟩))).run Tryz.prog y = .ok (.value (.agg (fdA v))) y) := fun y hy => by
            obtain ⟨b', o', he, -, -, -, k1, k2⟩ := fd_at (HL2.out.kept hy) i v HV2.out
            cases he
            skip
            have h9 := run_fd_mid y _ _ k1
            rw [k2] at h9
            exact h9
          have wk : IntKind.i64.wrap ((k : Int) + 1) = (k : Int) + 1 := by rw [IntKind.wrap_i64]; have := HS.out; omega
          have HP : Hid _ := hpre
          have HU : Hid (O[k]? = some u) := hu
          have HO2 : Hid _ := hO2
          have HBq : Hid _ := hBq
          have km : (k : Int) < (m : Int) := by omega
          have k0 : (0 : Int) ≤ (k : Int) := by omega
          clear hpre hu hO2 hBq hO HL2 HV2
          go_upto_region 6 with fail
          refine wp_reliesT [Fx (.int .i64 (k : Int)), Fx (.slice (some ⟨go, 0, none⟩) m co), Fx (.int .i64 (m : Int)), Fx (.bool true), Fx (.bool true), Fx (.slice (some ⟨go, 0, none⟩) m co), Fx (.int .i64 (k : Int)), Fx (.pointer (some ⟨go, k * 2, none⟩)), Fx (.agg (fdA u)), Fx (.slice (some ⟨gl, o, none⟩) n c), Fx (.int .i64 (i : Int)), Fx (.pointer (some ⟨gl, o + i * 2, none⟩)), Fx (.agg (fdA v)), Fx (.bool (ltF u v))] (by kernel_rfl) (by kernel_rfl) ?_ ?_ ?_
          · repeat' (first | exact all_nil | apply all_cons)
            all_goals intro v y y' hv hb
            all_goals first | exact Fx_mono _ _ _ _ hv hb
          · refine ⟨?_, ?_, ?_, ?_, ?_, ?_, ?_, ?_, ?_, ?_, ?_, ?_, ?_, ?_, trivial⟩
            all_goals
              intro ρ y9 hp ρc ρg ρf ho hd
              have o0 : ρ (.tmp 0) = .slice (some ⟨gl, o, none⟩) n c := ho 0 rfl
              have o3 : ρ (.tmp 3) = .slice (some ⟨go, 0, none⟩) m co := ho 3 rfl
              have o4 : ρ (.tmp 4) = .int .i64 (i : Int) := ho 4 rfl
              have o5 : ρ (.tmp 5) = .int .i64 (k : Int) := ho 5 rfl
              clear ho
              simp only [depsR, depR, slotR, Fx, List.getElem?_cons_succ, List.getElem?_cons_zero, Region.binds, forall_const] at hd
              simp only [guardR]
              go_split_ands
            · go_simp
            · go_simp
            · go_simp
            · go_simp
              try (unfold Fx; simp; omega)
            · go_simp
            · refine ⟨fun _ => ?_, fun hy => absurd (by simp [yieldR, slotR, *]) hy⟩
              go_simp
            · refine ⟨fun _ => ?_, fun hy => absurd (by simp [yieldR, slotR, *]) hy⟩
              go_simp
            · refine ⟨fun _ => ?_, fun hy => absurd (by simp [yieldR, slotR, *]) hy⟩
              go_simp
            · refine ⟨fun _ => ?_, fun hy => absurd (by simp [yieldR, slotR, *]) hy⟩
              have z1 := CU.out y9 hp
              go_simp
            · refine ⟨fun _ => ?_, fun hy => absurd (by simp [yieldR, slotR, *]) hy⟩
              go_simp
            · refine ⟨fun _ => ?_, fun hy => absurd (by simp [yieldR, slotR, *]) hy⟩
              go_simp
            · refine ⟨fun _ => ?_, fun hy => absurd (by simp [yieldR, slotR, *]) hy⟩
              go_simp
            · refine ⟨fun _ => ?_, fun hy => absurd (by simp [yieldR, slotR, *]) hy⟩
              have z2 := CV.out y9 hp
              go_simp
            · refine ⟨fun _ => ?_, fun hy => absurd (by simp [yieldR, slotR, *]) hy⟩
              go_simp
              exact (refAhead22 _ _ _).mono fun e w' ⟨q1, q2⟩ => ⟨_, q1, rfl, q2⟩
          · intro us x1 hp1 hw
            simp only [owed, Fx] at hw
            obtain ⟨e0, e1, e2, e3, e4, e5, e6, e7, e8, e9, e10, e11, e12, e13, -⟩ := hw
            simp only [List.length_cons, List.length_nil, List.take_succ_cons, List.take_zero, List.drop_succ_cons, List.drop_zero, asg, List.cons_append, List.nil_append, e0, e1, e2, e3, e4, e5, e6, e7, e8, e9, e10, e11, e12, e13]
            clear e0 e1 e2 e3 e4 e5 e6 e7 e8 e9 e10 e11 e12 e13
            have HB3 : Hid (Below W9.heap.size W9 x1) := HBq.out.trans (hp1.mono HBq.out.size)
            cases hl9 : ltF u v
            · have HL9 : Hid (ltF u v = false) := hl9
              go_upto_region 8 with fail
              refine wp_reliesT [Fx (.int .i64 (k : Int)), Fx (.slice (some ⟨go, 0, none⟩) m co), Fx (.int .i64 (m : Int)), Fx (.bool true), Fx (.bool true), Fx (.slice (some ⟨go, 0, none⟩) m co), Fx (.int .i64 (k : Int)), Fx (.pointer (some ⟨go, k * 2, none⟩)), Fx (.agg (fdA u)), Fx (.slice (some ⟨gl, o, none⟩) n c), Fx (.int .i64 (i : Int)), Fx (.pointer (some ⟨gl, o + i * 2, none⟩)), Fx (.agg (fdA v)), Fx (.bool (fdEq u v))] (by kernel_rfl) (by kernel_rfl) ?_ ?_ ?_
              · repeat' (first | exact all_nil | apply all_cons)
                all_goals intro v y y' hv hb
                all_goals first | exact Fx_mono _ _ _ _ hv hb
              · refine ⟨?_, ?_, ?_, ?_, ?_, ?_, ?_, ?_, ?_, ?_, ?_, ?_, ?_, ?_, trivial⟩
                all_goals
                  intro ρ y9 hp ρc ρg ρf ho hd
                  have o0 : ρ (.tmp 0) = .slice (some ⟨gl, o, none⟩) n c := ho 0 rfl
                  have o3 : ρ (.tmp 3) = .slice (some ⟨go, 0, none⟩) m co := ho 3 rfl
                  have o4 : ρ (.tmp 4) = .int .i64 (i : Int) := ho 4 rfl
                  have o5 : ρ (.tmp 5) = .int .i64 (k : Int) := ho 5 rfl
                  clear ho
                  simp only [depsR, depR, slotR, Fx, List.getElem?_cons_succ, List.getElem?_cons_zero, Region.binds, forall_const] at hd
                  simp only [guardR]
                  go_split_ands
                · go_simp
                · go_simp
                · go_simp
                · go_simp
                  try (unfold Fx; simp; omega)
                · go_simp
                · refine ⟨fun _ => ?_, fun hy => absurd (by simp [yieldR, slotR, *]) hy⟩
                  go_simp
                · refine ⟨fun _ => ?_, fun hy => absurd (by simp [yieldR, slotR, *]) hy⟩
                  go_simp
                · refine ⟨fun _ => ?_, fun hy => absurd (by simp [yieldR, slotR, *]) hy⟩
                  go_simp
                · refine ⟨fun _ => ?_, fun hy => absurd (by simp [yieldR, slotR, *]) hy⟩
                  have z1 := CU.out y9 (hp1.trans (hp.mono hp1.size))
                  go_simp
                · refine ⟨fun _ => ?_, fun hy => absurd (by simp [yieldR, slotR, *]) hy⟩
                  go_simp
                · refine ⟨fun _ => ?_, fun hy => absurd (by simp [yieldR, slotR, *]) hy⟩
                  go_simp
                · refine ⟨fun _ => ?_, fun hy => absurd (by simp [yieldR, slotR, *]) hy⟩
                  go_simp
                · refine ⟨fun _ => ?_, fun hy => absurd (by simp [yieldR, slotR, *]) hy⟩
                  have z2 := CV.out y9 (hp1.trans (hp.mono hp1.size))
                  go_simp
                · refine ⟨fun _ => ?_, fun hy => absurd (by simp [yieldR, slotR, *]) hy⟩
                  go_simp
              · intro us x2 hp2 hw
                simp only [owed, Fx] at hw
                obtain ⟨e0, e1, e2, e3, e4, e5, e6, e7, e8, e9, e10, e11, e12, e13, -⟩ := hw
                simp only [List.length_cons, List.length_nil, List.take_succ_cons, List.take_zero, List.drop_succ_cons, List.drop_zero, asg, List.cons_append, List.nil_append, e0, e1, e2, e3, e4, e5, e6, e7, e8, e9, e10, e11, e12, e13]
                clear e0 e1 e2 e3 e4 e5 e6 e7 e8 e9 e10 e11 e12 e13
                have HO9 : Hid (OwnK fdE x2 w.heap.size (.slice (some ⟨go, 0, none⟩) m co) O) := OwnK.keep (OwnK.keep HO2.out hp1) hp2
                have HB9 : Hid (Below w.heap.size w x2) := HB.out.trans ((HB3.out.trans (hp2.mono HB3.out.size)).mono HB.out.size)
                clear CU CV
                by_cases huv : u = v
                · have heq := fd_eq u v huv
                  have hsame : insF O v = O := ins_same22 O v k (by omega) HP.out (by rw [← huv]; exact HU.out)
                  clear huv
                  go_wp2_with fail
                  exact ⟨⟨_, i + 1, _, rfl, by omega, by go_num, HO9.out, by rw [HN.out, hsame], HB9.out⟩, by simp [intOf]; omega⟩
                · have heq := fd_ne u v huv
                  have HUV : Hid (¬ u = v) := huv
                  clear huv
                  obtain ⟨y1, c1, y2, m2, c2, v1, d1, X1, v2, d2, X3, v3, d3, X4, ct1, ct2, a1, a2, a3, O4, BX1, BX4⟩ := ins_way22 x2 w.heap.size (some ⟨go, 0, none⟩) m co O HO9.out k hk v (HB9.out.size) (by have := HS.out; omega)
                  have HO4 : Hid (OwnK fdE X4 w.heap.size (.slice v3 (m + 1) d3) (insF O v)) := by
                    show OwnK _ _ _ _ _
                    rw [ins_eq22 O v k (by omega) HP.out (fun u9 h9 => by rw [HU.out] at h9; cases h9; exact ⟨HL9.out, HUV.out⟩)]; exact O4
                  have HB4 : Hid (Below w.heap.size w X4) := HB9.out.trans BX4
                  have hld : (bigLoad 25 (.pointer (some ⟨gl, o + i * 2, none⟩))).run Tryz.prog X1 = .ok (.value (.agg (fdA v))) X1 := by
                    obtain ⟨b', o', he, -, -, -, k1, k2⟩ := fd_at (HL.out.kept (HB9.out.trans BX1)) i v HV.out
                    cases he
                    have h9 := run_fd_mid X1 _ _ k1
                    rw [k2] at h9
                    exact h9
                  clear O4 BX1 BX4
                  go_wp2_with (at_builtin; first | (refine wpL_appG 22 rfl _ _ rfl _ X1 (by exact a1) ?_; clear a1) | (refine wpL_appG 22 rfl _ _ rfl _ X3 (by exact a2) ?_; clear a2) | (refine wpL_appG 22 rfl _ _ rfl _ X4 (by exact a3) ?_; clear a3))
                  exact ⟨⟨_, i + 1, _, rfl, by omega, by go_num, HO4.out, HN.out.symm, HB4.out⟩, by simp [intOf]; omega⟩

            · have HL9 : Hid (ltF u v = true) := hl9
              go_wp2_with fail
              refine ⟨⟨k + 1, by omega, by go_num, fun j u' hj hu' => ?_, HB3.out⟩, by simp [intOf]; omega⟩
              by_cases hjk : j < k
              · exact HP.out j u' hjk hu'
              · obtain rfl : j = k := by omega
                rw [HU.out] at hu'
                cases hu'
                exact HL9.out
        · obtain rfl : k = m := by omega
          have HBq : Hid _ := hBq
          have HO2 : Hid _ := hO2
          have HP : Hid _ := hpre
          have km : ¬ (k : Int) < (k : Int) := by omega
          clear hpre hO2 hBq hO HL2 HV2
          go_upto_region 6 with fail
          refine wp_reliesT [Fx (.int .i64 (k : Int)), Fx (.slice xo k co), Fx (.int .i64 (k : Int)), Fx (.bool false), Fx (.bool false), Fx (undef), Fx (undef), Fx (undef), Fx (undef), Fx (undef), Fx (undef), Fx (undef), Fx (undef), Fx (undef)] (by kernel_rfl) (by kernel_rfl) ?_ ?_ ?_
          · repeat' (first | exact all_nil | apply all_cons)
            all_goals intro v y y' hv hb
            all_goals first | exact Fx_mono _ _ _ _ hv hb
          · refine ⟨?_, ?_, ?_, ?_, ?_, ?_, ?_, ?_, ?_, ?_, ?_, ?_, ?_, ?_, trivial⟩
            all_goals
              intro ρ y9 hp ρc ρg ρf ho hd
              have o3 : ρ (.tmp 3) = .slice xo k co := ho 3 rfl
              have o5 : ρ (.tmp 5) = .int .i64 (k : Int) := ho 5 rfl
              clear ho
              simp only [depsR, depR, slotR, Fx, List.getElem?_cons_succ, List.getElem?_cons_zero, Region.binds, forall_const] at hd
              simp only [guardR]
              go_split_ands
            · go_simp
            · go_simp
            · go_simp
            · go_simp
              try (unfold Fx; simp; omega)
            · go_simp
            · refine ⟨fun hy => ?_, fun _ => rfl⟩
              exfalso; simp [yieldR, slotR, undef, *] at hy
            · refine ⟨fun hy => ?_, fun _ => rfl⟩
              exfalso; simp [yieldR, slotR, undef, *] at hy
            · refine ⟨fun hy => ?_, fun _ => rfl⟩
              exfalso; simp [yieldR, slotR, undef, *] at hy
            · refine ⟨fun hy => ?_, fun _ => rfl⟩
              exfalso; simp [yieldR, slotR, undef, *] at hy
            · refine ⟨fun hy => ?_, fun _ => rfl⟩
              exfalso; simp [yieldR, slotR, undef, *] at hy
            · refine ⟨fun hy => ?_, fun _ => rfl⟩
              exfalso; simp [yieldR, slotR, undef, *] at hy
            · refine ⟨fun hy => ?_, fun _ => rfl⟩
              exfalso; simp [yieldR, slotR, undef, *] at hy
            · refine ⟨fun hy => ?_, fun _ => rfl⟩
              exfalso; simp [yieldR, slotR, undef, *] at hy
            · refine ⟨fun hy => ?_, fun _ => rfl⟩
              exfalso; simp [yieldR, slotR, undef, *] at hy
          · intro us x1 hp1 hw
            simp only [owed, Fx] at hw
            obtain ⟨e0, e1, e2, e3, e4, e5, e6, e7, e8, e9, e10, e11, e12, e13, -⟩ := hw
            simp only [List.length_cons, List.length_nil, List.take_succ_cons, List.take_zero, List.drop_succ_cons, List.drop_zero, asg, List.cons_append, List.nil_append, e0, e1, e2, e3, e4, e5, e6, e7, e8, e9, e10, e11, e12, e13]
            clear e0 e1 e2 e3 e4 e5 e6 e7 e8 e9 e10 e11 e12 e13
            have HB3 : Hid (Below W9.heap.size W9 x1) := HBq.out.trans (hp1.mono HBq.out.size)
            go_upto_region 8 with fail
            refine wp_reliesT [Fx (.int .i64 (k : Int)), Fx (.slice xo k co), Fx (.int .i64 (k : Int)), Fx (.bool false), Fx (.bool false), Fx (undef), Fx (undef), Fx (undef), Fx (undef), Fx (undef), Fx (undef), Fx (undef), Fx (undef), Fx (undef)] (by kernel_rfl) (by kernel_rfl) ?_ ?_ ?_
            · repeat' (first | exact all_nil | apply all_cons)
              all_goals intro v y y' hv hb
              all_goals first | exact Fx_mono _ _ _ _ hv hb
            · refine ⟨?_, ?_, ?_, ?_, ?_, ?_, ?_, ?_, ?_, ?_, ?_, ?_, ?_, ?_, trivial⟩
              all_goals
                intro ρ y9 hp ρc ρg ρf ho hd
                have o3 : ρ (.tmp 3) = .slice xo k co := ho 3 rfl
                have o5 : ρ (.tmp 5) = .int .i64 (k : Int) := ho 5 rfl
                clear ho
                simp only [depsR, depR, slotR, Fx, List.getElem?_cons_succ, List.getElem?_cons_zero, Region.binds, forall_const] at hd
                simp only [guardR]
                go_split_ands
              · go_simp
              · go_simp
              · go_simp
              · go_simp
                try (unfold Fx; simp; omega)
              · go_simp
              · refine ⟨fun hy => ?_, fun _ => rfl⟩
                exfalso; simp [yieldR, slotR, undef, *] at hy
              · refine ⟨fun hy => ?_, fun _ => rfl⟩
                exfalso; simp [yieldR, slotR, undef, *] at hy
              · refine ⟨fun hy => ?_, fun _ => rfl⟩
                exfalso; simp [yieldR, slotR, undef, *] at hy
              · refine ⟨fun hy => ?_, fun _ => rfl⟩
                exfalso; simp [yieldR, slotR, undef, *] at hy
              · refine ⟨fun hy => ?_, fun _ => rfl⟩
                exfalso; simp [yieldR, slotR, undef, *] at hy
              · refine ⟨fun hy => ?_, fun _ => rfl⟩
                exfalso; simp [yieldR, slotR, undef, *] at hy
              · refine ⟨fun hy => ?_, fun _ => rfl⟩
                exfalso; simp [yieldR, slotR, undef, *] at hy
              · refine ⟨fun hy => ?_, fun _ => rfl⟩
                exfalso; simp [yieldR, slotR, undef, *] at hy
              · refine ⟨fun hy => ?_, fun _ => rfl⟩
                exfalso; simp [yieldR, slotR, undef, *] at hy
            · intro us x2 hp2 hw
              simp only [owed, Fx] at hw
              obtain ⟨e0, e1, e2, e3, e4, e5, e6, e7, e8, e9, e10, e11, e12, e13, -⟩ := hw
              simp only [List.length_cons, List.length_nil, List.take_succ_cons, List.take_zero, List.drop_succ_cons, List.drop_zero, asg, List.cons_append, List.nil_append, e0, e1, e2, e3, e4, e5, e6, e7, e8, e9, e10, e11, e12, e13]
              clear e0 e1 e2 e3 e4 e5 e6 e7 e8 e9 e10 e11 e12 e13
              have HO9 : Hid (OwnK fdE x2 w.heap.size (.slice xo k co) O) := OwnK.keep (OwnK.keep HO2.out hp1) hp2
              have HB9 : Hid (Below w.heap.size w x2) := HB.out.trans ((HB3.out.trans (hp2.mono HB3.out.size)).mono HB.out.size)
              obtain ⟨y1, c1, y2, m2, c2, v1, d1, X1, v2, d2, X3, v3, d3, X4, ct1, ct2, a1, a2, a3, O4, BX1, BX4⟩ := ins_way22 x2 w.heap.size xo k co O HO9.out k hk v (HB9.out.size) (by have := HS.out; omega)
              have HO4 : Hid (OwnK fdE X4 w.heap.size (.slice v3 (k + 1) d3) (insF O v)) := by
                show OwnK _ _ _ _ _
                rw [ins_eq22 O v k (by omega) HP.out (fun u9 h9 => by rw [List.getElem?_eq_none (by omega)] at h9; cases h9)]; exact O4
              have HB4 : Hid (Below w.heap.size w X4) := HB9.out.trans BX4
              have hld : (bigLoad 25 (.pointer (some ⟨gl, o + i * 2, none⟩))).run Tryz.prog X1 = .ok (.value (.agg (fdA v))) X1 := by
                obtain ⟨b', o', he, -, -, -, k1, k2⟩ := fd_at (HL.out.kept (HB9.out.trans BX1)) i v HV.out
                cases he
                have h9 := run_fd_mid X1 _ _ k1
                rw [k2] at h9
                exact h9
              clear O4 BX1 BX4
              go_wp2_with (at_builtin; first | (refine wpL_appG 22 rfl _ _ rfl _ X1 (by exact a1) ?_; clear a1) | (refine wpL_appG 22 rfl _ _ rfl _ X3 (by exact a2) ?_; clear a2) | (refine wpL_appG 22 rfl _ _ rfl _ X4 (by exact a3) ?_; clear a3))
              exact ⟨⟨_, i + 1, _, rfl, by omega, by go_num, HO4.out, HN.out.symm, HB4.out⟩, by simp [intOf]; omega⟩
    · obtain rfl : i = n := by omega
      have HE : Hid (O = RES) := by show _ = _; rw [hOe, List.take_of_length_le (by omega)]; exact HRES.out
      have i0 : ¬ (i : Int) < (i : Int) := by omega
      clear hOe
      go_wp2
      go_ret
      exact ⟨_, rfl, by rw [← HE.out]; exact hO, hB⟩
end Go.Proofs.YtklbdhpnbjhgkaaGreatDoor
