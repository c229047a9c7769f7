import Derived.Test.YtddmmmfpdmejbaaGreatDoorQJok
import Derived.Test.YtddmmmfpdmejbaaGreatDoorQOpenGen
import Derived.Test.YtddmmmfpdmejbaaGreatDoorQOpenSha
namespace Go.Proofs.YtddmmmfpdmejbaaGreatDoor
open Go.ChangeShapes Go.WideShapes Go.ChangeAt Go.RowKit

/-! Opening assaylaw15's Node: a row that holds lists of its own kind -/
theorem js_cellsInt : Tryz.prog.cellsOf 3 = 1 := by kernel_rfl
theorem js_cellsStr : Tryz.prog.cellsOf 9 = 1 := by kernel_rfl
theorem js_cellsStrs : Tryz.prog.cellsOf 22 = 1 := by kernel_rfl
theorem js_cellsLns : Tryz.prog.cellsOf 23 = 1 := by kernel_rfl
theorem js_cellsLn : Tryz.prog.cellsOf 25 = 5 := by kernel_rfl
set_option maxRecDepth 100000 in
theorem js_pos {H : Type} (d : DataW H) : 1 ≤ Rows.uptoBulk d := by
  cases d with
  | lit l => cases l <;> simp [Rows.uptoBulk]
  | _ => simp [Rows.uptoBulk]
set_option maxRecDepth 100000 in
theorem js_len {H : Type} (l : List (DataW H)) : l.length ≤ Rows.uptoBulkAll l := by
  induction l with
  | nil => simp [Rows.uptoBulkAll]
  | cons x r ih => have := js_pos x; simp only [Rows.uptoBulkAll, List.length_cons]; omega
set_option maxRecDepth 100000 in
theorem js_mem {H : Type} {d : DataW H} : ∀ {l : List (DataW H)}, d ∈ l → Rows.uptoBulk d ≤ Rows.uptoBulkAll l
  | x :: r, h => by
    rcases List.mem_cons.1 h with rfl | h
    · simp only [Rows.uptoBulkAll]; omega
    · have := js_mem h; simp only [Rows.uptoBulkAll]; omega
set_option maxRecDepth 100000 in
theorem js_keys {H : Type} : ∀ (kb : List ByteArray) (l : List (DataW H)), kb.length = l.length → (∀ (i : Nat) s d, kb[i]? = some s → l[i]? = some d → d = .lit (.string s.data.toList)) → ((kb.map lS).map (fun t => t.length + 16)).sum ≤ 16 * Rows.uptoBulkAll l
  | [], [], _, _ => by simp [Rows.uptoBulkAll]
  | s :: kb, d :: l, hl, h => by
    have h1 := js_keys kb l (by simpa using hl) (fun i a b ha hb => h (i + 1) a b (by simpa using ha) (by simpa using hb))
    obtain rfl := h 0 s d rfl rfl
    simp only [List.map_cons, List.sum_cons, Rows.uptoBulkAll, Rows.uptoBulk]
    have h2 : (lS s).length = s.data.toList.length := rfl
    omega
  | [], _ :: _, hl, _ => by simp at hl
  | _ :: _, [], hl, _ => by simp at hl
set_option maxRecDepth 100000 in
theorem js_vals {H : Type} : ∀ (ds : List Nd) (l : List (DataW H)), ds.length = l.length → (∀ (i : Nat) d z, ds[i]? = some d → l[i]? = some z → szN d ≤ 100 * Rows.uptoBulk z) → szL ds ≤ 100 * Rows.uptoBulkAll l
  | [], [], _, _ => by simp [Rows.uptoBulkAll, szL]
  | d :: ds, z :: l, hl, h => by
    have h1 := js_vals ds l (by simpa using hl) (fun i a b ha hb => h (i + 1) a b (by simpa using ha) (by simpa using hb))
    have h2 := h 0 d z rfl rfl
    simp only [Rows.uptoBulkAll, szL]
    omega
  | [], _ :: _, hl, _ => by simp at hl
  | _ :: _, [], hl, _ => by simp at hl
set_option maxRecDepth 100000 in
theorem js_strs {H : Type} {enc : TypeId × Value → H} {w : World} {base : Nat} {spare : Nat → Bool} {held : Bool} {fuel : Nat} {cs : List Value} {x : DataW H × List MemPlace}
    (h : DataW.trod enc Tryz.prog w base spare held fuel 22 cs = some x) : ∃ (y : Option Addr) (c : Nat) (kb : List ByteArray), cs = [.slice y kb.length c] ∧ IsG w (.slice y kb.length c) (strs kb) ∧ kb.length ≤ c ∧ kb.length ≤ Rows.uptoBulk x.1 ∧ ((kb.map lS).map (fun t => t.length + 16)).sum ≤ 16 * Rows.uptoBulk x.1 := by
  rcases DataW.trod_slice Tryz.underlying22 h with ⟨he, _⟩ | ⟨a, len, cap, elems, rest, n, _, he, hx, _, hl, hm, hlen, hel, _, _⟩
  · exact ⟨none, 0, [], he, .inl ⟨rfl, rfl⟩, Nat.le_refl _, Nat.zero_le _, Nat.zero_le _⟩
  · have each : ∀ i, i < len → ∃ s : ByteArray, w.cell? (a.add i) = some (.string s) ∧ (elems.map (·.1))[i]? = some (.lit (.string s.data.toList)) := fun i hi => by
      have h1 := hel i hi
      have h2 : i < elems.length := by omega
      rw [List.getElem?_eq_getElem h2, js_cellsStr, Option.bind_eq_some_iff] at h1
      obtain ⟨cs', hcs, hy⟩ := h1
      obtain ⟨s, hb, e9, -⟩ := DataW.trod_string Tryz.underlying9 hy
      subst hb
      have := (ob_cells hcs).2 0 (.string s) rfl
      rw [Nat.mul_one] at this
      refine ⟨s, by simpa [Addr.add] using this, ?_⟩
      rw [List.getElem?_map, List.getElem?_eq_getElem h2, e9]
      rfl
    obtain ⟨kb, hkb, hP⟩ := ob_list each
    have hk9 := js_keys kb (elems.map (·.1)) (by rw [List.length_map]; omega) (fun i s d h1 h2 => by
      obtain ⟨hi, rfl⟩ := List.getElem?_eq_some_iff.1 h1
      have := (hP i hi).2
      rw [h2] at this
      exact Option.some.inj this)
    have hl9 := js_len (elems.map (·.1))
    rw [List.length_map] at hl9
    refine ⟨some a, cap, kb, by rw [he, hkb], .inr ⟨a, cap, by simp [strs], fun i hi => ?_⟩, by omega, ?_, ?_⟩
    · have hi' : i < kb.length := by simpa [strs] using hi
      have := (hP i hi').1
      simpa [strs] using this
    · rw [hx]
      simp only [Rows.uptoBulk]
      omega
    · rw [hx]
      simp only [Rows.uptoBulk]
      omega
set_option maxRecDepth 100000 in
theorem js_node {H : Type} {enc : TypeId × Value → H} {w : World} {base : Nat} {spare : Nat → Bool} {held : Bool} : ∀ (f : Nat) (cs : List Value) (x : DataW H × List MemPlace), DataW.trod enc Tryz.prog w base spare held f 25 cs = some x → Rows.uptoBulk x.1 ≤ 10995116277 →
    ∃ (r : Rn) (d : Nd), cs = (rnA r).toList ∧ LnF w r d ∧ szN d ≤ 100 * Rows.uptoBulk x.1 := by
  intro f
  induction f using Nat.strongRecOn with
  | _ f ih =>
    intro cs x h hB
    obtain ⟨xs, n, hfn, hx, hl, hn, hg⟩ := DataW.trod_struct Tryz.underlying25 h
    have hl5 : cs.length = 5 := by rw [hl]; exact js_cellsLn
    have hn5 : xs.length = 5 := hn
    obtain ⟨c0, c1, c2, c3, c4, rfl⟩ : ∃ a b c d e, cs = [a, b, c, d, e] := by
      match cs, hl5 with
      | [a, b, c, d, e], _ => exact ⟨a, b, c, d, e, rfl⟩
    obtain ⟨x0, x1, x2, x3, x4, rfl⟩ : ∃ a b c d e, xs = [a, b, c, d, e] := by
      match xs, hn5 with
      | [a, b, c, d, e], _ => exact ⟨a, b, c, d, e, rfl⟩
    have g0 : DataW.trod enc Tryz.prog w base spare held n 3 [c0] = some x0 := by
      have q : DataW.trod enc Tryz.prog w base spare held n 3 (List.take (Tryz.prog.cellsOf 3) (List.drop 0 [c0, c1, c2, c3, c4])) = some x0 := hg 0 _ rfl
      rw [js_cellsInt] at q
      exact q
    have g1 : DataW.trod enc Tryz.prog w base spare held n 3 [c1] = some x1 := by
      have q : DataW.trod enc Tryz.prog w base spare held n 3 (List.take (Tryz.prog.cellsOf 3) (List.drop 1 [c0, c1, c2, c3, c4])) = some x1 := hg 1 _ rfl
      rw [js_cellsInt] at q
      exact q
    have g2 : DataW.trod enc Tryz.prog w base spare held n 9 [c2] = some x2 := by
      have q : DataW.trod enc Tryz.prog w base spare held n 9 (List.take (Tryz.prog.cellsOf 9) (List.drop 2 [c0, c1, c2, c3, c4])) = some x2 := hg 2 _ rfl
      rw [js_cellsStr] at q
      exact q
    have g3 : DataW.trod enc Tryz.prog w base spare held n 22 [c3] = some x3 := by
      have q : DataW.trod enc Tryz.prog w base spare held n 22 (List.take (Tryz.prog.cellsOf 22) (List.drop 3 [c0, c1, c2, c3, c4])) = some x3 := hg 3 _ rfl
      rw [js_cellsStrs] at q
      exact q
    have g4 : DataW.trod enc Tryz.prog w base spare held n 23 [c4] = some x4 := by
      have q : DataW.trod enc Tryz.prog w base spare held n 23 (List.take (Tryz.prog.cellsOf 23) (List.drop 4 [c0, c1, c2, c3, c4])) = some x4 := hg 4 _ rfl
      rw [js_cellsLns] at q
      exact q
    obtain ⟨k9, e0, -, -⟩ := DataW.trod_int Tryz.underlying3 g0
    obtain ⟨n9, e1, -, w1⟩ := DataW.trod_int Tryz.underlying3 g1
    obtain ⟨s9, e2, t2, -⟩ := DataW.trod_string Tryz.underlying9 g2
    obtain ⟨xk, ck, kb, e3, ik, lk, uk, sk⟩ := js_strs g3
    simp only [List.cons.injEq, and_true] at e0 e1 e2 e3
    subst e0 e1 e2 e3
    have hb := bounds_i64 w1
    have hs9 : (lS s9).length = s9.data.toList.length := rfl
    have hbulk : Rows.uptoBulk x.1 = Rows.uptoBulk x0.1 + (Rows.uptoBulk x1.1 + (s9.data.toList.length + 1 + (Rows.uptoBulk x3.1 + (Rows.uptoBulk x4.1 + 0)))) + 1 := by
      rw [hx, t2]
      simp only [List.map_cons, List.map_nil, Rows.uptoBulk, Rows.uptoBulkAll]
    rcases DataW.trod_slice Tryz.underlying23 g4 with ⟨he, _⟩ | ⟨a, len, cap, elems, rest, m, hm9, he, hx4, _, hlc, hm, hlen, hel, _, _⟩
    · simp only [List.cons.injEq, and_true] at he
      subst he
      refine ⟨⟨k9, n9, s9, ⟨xk, kb.length, ck⟩, slZ⟩, .mk k9 n9 (lS s9) (kb.map lS) [], rfl, .mk _ kb [] [] ik ⟨none, 0, rfl, Nat.le_refl _, fun i o h => by simp at h⟩ rfl ⟨by simp only; omega, by simp only; omega⟩ ⟨by simp only; omega, by show 0 ≤ _; omega⟩ lk (fun i a d h => by simp at h), ?_⟩
      rw [szN_mk, szL]
      omega
    · simp only [List.cons.injEq, and_true] at he
      subst he
      have hb4 : Rows.uptoBulk x4.1 = Rows.uptoBulkAll (elems.map (·.1)) + Rows.uptoBulkAll (rest.map (·.1)) + 1 := by
        rw [hx4]
        simp only [Rows.uptoBulk]
      have every : ∀ i, i < len → ∃ q : Rn × Nd, (∃ b o, a = ⟨b, o, none⟩ ∧ b < w.heap.size ∧ w.rangeAt b (o + i * 5) (lnE.enc q.1)) ∧ LnF w q.1 q.2 ∧ ∀ z, (elems.map (·.1))[i]? = some z → szN q.2 ≤ 100 * Rows.uptoBulk z := fun i hi => by
        have h2 : i < elems.length := by omega
        have one : ∀ j, (hj : j < elems.length) → ∃ (r : Rn) (d : Nd), w.cells? base (a.add (j * 5)) 5 = some (lnE.enc r) ∧ LnF w r d ∧ szN d ≤ 100 * Rows.uptoBulk elems[j].1 := fun j hj => by
          have h1 := hel j (by omega)
          rw [List.getElem?_eq_getElem hj, js_cellsLn, Option.bind_eq_some_iff] at h1
          obtain ⟨cs', hcs, hy⟩ := h1
          have h5 := js_mem (l := elems.map (·.1)) (List.mem_map.2 ⟨_, List.getElem_mem hj, rfl⟩)
          obtain ⟨r, d, rfl, hL, hS⟩ := ih m (by omega) cs' _ hy (by omega)
          exact ⟨r, d, hcs, hL, hS⟩
        obtain ⟨r, d, hcs, hL, hS⟩ := one i h2
        obtain ⟨r', -, hcs0, -⟩ := one 0 (by omega)
        have hk := (ob_cells hcs).2
        have hk0 := (ob_cells hcs0).2
        obtain ⟨b, p, s⟩ := a
        have hs : s = none := by
          have := World.cell?_spot (hk0 0 (.int .i64 r'.k) rfl)
          simpa [Addr.add] using this
        subst hs
        have hlt := World.block_lt_of_cell? w _ (hk 0 (.int .i64 r.k) rfl)
        rw [addr_add, addr_add] at hlt
        refine ⟨(r, d), ⟨b, p, rfl, hlt, fun j u hu => ?_⟩, hL, fun z hz => ?_⟩
        · have k1 := hk j u hu
          rw [addr_add, addr_add] at k1
          exact k1
        · rw [List.getElem?_map, List.getElem?_eq_getElem h2] at hz
          cases hz
          exact hS
      obtain ⟨os, hos, hP⟩ := ob_list every
      have hsz := js_vals (os.map (·.2)) (elems.map (·.1)) (by simp; omega) (fun i d z h1 h2 => by
        rw [List.getElem?_map, Option.map_eq_some_iff] at h1
        obtain ⟨q, hq, rfl⟩ := h1
        obtain ⟨hi, rfl⟩ := List.getElem?_eq_some_iff.1 hq
        exact (hP i hi).2.2 z h2)
      have hl9 := js_len (elems.map (·.1))
      rw [List.length_map] at hl9
      refine ⟨⟨k9, n9, s9, ⟨xk, kb.length, ck⟩, ⟨some a, len, cap⟩⟩, .mk k9 n9 (lS s9) (kb.map lS) (os.map (·.2)), rfl, .mk _ kb (os.map (·.1)) (os.map (·.2)) ik ⟨some a, cap, by simp only [Sl.v, List.length_map, hos], by simp; omega, fun i o hi => ?_⟩ (by simp) ⟨by simp only; omega, by simp only; omega⟩ ⟨by simp only; omega, by simp only; omega⟩ lk (fun i u d h1 h2 => ?_), ?_⟩
      · rw [List.getElem?_map, Option.map_eq_some_iff] at hi
        obtain ⟨q, hq, rfl⟩ := hi
        obtain ⟨hi', rfl⟩ := List.getElem?_eq_some_iff.1 hq
        obtain ⟨⟨b, o, rfl, h1, h2⟩, -⟩ := hP i hi'
        exact ⟨b, o, rfl, h1, h2⟩
      · rw [List.getElem?_map, Option.map_eq_some_iff] at h1 h2
        obtain ⟨q, hq, rfl⟩ := h1
        obtain ⟨q2, hq2, rfl⟩ := h2
        rw [hq] at hq2
        cases hq2
        obtain ⟨hi', rfl⟩ := List.getElem?_eq_some_iff.1 hq
        exact (hP i hi').2.1
      · rw [szN_mk]
        omega
set_option maxRecDepth 100000 in
theorem open_node {H : Type} {enc : TypeId × Value → H} {w : World} {base b0 : Nat} {spare : Nat → Bool} {held : Bool} {r : Reach} {v : Value} {d : DataW H} {ps : List MemPlace}
    (hval : Value.okWide Tryz.prog w r b0 25 v) (hd : DataW.Trod enc Tryz.prog w base spare held 25 v d ps) (hB : Rows.uptoBulk d ≤ 10995116277) :
    ∃ (a : Rn) (e : Nd), v = .agg (rnA a) ∧ LnF w a e ∧ szN e ≤ 1099511627776 := by
  obtain ⟨cs, rfl, _⟩ := okWide_struct Tryz.underlying25 hval
  obtain ⟨fuel, hf⟩ := hd
  obtain ⟨a, e, h1, h2, h3⟩ := js_node fuel _ _ hf hB
  refine ⟨a, e, ?_, h2, by simp only at h3; omega⟩
  rw [show (Value.agg cs).cells = cs from rfl] at h1
  rw [← Array.toArray_toList (xs := cs), h1]
end Go.Proofs.YtddmmmfpdmejbaaGreatDoor
