import Derived.Test.YtpckdkgbeemalaaQOpenMark
import Derived.Test.YtpckdkgbeemalaaQOpenSha
import Derived.Test.YtpckdkgbeemalaaQJou9
import Derived.Test.YtpckdkgbeemalaaQJou6
namespace Go.Proofs.Ytpckdkgbeemalaa
open Go.ChangeShapes Go.WideShapes Go.ChangeAt Go.RowKit

/-! Opening assaylaw10's Disk, Stop and []Op, []int, []bool -/
set_option maxRecDepth 100000 in
theorem oj_pos {H : Type} (d : DataW H) : 1 ≤ Rows.uptoBulk d := by
  cases d with
  | lit l => cases l <;> simp [Rows.uptoBulk]
  | _ => simp [Rows.uptoBulk]
set_option maxRecDepth 100000 in
theorem oj_len {H : Type} (l : List (DataW H)) : l.length ≤ Rows.uptoBulkAll l := by
  induction l with
  | nil => simp [Rows.uptoBulkAll]
  | cons x r ih => have := oj_pos x; simp only [Rows.uptoBulkAll, List.length_cons]; omega
set_option maxRecDepth 100000 in
theorem oj_mem {H : Type} {d : DataW H} : ∀ {l : List (DataW H)}, d ∈ l → Rows.uptoBulk d ≤ Rows.uptoBulkAll l
  | x :: r, h => by
    rcases List.mem_cons.1 h with rfl | h
    · simp only [Rows.uptoBulkAll]; omega
    · have := oj_mem h; simp only [Rows.uptoBulkAll]; omega
set_option maxRecDepth 100000 in
theorem oj_bd {H : Type} (d : DataW H) : bdlen d ≤ Rows.uptoBulk d := by
  cases d with
  | slice el sp =>
    have h1 := oj_len el
    have h2 := oj_len sp
    simp only [bdlen, Rows.uptoBulk]
    omega
  | _ => simp [bdlen]
set_option maxRecDepth 100000 in
theorem oj_dl {H : Type} (d : DataW H) : dlen d ≤ Rows.uptoBulk d := by
  cases d with
  | slice el sp =>
    have h1 := oj_len el
    simp only [dlen, Rows.uptoBulk]
    omega
  | _ => simp [dlen]
def dels {H : Type} : DataW H → List (DataW H)
  | .slice el _ => el
  | _ => []
set_option maxRecDepth 100000 in
theorem dels_bulk {H : Type} {d z : DataW H} (h : z ∈ dels d) : Rows.uptoBulk z ≤ Rows.uptoBulk d := by
  cases d with
  | slice el sp =>
    have := oj_mem (l := el) h
    simp only [Rows.uptoBulk]
    omega
  | _ => simp [dels] at h
set_option maxRecDepth 100000 in
theorem oj_KQ {α : Type} {E : EK α} (O : E.Ok) (hcells : Try.prog.cellsOf E.T = E.k) {H : Type} {enc : TypeId × Value → H} {w : World} {base : Nat} {spare : Nat → Bool} {held : Bool}
    {P : α → DataW H → Prop} (each : ∀ (fuel : Nat) (cs : List Value) (x : DataW H × List MemPlace), DataW.trod enc Try.prog w base spare held fuel E.T cs = some x → ∃ a : α, cs = E.enc a ∧ P a x.1)
    {fuel : Nat} {cv : List Value} {x : DataW H × List MemPlace} (hf : DataW.trod enc Try.prog w base spare held fuel E.S cv = some x) :
    ∃ (y : Option Addr) (c : Nat) (ds : List α), cv = [.slice y ds.length c] ∧ IsK E w (.slice y ds.length c) ds ∧ ds.length ≤ bdlen x.1 ∧ ∀ a ∈ ds, ∃ z, P a z ∧ z ∈ dels x.1 := by
  rcases DataW.trod_slice O.und hf with ⟨he, _⟩ | ⟨a, len, cap, elems, rest, n, _, he, hx, _, hl, hm, hlen, hel, _, _⟩
  · exact ⟨none, 0, [], he, ⟨none, 0, rfl, Nat.le_refl _, fun i o h => by simp at h⟩, Nat.zero_le _, fun a h => by simp at h⟩
  · have every : ∀ i, i < len → ∃ q : α, ∃ b o, a = ⟨b, o, none⟩ ∧ b < w.heap.size ∧ w.rangeAt b (o + i * E.k) (E.enc q) ∧ ∃ z, P q z ∧ z ∈ elems.map (·.1) := fun i hi => by
      have h1 := hel i hi
      have h2 : i < elems.length := by omega
      rw [List.getElem?_eq_getElem h2, hcells, Option.bind_eq_some_iff] at h1
      obtain ⟨cs, hcs, hy⟩ := h1
      obtain ⟨q, rfl, hPq⟩ := each _ _ _ hy
      have hk := (ob_cells hcs).2
      have hpos : 0 < (E.enc q).length := by rw [O.len]; exact O.kp
      have k0 := hk 0 _ (List.getElem?_eq_getElem hpos)
      obtain ⟨b, p, s⟩ := a
      have hs : s = none := by
        have h3 := hel 0 (by omega)
        rw [List.getElem?_eq_getElem (show 0 < elems.length by omega), hcells, Option.bind_eq_some_iff] at h3
        obtain ⟨cs', hcs', hy'⟩ := h3
        obtain ⟨q', rfl, -⟩ := each _ _ _ hy'
        have k9 := (ob_cells hcs').2 0 _ (List.getElem?_eq_getElem (show 0 < (E.enc q').length by rw [O.len]; exact O.kp))
        have := World.cell?_spot k9
        simpa [Addr.add] using this
      subst hs
      have hlt := World.block_lt_of_cell? w _ k0
      rw [addr_add, addr_add] at hlt
      refine ⟨q, b, p, rfl, hlt, fun j u hu => ?_, _, hPq, List.mem_map.2 ⟨_, List.getElem_mem h2, rfl⟩⟩
      have k1 := hk j u hu
      rw [addr_add, addr_add] at k1
      exact k1
    obtain ⟨os, hos, hP⟩ := ob_list every
    refine ⟨some a, cap, os, by rw [he, hos], ⟨some a, cap, rfl, by omega, fun i o hi => ?_⟩, ?_, ?_⟩
    · obtain ⟨hi', rfl⟩ := List.getElem?_eq_some_iff.1 hi
      obtain ⟨b, p, rfl, h1, h2, -⟩ := hP i hi'
      exact ⟨b, p, rfl, h1, h2⟩
    · rw [hx]
      simp only [bdlen, List.length_map]
      omega
    · intro q hq
      obtain ⟨i, hi⟩ := List.mem_iff_getElem?.1 hq
      obtain ⟨hi', rfl⟩ := List.getElem?_eq_some_iff.1 hi
      obtain ⟨b, p, -, -, -, z, h3, h4⟩ := hP i hi'
      refine ⟨z, h3, ?_⟩
      rw [hx]
      exact h4
set_option maxRecDepth 100000 in
theorem oj_bools {H : Type} {enc : TypeId × Value → H} {w : World} {base : Nat} {spare : Nat → Bool} {held : Bool} {fuel : Nat} {cs : List Value} {x : DataW H × List MemPlace}
    (h : DataW.trod enc Try.prog w base spare held fuel 27 cs = some x) : ∃ (y : Option Addr) (c : Nat) (bs : List Bool), cs = [.slice y bs.length c] ∧ IsG w (.slice y bs.length c) (bs.map Value.bool) ∧ bs.length ≤ c := by
  rcases DataW.trod_slice Try.underlying27 h with ⟨he, _⟩ | ⟨a, len, cap, elems, rest, n, _, he, hx, _, hl, hm, hlen, hel, _, _⟩
  · exact ⟨none, 0, [], he, .inl ⟨rfl, rfl⟩, Nat.le_refl _⟩
  · have each : ∀ i, i < len → ∃ b : Bool, w.cell? (a.add i) = some (.bool b) := fun i hi => by
      have h1 := hel i hi
      have h2 : i < elems.length := by omega
      rw [List.getElem?_eq_getElem h2, show Try.prog.cellsOf 4 = 1 by kernel_rfl, Option.bind_eq_some_iff] at h1
      obtain ⟨cs', hcs, hy⟩ := h1
      obtain ⟨b, hb, _⟩ := DataW.trod_bool Try.underlying4 hy
      subst hb
      have := (ob_cells hcs).2 0 (.bool b) rfl
      rw [Nat.mul_one] at this
      exact ⟨b, by simpa [Addr.add] using this⟩
    obtain ⟨bs, hbs, hP⟩ := ob_list each
    refine ⟨some a, cap, bs, by rw [he, hbs], .inr ⟨a, cap, by simp, fun i hi => ?_⟩, by omega⟩
    have hi' : i < bs.length := by simpa using hi
    rw [List.getElem_map]
    exact hP i hi'
set_option maxRecDepth 100000 in
theorem open_bools10 {H : Type} {enc : TypeId × Value → H} {w : World} {base b0 : Nat} {spare : Nat → Bool} {held : Bool} {r : Reach} {v : Value} {d : DataW H} {ps : List MemPlace}
    (hval : Value.okWide Try.prog w r b0 27 v) (hd : DataW.Trod enc Try.prog w base spare held 27 v d ps) :
    ∃ (y : Option Addr) (c : Nat) (bs : List Bool), v = .slice y bs.length c ∧ IsG w (.slice y bs.length c) (bs.map Value.bool) ∧ bs.length ≤ c := by
  obtain ⟨a, len, cap, rfl⟩ := okWide_slice Try.underlying27 hval
  obtain ⟨fuel, hf⟩ := hd
  obtain ⟨y, c, bs, he, h1, h2⟩ := oj_bools hf
  simp only [Value.cells, List.cons.injEq, and_true] at he
  exact ⟨y, c, bs, he, h1, h2⟩
set_option maxRecDepth 100000 in
theorem open_zs10 {H : Type} {enc : TypeId × Value → H} {w : World} {base b0 : Nat} {spare : Nat → Bool} {held : Bool} {r : Reach} {v : Value} {d : DataW H} {ps : List MemPlace}
    (hval : Value.okWide Try.prog w r b0 26 v) (hd : DataW.Trod enc Try.prog w base spare held 26 v d ps) :
    ∃ (y : Option Addr) (c : Nat) (bs : List Int), v = .slice y bs.length c ∧ IsG w (.slice y bs.length c) (bs.map fun z => Value.int .i64 z) ∧ bs.length ≤ dlen d ∧ ∀ a ∈ bs, i64w a := by
  obtain ⟨a, len, cap, rfl⟩ := okWide_slice Try.underlying26 hval
  obtain ⟨fuel, hf⟩ := hd
  rcases DataW.trod_slice Try.underlying26 hf with ⟨he, _⟩ | ⟨a, len, cap, elems, rest, n, _, he, hx, _, hl, hm, hlen, hel, _, _⟩
  · simp only [Value.cells, List.cons.injEq, and_true] at he
    rw [he]
    exact ⟨none, 0, [], rfl, .inl ⟨rfl, rfl⟩, Nat.zero_le _, fun a h => by simp at h⟩
  · simp only [Value.cells, List.cons.injEq, and_true] at he
    rw [he]
    simp only [Prod.mk.injEq] at hx
    have each : ∀ i, i < len → ∃ b : Int, w.cell? (a.add i) = some (.int .i64 b) ∧ i64w b := fun i hi => by
      have h1 := hel i hi
      have h2 : i < elems.length := by omega
      rw [List.getElem?_eq_getElem h2, om_cellsInt, Option.bind_eq_some_iff] at h1
      obtain ⟨cs', hcs, hy⟩ := h1
      obtain ⟨b, hb, _, wb⟩ := DataW.trod_int Try.underlying3 hy
      subst hb
      have := (ob_cells hcs).2 0 (.int .i64 b) rfl
      rw [Nat.mul_one] at this
      exact ⟨b, by simpa [Addr.add] using this, bounds_i64 wb⟩
    obtain ⟨bs, hbs, hP⟩ := ob_list each
    refine ⟨some a, cap, bs, by rw [hbs], .inr ⟨a, cap, by simp, fun i hi => ?_⟩, ?_, ?_⟩
    · have hi' : i < bs.length := by simpa using hi
      simp only [List.getElem_map]
      exact (hP i hi').1
    · rw [hx.1]
      simp only [dlen, List.length_map]
      omega
    · intro q hq
      obtain ⟨i, hi⟩ := List.mem_iff_getElem?.1 hq
      obtain ⟨hi', rfl⟩ := List.getElem?_eq_some_iff.1 hi
      exact (hP i hi').2
set_option maxRecDepth 100000 in
theorem oj_wrs {H : Type} {enc : TypeId × Value → H} {w : World} {base : Nat} {spare : Nat → Bool} {held : Bool} {fuel : Nat} {cs : List Value} {x : DataW H × List MemPlace}
    (h : DataW.trod enc Try.prog w base spare held fuel 23 cs = some x) : ∃ (y : Option Addr) (c : Nat) (l : List Wr), cs = [.slice y l.length c] ∧ IsK wrE w (.slice y l.length c) l ∧ l.length ≤ bdlen x.1 ∧ WrB l := by
  obtain ⟨y, c, l, h1, h2, h3, h4⟩ := oj_KQ (E := wrE) (P := fun a _ => i64w a.1) wrE_ok om_cellsWr (fun f cs x h => wr_of_trod f cs x h) h
  exact ⟨y, c, l, h1, h2, h3, wrb_all fun a ha => by obtain ⟨z, hz, -⟩ := h4 a ha; exact hz⟩
theorem oj_cellsWrs : Try.prog.cellsOf 23 = 1 := by kernel_rfl
theorem oj_cellsBools : Try.prog.cellsOf 27 = 1 := by kernel_rfl
set_option maxRecDepth 100000 in
theorem open_disk10 {H : Type} {enc : TypeId × Value → H} {w : World} {base b0 : Nat} {spare : Nat → Bool} {held : Bool} {r : Reach} {v : Value} {d : DataW H} {ps : List MemPlace}
    (hval : Value.okWide Try.prog w r b0 25 v) (hd : DataW.Trod enc Try.prog w base spare held 25 v d ps) :
    ∃ (N : Int) (xb : Option Addr) (cb : Nat) (lb : List UInt8) (M : Int) (xw : Option Addr) (cw : Nat) (lw : List Wr) (d0 d1 d2 d3 : DataW H), v = .agg (dkA N xb lb.length cb M xw lw.length cw) ∧ IsB w (.slice xb lb.length cb) lb ∧ IsK wrE w (.slice xw lw.length cw) lw ∧ WrB lw ∧ d = .agg [d0, d1, d2, d3] ∧ lb.length = dlen d1 ∧ lw.length ≤ bdlen d3 := by
  obtain ⟨cs, rfl, _⟩ := okWide_struct Try.underlying25 hval
  obtain ⟨fuel, hf⟩ := hd
  obtain ⟨xs, n, _, hx, hl, hn, hg⟩ := DataW.trod_struct Try.underlying25 hf
  have hl4 : cs.toList.length = 4 := by rw [show (Value.agg cs).cells = cs from rfl] at hl; rw [hl]; kernel_rfl
  have hn4 : xs.length = 4 := hn
  obtain ⟨c0, c1, c2, c3, hcs⟩ : ∃ a b c d, cs.toList = [a, b, c, d] := by
    match hq : cs.toList, hl4 with
    | [a, b, c, d], _ => exact ⟨a, b, c, d, rfl⟩
  obtain ⟨x0, x1, x2, x3, rfl⟩ : ∃ a b c d, xs = [a, b, c, d] := by
    match xs, hn4 with
    | [a, b, c, d], _ => exact ⟨a, b, c, d, rfl⟩
  rw [show (Value.agg cs).cells = cs from rfl, hcs] at hg
  have g0 : DataW.trod enc Try.prog w base spare held n 3 [c0] = some x0 := by
    have q : DataW.trod enc Try.prog w base spare held n 3 (List.take (Try.prog.cellsOf 3) (List.drop 0 [c0, c1, c2, c3])) = some x0 := hg 0 _ rfl
    rw [om_cellsInt] at q
    exact q
  have g1 : DataW.trod enc Try.prog w base spare held n 22 [c1] = some x1 := by
    have q : DataW.trod enc Try.prog w base spare held n 22 (List.take (Try.prog.cellsOf 22) (List.drop 1 [c0, c1, c2, c3])) = some x1 := hg 1 _ rfl
    rw [cells22] at q
    exact q
  have g2 : DataW.trod enc Try.prog w base spare held n 3 [c2] = some x2 := by
    have q : DataW.trod enc Try.prog w base spare held n 3 (List.take (Try.prog.cellsOf 3) (List.drop 2 [c0, c1, c2, c3])) = some x2 := hg 2 _ rfl
    rw [om_cellsInt] at q
    exact q
  have g3 : DataW.trod enc Try.prog w base spare held n 23 [c3] = some x3 := by
    have q : DataW.trod enc Try.prog w base spare held n 23 (List.take (Try.prog.cellsOf 23) (List.drop 3 [c0, c1, c2, c3])) = some x3 := hg 3 _ rfl
    rw [oj_cellsWrs] at q
    exact q
  obtain ⟨n0, e0, _, w0⟩ := DataW.trod_int Try.underlying3 g0
  obtain ⟨y1, k1, l1, e1, i1, _, _, q1⟩ := bytes_of_trod g1
  obtain ⟨n2, e2, _, w2⟩ := DataW.trod_int Try.underlying3 g2
  obtain ⟨y3, k3, l3, e3, i3, q3, b3⟩ := oj_wrs g3
  simp only [List.cons.injEq, and_true] at e0 e1 e2 e3
  subst e0 e1 e2 e3
  simp only [Prod.mk.injEq] at hx
  refine ⟨n0, y1, k1, l1, n2, y3, k3, l3, x0.1, x1.1, x2.1, x3.1, ?_, i1, i3, b3, hx.1, q1, q3⟩
  have : cs = dkA n0 y1 l1.length k1 n2 y3 l3.length k3 := by
    apply Array.toList_inj.1
    rw [hcs]; rfl
  rw [this]
set_option maxRecDepth 100000 in
theorem disk_sized10 {H : Type} {ds : List (DataW H)} {ts : List TypeId} {d0 d1 d2 d3 : DataW H} {j : Nat} (h : (DataW.weightsEach Try.prog ts ds).all (fun x => decide (x ≤ reachBytes)) = true) (ht : ts[j]? = some 25) (hd : ds[j]? = some (.agg [d0, d1, d2, d3])) :
    dlen d1 ≤ 140737488351232 ∧ bdlen d3 * 72 ≤ 140737488351232 := by
  have h2 : (DataW.weightsEach Try.prog [3, 22, 3, 23] [d0, d1, d2, d3]).all (fun x => decide (x ≤ reachBytes)) = true := by
    refine List.all_eq_true.2 fun n hn => List.all_eq_true.1 h n (DataW.weights_mem_each ht hd n ?_)
    simp only [DataW.weights, Try.underlying25]
    exact hn
  exact ⟨bytes_sized (j := 1) h2 rfl rfl, wrs_sized (j := 3) h2 rfl rfl⟩
set_option maxRecDepth 100000 in
theorem disk_bulk10 {H : Type} {d0 d1 d2 d3 : DataW H} : dlen d1 ≤ Rows.uptoBulk (.agg [d0, d1, d2, d3]) ∧ bdlen d3 ≤ Rows.uptoBulk (.agg [d0, d1, d2, d3]) := by
  have h1 := oj_dl d1
  have h3 := oj_bd d3
  simp only [Rows.uptoBulk, Rows.uptoBulkAll]
  exact ⟨by omega, by omega⟩
set_option maxRecDepth 100000 in
theorem open_stop10 {H : Type} {enc : TypeId × Value → H} {w : World} {base b0 : Nat} {spare : Nat → Bool} {held : Bool} {r : Reach} {v : Value} {d : DataW H} {ps : List MemPlace}
    (hval : Value.okWide Try.prog w r b0 47 v) (hd : DataW.Trod enc Try.prog w base spare held 47 v d ps) :
    ∃ (K : Int) (x : Option Addr) (c : Nat) (bs : List Bool), v = .agg (stpA K x bs.length c) ∧ i64w K ∧ IsG w (.slice x bs.length c) (bs.map Value.bool) ∧ bs.length ≤ c := by
  obtain ⟨cs, rfl, _⟩ := okWide_struct Try.underlying47 hval
  obtain ⟨fuel, hf⟩ := hd
  obtain ⟨xs, n, _, hx, hl, hn, hg⟩ := DataW.trod_struct Try.underlying47 hf
  have hl2 : cs.toList.length = 2 := by rw [show (Value.agg cs).cells = cs from rfl] at hl; rw [hl]; kernel_rfl
  have hn2 : xs.length = 2 := hn
  obtain ⟨c0, c1, hcs⟩ : ∃ a b, cs.toList = [a, b] := by
    match hq : cs.toList, hl2 with
    | [a, b], _ => exact ⟨a, b, rfl⟩
  obtain ⟨x0, x1, rfl⟩ : ∃ a b, xs = [a, b] := by
    match xs, hn2 with
    | [a, b], _ => exact ⟨a, b, rfl⟩
  rw [show (Value.agg cs).cells = cs from rfl, hcs] at hg
  have g0 : DataW.trod enc Try.prog w base spare held n 3 [c0] = some x0 := by
    have q : DataW.trod enc Try.prog w base spare held n 3 (List.take (Try.prog.cellsOf 3) (List.drop 0 [c0, c1])) = some x0 := hg 0 _ rfl
    rw [om_cellsInt] at q
    exact q
  have g1 : DataW.trod enc Try.prog w base spare held n 27 [c1] = some x1 := by
    have q : DataW.trod enc Try.prog w base spare held n 27 (List.take (Try.prog.cellsOf 27) (List.drop 1 [c0, c1])) = some x1 := hg 1 _ rfl
    rw [oj_cellsBools] at q
    exact q
  obtain ⟨n0, e0, _, w0⟩ := DataW.trod_int Try.underlying3 g0
  obtain ⟨y1, k1, l1, e1, i1, q1⟩ := oj_bools g1
  simp only [List.cons.injEq, and_true] at e0 e1
  subst e0 e1
  refine ⟨n0, y1, k1, l1, ?_, bounds_i64 w0, i1, q1⟩
  have : cs = stpA n0 y1 l1.length k1 := by
    apply Array.toList_inj.1
    rw [hcs]; rfl
  rw [this]
theorem oj_cellsOp : Try.prog.cellsOf 62 = 68 := by kernel_rfl
theorem opE_ok : opE.Ok where
  len := opE_len
  one o v hv := by
    rw [opE_enc] at hv
    have h := opA_one o.kd o.k o.xl o.nl o.cl o.xs o.ns o.cs o.v
    unfold OneC at h
    exact Array.all_eq_true_iff_forall_mem.1 h v (Array.mem_toList_iff.1 hv)
  und := Try.underlying56
  info := by
    have h : (Try.prog.info? 62).map (fun i => (i.zero, i.size, i.bytes)) = some (some (.agg (opA 0 0 none 0 0 none 0 0 secZ)), 68, 128) := by kernel_rfl
    exact h
  zc := by unfold opE; simp only [Value.cells]; exact opA_size _ _ _ _ _ _ _ _ _
  kp := by rw [opE_k]; omega
  row := ⟨_, Try.underlying62, rfl⟩
theorem opA_list (kd k : Int) (xl : Option Addr) (nl cl : Nat) (xs : Option Addr) (ns cs : Nat) (v : Sc) : (opA kd k xl nl cl xs ns cs v).toList = .int .i64 kd :: .int .i64 k :: .slice xl nl cl :: .slice xs ns cs :: (secA v).toList := by
  unfold opA
  rw [Array.toList_append]
  rfl
set_option maxRecDepth 100000 in
theorem op10_of_trod {H : Type} {enc : TypeId × Value → H} {w : World} {base : Nat} {spare : Nat → Bool} {held : Bool} (fuel : Nat) (cs : List Value) (x : DataW H × List MemPlace)
    (h : DataW.trod enc Try.prog w base spare held fuel opE.T cs = some x) : ∃ o : OpV, cs = opE.enc o ∧ (∃ d0 d1 d2 d3 d4, x.1 = .agg [d0, d1, d2, d3, d4] ∧ (bdlen d2 ≤ 1954687338211 → OpOk w o)) := by
  have h' : DataW.trod enc Try.prog w base spare held fuel 62 cs = some x := h
  obtain ⟨xs, n, _, hx, hl, hn, hg⟩ := DataW.trod_struct Try.underlying62 h'
  have hl68 : cs.length = 68 := by rw [hl]; exact oj_cellsOp
  have hn5 : xs.length = 5 := hn
  obtain ⟨c0, c1, c2, c3, cr, rfl⟩ : ∃ a b c d r, cs = a :: b :: c :: d :: r := by
    match cs, hl68 with
    | a :: b :: c :: d :: r, _ => exact ⟨a, b, c, d, r, rfl⟩
  obtain ⟨x0, x1, x2, x3, x4, rfl⟩ : ∃ a b c d e, xs = [a, b, c, d, e] := by
    match xs, hn5 with
    | [a, b, c, d, e], _ => exact ⟨a, b, c, d, e, rfl⟩
  have hr64 : cr.length = 64 := by simpa using hl68
  have g0 : DataW.trod enc Try.prog w base spare held n 3 [c0] = some x0 := by
    have q : DataW.trod enc Try.prog w base spare held n 3 (List.take (Try.prog.cellsOf 3) (List.drop 0 (c0 :: c1 :: c2 :: c3 :: cr))) = some x0 := hg 0 _ rfl
    rw [om_cellsInt] at q
    exact q
  have g1 : DataW.trod enc Try.prog w base spare held n 3 [c1] = some x1 := by
    have q : DataW.trod enc Try.prog w base spare held n 3 (List.take (Try.prog.cellsOf 3) (List.drop 1 (c0 :: c1 :: c2 :: c3 :: cr))) = some x1 := hg 1 _ rfl
    rw [om_cellsInt] at q
    exact q
  have g2 : DataW.trod enc Try.prog w base spare held n 23 [c2] = some x2 := by
    have q : DataW.trod enc Try.prog w base spare held n 23 (List.take (Try.prog.cellsOf 23) (List.drop 2 (c0 :: c1 :: c2 :: c3 :: cr))) = some x2 := hg 2 _ rfl
    rw [oj_cellsWrs] at q
    exact q
  have g3 : DataW.trod enc Try.prog w base spare held n 27 [c3] = some x3 := by
    have q : DataW.trod enc Try.prog w base spare held n 27 (List.take (Try.prog.cellsOf 27) (List.drop 3 (c0 :: c1 :: c2 :: c3 :: cr))) = some x3 := hg 3 _ rfl
    rw [oj_cellsBools] at q
    exact q
  have g4 : DataW.trod enc Try.prog w base spare held n 44 cr = some x4 := by
    have q : DataW.trod enc Try.prog w base spare held n 44 (List.take (Try.prog.cellsOf 44) (List.drop 4 (c0 :: c1 :: c2 :: c3 :: cr))) = some x4 := hg 4 _ rfl
    rw [cells44, show List.drop 4 (c0 :: c1 :: c2 :: c3 :: cr) = cr from rfl, List.take_of_length_le (by omega)] at q
    exact q
  obtain ⟨n0, e0, _, w0⟩ := DataW.trod_int Try.underlying3 g0
  obtain ⟨n1, e1, _, w1⟩ := DataW.trod_int Try.underlying3 g1
  obtain ⟨y2, k2, l2, e2, i2, q2, b2⟩ := oj_wrs g2
  obtain ⟨y3, k3, l3, e3, i3, q3⟩ := oj_bools g3
  obtain ⟨s, hs⟩ := sec_of_trod g4
  simp only [List.cons.injEq, and_true] at e0 e1 e2 e3
  subst e0 e1 e2 e3
  refine ⟨⟨n0, n1, y2, l2.length, k2, y3, l3.length, k3, s, l2, l3⟩, by rw [opE_enc]; unfold opV; rw [opA_list, hs], x0.1, x1.1, x2.1, x3.1, x4.1, by rw [hx]; rfl, fun hb => ⟨bounds_i64 w1, rfl, Nat.le_trans q2 hb, i2, b2, rfl, q3, i3⟩⟩
theorem oj_bytesOp : Try.prog.bytesOf 62 = 128 := by kernel_rfl
set_option maxRecDepth 100000 in
theorem weights_all {H : Type} {P : Program} {t : TypeId} {z : DataW H} : ∀ {l : List (DataW H)}, z ∈ l → ∀ n ∈ z.weights P t, n ∈ DataW.weightsAll P t l
  | x :: r, h, n, hn => by
    simp only [DataW.weightsAll, List.mem_append]
    rcases List.mem_cons.1 h with rfl | h
    · exact .inl hn
    · exact .inr (weights_all h n hn)
set_option maxRecDepth 100000 in
theorem ops_sized10 {H : Type} {ds : List (DataW H)} {ts : List TypeId} {d : DataW H} {j : Nat} (h : (DataW.weightsEach Try.prog ts ds).all (fun x => decide (x ≤ reachBytes)) = true) (ht : ts[j]? = some 56) (hd : ds[j]? = some d) :
    bdlen d ≤ 1099511627744 ∧ ∀ d0 d1 d2 d3 d4, .agg [d0, d1, d2, d3, d4] ∈ dels d → bdlen d2 ≤ 1954687338211 := by
  cases d with
  | slice el sp =>
    refine ⟨?_, fun d0 d1 d2 d3 d4 hm => ?_⟩
    · have := List.all_eq_true.1 h _ (DataW.weights_mem_each ht hd ((el.length + sp.length) * Try.prog.bytesOf 62) (by
        simp only [DataW.weights, Try.underlying56]
        simp))
      have h2 := of_decide_eq_true this
      rw [oj_bytesOp] at h2
      simp only [reachBytes] at h2
      simp only [bdlen]
      omega
    · have h2 : (DataW.weightsEach Try.prog [3, 3, 23, 27, 44] [d0, d1, d2, d3, d4]).all (fun x => decide (x ≤ reachBytes)) = true := by
        refine List.all_eq_true.2 fun n hn => List.all_eq_true.1 h n (DataW.weights_mem_each ht hd n ?_)
        simp only [DataW.weights, Try.underlying56]
        refine List.mem_cons_of_mem _ (List.mem_append_left _ (weights_all (z := .agg [d0, d1, d2, d3, d4]) hm n ?_))
        simp only [DataW.weights, Try.underlying62]
        exact hn
      have := wrs_sized (j := 2) h2 rfl rfl
      omega
  | _ => exact ⟨by simp [bdlen], fun d0 d1 d2 d3 d4 hm => by simp [dels] at hm⟩
set_option maxRecDepth 100000 in
theorem open_ops10 {H : Type} {enc : TypeId × Value → H} {w : World} {base b0 : Nat} {spare : Nat → Bool} {held : Bool} {r : Reach} {v : Value} {d : DataW H} {ps : List MemPlace}
    (hval : Value.okWide Try.prog w r b0 56 v) (hd : DataW.Trod enc Try.prog w base spare held 56 v d ps) (hb : ∀ d0 d1 d2 d3 d4, .agg [d0, d1, d2, d3, d4] ∈ dels d → bdlen d2 ≤ 1954687338211) :
    ∃ (y : Option Addr) (c : Nat) (os : List OpV), v = .slice y os.length c ∧ IsK opE w (.slice y os.length c) os ∧ os.length ≤ bdlen d ∧ ∀ o ∈ os, OpOk w o := by
  obtain ⟨a, len, cap, rfl⟩ := okWide_slice Try.underlying56 hval
  obtain ⟨fuel, hf⟩ := hd
  obtain ⟨y, c, os, he, h1, h2, h3⟩ := oj_KQ (E := opE) (P := fun o z => ∃ d0 d1 d2 d3 d4, z = .agg [d0, d1, d2, d3, d4] ∧ (bdlen d2 ≤ 1954687338211 → OpOk w o)) opE_ok oj_cellsOp (fun f cs x h => op10_of_trod f cs x h) hf
  simp only [Value.cells, List.cons.injEq, and_true] at he
  exact ⟨y, c, os, he, h1, h2, fun o ho => by
    obtain ⟨z, ⟨d0, d1, d2, d3, d4, rfl, hz⟩, hz2⟩ := h3 o ho
    exact hz (hb d0 d1 d2 d3 d4 hz2)⟩
end Go.Proofs.Ytpckdkgbeemalaa
