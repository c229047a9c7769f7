import Derived.Test.YtadnfiikfhdphaaQDzA
namespace Go.Proofs.Ytadnfiikfhdphaa
open Go.RowKit

/-! The function value: it lays the sector. -/
set_option linter.unusedSimpArgs false in
theorem clo_any (w : World) (B g n c a ga gs : Nat) (s : Sc) (ms : List Sc) (hO : OwnK secE w B (.slice (some ⟨g, 0, none⟩) n c) ms) (ha : a < n) (hga : w.cell? ⟨ga, 0, none⟩ = some (.int .i64 (a : Int))) (hgs : ScR w gs s) :
    Calls Try.prog 37 #[.slice (some ⟨g, 0, none⟩) n c, .pointer (some ⟨gs, 0, none⟩), .pointer (some ⟨ga, 0, none⟩)] w fun e w' => e = .returned (.tuple #[]) ∧ w' = w.setCells g (a * 64) (secA s).toList := by
  have hst := secStore_mid hO a s ha
  obtain ⟨rok, rat⟩ := hgs
  have a0 : (0 : Int) ≤ (a : Int) := by omega
  have a1 : (a : Int) < (n : Int) := by omega
  clear hO
  generalize w.setCells g (a * 64) (secA s).toList = X at hst ⊢
  go_enter Try.func37, Try.ntmps37
  go_wp2
  go_end0
  exact ⟨rfl, rfl⟩
@[go_sem] theorem eqNil_sec (w : World) (a : Option Addr) (n c : Nat) : (binOp .eql 24 (.slice a n c) (.slice none 0 0)).run Try.prog w = .ok (.bool a.isNone) w := Lib.run_eql_slice_nil w _ _ a n c 0 0 Try.underlying24
@[go_sem] theorem eqNil_act (w : World) (a : Option Addr) (n c : Nat) : (binOp .eql 53 (.slice a n c) (.slice none 0 0)).run Try.prog w = .ok (.bool a.isNone) w := Lib.run_eql_slice_nil w _ _ a n c 0 0 Try.underlying53
set_option linter.unusedSimpArgs false in
theorem cloneSec (w : World) (x : Option Addr) (n c : Nat) (ds : List Sc) (hn : ds.length = n) (h : IsK secE w (.slice x n c) ds) (hl : n ≤ 1099511627776) :
    Calls Try.prog 14 #[.slice x n c] w fun e w' => ∃ y c', e = .returned (.slice y n c') ∧ OwnK secE w' w.heap.size (.slice y n c') ds ∧ Below w.heap.size w w' := by
  cases x with
  | none =>
    obtain rfl : ds = [] := by
      cases ds with
      | nil => rfl
      | cons d r => obtain ⟨b, o, hx, -⟩ := h.at 0 d rfl; cases hx
    obtain rfl : n = 0 := by simpa using hn.symm
    have HO : Hid _ := OwnK.nil secE w w.heap.size
    clear h
    go_enter Try.func14, Try.ntmps14
    go_wp2
    go_ret
    exact ⟨none, 0, rfl, HO.out, Below.refl _ _⟩
  | some x =>
    have hb := below_alloc w (.cells #[] 27)
    have hO := OwnK.lit0 secE w
    have hI := h.kept hb
    rw [← hn] at hI
    obtain ⟨y, c', w1, hr, hO1, hB1⟩ := run_copyK secE_ok (w.alloc (.cells #[] 27)) _ (some x) c ds w.heap.size 24 hO (by simp) hI (by show ds.length * 64 ≤ _; omega) (by unfold maxLen; omega)
    have hS : secE.S = 24 := rfl
    rw [hS, hn] at hr
    rw [hn] at hO1
    have HO : Hid _ := hO1
    have HB : Hid (Below w.heap.size w w1) := hb.trans hB1
    clear hO hI hO1 hB1 hb h
    go_enter Try.func14, Try.ntmps14
    go_wp2_with (at_builtin; refine wpL_appT 24 rfl _ _ rfl _ w1 (by exact hr) ?_)
    go_ret
    exact ⟨y, c', rfl, HO.out, HB.out⟩
set_option linter.unusedSimpArgs false in
theorem cloneAct (w : World) (x : Option Addr) (n c : Nat) (ds : List Ac) (hn : ds.length = n) (h : IsK actE w (.slice x n c) ds) (hl : n ≤ 1099511627776) :
    Calls Try.prog 33 #[.slice x n c] w fun e w' => ∃ y c', e = .returned (.slice y n c') ∧ OwnK actE w' w.heap.size (.slice y n c') ds ∧ Below w.heap.size w w' := by
  cases x with
  | none =>
    obtain rfl : ds = [] := by
      cases ds with
      | nil => rfl
      | cons d r => obtain ⟨b, o, hx, -⟩ := h.at 0 d rfl; cases hx
    obtain rfl : n = 0 := by simpa using hn.symm
    have HO : Hid _ := OwnK.nil actE w w.heap.size
    clear h
    go_enter Try.func33, Try.ntmps33
    go_wp2
    go_ret
    exact ⟨none, 0, rfl, HO.out, Below.refl _ _⟩
  | some x =>
    have hb := below_alloc w (.cells #[] 80)
    have hO := OwnK.lit0 actE w
    have hI := h.kept hb
    rw [← hn] at hI
    obtain ⟨y, c', w1, hr, hO1, hB1⟩ := run_copyK actE_ok (w.alloc (.cells #[] 80)) _ (some x) c ds w.heap.size 53 hO (by simp) hI (by show ds.length * 80 ≤ _; omega) (by unfold maxLen; omega)
    have hS : actE.S = 53 := rfl
    rw [hS, hn] at hr
    rw [hn] at hO1
    have HO : Hid _ := hO1
    have HB : Hid (Below w.heap.size w w1) := hb.trans hB1
    clear hO hI hO1 hB1 hb h
    go_enter Try.func33, Try.ntmps33
    go_wp2_with (at_builtin; refine wpL_appT 53 rfl _ _ rfl _ w1 (by exact hr) ?_)
    go_ret
    exact ⟨y, c', rfl, HO.out, HB.out⟩
/-! The device: its row, and what it is -/
def devA (vl vp : Value) (sp : Int) (st : DSt) : Array Value := #[vl, vp, .bool st.down, .int .i64 sp, .int .i64 (st.rd : Int), .int .i64 (st.wt : Int), .int .i64 (st.fl : Int)]
def DevRow (w : World) (r : Nat) (vl vp : Value) (sp : Int) (st : DSt) : Prop := w.heap[r]? = some (.cells (devA vl vp sp st) 55 (0, 0))
section
variable {w w' : World} {r : Nat} {vl vp : Value} {sp : Int} {st : DSt}
theorem DevRow.lt (h : DevRow w r vl vp sp st) : r < w.heap.size := (Array.getElem?_eq_some_iff.1 h).1
theorem DevRow.cells (h : DevRow w r vl vp sp st) :
    w.cell? ⟨r, 0, none⟩ = some vl ∧ w.cell? ⟨r, 1, none⟩ = some vp ∧ w.cell? ⟨r, 2, none⟩ = some (.bool st.down) ∧ w.cell? ⟨r, 3, none⟩ = some (.int .i64 sp) ∧ w.cell? ⟨r, 4, none⟩ = some (.int .i64 (st.rd : Int)) ∧ w.cell? ⟨r, 5, none⟩ = some (.int .i64 (st.wt : Int)) ∧ w.cell? ⟨r, 6, none⟩ = some (.int .i64 (st.fl : Int)) := by
  unfold DevRow at h
  unfold World.cell?
  simp only [h]
  exact ⟨rfl, rfl, rfl, rfl, rfl, rfl, rfl⟩
theorem DevRow.frozen (h : DevRow w r vl vp sp st) (i : Nat) : w.frozen? ⟨r, i, none⟩ = false := by
  unfold DevRow at h
  simp [World.frozen?, h]
theorem DevRow.kept (h : DevRow w r vl vp sp st) (hb : w'.heap[r]? = w.heap[r]?) : DevRow w' r vl vp sp st := by
  unfold DevRow at *; rw [hb]; exact h
theorem DevRow.set {vl' vp' : Value} {sp' : Int} {st' : DSt} (h : DevRow w r vl vp sp st) (i : Nat) (v : Value) (e : (devA vl vp sp st).setIfInBounds i v = devA vl' vp' sp' st') : DevRow (w.setCell ⟨r, i, none⟩ v) r vl' vp' sp' st' := by
  unfold DevRow at *
  rw [heap_setCell w r i v _ _ _ h, e]
end
/-- Where an act's place and sector lie. -/
def Boxed (w : World) (y : Ac) : Prop := w.cell? ⟨y.2.1, 0, none⟩ = some (.int .i64 y.1.1) ∧ ScR w y.2.2 y.1.2
structure DevP (w : World) (r : Nat) (vl vp : Value) (ps : List Ac) (sp : Int) (st : DSt) (F R : List Nat) : Prop where
  row : DevRow w r vl vp sp st
  last : OwnK secE w 0 vl st.last
  pend : OwnK actE w 0 vp ps
  eqp : ps.map (·.1) = st.pend
  s0 : -9223372036854775808 ≤ sp
  s1 : sp ≤ 9223372036854775807
  left : st.left = if sp < 0 then -1 else sp
  rF : r ∈ F
  lF : ∀ q, vl.ownBlock = some q → q ∈ F ∧ q ≠ r ∧ vp.ownBlock ≠ some q
  pF : ∀ q, vp.ownBlock = some q → q ∈ F ∧ q ≠ r
  sub : ∀ q ∈ F, q ∈ R
  lt : ∀ q ∈ R, q < w.heap.size
  box : ∀ y ∈ ps, Boxed w y ∧ y.2.1 ∈ R ∧ y.2.1 ∉ F ∧ y.2.2 ∈ R ∧ y.2.2 ∉ F
  ok : StOk st
def DevIs (w : World) (d : Value) (st : DSt) (F R : List Nat) : Prop := ∃ r vl vp ps sp, d = .pointer (some ⟨r, 0, none⟩) ∧ DevP w r vl vp ps sp st F R
theorem cell_block {w w' : World} {b i : Nat} (h : w'.heap[b]? = w.heap[b]?) : w'.cell? ⟨b, i, none⟩ = w.cell? ⟨b, i, none⟩ := by unfold World.cell?; rw [h]
theorem ScR.blk {w w' : World} {g : Nat} {s : Sc} (h : ScR w g s) (hb : w'.heap[g]? = w.heap[g]?) : ScR w' g s := by
  unfold ScR rowOk rowAt at *
  rw [hb]; exact h
theorem Boxed.keeps {w w' : World} {y : Ac} {G : List Nat} (h : Boxed w y) (hK : Keep G w w') (h1 : y.2.1 ∉ G) (h2 : y.2.2 ∉ G) : Boxed w' y :=
  ⟨by rw [cell_block (hK.block _ (World.block_lt_of_cell? w _ h.1) h1)]; exact h.1, h.2.blk (hK.block _ h.2.lt h2)⟩
section
variable {w w' : World} {r : Nat} {vl vp : Value} {ps : List Ac} {sp : Int} {st : DSt} {F R G : List Nat}
theorem DevP.keeps (h : DevP w r vl vp ps sp st F R) (hK : Keep G w w') (hd : ∀ q ∈ R, q ∉ G) : DevP w' r vl vp ps sp st F R where
  row := h.row.kept (hK.block r h.row.lt (hd r (h.sub r h.rF)))
  last := h.last.keeps hK (fun q hq => hd q (h.sub q (h.lF q hq).1))
  pend := h.pend.keeps hK (fun q hq => hd q (h.sub q (h.pF q hq).1))
  eqp := h.eqp
  s0 := h.s0
  s1 := h.s1
  left := h.left
  rF := h.rF
  lF := h.lF
  pF := h.pF
  sub := h.sub
  lt := fun q hq => Nat.lt_of_lt_of_le (h.lt q hq) hK.size
  box := fun y hy => ⟨(h.box y hy).1.keeps hK (hd _ (h.box y hy).2.1) (hd _ (h.box y hy).2.2.2.1), (h.box y hy).2⟩
  ok := h.ok
/-- The row alone has turned. -/
theorem DevP.turned {st' : DSt} {sp' : Int} (h : DevP w r vl vp ps sp st F R) (hg : w.grownBy w' (some r)) (hr : DevRow w' r vl vp sp' st') (e1 : st'.last = st.last) (e2 : st'.pend = st.pend) (h0 : -9223372036854775808 ≤ sp') (h1 : sp' ≤ 9223372036854775807) (hl : st'.left = if sp' < 0 then -1 else sp') (hrn : ∀ y ∈ ps, y.2.1 ≠ r ∧ y.2.2 ≠ r) : DevP w' r vl vp ps sp' st' F R := by
  have hK : Keep [r] w w' := Keep.of_grown hg (fun q hq => by cases hq; simp)
  exact { row := hr, last := by rw [e1]; exact h.last.keeps hK (fun q hq => by simpa using (h.lF q hq).2.1), pend := h.pend.keeps hK (fun q hq => by simpa using (h.pF q hq).2), eqp := by rw [e2]; exact h.eqp, s0 := h0, s1 := h1, left := hl, rF := h.rF, lF := h.lF, pF := h.pF, sub := h.sub,
          lt := fun q hq => Nat.lt_of_lt_of_le (h.lt q hq) hg.size, box := fun y hy => ⟨(h.box y hy).1.keeps hK (by simpa using (hrn y hy).1) (by simpa using (hrn y hy).2), (h.box y hy).2⟩,
          ok := ⟨by rw [e1, e2]; exact h.ok.at_, by rw [e1]; exact h.ok.lo, by rw [e1]; exact h.ok.hi, by rw [hl]; split <;> omega, by rw [hl]; split <;> omega⟩ }
theorem DevP.apart (h : DevP w r vl vp ps sp st F R) : ∀ y ∈ ps, y.2.1 ≠ r ∧ y.2.2 ≠ r := fun y hy => ⟨fun e => (h.box y hy).2.2.1 (by rw [e]; exact h.rF), fun e => (h.box y hy).2.2.2.2 (by rw [e]; exact h.rF)⟩
theorem DevP.keepF (h : DevP w r vl vp ps sp st F R) (hg : w.grownBy w' (some r)) : Keep F w w' := (Keep.of_grown hg (F := [r]) (fun q hq => by cases hq; simp)).mono (fun q hq => .inl (by simp only [List.mem_singleton] at hq; subst hq; exact h.rF))
end
/-! The easy calls -/
set_option linter.unusedSimpArgs false in
theorem devN (w : World) (d : Value) (st : DSt) (F R : List Nat) (h : DevIs w d st F R) : Calls Try.prog 15 #[d] w fun e w' => e = .returned (.int .i64 (st.last.length : Int)) ∧ Below w.heap.size w w' := by
  obtain ⟨r, vl, vp, ps, sp, rfl, h⟩ := h
  obtain ⟨x, c, rfl⟩ := (h.last.isK secE_ok).len
  obtain ⟨c0, -⟩ := h.row.cells
  generalize st.last.length = n at c0 ⊢
  clear h
  go_enter Try.func15, Try.ntmps15
  go_wp2
  go_ret
  exact ⟨rfl, Below.refl _ _⟩
set_option linter.unusedSimpArgs false in
theorem devDown (w : World) (d : Value) (st : DSt) (F R : List Nat) (h : DevIs w d st F R) : Calls Try.prog 24 #[d] w fun e w' => e = .returned (.bool st.down) ∧ Below w.heap.size w w' := by
  obtain ⟨r, vl, vp, ps, sp, rfl, h⟩ := h
  obtain ⟨-, -, c2, -⟩ := h.row.cells
  generalize st.down = b at c2 ⊢
  clear h
  go_enter Try.func24, Try.ntmps24
  go_wp2
  go_ret
  exact ⟨rfl, Below.refl _ _⟩
set_option linter.unusedSimpArgs false in
theorem devStop (w : World) (d : Value) (st : DSt) (F R : List Nat) (k : Int) (h : DevIs w d st F R) (h0 : -9223372036854775808 ≤ k) (h1 : k ≤ 9223372036854775807) :
    Calls Try.prog 21 #[d, .int .i64 k] w fun e w' => e = .returned (.tuple #[]) ∧ ∃ F' R', DevIs w' d (stSt st k) F' R' ∧ (∀ q ∈ F', q ∈ F ∨ w.heap.size ≤ q) ∧ (∀ q ∈ R', q ∈ R ∨ w.heap.size ≤ q) ∧ Keep F w w' := by
  obtain ⟨r, vl, vp, ps, sp, rfl, h⟩ := h
  obtain ⟨-, -, -, c3, -⟩ := h.row.cells
  have f3 := h.row.frozen 3
  have hr : DevRow (w.setCell ⟨r, 3, none⟩ (.int .i64 k)) r vl vp k (stSt st k) := h.row.set 3 _ rfl
  have HF : Hid _ := h.turned (st' := stSt st k) (grown_cell w r 3 (.int .i64 k)) hr rfl rfl h0 h1 rfl h.apart
  have HK : Hid _ := h.keepF (grown_cell w r 3 (.int .i64 k))
  clear h hr
  go_enter Try.func21, Try.ntmps21
  go_wp2
  go_end0
  exact ⟨rfl, F, R, ⟨r, vl, vp, ps, k, rfl, HF.out⟩, fun q hq => .inl hq, fun q hq => .inl hq, HK.out⟩
end Go.Proofs.Ytadnfiikfhdphaa
