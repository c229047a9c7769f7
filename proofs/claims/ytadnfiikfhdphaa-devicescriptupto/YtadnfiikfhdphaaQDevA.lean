import Derived.Test.YtadnfiikfhdphaaQDev8
namespace Go.Proofs.Ytadnfiikfhdphaa
open Go.RowKit

/-! One device, and blocks that are none of its -/
def sec9 : Sc := upd secZ 0 9
def secBuild1 (x : Value) : Sem Next := do pure (.value (← Instr.build 27 #[(0, x)]))
section
variable (ρ : Operand → Value) (dst : Option Tmp) (ty : TypeId) (pos : String) (after : Array Edge) (guard : Option (Nat × Bool))
@[go_sem ↓] theorem execOp_secBuild1 (x : Operand) : execOp ρ { dst, op := .build 27 #[(0, x)], type := ty, pos, after, guard } = secBuild1 (ρ x) := by simp [execOp, secBuild1]
end
@[go_sem] theorem run_secBuild9 (w : World) : (secBuild1 (.int .u8 9)).run Try.prog w = .ok (.value (.agg (secA sec9))) w := by
  simp only [secBuild1, Sem.run_bind]
  rw [run_build w 27 _ (secA sec9) (by kernel_rfl)]
  rfl
def Hold (A : List Nat) (w w' : World) : Prop := w.heap.size ≤ w'.heap.size ∧ ∀ g ∈ A, w'.heap[g]? = w.heap[g]?
theorem ScR.held {w w' : World} {A : List Nat} {g : Nat} {s : Sc} (h : ScR w g s) (hA : Hold A w w') (hg : g ∈ A) : ScR w' g s := by
  unfold ScR rowOk rowAt at *
  rw [hA.2 g hg]; exact h
theorem OwnK.held {α : Type} {E : EK α} {A : List Nat} {w w' : World} {B : Nat} {v : Value} {ds : List α} (h : OwnK E w B v ds) (hA : Hold A w w') (hq : ∀ q, v.ownBlock = some q → q ∈ A) : OwnK E w' B v ds := by
  refine ⟨h.1, ?_⟩
  rcases h.2 with hn | ⟨g, cap, cur, rfl, hb, hg, rest⟩
  · exact .inl hn
  · refine .inr ⟨g, cap, cur, rfl, hb, ?_, rest⟩
    rw [hA.2 g (hq g rfl)]
    exact hg
section
variable {DevIs : World → Value → DSt → List Nat → List Nat → Prop}
/-- A device that was made since w0, and reads none of the blocks A. -/
def DevAt (DevIs : World → Value → DSt → List Nat → List Nat → Prop) (B : Nat) (w0 : World) (A : List Nat) (w : World) (d : Value) (st : DSt) : Prop :=
  ∃ F R, DevIs w d st F R ∧ (∀ q ∈ R, B ≤ q ∧ q ∉ A) ∧ (∀ q ∈ A, q < w.heap.size) ∧ Below B w0 w ∧ B ≤ w.heap.size
variable {B : Nat} {w0 w : World} {A : List Nat} {d : Value} {st : DSt}
theorem DevAt.below (h : DevAt DevIs B w0 A w d st) : Below B w0 w := by obtain ⟨F, R, h1, h2, h3, h4, h5⟩ := h; exact h4
theorem DevAt.size (h : DevAt DevIs B w0 A w d st) : B ≤ w.heap.size := by obtain ⟨F, R, h1, h2, h3, h4, h5⟩ := h; exact h5
theorem DevAt.ok (O : DevOk DevIs) (h : DevAt DevIs B w0 A w d st) : StOk st := by obtain ⟨F, R, h1, h2⟩ := h; exact O.ok h1
theorem DevAt.later (O : DevOk DevIs) (h : DevAt DevIs B w0 A w d st) {w' : World} (hb : Below w.heap.size w w') : DevAt DevIs B w0 A w' d st := by
  obtain ⟨F, R, h1, h2, h3, h4, h5⟩ := h
  exact ⟨F, R, O.later h1 hb, h2, fun q hq => Nat.lt_of_lt_of_le (h3 q hq) hb.size, h4.trans (hb.mono h5), Nat.le_trans h5 hb.size⟩
/-- A block that is new, and one that the device doesn't read. -/
theorem DevAt.add (O : DevOk DevIs) (h : DevAt DevIs B w0 A w d st) {w' : World} (hb : Below w.heap.size w w') (g : Nat) (hg : w.heap.size ≤ g) (hl : g < w'.heap.size) : DevAt DevIs B w0 (g :: A) w' d st := by
  obtain ⟨F, R, h1, h2, h3, h4, h5⟩ := h
  refine ⟨F, R, O.later h1 hb, fun q hq => ⟨(h2 q hq).1, fun hm => ?_⟩, fun q hq => ?_, h4.trans (hb.mono h5), Nat.le_trans h5 hb.size⟩
  · rcases List.mem_cons.1 hm with rfl | hm
    · have := O.lt h1 q hq; omega
    · exact (h2 q hq).2 hm
  · rcases List.mem_cons.1 hq with rfl | hq
    · exact hl
    · exact Nat.lt_of_lt_of_le (h3 q hq) hb.size
theorem DevAt.drop (h : DevAt DevIs B w0 A w d st) {A' : List Nat} (hA : ∀ q ∈ A', q ∈ A) : DevAt DevIs B w0 A' w d st := by
  obtain ⟨F, R, h1, h2, h3, h4, h5⟩ := h
  exact ⟨F, R, h1, fun q hq => ⟨(h2 q hq).1, fun hm => (h2 q hq).2 (hA q hm)⟩, fun q hq => h3 q (hA q hq), h4, h5⟩
/-- What the blocks A alone have turned into leaves the device as it is. -/
theorem DevAt.aside (O : DevOk DevIs) (h : DevAt DevIs B w0 A w d st) {w' : World} (hk : Keep A w w') (hA : ∀ q ∈ A, B ≤ q) : DevAt DevIs B w0 A w' d st := by
  obtain ⟨F, R, h1, h2, h3, h4, h5⟩ := h
  exact ⟨F, R, O.keeps h1 hk (fun q hq => (h2 q hq).2), h2, fun q hq => Nat.lt_of_lt_of_le (h3 q hq) hk.size, h4.trans (hk.below hA h5), Nat.le_trans h5 hk.size⟩
theorem dev_turn (O : DevOk DevIs) {w' : World} {st' : DSt} {F R F' R' : List Nat} (h1 : DevIs w d st F R) (h2 : ∀ q ∈ R, B ≤ q ∧ q ∉ A) (h3 : ∀ q ∈ A, q < w.heap.size) (h4 : Below B w0 w) (h5 : B ≤ w.heap.size)
    (k1 : DevIs w' d st' F' R') (k3 : ∀ q ∈ R', q ∈ R ∨ w.heap.size ≤ q) (k4 : Keep F w w') : DevAt DevIs B w0 A w' d st' ∧ Hold A w w' := by
  have hs := O.sub h1
  refine ⟨⟨F', R', k1, fun q hq => ?_, fun q hq => Nat.lt_of_lt_of_le (h3 q hq) k4.size, h4.trans (k4.below (fun q hq => (h2 q (hs q hq)).1) h5), Nat.le_trans h5 k4.size⟩, k4.size, fun g hg => k4.block g (h3 g hg) fun hm => (h2 g (hs g hm)).2 hg⟩
  rcases k3 q hq with h | h
  · exact h2 q h
  · exact ⟨by omega, fun hm => by have := h3 q hm; omega⟩
theorem DevAt.write (O : DevOk DevIs) (h : DevAt DevIs B w0 A w d st) (a : Int) (s : Sc) (hp : st.pend.length ≤ 1099511627776) (hw : st.wt < 4611686018427387904) (ha : -9223372036854775808 ≤ a) (ha' : a ≤ 9223372036854775807) :
    Calls Try.prog 16 #[d, .int .i64 a, .agg (secA s)] w fun e w' => e = .returned (.int .i64 (wrRes st a)) ∧ DevAt DevIs B w0 A w' d (wrSt st a s) ∧ Hold A w w' := by
  obtain ⟨F, R, h1, h2, h3, h4, h5⟩ := h
  refine (O.write w d st F R a s h1 hp hw ha ha').mono ?_
  rintro e w' ⟨he, ⟨F', R', k1, -, k3, k4⟩, -⟩
  exact ⟨he, dev_turn O h1 h2 h3 h4 h5 k1 k3 k4⟩
theorem DevAt.flush (O : DevOk DevIs) (h : DevAt DevIs B w0 A w d st) (hp : st.pend.length ≤ 1099511627776) (hw : st.fl < 4611686018427387904) :
    Calls Try.prog 20 #[d] w fun e w' => e = .returned (.int .i64 (flRes st)) ∧ DevAt DevIs B w0 A w' d (flSt st) ∧ Hold A w w' := by
  obtain ⟨F, R, h1, h2, h3, h4, h5⟩ := h
  refine (O.flush w d st F R h1 hp hw).mono ?_
  rintro e w' ⟨he, F', R', k1, -, k3, k4⟩
  exact ⟨he, dev_turn O h1 h2 h3 h4 h5 k1 k3 k4⟩
theorem DevAt.read (O : DevOk DevIs) (h : DevAt DevIs B w0 A w d st) (a : Int) (hp : st.pend.length ≤ 1099511627776) (hw : st.rd < 4611686018427387904) (ha : -9223372036854775808 ≤ a) (ha' : a ≤ 9223372036854775807) :
    Calls Try.prog 19 #[d, .int .i64 a] w fun e w' => e = .returned (.tuple #[.agg (secA (rdSec st a)), .int .i64 (rdRes st a)]) ∧ DevAt DevIs B w0 A w' d (rdSt st a) ∧ Hold A w w' := by
  obtain ⟨F, R, h1, h2, h3, h4, h5⟩ := h
  refine (O.read w d st F R a h1 hp hw ha ha').mono ?_
  rintro e w' ⟨he, F', R', k1, -, k3, k4⟩
  exact ⟨he, dev_turn O h1 h2 h3 h4 h5 k1 k3 k4⟩
theorem DevAt.stop (O : DevOk DevIs) (h : DevAt DevIs B w0 A w d st) (k : Int) (ha : -9223372036854775808 ≤ k) (ha' : k ≤ 9223372036854775807) :
    Calls Try.prog 21 #[d, .int .i64 k] w fun e w' => e = .returned (.tuple #[]) ∧ DevAt DevIs B w0 A w' d (stSt st k) ∧ Hold A w w' := by
  obtain ⟨F, R, h1, h2, h3, h4, h5⟩ := h
  refine (O.stop w d st F R k h1 ha ha').mono ?_
  rintro e w' ⟨he, F', R', k1, -, k3, k4⟩
  exact ⟨he, dev_turn O h1 h2 h3 h4 h5 k1 k3 k4⟩
theorem DevAt.restart (O : DevOk DevIs) (h : DevAt DevIs B w0 A w d st) (xb : Option Addr) (nb cb : Nat) (bs : List Bool) (hp : st.pend.length ≤ 1099511627776) (hl : bs.length = nb) (hc : nb ≤ cb) (hG : IsG w (.slice xb nb cb) (bs.map Value.bool)) (hx : ∀ x, xb = some x → x.block ∈ A) :
    Calls Try.prog 22 #[d, .slice xb nb cb] w fun e w' => e = .returned (.tuple #[]) ∧ DevAt DevIs B w0 A w' d (reSt st bs) ∧ Hold A w w' := by
  obtain ⟨F, R, h1, h2, h3, h4, h5⟩ := h
  refine (O.restart w d st F R xb nb cb bs h1 hp hl hc hG (fun x hxx hF => (h2 _ (O.sub h1 _ hF)).2 (hx x hxx))).mono ?_
  rintro e w' ⟨he, F', R', k1, -, k3, k4⟩
  exact ⟨he, dev_turn O h1 h2 h3 h4 h5 k1 k3 k4⟩
theorem DevAt.n (O : DevOk DevIs) (h : DevAt DevIs B w0 A w d st) : Calls Try.prog 15 #[d] w fun e w' => e = .returned (.int .i64 (st.last.length : Int)) ∧ Below w.heap.size w w' := by
  obtain ⟨F, R, h1, -⟩ := h
  exact O.n w d st F R h1
theorem DevAt.down (O : DevOk DevIs) (h : DevAt DevIs B w0 A w d st) : Calls Try.prog 24 #[d] w fun e w' => e = .returned (.bool st.down) ∧ Below w.heap.size w w' := by
  obtain ⟨F, R, h1, -⟩ := h
  exact O.down w d st F R h1
theorem DevAt.acts (O : DevOk DevIs) (h : DevAt DevIs B w0 A w d st) : Calls Try.prog 23 #[d] w fun e w' => e = .returned (.tuple #[.int .i64 (st.rd : Int), .int .i64 (st.wt : Int), .int .i64 (st.fl : Int)]) ∧ Below w.heap.size w w' := by
  obtain ⟨F, R, h1, -⟩ := h
  exact O.acts w d st F R h1
theorem DevAt.sectors (O : DevOk DevIs) (h : DevAt DevIs B w0 A w d st) (hp : st.pend.length ≤ 1099511627776) (n : Nat) (hn : st.last.length = n) : Calls Try.prog 25 #[d] w fun e w' => ∃ y c, e = .returned (.slice y n c) ∧ OwnK secE w' w.heap.size (.slice y n c) (over st.last st.pend) ∧ Below w.heap.size w w' := by
  obtain ⟨F, R, h1, -⟩ := h
  subst hn
  exact O.sectors w d st F R h1 hp
theorem DevAt.durable (O : DevOk DevIs) (h : DevAt DevIs B w0 A w d st) (n : Nat) (hn : st.last.length = n) : Calls Try.prog 18 #[d] w fun e w' => ∃ y c, e = .returned (.slice y n c) ∧ OwnK secE w' w.heap.size (.slice y n c) st.last ∧ Below w.heap.size w w' := by
  obtain ⟨F, R, h1, -⟩ := h
  subst hn
  exact O.durable w d st F R h1
theorem DevAt.pending (O : DevOk DevIs) (h : DevAt DevIs B w0 A w d st) (hp : st.pend.length ≤ 1099511627776) (n : Nat) (hn : st.pend.length = n) : Calls Try.prog 17 #[d] w fun e w' => ∃ y c, e = .returned (.slice y n c) ∧ OwnK wrE w' w.heap.size (.slice y n c) st.pend ∧ Below w.heap.size w w' := by
  obtain ⟨F, R, h1, -⟩ := h
  subst hn
  exact O.pending w d st F R h1 hp
theorem DevOk.made (O : DevOk DevIs) (w : World) (x : Option Addr) (n c : Nat) (ss : List Sc) (hn : ss.length = n) (hK : IsK secE w (.slice x n c) ss) (h1 : 64 ≤ n) (h2 : n ≤ 1024) :
    Calls Try.prog 5 #[.slice x n c] w fun e w' => ∃ a, e = .returned (.tuple #[.pointer (some a), .int .i64 0]) ∧ DevAt DevIs w.heap.size w [] w' (.pointer (some a)) (newS ss) := by
  refine (O.new w x n c ss hn hK (by omega)).mono ?_
  rintro e w' ⟨hB, ⟨-, -, d, F, R, rfl, hD, hR⟩ | ⟨h, -⟩⟩
  · obtain ⟨a, rfl⟩ := O.ptr hD
    exact ⟨a, rfl, F, R, hD, fun q hq => ⟨hR q hq, by simp⟩, fun q hq => by simp at hq, hB, hB.size⟩
  · exact absurd ⟨h1, h2⟩ h
/-- The device is older than w0 as a start of Below: the start is moved back. -/
theorem DevAt.since {B' : Nat} {v0 : World} (h : DevAt DevIs B w0 A w d st) (hb : Below B' v0 w0) (hB : B' ≤ B) : DevAt DevIs B' v0 A w d st := by
  obtain ⟨F, R, h1, h2, h3, h4, h5⟩ := h
  exact ⟨F, R, h1, fun q hq => ⟨by have := (h2 q hq).1; omega, (h2 q hq).2⟩, h3, hb.trans (h4.mono hB), by omega⟩
end
end Go.Proofs.Ytadnfiikfhdphaa
