import Derived.Test.YtpckdkgbeemalaaQJouM
import Derived.Test.YtpckdkgbeemalaaQMar1
import Derived.Test.YtpckdkgbeemalaaQGenA
namespace Go.Proofs.Ytpckdkgbeemalaa
open Go.RowKit

/-! What a device owes (as in Dev8, without Copy), and what the journal owes on it. -/
structure DvOk (DevIs : World → Value → DSt → List Nat → List Nat → Prop) : Prop where
  keeps : ∀ {w w' d st F R G}, DevIs w d st F R → Keep G w w' → (∀ q ∈ R, q ∉ G) → DevIs w' d st F R
  sub : ∀ {w d st F R}, DevIs w d st F R → ∀ q ∈ F, q ∈ R
  lt : ∀ {w d st F R}, DevIs w d st F R → ∀ q ∈ R, q < w.heap.size
  ok : ∀ {w d st F R}, DevIs w d st F R → StOk st
  ptr : ∀ {w d st F R}, DevIs w d st F R → ∃ a, d = .pointer (some a)
  new : ∀ w x n c ss, ss.length = n → IsK secE w (.slice x n c) ss → n ≤ 2000 →
    Calls Try.prog 6 #[.slice x n c] w fun e w' => Below w.heap.size w w' ∧ ((64 ≤ n ∧ n ≤ 1024 ∧ ∃ d F R, e = .returned (.tuple #[d, .int .i64 0]) ∧ DevIs w' d (newS ss) F R ∧ ∀ q ∈ R, w.heap.size ≤ q) ∨ (¬ (64 ≤ n ∧ n ≤ 1024) ∧ e = .returned (.tuple #[.pointer none, .int .i64 22])))
  acts : ∀ w d st F R, DevIs w d st F R → Calls Try.prog 15 #[d] w fun e w' => e = .returned (.tuple #[.int .i64 (st.rd : Int), .int .i64 (st.wt : Int), .int .i64 (st.fl : Int)]) ∧ Below w.heap.size w w'
  down : ∀ w d st F R, DevIs w d st F R → Calls Try.prog 50 #[d] w fun e w' => e = .returned (.bool st.down) ∧ Below w.heap.size w w'
  write : ∀ w d st F R (a : Int) (s : Sc), DevIs w d st F R → st.pend.length ≤ 1099511627776 → st.wt < 4611686018427387904 → -9223372036854775808 ≤ a → a ≤ 9223372036854775807 →
    Calls Try.prog 48 #[d, .int .i64 a, .agg (secA s)] w fun e w' => e = .returned (.int .i64 (wrRes st a)) ∧ (∃ F' R', DevIs w' d (wrSt st a s) F' R' ∧ (∀ q ∈ F', q ∈ F ∨ w.heap.size ≤ q) ∧ (∀ q ∈ R', q ∈ R ∨ w.heap.size ≤ q) ∧ Keep F w w') ∧ (wrRes st a = 20 → Below w.heap.size w w')
  stop : ∀ w d st F R (k : Int), DevIs w d st F R → -9223372036854775808 ≤ k → k ≤ 9223372036854775807 →
    Calls Try.prog 9 #[d, .int .i64 k] w fun e w' => e = .returned (.tuple #[]) ∧ ∃ F' R', DevIs w' d (stSt st k) F' R' ∧ (∀ q ∈ F', q ∈ F ∨ w.heap.size ≤ q) ∧ (∀ q ∈ R', q ∈ R ∨ w.heap.size ≤ q) ∧ Keep F w w'
  restart : ∀ w d st F R xb nb cb (bs : List Bool), DevIs w d st F R → st.pend.length ≤ 1099511627776 → bs.length = nb → nb ≤ cb → IsG w (.slice xb nb cb) (bs.map Value.bool) → (bs ≠ [] → ∀ x, xb = some x → x.block ∉ F) →
    Calls Try.prog 11 #[d, .slice xb nb cb] w fun e w' => e = .returned (.tuple #[]) ∧ ∃ F' R', DevIs w' d (reSt st bs) F' R' ∧ (∀ q ∈ F', q ∈ F ∨ w.heap.size ≤ q) ∧ (∀ q ∈ R', q ∈ R ∨ w.heap.size ≤ q) ∧ Keep F w w'
  sectors : ∀ w d st F R, DevIs w d st F R → st.pend.length ≤ 1099511627776 →
    Calls Try.prog 19 #[d] w fun e w' => ∃ y c, e = .returned (.slice y st.last.length c) ∧ OwnK secE w' w.heap.size (.slice y st.last.length c) (over st.last st.pend) ∧ Below w.heap.size w w'
  durable : ∀ w d st F R, DevIs w d st F R →
    Calls Try.prog 13 #[d] w fun e w' => ∃ y c, e = .returned (.slice y st.last.length c) ∧ OwnK secE w' w.heap.size (.slice y st.last.length c) st.last ∧ Below w.heap.size w w'
  pending : ∀ w d st F R, DevIs w d st F R → st.pend.length ≤ 1099511627776 →
    Calls Try.prog 14 #[d] w fun e w' => ∃ y c, e = .returned (.slice y st.pend.length c) ∧ OwnK wrE w' w.heap.size (.slice y st.pend.length c) st.pend ∧ Below w.heap.size w w'
/-- A state whose numbers are far from their ends. -/
structure StSm (st : DSt) : Prop where
  pend : st.pend.length ≤ 1099511627766
  rd : st.rd ≤ 2305843009213693952
  wt : st.wt ≤ 2305843009213693952
  fl : st.fl ≤ 2305843009213693952
structure JOk (DevIs : World → Value → DSt → List Nat → List Nat → Prop) : Prop where
  do_ : ∀ w d st F R x L c (l : List Wr), DevIs w d st F R → StSm st → l.length = L → L ≤ 2199023255552 → IsK wrE w (.slice x L c) l → (∀ a, x = some a → a.block ∉ F) → WrB l →
    Calls Try.prog 17 #[d, .slice x L c] w fun e w' => e = .returned (.int .i64 (doR st l)) ∧ ∃ F' R', DevIs w' d (doS st l) F' R' ∧ (∀ q ∈ F', q ∈ F ∨ w.heap.size ≤ q) ∧ (∀ q ∈ R', q ∈ R ∨ w.heap.size ≤ q) ∧ Keep F w w'
  replay : ∀ w d st F R, DevIs w d st F R → StSm st →
    Calls Try.prog 10 #[d] w fun e w' => e = .returned (.tuple #[.int .i64 (repK st), .int .i64 (repE st)]) ∧ ∃ F' R', DevIs w' d (repS st) F' R' ∧ (∀ q ∈ F', q ∈ F ∨ w.heap.size ≤ q) ∧ (∀ q ∈ R', q ∈ R ∨ w.heap.size ≤ q) ∧ Keep F w w'
  clear_ : ∀ w d st F R, DevIs w d st F R → StSm st →
    Calls Try.prog 25 #[d] w fun e w' => e = .returned (.int .i64 (jpR st clrL)) ∧ ∃ F' R', DevIs w' d (jpS st clrL) F' R' ∧ (∀ q ∈ F', q ∈ F ∨ w.heap.size ≤ q) ∧ (∀ q ∈ R', q ∈ R ∨ w.heap.size ≤ q) ∧ Keep F w w'
structure JNil : Prop where
  do_ : ∀ w x L c, Calls Try.prog 17 #[.pointer none, .slice x L c] w fun e w' => e = .returned (.int .i64 1) ∧ Below w.heap.size w w'
  replay : ∀ w, Calls Try.prog 10 #[.pointer none] w fun e w' => e = .returned (.tuple #[.int .i64 0, .int .i64 1]) ∧ Below w.heap.size w w'
  clear_ : ∀ w, Calls Try.prog 25 #[.pointer none] w fun e w' => e = .returned (.int .i64 1) ∧ Below w.heap.size w w'
section
variable {DevIs : World → Value → DSt → List Nat → List Nat → Prop}
theorem DvOk.later (O : DvOk DevIs) {w w' : World} {d : Value} {st : DSt} {F R : List Nat} (h : DevIs w d st F R) (hb : Below w.heap.size w w') : DevIs w' d st F R := O.keeps (G := []) h (Keep.of_below hb) (fun _ _ => by simp)
/-- A device of the call's own: it lies in blocks from B on, and in none of A; what lies below B is as it was. -/
structure DvAt (DevIs : World → Value → DSt → List Nat → List Nat → Prop) (B : Nat) (w0 : World) (A : List Nat) (w : World) (d : Value) (st : DSt) (F R : List Nat) : Prop where
  is : DevIs w d st F R
  ge : ∀ q ∈ R, B ≤ q
  no : ∀ q ∈ R, q ∉ A
  lt : ∀ q ∈ A, q < w.heap.size
  bel : Below B w0 w
  sz : B ≤ w.heap.size
variable {B : Nat} {w0 w w' : World} {A : List Nat} {d : Value} {st st' : DSt} {F R : List Nat}
theorem DvAt.later (O : DvOk DevIs) (h : DvAt DevIs B w0 A w d st F R) (hb : Below w.heap.size w w') : DvAt DevIs B w0 A w' d st F R :=
  ⟨O.later h.is hb, h.ge, h.no, fun q hq => Nat.lt_of_lt_of_le (h.lt q hq) hb.size, h.bel.trans (hb.mono h.sz), Nat.le_trans h.sz hb.size⟩
/-- One more block that the device does not lie in. -/
theorem DvAt.add (O : DvOk DevIs) (h : DvAt DevIs B w0 A w d st F R) (hb : Below w.heap.size w w') (g : Nat) (hg : w.heap.size ≤ g) (hl : g < w'.heap.size) : DvAt DevIs B w0 (g :: A) w' d st F R :=
  ⟨O.later h.is hb, h.ge, fun q hq hm => by
    rcases List.mem_cons.1 hm with rfl | hm
    · have := O.lt h.is q hq; omega
    · exact h.no q hq hm, fun q hq => by
    rcases List.mem_cons.1 hq with rfl | hq
    · exact hl
    · exact Nat.lt_of_lt_of_le (h.lt q hq) hb.size, h.bel.trans (hb.mono h.sz), Nat.le_trans h.sz hb.size⟩
/-- What was turned lies in A alone. -/
theorem DvAt.aside (O : DvOk DevIs) (h : DvAt DevIs B w0 A w d st F R) {G : List Nat} (hk : Keep G w w') (hG : ∀ q ∈ G, q ∈ A ∧ B ≤ q) : DvAt DevIs B w0 A w' d st F R :=
  ⟨O.keeps h.is hk fun q hq hm => h.no q hq (hG q hm).1, h.ge, h.no, fun q hq => Nat.lt_of_lt_of_le (h.lt q hq) hk.size, h.bel.trans (hk.below (fun q hq => (hG q hq).2) h.sz), Nat.le_trans h.sz hk.size⟩
/-- The device has turned. -/
theorem DvAt.turn (O : DvOk DevIs) (h : DvAt DevIs B w0 A w d st F R) {F' R' : List Nat} (k1 : DevIs w' d st' F' R') (k3 : ∀ q ∈ R', q ∈ R ∨ w.heap.size ≤ q) (k4 : Keep F w w') : DvAt DevIs B w0 A w' d st' F' R' ∧ (∀ g ∈ A, w'.heap[g]? = w.heap[g]?) := by
  have hs := O.sub h.is
  refine ⟨⟨k1, fun q hq => ?_, fun q hq hm => ?_, fun q hq => Nat.lt_of_lt_of_le (h.lt q hq) k4.size, h.bel.trans (k4.below (fun q hq => h.ge q (hs q hq)) h.sz), Nat.le_trans h.sz k4.size⟩, fun g hg => k4.block g (h.lt g hg) fun hm => h.no g (hs g hm) hg⟩
  · rcases k3 q hq with hq | hq
    · exact h.ge q hq
    · have := h.sz; omega
  · rcases k3 q hq with hq | hq
    · exact h.no q hq hm
    · have := h.lt q hm; omega
end
end Go.Proofs.Ytpckdkgbeemalaa
