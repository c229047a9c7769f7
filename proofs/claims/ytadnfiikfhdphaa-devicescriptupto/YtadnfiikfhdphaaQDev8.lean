import Derived.Test.YtadnfiikfhdphaaQDev7
namespace Go.Proofs.Ytadnfiikfhdphaa
open Go.RowKit

/-! What a device owes, whatever it is made of: DevIs w d st F R: at w the device d is in the state st; it may write the blocks F, and it reads no others than R. -/
structure DevOk (DevIs : World → Value → DSt → List Nat → List Nat → Prop) : Prop where
  keeps : ∀ {w w' d st F R G}, DevIs w d st F R → Keep G w w' → (∀ q ∈ R, q ∉ G) → DevIs w' d st F R
  sub : ∀ {w d st F R}, DevIs w d st F R → ∀ q ∈ F, q ∈ R
  lt : ∀ {w d st F R}, DevIs w d st F R → ∀ q ∈ R, q < w.heap.size
  ok : ∀ {w d st F R}, DevIs w d st F R → StOk st
  ptr : ∀ {w d st F R}, DevIs w d st F R → ∃ a, d = .pointer (some a)
  new : ∀ w x n c ss, ss.length = n → IsK secE w (.slice x n c) ss → n ≤ 2000 →
    Calls Try.prog 5 #[.slice x n c] w fun e w' => Below w.heap.size w w' ∧ ((64 ≤ n ∧ n ≤ 1024 ∧ ∃ d F R, e = .returned (.tuple #[d, .int .i64 0]) ∧ DevIs w' d (newS ss) F R ∧ ∀ q ∈ R, w.heap.size ≤ q) ∨ (¬ (64 ≤ n ∧ n ≤ 1024) ∧ e = .returned (.tuple #[.pointer none, .int .i64 22])))
  n : ∀ w d st F R, DevIs w d st F R → Calls Try.prog 15 #[d] w fun e w' => e = .returned (.int .i64 (st.last.length : Int)) ∧ Below w.heap.size w w'
  down : ∀ w d st F R, DevIs w d st F R → Calls Try.prog 24 #[d] w fun e w' => e = .returned (.bool st.down) ∧ Below w.heap.size w w'
  acts : ∀ w d st F R, DevIs w d st F R → Calls Try.prog 23 #[d] w fun e w' => e = .returned (.tuple #[.int .i64 (st.rd : Int), .int .i64 (st.wt : Int), .int .i64 (st.fl : Int)]) ∧ Below w.heap.size w w'
  read : ∀ w d st F R (a : Int), DevIs w d st F R → st.pend.length ≤ 1099511627776 → st.rd < 4611686018427387904 → -9223372036854775808 ≤ a → a ≤ 9223372036854775807 →
    Calls Try.prog 19 #[d, .int .i64 a] w fun e w' => e = .returned (.tuple #[.agg (secA (rdSec st a)), .int .i64 (rdRes st a)]) ∧ ∃ F' R', DevIs w' d (rdSt st a) F' R' ∧ (∀ q ∈ F', q ∈ F ∨ w.heap.size ≤ q) ∧ (∀ q ∈ R', q ∈ R ∨ w.heap.size ≤ q) ∧ Keep F w w'
  write : ∀ w d st F R (a : Int) (s : Sc), DevIs w d st F R → st.pend.length ≤ 1099511627776 → st.wt < 4611686018427387904 → -9223372036854775808 ≤ a → a ≤ 9223372036854775807 →
    Calls Try.prog 16 #[d, .int .i64 a, .agg (secA s)] w fun e w' => e = .returned (.int .i64 (wrRes st a)) ∧ (∃ F' R', DevIs w' d (wrSt st a s) F' R' ∧ (∀ q ∈ F', q ∈ F ∨ w.heap.size ≤ q) ∧ (∀ q ∈ R', q ∈ R ∨ w.heap.size ≤ q) ∧ Keep F w w') ∧ (wrRes st a = 20 → Below w.heap.size w w')
  flush : ∀ w d st F R, DevIs w d st F R → st.pend.length ≤ 1099511627776 → st.fl < 4611686018427387904 →
    Calls Try.prog 20 #[d] w fun e w' => e = .returned (.int .i64 (flRes st)) ∧ ∃ F' R', DevIs w' d (flSt st) F' R' ∧ (∀ q ∈ F', q ∈ F ∨ w.heap.size ≤ q) ∧ (∀ q ∈ R', q ∈ R ∨ w.heap.size ≤ q) ∧ Keep F w w'
  stop : ∀ w d st F R (k : Int), DevIs w d st F R → -9223372036854775808 ≤ k → k ≤ 9223372036854775807 →
    Calls Try.prog 21 #[d, .int .i64 k] w fun e w' => e = .returned (.tuple #[]) ∧ ∃ F' R', DevIs w' d (stSt st k) F' R' ∧ (∀ q ∈ F', q ∈ F ∨ w.heap.size ≤ q) ∧ (∀ q ∈ R', q ∈ R ∨ w.heap.size ≤ q) ∧ Keep F w w'
  restart : ∀ w d st F R xb nb cb (bs : List Bool), DevIs w d st F R → st.pend.length ≤ 1099511627776 → bs.length = nb → nb ≤ cb → IsG w (.slice xb nb cb) (bs.map Value.bool) → (∀ x, xb = some x → x.block ∉ F) →
    Calls Try.prog 22 #[d, .slice xb nb cb] w fun e w' => e = .returned (.tuple #[]) ∧ ∃ F' R', DevIs w' d (reSt st bs) F' R' ∧ (∀ q ∈ F', q ∈ F ∨ w.heap.size ≤ q) ∧ (∀ q ∈ R', q ∈ R ∨ w.heap.size ≤ q) ∧ Keep F w w'
  sectors : ∀ w d st F R, DevIs w d st F R → st.pend.length ≤ 1099511627776 →
    Calls Try.prog 25 #[d] w fun e w' => ∃ y c, e = .returned (.slice y st.last.length c) ∧ OwnK secE w' w.heap.size (.slice y st.last.length c) (over st.last st.pend) ∧ Below w.heap.size w w'
  durable : ∀ w d st F R, DevIs w d st F R →
    Calls Try.prog 18 #[d] w fun e w' => ∃ y c, e = .returned (.slice y st.last.length c) ∧ OwnK secE w' w.heap.size (.slice y st.last.length c) st.last ∧ Below w.heap.size w w'
  pending : ∀ w d st F R, DevIs w d st F R → st.pend.length ≤ 1099511627776 →
    Calls Try.prog 17 #[d] w fun e w' => ∃ y c, e = .returned (.slice y st.pend.length c) ∧ OwnK wrE w' w.heap.size (.slice y st.pend.length c) st.pend ∧ Below w.heap.size w w'
  copy : ∀ w d st F R, DevIs w d st F R → st.pend.length ≤ 1099511627776 →
    Calls Try.prog 10 #[d] w fun e w' => ∃ d' F' R', e = .returned d' ∧ DevIs w' d' st F' R' ∧ (∀ q ∈ F', w.heap.size ≤ q) ∧ (∀ q ∈ R', (q ∈ R ∧ q ∉ F) ∨ w.heap.size ≤ q) ∧ Below w.heap.size w w'
/-- What the calls owe on a device that is none. -/
structure DevNil : Prop where
  n : ∀ w, Calls Try.prog 15 #[.pointer none] w fun e w' => e = .returned (.int .i64 0) ∧ Below w.heap.size w w'
  down : ∀ w, Calls Try.prog 24 #[.pointer none] w fun e w' => e = .returned (.bool false) ∧ Below w.heap.size w w'
  acts : ∀ w, Calls Try.prog 23 #[.pointer none] w fun e w' => e = .returned (.tuple #[.int .i64 0, .int .i64 0, .int .i64 0]) ∧ Below w.heap.size w w'
  read : ∀ w (a : Int), Calls Try.prog 19 #[.pointer none, .int .i64 a] w fun e w' => (∃ s, e = .returned (.tuple #[.agg (secA s), .int .i64 0])) ∧ Below w.heap.size w w'
  write : ∀ w (a : Int) (s : Sc), Calls Try.prog 16 #[.pointer none, .int .i64 a, .agg (secA s)] w fun e w' => e = .returned (.int .i64 0) ∧ Below w.heap.size w w'
  flush : ∀ w, Calls Try.prog 20 #[.pointer none] w fun e w' => e = .returned (.int .i64 0) ∧ Below w.heap.size w w'
  stop : ∀ w (k : Int), Calls Try.prog 21 #[.pointer none, .int .i64 k] w fun e w' => e = .returned (.tuple #[]) ∧ Below w.heap.size w w'
  restart : ∀ w x n c, Calls Try.prog 22 #[.pointer none, .slice x n c] w fun e w' => e = .returned (.tuple #[]) ∧ Below w.heap.size w w'
  sectors : ∀ w, Calls Try.prog 25 #[.pointer none] w fun e w' => (∃ y c, e = .returned (.slice y 0 c)) ∧ Below w.heap.size w w'
  durable : ∀ w, Calls Try.prog 18 #[.pointer none] w fun e w' => (∃ y c, e = .returned (.slice y 0 c)) ∧ Below w.heap.size w w'
  pending : ∀ w, Calls Try.prog 17 #[.pointer none] w fun e w' => (∃ y c, e = .returned (.slice y 0 c)) ∧ Below w.heap.size w w'
  copy : ∀ w, Calls Try.prog 10 #[.pointer none] w fun e w' => e = .returned (.pointer none) ∧ Below w.heap.size w w'
section
variable {DevIs : World → Value → DSt → List Nat → List Nat → Prop}
theorem DevOk.later (O : DevOk DevIs) {w w' : World} {d : Value} {st : DSt} {F R : List Nat} (h : DevIs w d st F R) (hb : Below w.heap.size w w') : DevIs w' d st F R := O.keeps (G := []) h (Keep.of_below hb) (fun _ _ => by simp)
end
end Go.Proofs.Ytadnfiikfhdphaa
