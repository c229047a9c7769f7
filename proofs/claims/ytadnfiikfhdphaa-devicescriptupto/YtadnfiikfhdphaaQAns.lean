import Derived.Test.YtadnfiikfhdphaaQAns0
import Derived.Test.YtadnfiikfhdphaaQAns1
import Derived.Test.YtadnfiikfhdphaaQAns4
import Derived.Test.YtadnfiikfhdphaaQAns5
import Derived.Test.YtadnfiikfhdphaaQAns6
import Derived.Test.YtadnfiikfhdphaaQAns7
import Derived.Test.YtadnfiikfhdphaaQAns8
namespace Go.Proofs.Ytadnfiikfhdphaa
open Go.RowKit

/-! assaylaw05's answered, whole -/
theorem answered5 {W : World} {B : Nat} {T : Nat → Option Th} {ps : List Pr5} {b : Bk} {k n : Nat} {da : Addr} {r : Nat} {st : DSt} (kd on a : Int) (v : UInt8) (y : Option Addr) (nb c : Nat) (bs : List Bool) (h : G5 W B T ps b (bkA b)) (hp : ps[k]? = some ⟨.pointer (some da), r, st, st⟩) (hL : Lim n st) (hn : n ≤ 4194304) (hb : BkOk n b) (ha0 : -9223372036854775808 ≤ a) (ha1 : a ≤ 9223372036854775807)
    (hbl : bs.length = nb) (hbn : nb ≤ 4194304) (hbc : nb ≤ c) (hbs : IsG W (.slice y nb c) (bs.map Value.bool)) (hby : bs ≠ [] → ∀ x, y = some x → x.block < B) :
    Calls Try.prog 9 #[.pointer (some da), .pointer (some ⟨r, 0, none⟩), .agg #[.int .i64 kd, .int .i64 on, .int .i64 a, .int .u8 (v.toNat : Int), .slice y nb c], .pointer (some ⟨b.g, 0, none⟩)] W fun e w' => AnsPost W B T ps b k ⟨.pointer (some da), r, st, st⟩ n e w' := by
  by_cases k0 : kd = 0
  · subst k0; exact answered_0 on a v y nb c bs h hp hL hn hb ha0 ha1 hbl hbn hbc hbs hby
  by_cases k1 : kd = 1
  · subst k1; exact answered_1 on a v y nb c bs h hp hL hn hb ha0 ha1 hbl hbn hbc hbs hby
  by_cases k2 : kd = 2
  · subst k2; exact answered_2 on a v y nb c bs h hp hL hn hb ha0 ha1 hbl hbn hbc hbs hby
  by_cases k3 : kd = 3
  · subst k3; exact answered_3 on a v y nb c bs h hp hL hn hb ha0 ha1 hbl hbn hbc hbs hby
  by_cases k4 : kd = 4
  · subst k4; exact answered_4 on a v y nb c bs h hp hL hn hb ha0 ha1 hbl hbn hbc hbs hby
  by_cases k5 : kd = 5
  · subst k5; exact answered_5 on a v y nb c bs h hp hL hn hb ha0 ha1 hbl hbn hbc hbs hby
  by_cases k6 : kd = 6
  · subst k6; exact answered_6 on a v y nb c bs h hp hL hn hb ha0 ha1 hbl hbn hbc hbs hby
  by_cases k7 : kd = 7
  · subst k7; exact answered_7 on a v y nb c bs h hp hL hn hb ha0 ha1 hbl hbn hbc hbs hby
  by_cases k8 : kd = 8
  · subst k8; exact answered_8 on a v y nb c bs h hp hL hn hb ha0 ha1 hbl hbn hbc hbs hby
  exact answered_9 kd on a v y nb c bs ⟨k0, k1, k2, k3, k4, k5, k6, k7, k8⟩ h hp hL hn hb ha0 ha1 hbl hbn hbc hbs hby
end Go.Proofs.Ytadnfiikfhdphaa
