import Derived.Test.YtfdigmlhjjdggaaQNam4
namespace Go.Proofs.Ytfdigmlhjjdggaa
open Go.RowKit

/-! What name owes -/
def NChkOk : Prop := ∀ (s : ByteArray) (w : World), s.size ≤ 9223372036854775807 → Calls Try.prog 47 #[.string s] w fun e w' => e = .returned (.int .i64 (chkN (lS s))) ∧ Below w.heap.size w w'
def NPutOk : Prop := ∀ (s : ByteArray) (w : World), s.size ≤ 9223372036854775807 → Calls Try.prog 36 #[.string s] w fun e w' => PutPost (lS s) w e w'
def NGetOk : Prop := ∀ (l : List UInt8) (x : Option Addr) (L c : Nat) (n : Int) (w : World), l.length = L → L ≤ c → L ≤ 4611686018427387904 → -9223372036854775808 ≤ n → n ≤ 9223372036854775807 → IsB w (.slice x L c) l → Calls Try.prog 42 #[.slice x L c, .int .i64 n] w fun e w' => GetPost l n w e w'
theorem OwnB.room13 {w : World} {base g n c : Nat} {l : List UInt8} (h : OwnB w base (.slice (some ⟨g, 0, none⟩) n c) l) : n ≤ c := by
  obtain ⟨_, ⟨h, _⟩ | ⟨g', cap, cur, he, hb, hg, hle, -⟩⟩ := h
  · cases h
  · simp only [Value.slice.injEq] at he
    obtain ⟨-, rfl, rfl⟩ := he
    exact hle
theorem lS_arr (a : Array UInt8) : lS ⟨a⟩ = a.toList := rfl
end Go.Proofs.Ytfdigmlhjjdggaa
