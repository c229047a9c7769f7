
import Derived.Test.YtnkchcnamcageaaNam4
namespace Go.Proofs.Ytnkchcnamcageaa
open Go.RowKit

/-! What name owes -/
def NChkOk : Prop := ∀ (s : ByteArray) (w : World), s.size ≤ 9223372036854775807 → Calls Try.prog 9 #[.string s] w fun e w' => e = .returned (.int .i64 (chkN (lS s))) ∧ Below w.heap.size w w'
def NCmpOk : Prop := ∀ (s t : ByteArray) (w : World), s.size ≤ 9223372036854775807 → t.size ≤ 9223372036854775807 → Calls Try.prog 8 #[.string s, .string t] w fun e w' => e = .returned (.int .i64 (cmpL (lS s) (lS t))) ∧ Below w.heap.size w w'
def NPutOk : Prop := ∀ (s : ByteArray) (w : World), s.size ≤ 9223372036854775807 → Calls Try.prog 10 #[.string s] w fun e w' => PutPost (lS s) w e w'
def NGetOk : Prop := ∀ (l : List UInt8) (x : Option Addr) (L c : Nat) (n : Int) (w : World), l.length = L → L ≤ c → L ≤ 4611686018427387904 → -9223372036854775808 ≤ n → n ≤ 9223372036854775807 → IsB w (.slice x L c) l → Calls Try.prog 12 #[.slice x L c, .int .i64 n] w fun e w' => GetPost l n w e w'
structure NamOk : Prop where
  chk : NChkOk
  cmp : NCmpOk
  put : NPutOk
  get : NGetOk
theorem OwnB.room13 {w : World} {base g n c : Nat} {l : List UInt8} (h : OwnB w base (.slice (some ⟨g, 0, none⟩) n c) l) : n ≤ c := by
  obtain ⟨_, ⟨h, _⟩ | ⟨g', cap, cur, he, hb, hg, hle, -⟩⟩ := h
  · cases h
  · simp only [Value.slice.injEq] at he
    obtain ⟨-, rfl, rfl⟩ := he
    exact hle
theorem lS_arr (a : Array UInt8) : lS ⟨a⟩ = a.toList := rfl
set_option linter.unusedSimpArgs false in
set_option maxRecDepth 100000 in
set_option maxHeartbeats 2000000 in
theorem known13_any (O : NamOk) (w : World) : Calls Try.prog 7 #[] w fun e w' => e = .returned (.bool true) ∧ Below w.heap.size w w' := by
  have hP := O.put ⟨#[97, 98]⟩ w (by show 2 ≤ _; omega)
  have hN : isN [97, 98] = true := by decide
  go_enter Try.func7, Try.ntmps7
  go_wp2_with fail
  refine hP.mono ?_
  rintro e w1 ⟨h1, hB1⟩
  rw [lS_arr] at h1
  rcases h1 with ⟨-, g, c, rfl, hO⟩ | ⟨h, -⟩
  · have hG := O.get (padN [97, 98]) (some ⟨g, 0, none⟩) 24 c 2 w1 (padN_len _ hN) hO.room13 (by omega) (by omega) (by omega) hO.isB
    have hgb : getB (padN [97, 98]) 2 = true := by rw [getB_put _ hN]; rfl
    have hgs : getS (padN [97, 98]) 2 = [97, 98] := by rw [getS_put _ hN]; rfl
    unfold GetPost at hG
    rw [hgb, hgs] at hG
    have HO : Hid _ := hO
    clear hP hO hgb hgs hN
    go_wp2_with fail
    refine hG.mono ?_
    rintro e w2 ⟨rfl, hB2⟩
    clear hG
    have hB12 := hB1.trans (hB2.mono hB1.size)
    have k1 := fun W => O.chk ⟨#[48, 46, 57, 45, 114, 99, 95, 49]⟩ W (by show 8 ≤ _; omega)
    have k2 := fun W => O.chk ⟨#[46, 118]⟩ W (by show 2 ≤ _; omega)
    have k3 := fun W => O.cmp ⟨#[97]⟩ ⟨#[97, 98]⟩ W (by show 1 ≤ _; omega) (by show 2 ≤ _; omega)
    have e1 : chkN (lS ⟨#[48, 46, 57, 45, 114, 99, 95, 49]⟩) = 0 := by decide
    have e2 : chkN (lS ⟨#[46, 118]⟩) = 36 := by decide
    have e3 : cmpL (lS ⟨#[97]⟩) (lS ⟨#[97, 98]⟩) = -1 := by decide
    rw [e1] at k1
    rw [e2] at k2
    rw [e3] at k3
    clear e1 e2 e3
    go_wp2_with fail
    refine (k1 _).mono ?_
    rintro e w3 ⟨rfl, hB3⟩
    have hB13 := hB12.trans (hB3.mono hB12.size)
    clear k1
    go_wp2_with fail
    refine (k2 _).mono ?_
    rintro e w4 ⟨rfl, hB4⟩
    have hB14 := hB13.trans (hB4.mono hB13.size)
    clear k2
    go_wp2_with fail
    refine (k3 _).mono ?_
    rintro e w5 ⟨rfl, hB5⟩
    have hB15 := hB14.trans (hB5.mono hB14.size)
    clear k3
    go_wp2
    go_ret
    exact ⟨rfl, hB15⟩
  · exact absurd hN (by rw [show isN [97, 98] = isN (#[97, 98] : Array UInt8).toList from rfl, h]; simp)
end Go.Proofs.Ytnkchcnamcageaa
