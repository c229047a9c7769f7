
import Derived.Test.YtmbkkdojjfdliaaStba
import Derived.Test.YtmbkkdojjfdliaaBat7
namespace Go.Proofs.Ytmbkkdojjfdliaa
open Go.RowKit

/-! batch's counting, Cut -/
theorem cmpW_one (M : List Wr) (h : M.length < 2) : cmpW M = M := by
  rcases M with _ | ⟨x, _ | ⟨y, r⟩⟩
  · rfl
  · rfl
  · simp only [List.length_cons] at h; omega
set_option linter.unusedSimpArgs false in
theorem counting26 (l : List Wr) (x0 : Option Addr) (n c : Nat) (w : World) (hn : l.length = n) (hl : IsK wrE w (.slice x0 n c) l) (hb : (n + 1) * 72 ≤ 140737488355328) :
    Calls Try.prog 16 #[.slice x0 n c] w fun e w' => ∃ y k c', e = .returned (.slice y k c') ∧ (srtW l).length = k ∧ OwnK wrE w' w.heap.size (.slice y k c') (srtW l) ∧ Below w.heap.size w w' := by
  have hS := clone26 w x0 n c l hn hl hb
  go_enter Try.func16, Try.ntmps16
  go_wp2_with fail
  refine hS.mono ?_
  rintro e w1 ⟨y, c', rfl, hO, hB⟩
  clear hS hl
  rcases Nat.eq_zero_or_pos n with h0 | h0
  · subst h0
    obtain rfl : l = [] := List.eq_nil_of_length_eq_zero hn
    have hR := reverse0 w1 y c'
    go_wp2_with fail
    refine hR.mono ?_
    rintro e w2 ⟨⟨u, rfl⟩, b2⟩
    clear hR
    have hO2 := hO.keep b2
    have hB2 := hB.trans (b2.mono hB.size)
    clear hO hB b2
    have hR := sort0 w2 y c'
    go_wp2_with fail
    refine hR.mono ?_
    rintro e w3 ⟨⟨u, rfl⟩, b3⟩
    clear hR
    have hO3 := hO2.keep b3
    have hB3 := hB2.trans (b3.mono hB2.size)
    clear hO2 hB2 b3
    have hR := compact1 w3 y 0 c' eqV (by omega)
    go_wp2_with fail
    refine hR.mono ?_
    rintro e w4 ⟨rfl, b4⟩
    clear hR
    have HO : Hid _ := hO3.keep b4
    have HB : Hid (Below w.heap.size w w4) := hB3.trans (b4.mono hB3.size)
    clear hO3 hB3 b4
    go_wp2
    go_ret
    exact ⟨y, 0, c', rfl, rfl, HO.out, HB.out⟩
  · obtain ⟨g, rfl, hgl⟩ := hO.form (by omega)
    have hgB : w.heap.size ≤ g := (World.ownsRow.lt hO g rfl).1
    have HG : Hid (w.heap.size ≤ g) := hgB
    have hnb : n ≤ 140737488355328 := by omega
    have hR := reverse26 w1 w.heap.size g n c' l hO hnb
    clear hO hgB
    go_wp2_with fail
    refine hR.mono ?_
    rintro e w2 ⟨⟨u, rfl⟩, hO2, hK2⟩
    clear hR
    have hR := sort26 w2 w.heap.size g n c' l.reverse hO2 hnb
    clear hO2
    go_wp2_with fail
    refine hR.mono ?_
    rintro e w3 ⟨⟨u, rfl⟩, M, hM1, hM2, hO3, hK3⟩
    clear hR
    have hK4 := hK2.trans hK3
    clear hK2 hK3
    have HM : Hid (cmpW M = srtW l) := cmpW_srt l M hM1 hM2
    clear hM1 hM2
    have hML := own_len hO3
    by_cases h2 : n < 2
    · have hR := compact1 w3 (some ⟨g, 0, none⟩) n c' eqV h2
      have HE : Hid (srtW l = M) := by rw [← HM.out]; exact cmpW_one M (by omega)
      have HLN : Hid (M.length = n) := hML
      have HW : Hid (OwnK wrE w3 w.heap.size (.slice (some ⟨g, 0, none⟩) n c') M ∧ Keep [g] w1 w3) := ⟨hO3, hK4⟩
      clear hO3 hK4 hML h0 hnb
      go_wp2_with fail
      refine hR.mono ?_
      rintro e w4 ⟨rfl, b4⟩
      clear hR
      have HO : Hid _ := HW.out.1.keep b4
      have HB : Hid (Below w.heap.size w w4) := hB.trans ((HW.out.2.trans (Keep.of_below b4)).below (fun q hq => by simp at hq; subst hq; exact HG.out) hB.size)
      clear b4 hB HW
      go_wp2
      go_ret
      exact ⟨_, n, c', rfl, by rw [HE.out]; exact HLN.out, by rw [HE.out]; exact HO.out, HB.out⟩
    · have hR := compact26 w3 w.heap.size g n c' M hO3 hnb (by omega)
      clear hO3 hML
      go_wp2_with fail
      refine hR.mono ?_
      rintro e w4 ⟨K, rfl, hO4, hK5⟩
      clear hR
      rw [HM.out] at hO4
      have HO : Hid _ := hO4
      have HB : Hid (Below w.heap.size w w4) := hB.trans ((hK4.trans hK5).below (fun q hq => by simp at hq; subst hq; exact HG.out) hB.size)
      clear hO4 hK4 hK5 hB
      go_wp2
      go_ret
      exact ⟨_, K, c', rfl, own_len HO.out, HO.out, HB.out⟩
end Go.Proofs.Ytmbkkdojjfdliaa
