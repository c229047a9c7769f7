
import Derived.Test.YtmbkkdojjfdliaaStbc
import Derived.Test.YtmbkkdojjfdliaaStbe
import Derived.Test.YtmbkkdojjfdliaaBat8
namespace Go.Proofs.Ytmbkkdojjfdliaa
open Go.RowKit

/-! batch.Left; what batch owes, over the landed code -/
set_option linter.unusedSimpArgs false in
theorem left26 (l : List Wr) (x0 : Option Addr) (n c : Nat) (D : List (List Wr)) (xd : Option Addr) (nd cd : Nat) (w : World) (hn : l.length = n) (hl : IsK wrE w (.slice x0 n c) l) (hb : (n + 1) * 72 ≤ 140737488355328) (hD : D.length = nd) (hI : IsLL w (.slice xd nd cd) D) (hnd : nd ≤ 140737488355328) (hin : ∀ e ∈ D, e.length ≤ 140737488355328) :
    Calls Try.prog 9 #[.slice x0 n c, .slice xd nd cd] w fun e w' => ∃ y k c', e = .returned (.slice y k c') ∧ (leftW (srtW l) D).length = k ∧ OwnK wrE w' w.heap.size (.slice y k c') (leftW (srtW l) D) ∧ Below w.heap.size w w' := by
  have hS := sectorsOf26 D xd nd cd w hD hI hnd hin
  have hSl := srtW_len l
  go_enter Try.func9, Try.ntmps9
  go_wp2_with fail
  refine hS.mono ?_
  rintro e w1 ⟨b, rfl, hbw, hSet, hB⟩
  clear hS hI hin hD hnd
  have ba := below_alloc w1 (.cells #[.map (some b)] 37)
  have hCell : (w1.alloc (.cells #[.map (some b)] 37)).cell? ⟨w1.heap.size, 0, none⟩ = some (.map (some b)) := by
    rw [cell_of_row _ _ _ _ _ _ (heap_alloc_new w1 _)]; rfl
  have hC : Cap26 (w1.alloc (.cells #[.map (some b)] 37)) w1.heap.size b (fun z => hasW D z) := ⟨hCell, hSet.keep ba⟩
  have hB2 : Below w.heap.size w (w1.alloc (.cells #[.map (some b)] 37)) := hB.trans (ba.mono hB.size)
  have hbl : b < w1.heap.size := hSet.lt
  have hR := counting26 l x0 n c _ hn (hl.kept hB2) hb
  have HH : Hid (Cap26 (w1.alloc (.cells #[.map (some b)] 37)) w1.heap.size b (fun z => hasW D z) ∧ Below w.heap.size w (w1.alloc (.cells #[.map (some b)] 37)) ∧ b < w1.heap.size ∧ (srtW l).length ≤ l.length ∧ l.length = n) := ⟨hC, hB2, hbl, hSl, hn⟩
  clear hC hB2 hbl hSl hn hl hCell hSet hB hbw ba
  go_wp2_with fail
  refine hR.mono ?_
  rintro e w2 ⟨y, k, c', rfl, hk, hO, b2⟩
  clear hR
  obtain ⟨q1, q2, q3, q4, q5⟩ := HH.out
  have hR := delete26 w2 _ w1.heap.size b k c' y (srtW l) (fun z => hasW D z) hO (q1.keep b2) (by rw [World.size_alloc]; omega) (by rw [World.size_alloc]; omega) b2.size (by omega)
  have HB : Hid (Below w.heap.size w w2) := q2.trans (b2.mono q2.size)
  have HZ : Hid (w.heap.size ≤ (w1.alloc (.cells #[.map (some b)] 37)).heap.size) := q2.size
  clear HH q1 q2 q3 q4 q5 hO b2 hk
  go_wp2_with fail
  refine hR.mono ?_
  rintro e w3 ⟨k3, rfl, hO3, b3⟩
  clear hR
  have HO : Hid (OwnK wrE w3 w.heap.size (.slice y k3 c') (leftW (srtW l) D)) := hO3.le HZ.out
  have HB3 : Hid (Below w.heap.size w w3) := HB.out.trans (b3.mono HZ.out)
  clear hO3 b3 HB HZ
  go_wp2
  go_ret
  exact ⟨y, k3, c', rfl, own_len HO.out, HO.out, HB3.out⟩
theorem batOk : BatOk := ⟨cut26, left26⟩
end Go.Proofs.Ytmbkkdojjfdliaa
