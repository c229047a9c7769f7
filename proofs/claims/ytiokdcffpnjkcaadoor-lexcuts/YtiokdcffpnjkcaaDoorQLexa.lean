import Derived.Test.YtiokdcffpnjkcaaDoorQLex9
import Derived.Lib.AtoiErrMem
namespace Go.Proofs.YtiokdcffpnjkcaaDoor
open Go.RowKit

/-! What lex owes; known; LexQuotes -/
def tkEL : EK Tk := { T := 31, S := 26, k := 4, bytes := 40, z := .agg (tkA 0 0 0 ⟨#[]⟩), enc := fun x => (tkR x).toList }
theorem tkEL_ok : tkEL.Ok where
  len x := rfl
  one x v hv := by
    unfold tkEL tkR tkA at hv
    simp only [List.mem_cons, List.not_mem_nil, or_false] at hv
    rcases hv with rfl | rfl | rfl | rfl <;> rfl
  und := Tryd.underlying26
  info := by
    have h : (Tryd.prog.info? 31).map (fun i => (i.zero, i.size, i.bytes)) = some (some (.agg (tkA 0 0 0 ⟨#[]⟩)), 4, 40) := by kernel_rfl
    exact h
  zc := rfl
  kp := by show 0 < 4; omega
  row := ⟨_, Tryd.underlying31, rfl⟩
/-- strconv's two errors lie in their variables. -/
def Vx (w : World) : Prop := (∃ tp p, w.cell? ⟨0, 0, none⟩ = some (.iface tp p)) ∧ ∃ tp p, w.cell? ⟨1, 0, none⟩ = some (.iface tp p)
theorem Vx.below {w W : World} (h : Vx w) (hb : Below w.heap.size w W) : Vx W := by
  obtain ⟨⟨t1, p1, h1⟩, ⟨t2, p2, h2⟩⟩ := h
  have l1 : (⟨0, 0, none⟩ : Addr).block < w.heap.size := Lib.lt_of_cell h1
  have l2 : (⟨1, 0, none⟩ : Addr).block < w.heap.size := Lib.lt_of_cell h2
  exact ⟨⟨t1, p1, (hb.cell l1).trans h1⟩, ⟨t2, p2, (hb.cell l2).trans h2⟩⟩
structure LexOk : Prop where
  all : ∀ (l : List UInt8) (x : Option Addr) (L c : Nat) (w : World), l.length = L → L ≤ c → L ≤ 4611686018427387904 → IsB w (.slice x L c) l → Vx w → Calls Tryd.prog 9 #[.slice x L c] w fun e w' => AllP tkEL l w e w'
  quo : ∀ (s : ByteArray) (w : World), s.size ≤ 17592186044416 → Calls Tryd.prog 7 #[.string s] w fun e w' => QuP (lS s) w e w'
def kn16 : List UInt8 := [123, 34, 97, 34, 58, 32, 91, 49, 44, 32, 116, 114, 117, 101, 93, 125]
def knTs : List Tk := [⟨1, 0, 0, []⟩, ⟨11, 1, 0, [97]⟩, ⟨5, 4, 0, []⟩, ⟨3, 6, 0, []⟩, ⟨10, 7, 1, []⟩, ⟨6, 8, 0, []⟩, ⟨8, 10, 0, []⟩, ⟨4, 14, 0, []⟩, ⟨2, 15, 0, []⟩]
set_option maxRecDepth 100000 in
theorem kn_L : cutL kn16 = knTs := by kernel_rfl
theorem kn_E : cutE kn16 = 0 := by decide +kernel
theorem kn_P : cutP kn16 = 0 := by decide +kernel
theorem kn2_E : cutE [91, 97] = 30 := by decide +kernel
theorem kn2_P : cutP [91, 97] = 1 := by decide +kernel
theorem kn3_S : quS [1, 10] = [34, 92, 117, 48, 48, 48, 49, 92, 110, 34] := by decide +kernel
theorem kn3_E : quE [1, 10] = 0 := by decide +kernel
theorem isB_new14 (w : World) (l : List UInt8) (n : Nat) (hn : l.length = n) : IsB (w.alloc (.cells (bytesA l) 5)) (.slice (some ⟨w.heap.size, 0, none⟩) n n) l := by
  subst hn
  refine .inr ⟨⟨w.heap.size, 0, none⟩, l.length, rfl, fun i hi => ?_⟩
  rw [addr_add, Nat.zero_add, cell_of_row _ _ _ _ _ _ (heap_alloc_last _ _), bytesA_get l i hi]
theorem tk_cells14 {w : World} {B g n c : Nat} {ms : List Tk} (h : OwnK tkEL w B (.slice (some ⟨g, 0, none⟩) n c) ms) (i : Nat) (d : Tk) (hi : ms[i]? = some d) : w.cell? ⟨g, i * 4, none⟩ = some (.int .i64 d.kind) ∧ w.cell? ⟨g, i * 4 + 1, none⟩ = some (.int .i64 d.at_) ∧ w.cell? ⟨g, i * 4 + 2, none⟩ = some (.int .i64 d.n) ∧ w.cell? ⟨g, i * 4 + 3, none⟩ = some (.string ⟨d.text.toArray⟩) := by
  have hr := h.range tkEL_ok i d hi
  exact ⟨hr 0 _ rfl, hr 1 _ rfl, hr 2 _ rfl, hr 3 _ rfl⟩
end Go.Proofs.YtiokdcffpnjkcaaDoor
