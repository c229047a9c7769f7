import Derived.Test.YtklbdhpnbjhgkaaGreatDoorQNum
import Derived.BigQuiet
import Derived.Deep.QuietTactic
import Derived.WalkSpells
import Derived.Laws.StructEq
namespace Go.Proofs.YtklbdhpnbjhgkaaGreatDoor
open Go.RowKit

/-! Slices of sectors and of writes -/
abbrev Sc := Nat → UInt8
abbrev Wr := Int × Sc
def rgOk (w : World) (b o k : Nat) : Bool := (List.range k).all fun j => (w.cell? ⟨b, o + j, none⟩).isSome
def rg (w : World) (b o k : Nat) : Array Value := ((List.range k).map fun j => (w.cell? ⟨b, o + j, none⟩).getD undef).toArray
theorem rg_of {w : World} {b o k : Nat} {cs : List Value} (h : w.rangeAt b o cs) (hk : cs.length = k) : rgOk w b o k = true ∧ rg w b o k = cs.toArray := by
  subst hk
  have hc : ∀ j (hj : j < cs.length), w.cell? ⟨b, o + j, none⟩ = some cs[j] := fun j hj => h j _ (List.getElem?_eq_getElem hj)
  constructor
  · unfold rgOk
    rw [List.all_eq_true]
    intro j hj
    rw [hc j (by simpa using hj)]; rfl
  · unfold rg
    congr 1
    apply List.ext_getElem (by simp)
    intro j h1 h2
    simp [hc j h2]
theorem rangeAt_rg {w : World} {b o k : Nat} (h : rgOk w b o k = true) : w.rangeAt b o (rg w b o k).toList := fun j v hv => by
  have hj : j < k := by have := (List.getElem?_eq_some_iff.1 hv).1; simpa [rg] using this
  unfold rgOk at h
  have hs := List.all_eq_true.1 h j (by simpa using hj)
  obtain ⟨u, hu⟩ := Option.isSome_iff_exists.1 hs
  simp [rg, hj, hu] at hv
  rw [hu, hv]
theorem rg_size (w : World) (b o k : Nat) : (rg w b o k).size = k := by simp [rg]
@[go_sem] theorem rg_drewN (w : World) (n b o k : Nat) : rg (w.drewN n) b o k = rg w b o k := rfl
@[go_sem] theorem rgOk_drewN (w : World) (n b o k : Nat) : rgOk (w.drewN n) b o k = rgOk w b o k := rfl
@[go_sem] theorem rg_drew (w : World) (b o k : Nat) : rg w.drew b o k = rg w b o k := rfl
@[go_sem] theorem rgOk_drew (w : World) (b o k : Nat) : rgOk w.drew b o k = rgOk w b o k := rfl
theorem rg_later {w w1 : World} {b : Nat} (hb : Below w.heap.size w w1) (hlt : b < w.heap.size) (o k : Nat) : rgOk w1 b o k = rgOk w b o k ∧ rg w1 b o k = rg w b o k := by
  have h : ∀ j, w1.cell? ⟨b, o + j, none⟩ = w.cell? ⟨b, o + j, none⟩ := fun j => hb.cell (p := ⟨b, o + j, none⟩) hlt
  unfold rgOk rg
  simp only [h]
  exact ⟨trivial, trivial⟩
def wrA (x : Wr) : Array Value := #[.int .i64 x.1] ++ secA x.2
theorem wrA_size (x : Wr) : (wrA x).size = 65 := by simp [wrA]
theorem wrA_list (x : Wr) : (wrA x).toList = .int .i64 x.1 :: (secA x.2).toList := by simp [wrA]
theorem wrA_one (x : Wr) : (wrA x).all (·.oneCell') = true := by
  rw [Array.all_eq_true_iff_forall_mem]
  intro v hv
  simp only [wrA, Array.mem_append] at hv
  rcases hv with hv | hv
  · simp at hv; subst hv; rfl
  · exact Array.all_eq_true_iff_forall_mem.1 (secA_one x.2) v hv
def wrZ : Wr := (0, secZ)
/-! Operations on whole sectors in the middle of a row, and on whole writes -/
@[go_sem] theorem run_secLoad_mid (w : World) (b o : Nat) (h : rgOk w b o 64 = true) : (secLoad (.pointer (some ⟨b, o, none⟩))).run Tryz.prog w = .ok (.value (.agg (rg w b o 64))) w := by
  simp only [secLoad, Sem.run_bind]
  rw [run_loadAt_mid w b o 102 _ _ (rangeAt_rg h) Tryz.underlying102 rfl (by rw [size102, Array.length_toList, rg_size])]
  rfl
section
variable (ρ : Operand → Value) (dst : Option Tmp) (ty ty' : TypeId) (pos : String) (after : Array Edge) (guard : Option (Nat × Bool))
end
def wrEq (x y : Wr) : Bool := (x.1 == y.1) && secEq x.2 y.2
theorem wrA_at (x : Wr) : (wrA x)[0]? = some (.int .i64 x.1) := by simp [wrA]
theorem wrA_data (x : Wr) : (wrA x).extract 1 (1 + 64) = secA x.2 := by
  apply Array.ext_getElem?
  intro i
  by_cases hi : i < 64
  · rw [Array.getElem?_extract, if_pos (by rw [wrA_size]; omega)]
    unfold wrA
    rw [Array.getElem?_append_right (by simp)]
    congr 1
    simp
  · rw [Array.getElem?_eq_none (by simp [wrA_size]; omega), Array.getElem?_eq_none (by simp; omega)]
theorem run_equal_sec9 (w : World) (s t : Sc) : (Op.equalIn 9999 102 (.agg (secA s)) (.agg (secA t))).run Tryz.prog w = .ok (secEq s t) w := by
  rw [secA_cells, secA_cells, run_equalIn_bytes w 9997 102 5 64 Tryz.underlying102 Tryz.underlying5 sizeE _ _ (by simp) (by simp), beq_secL]
theorem wrPlaces : (Tryz.prog.info? 3).map (·.size) = some 1 ∧ (Tryz.prog.info? 102).map (·.size) = some 64 := ⟨by kernel_rfl, by kernel_rfl⟩
theorem blit_at (a : Int) (x : Wr) : (#[Value.int .i64 a].zipIdx.foldl (fun (cs : Array Value) p => cs.setIfInBounds (0 + p.2) p.1) (wrA x)) = wrA (a, x.2) := by
  apply Array.ext_getElem?
  intro i
  rw [blit_get, wrA_size]
  by_cases h0 : i = 0
  · subst h0; simp [wrA]
  · rw [if_neg (by simp; omega)]
    unfold wrA
    rw [Array.getElem?_append_right (by simp; omega), Array.getElem?_append_right (by simp; omega)]
    rfl
theorem blit_data (s : Sc) (x : Wr) : ((secA s).zipIdx.foldl (fun (cs : Array Value) p => cs.setIfInBounds (1 + p.2) p.1) (wrA x)) = wrA (x.1, s) := by
  apply Array.ext_getElem?
  intro i
  rw [blit_get, wrA_size, secA_size]
  by_cases h0 : i = 0
  · subst h0
    rw [if_neg (by omega), wrA_at, wrA_at]
  · by_cases h1 : i < 65
    · rw [if_pos (by omega)]
      unfold wrA
      rw [Array.getElem?_append_right (by simp; omega)]
      congr 1
    · rw [if_neg (by omega), Array.getElem?_eq_none (by rw [wrA_size]; omega), Array.getElem?_eq_none (by rw [wrA_size]; omega)]
def wrP (i : Nat) : Option (Nat × Nat) := #[(0, 1), (1, 64)][i]?
theorem fill_at (a : Int) (x : Wr) (ps : List (Nat × Value)) : Instr.fill wrP (wrA x) ((0, .int .i64 a) :: ps) = Instr.fill wrP (wrA (a, x.2)) ps := by
  have hc : (Value.int .i64 a).cells = #[.int .i64 a] := rfl
  have hp : wrP 0 = some (0, 1) := rfl
  rw [← blit_at a x]
  generalize hx : wrA x = X
  have hs : X.size = 65 := by rw [← hx]; exact wrA_size x
  rw [Instr.fill]
  simp only [hc, hp]
  rw [if_neg (by simp [hs])]
theorem fill_data (s : Sc) (x : Wr) (ps : List (Nat × Value)) : Instr.fill wrP (wrA x) ((1, .agg (secA s)) :: ps) = Instr.fill wrP (wrA (x.1, s)) ps := by
  have hc : (Value.agg (secA s)).cells = secA s := rfl
  have hp : wrP 1 = some (1, 64) := rfl
  rw [← blit_data s x]
  generalize hx : wrA x = X
  have hs : X.size = 65 := by rw [← hx]; exact wrA_size x
  have hq := secA_size s
  generalize secA s = Y at hc hq
  rw [Instr.fill]
  simp only [hp]
  rw [hc, if_neg (by simp [hs, hq])]
section
variable (ρ : Operand → Value) (dst : Option Tmp) (ty : TypeId) (pos : String) (after : Array Edge) (guard : Option (Nat × Bool))
end
theorem toA (a : Array Value) : a.toList.toArray = a := Array.toArray_toList
end Go.Proofs.YtklbdhpnbjhgkaaGreatDoor
