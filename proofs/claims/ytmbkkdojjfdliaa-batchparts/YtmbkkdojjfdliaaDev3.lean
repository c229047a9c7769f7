
import Derived.Test.YtmbkkdojjfdliaaDev2
namespace Go.Proofs.Ytmbkkdojjfdliaa
open Go.RowKit

/-! A row that holds a sector; assaylaw05's sector and fill -/
def ScR (w : World) (g : Nat) (s : Sc) : Prop := rowOk w g = true ∧ rowAt w g = secA s
theorem ScR.kept {w w1 : World} {g : Nat} {s : Sc} (h : ScR w g s) (hb : Below w.heap.size w w1) : ScR w1 g s := keepRow hb (lt_of_rowOk h.1) h.1 h.2
theorem ScR.new (w : World) (s : Sc) (t : TypeId) : ScR (w.alloc (.cells (secA s) t)) w.heap.size s := ⟨rowOk_new _ _ _ _ rfl (secA_size _), rowAt_new _ _ _ _ rfl⟩
theorem ScR.lt {w : World} {g : Nat} {s : Sc} (h : ScR w g s) : g < w.heap.size := lt_of_rowOk h.1
theorem ScR.cell {w : World} {g : Nat} {s : Sc} (h : ScR w g s) (i : Nat) (hi : i < 64) : w.cell? ⟨g, i, none⟩ = some (Value.int .u8 ((s i).toNat : Int)) := by
  rw [cell_rowAt h.1, h.2, secA_get s i hi]
theorem ScR.frozen {w : World} {g : Nat} {s : Sc} (h : ScR w g s) (i : Nat) : w.frozen? ⟨g, i, none⟩ = false := by
  obtain ⟨t, hg, _⟩ := row_of_ok h.1
  simp [World.frozen?, hg]
theorem ScR.set {w : World} {g : Nat} {s : Sc} (h : ScR w g s) (i : Nat) (b : UInt8) (hi : i < 64) : ScR (w.setCell ⟨g, i, none⟩ (.int .u8 (b.toNat : Int))) g (upd s i b) := by
  obtain ⟨t, hg, hs⟩ := row_of_ok h.1
  have e := heap_setCell w g i (.int .u8 (b.toNat : Int)) _ t _ hg
  constructor
  · unfold rowOk; rw [e]; simp [hs]
  · have e2 : rowAt (w.setCell ⟨g, i, none⟩ (.int .u8 (b.toNat : Int))) g = (rowAt w g).setIfInBounds i (.int .u8 (b.toNat : Int)) := by
      show (match (w.setCell ⟨g, i, none⟩ (.int .u8 (b.toNat : Int))).heap[g]? with | some (.cells c _ _) => c | _ => #[]) = _
      rw [e]
    rw [e2, h.2]; exact secA_set s i b hi
theorem ScR.set_ne {w : World} {g k : Nat} {s : Sc} (h : ScR w k s) (i : Nat) (v : Value) (hn : g ≠ k) : ScR (w.setCell ⟨g, i, none⟩ v) k s := by
  unfold ScR rowOk rowAt at *
  have e : (w.setCell ⟨g, i, none⟩ v).heap[k]? = w.heap[k]? := by simp only [World.setCell, Array.getElem?_modify]; rw [if_neg hn]
  rw [e]; exact h
theorem ScR.range {w : World} {g : Nat} {s : Sc} (h : ScR w g s) : w.rangeAt g 0 (secA s).toList := fun j u hu => by
  rw [Array.getElem?_toList] at hu
  rw [Nat.zero_add, cell_rowAt h.1, h.2]; exact hu
def sectorD (v : UInt8) : Sc := fun i => v + UInt8.ofNat i
def upS (d : Sc) (k : Nat) : Sc := fun j => if j < k then d j else 0
theorem upS_zero (d : Sc) : upS d 0 = secZ := by funext j; simp [upS, secZ]
theorem upS_succ (d : Sc) (k : Nat) : upS d (k + 1) = upd (upS d k) k (d k) := by
  funext j
  unfold upS upd
  by_cases h : j = k
  · subst h; simp
  · have : (j < k + 1) = (j < k) := by simp; omega
    simp [h, this]
theorem upS_all (d : Sc) : secA (upS d 64) = secA d := (secA_inj _ _).2 fun i hi => by simp [upS, hi]
def firstS (fs : List UInt8) (i : Nat) : Sc := if i < fs.length then upd secZ 0 (fs[i]?.getD 0) else secZ
def fillL (n : Nat) (fs : List UInt8) : List Sc := (List.range n).map (firstS fs)
theorem fillL_len (n : Nat) (fs : List UInt8) : (fillL n fs).length = n := by simp [fillL]
theorem fillL_succ (n : Nat) (fs : List UInt8) : fillL (n + 1) fs = fillL n fs ++ [firstS fs n] := by simp [fillL, List.range_succ]
theorem wpL_appT {ops : Array Oper} {rest : List Oper} {o : Oper} {a : Act} {w : World} {Q : Exit → Act → World → Prop} (t : TypeId) (hgd : o.guard = none) (s x : Operand)
    (ho : o.op = .call { callee := .builtin .append, args := #[s, x], argTypes := #[t, t] }) (v' : Value) (w' : World) (hr : (Builtin.append_ #[t, t] o.type #[a.eval s, a.eval x]).run Try.prog w = .ok v' w')
    (h : wpList Try.prog ops Q rest (a.put o.dst v') w') : wpList Try.prog ops Q (o :: rest) a w :=
  wpList_plain hgd fun _ hK => by
    unfold Oper.wp execOp
    simp only [ho, resolve, invoke, builtin, Sem.run_bind, Sem.run_pure, Result.andThen_ok, List.map_toArray, List.map_cons, List.map_nil, hr]
    exact hK _ _ h
theorem sec_bodyPost2 {fn : Func} {R : Ending → World → Prop} {a : Act} {w : World} (p q n : Nat) (s : Sc) (hres : fn.results = #[.cell p 27, .tmp q]) (hp : a.tmps.getD p undef = .pointer (some ⟨n, 0, none⟩)) (hd : a.defers = [])
    (hok : ScR w n s) (h : R (.returned (.tuple #[.agg (secA s), a.tmps.getD q undef])) w) : bodyPost Try.prog fn R .ret a w := by
  obtain ⟨t, hg, hs⟩ := row_of_ok hok.1
  rw [hok.2] at hg
  have hp' : a.tmps[p]?.getD undef = .pointer (some ⟨n, 0, none⟩) := by simpa using hp
  have hl := run_loadVar_row (P := Try.prog) w n t 27 (secA s) (0, 0) _ hg Try.underlying27 rfl (by rw [size27, secA_size])
  refine bodyPost_ret (v := .tuple #[.agg (secA s), a.tmps.getD q undef]) ?_ hd h
  simp [results, hres, hp', asAddr, hl]
end Go.Proofs.Ytmbkkdojjfdliaa
