import Derived.Test.YtfdigmlhjjdggaaQNum
import Derived.BigQuiet
import Derived.Deep.QuietTactic
import Derived.WalkSpells
import Derived.Laws.StructEq
namespace Go.Proofs.Ytfdigmlhjjdggaa
open Go.RowKit

/-! Slices of sectors and of writes -/
abbrev Sc := Nat → UInt8
abbrev Wr := Int × Sc
def rgOk (w : World) (b o k : Nat) : Bool := (List.range k).all fun j => (w.cell? ⟨b, o + j, none⟩).isSome
def rg (w : World) (b o k : Nat) : Array Value := ((List.range k).map fun j => (w.cell? ⟨b, o + j, none⟩).getD undef).toArray
theorem rg_of {w : World} {b o k : Nat} {cs : List Value} (h : w.rangeAt b o cs) (hk : cs.length = k) : rgOk w b o k = true ∧ rg w b o k = cs.toArray := by
  subst hk
  have hc : ∀ j (hj : j < cs.length), w.cell? ⟨b, o + j, none⟩ = some cs[j] := fun j hj => h j _ (List.getElem?_eq_getElem hj)
  constructor
  · unfold rgOk
    rw [List.all_eq_true]
    intro j hj
    rw [hc j (by simpa using hj)]; rfl
  · unfold rg
    congr 1
    apply List.ext_getElem (by simp)
    intro j h1 h2
    simp [hc j h2]
theorem rangeAt_rg {w : World} {b o k : Nat} (h : rgOk w b o k = true) : w.rangeAt b o (rg w b o k).toList := fun j v hv => by
  have hj : j < k := by have := (List.getElem?_eq_some_iff.1 hv).1; simpa [rg] using this
  unfold rgOk at h
  have hs := List.all_eq_true.1 h j (by simpa using hj)
  obtain ⟨u, hu⟩ := Option.isSome_iff_exists.1 hs
  simp [rg, hj, hu] at hv
  rw [hu, hv]
theorem rg_size (w : World) (b o k : Nat) : (rg w b o k).size = k := by simp [rg]
@[go_sem] theorem rg_drewN (w : World) (n b o k : Nat) : rg (w.drewN n) b o k = rg w b o k := rfl
@[go_sem] theorem rgOk_drewN (w : World) (n b o k : Nat) : rgOk (w.drewN n) b o k = rgOk w b o k := rfl
@[go_sem] theorem rg_drew (w : World) (b o k : Nat) : rg w.drew b o k = rg w b o k := rfl
@[go_sem] theorem rgOk_drew (w : World) (b o k : Nat) : rgOk w.drew b o k = rgOk w b o k := rfl
theorem rg_later {w w1 : World} {b : Nat} (hb : Below w.heap.size w w1) (hlt : b < w.heap.size) (o k : Nat) : rgOk w1 b o k = rgOk w b o k ∧ rg w1 b o k = rg w b o k := by
  have h : ∀ j, w1.cell? ⟨b, o + j, none⟩ = w.cell? ⟨b, o + j, none⟩ := fun j => hb.cell (p := ⟨b, o + j, none⟩) hlt
  unfold rgOk rg
  simp only [h]
  exact ⟨trivial, trivial⟩
def secE : EK Sc := { T := 35, S := 33, k := 64, bytes := 64, z := .agg (secA secZ), enc := fun s => (secA s).toList }
theorem secE_ok : secE.Ok where
  len x := by simp [secE]
  one x v hv := Array.all_eq_true_iff_forall_mem.1 (secA_one x) v (by simpa [secE] using hv)
  und := Try.underlying33
  info := by
    have h : (Try.prog.info? 35).map (fun i => (i.zero, i.size, i.bytes)) = some (some (.agg (secA secZ)), 64, 64) := by kernel_rfl
    exact h
  zc := by show (secA secZ).size = 64; simp
  kp := by show 0 < 64; omega
  row := ⟨_, Try.underlying35, rfl⟩
def wrA (x : Wr) : Array Value := #[.int .i64 x.1] ++ secA x.2
theorem wrA_size (x : Wr) : (wrA x).size = 65 := by simp [wrA]
theorem wrA_list (x : Wr) : (wrA x).toList = .int .i64 x.1 :: (secA x.2).toList := by simp [wrA]
theorem wrA_one (x : Wr) : (wrA x).all (·.oneCell') = true := by
  rw [Array.all_eq_true_iff_forall_mem]
  intro v hv
  simp only [wrA, Array.mem_append] at hv
  rcases hv with hv | hv
  · simp at hv; subst hv; rfl
  · exact Array.all_eq_true_iff_forall_mem.1 (secA_one x.2) v hv
def wrZ : Wr := (0, secZ)
/-! Operations on whole sectors in the middle of a row, and on whole writes -/
@[go_sem] theorem run_secLoad_mid (w : World) (b o : Nat) (h : rgOk w b o 64 = true) : (secLoad (.pointer (some ⟨b, o, none⟩))).run Try.prog w = .ok (.value (.agg (rg w b o 64))) w := by
  simp only [secLoad, Sem.run_bind]
  rw [run_loadAt_mid w b o 35 _ _ (rangeAt_rg h) Try.underlying35 rfl (by rw [size35, Array.length_toList, rg_size])]
  rfl
section
variable (ρ : Operand → Value) (dst : Option Tmp) (ty ty' : TypeId) (pos : String) (after : Array Edge) (guard : Option (Nat × Bool))
end
def wrEq (x y : Wr) : Bool := (x.1 == y.1) && secEq x.2 y.2
theorem wrA_at (x : Wr) : (wrA x)[0]? = some (.int .i64 x.1) := by simp [wrA]
theorem wrA_data (x : Wr) : (wrA x).extract 1 (1 + 64) = secA x.2 := by
  apply Array.ext_getElem?
  intro i
  by_cases hi : i < 64
  · rw [Array.getElem?_extract, if_pos (by rw [wrA_size]; omega)]
    unfold wrA
    rw [Array.getElem?_append_right (by simp)]
    congr 1
    simp
  · rw [Array.getElem?_eq_none (by simp [wrA_size]; omega), Array.getElem?_eq_none (by simp; omega)]
theorem run_equal_sec9 (w : World) (s t : Sc) : (Op.equalIn 9999 35 (.agg (secA s)) (.agg (secA t))).run Try.prog w = .ok (secEq s t) w := by
  rw [secA_cells, secA_cells, run_equalIn_bytes w 9997 35 5 64 Try.underlying35 Try.underlying5 sizeE _ _ (by simp) (by simp), beq_secL]
theorem wrPlaces : (Try.prog.info? 3).map (·.size) = some 1 ∧ (Try.prog.info? 35).map (·.size) = some 64 := ⟨by kernel_rfl, by kernel_rfl⟩
theorem blit_at (a : Int) (x : Wr) : (#[Value.int .i64 a].zipIdx.foldl (fun (cs : Array Value) p => cs.setIfInBounds (0 + p.2) p.1) (wrA x)) = wrA (a, x.2) := by
  apply Array.ext_getElem?
  intro i
  rw [blit_get, wrA_size]
  by_cases h0 : i = 0
  · subst h0; simp [wrA]
  · rw [if_neg (by simp; omega)]
    unfold wrA
    rw [Array.getElem?_append_right (by simp; omega), Array.getElem?_append_right (by simp; omega)]
    rfl
theorem blit_data (s : Sc) (x : Wr) : ((secA s).zipIdx.foldl (fun (cs : Array Value) p => cs.setIfInBounds (1 + p.2) p.1) (wrA x)) = wrA (x.1, s) := by
  apply Array.ext_getElem?
  intro i
  rw [blit_get, wrA_size, secA_size]
  by_cases h0 : i = 0
  · subst h0
    rw [if_neg (by omega), wrA_at, wrA_at]
  · by_cases h1 : i < 65
    · rw [if_pos (by omega)]
      unfold wrA
      rw [Array.getElem?_append_right (by simp; omega)]
      congr 1
    · rw [if_neg (by omega), Array.getElem?_eq_none (by rw [wrA_size]; omega), Array.getElem?_eq_none (by rw [wrA_size]; omega)]
def wrP (i : Nat) : Option (Nat × Nat) := #[(0, 1), (1, 64)][i]?
theorem fill_at (a : Int) (x : Wr) (ps : List (Nat × Value)) : Instr.fill wrP (wrA x) ((0, .int .i64 a) :: ps) = Instr.fill wrP (wrA (a, x.2)) ps := by
  have hc : (Value.int .i64 a).cells = #[.int .i64 a] := rfl
  have hp : wrP 0 = some (0, 1) := rfl
  rw [← blit_at a x]
  generalize hx : wrA x = X
  have hs : X.size = 65 := by rw [← hx]; exact wrA_size x
  rw [Instr.fill]
  simp only [hc, hp]
  rw [if_neg (by simp [hs])]
theorem fill_data (s : Sc) (x : Wr) (ps : List (Nat × Value)) : Instr.fill wrP (wrA x) ((1, .agg (secA s)) :: ps) = Instr.fill wrP (wrA (x.1, s)) ps := by
  have hc : (Value.agg (secA s)).cells = secA s := rfl
  have hp : wrP 1 = some (1, 64) := rfl
  rw [← blit_data s x]
  generalize hx : wrA x = X
  have hs : X.size = 65 := by rw [← hx]; exact wrA_size x
  have hq := secA_size s
  generalize secA s = Y at hc hq
  rw [Instr.fill]
  simp only [hp]
  rw [hc, if_neg (by simp [hs, hq])]
def secBS (x : Value) : Sem Next := do pure (.value (← Instr.buildSlice 33 1 #[(0, x)]))
section
variable (ρ : Operand → Value) (dst : Option Tmp) (ty : TypeId) (pos : String) (after : Array Edge) (guard : Option (Nat × Bool))
@[go_sem ↓] theorem execOp_secBS (x : Operand) : execOp ρ { dst, op := .buildSlice 33 1 #[(0, x)], type := ty, pos, after, guard } = secBS (ρ x) := by simp [execOp, secBS]
end
theorem toA (a : Array Value) : a.toList.toArray = a := Array.toArray_toList
@[go_sem] theorem run_secBS (w : World) (s : Sc) : (secBS (.agg (secA s))).run Try.prog w = .ok (.value (.slice (some ⟨w.heap.size, 0, none⟩) 1 1)) (w.alloc (.cells (secA s) 35)) := by
  have h := run_litK1 secE_ok (by show 64 ≤ 1000; omega) w s
  simp only [secE, toA] at h
  simp only [secBS, Sem.run_bind, h]
  rfl
end Go.Proofs.Ytfdigmlhjjdggaa
namespace Go.Proofs.Ytfdigmlhjjdggaa
open Go.RowKit

/-! assaylaw05's helpers -/
def kS (s : Sc) : List UInt8 := (List.range 64).map s
def kW (x : Wr) : Int × List UInt8 := (x.1, kS x.2)
theorem secEq_dec (a b : Sc) : secEq a b = decide (kS a = kS b) := by
  rw [← beq_secL]
  show (kS a == kS b) = _
  rw [Bool.eq_iff_iff, beq_iff_eq, decide_eq_true_iff]
theorem kS_iff (a b : Sc) : kS a = kS b ↔ secA a = secA b := by
  rw [secA_inj, ← secEq_iff, secEq_dec, decide_eq_true_iff]
theorem wrEq_dec (a b : Wr) : wrEq a b = decide (kW a = kW b) := by
  unfold wrEq kW
  rw [Bool.eq_iff_iff, decide_eq_true_iff, Bool.and_eq_true, beq_iff_eq, secEq_dec, decide_eq_true_iff, Prod.mk.injEq]
theorem kW_iff (a b : Wr) : kW a = kW b ↔ wrA a = wrA b := by
  unfold kW
  rw [Prod.mk.injEq, kS_iff]
  constructor
  · rintro ⟨h1, h2⟩
    unfold wrA
    rw [h1, h2]
  · intro h
    have h1 := congrArg (fun x => x[0]?) h
    simp only [wrA_at, Option.some.injEq, Value.int.injEq, true_and] at h1
    have h2 := congrArg (fun x => x.extract 1 (1 + 64)) h
    simp only [wrA_data] at h2
    exact ⟨h1, h2⟩
theorem secE_enc (a : Sc) : secE.enc a = (secA a).toList := by simp only [secE]
theorem secE_arr (a : Sc) : (secE.enc a).toArray = secA a := by rw [secE_enc, Array.toArray_toList]
theorem secE_k : EK.k secE = 64 := rfl
end Go.Proofs.Ytfdigmlhjjdggaa
namespace Go.Proofs.Ytfdigmlhjjdggaa
open Go.RowKit

/-! A row that holds a sector; assaylaw05's sector and fill -/
def ScR (w : World) (g : Nat) (s : Sc) : Prop := rowOk w g = true ∧ rowAt w g = secA s
theorem ScR.kept {w w1 : World} {g : Nat} {s : Sc} (h : ScR w g s) (hb : Below w.heap.size w w1) : ScR w1 g s := keepRow hb (lt_of_rowOk h.1) h.1 h.2
theorem ScR.new (w : World) (s : Sc) (t : TypeId) : ScR (w.alloc (.cells (secA s) t)) w.heap.size s := ⟨rowOk_new _ _ _ _ rfl (secA_size _), rowAt_new _ _ _ _ rfl⟩
theorem ScR.lt {w : World} {g : Nat} {s : Sc} (h : ScR w g s) : g < w.heap.size := lt_of_rowOk h.1
theorem ScR.cell {w : World} {g : Nat} {s : Sc} (h : ScR w g s) (i : Nat) (hi : i < 64) : w.cell? ⟨g, i, none⟩ = some (Value.int .u8 ((s i).toNat : Int)) := by
  rw [cell_rowAt h.1, h.2, secA_get s i hi]
theorem ScR.frozen {w : World} {g : Nat} {s : Sc} (h : ScR w g s) (i : Nat) : w.frozen? ⟨g, i, none⟩ = false := by
  obtain ⟨t, hg, _⟩ := row_of_ok h.1
  simp [World.frozen?, hg]
theorem ScR.set {w : World} {g : Nat} {s : Sc} (h : ScR w g s) (i : Nat) (b : UInt8) (hi : i < 64) : ScR (w.setCell ⟨g, i, none⟩ (.int .u8 (b.toNat : Int))) g (upd s i b) := by
  obtain ⟨t, hg, hs⟩ := row_of_ok h.1
  have e := heap_setCell w g i (.int .u8 (b.toNat : Int)) _ t _ hg
  constructor
  · unfold rowOk; rw [e]; simp [hs]
  · have e2 : rowAt (w.setCell ⟨g, i, none⟩ (.int .u8 (b.toNat : Int))) g = (rowAt w g).setIfInBounds i (.int .u8 (b.toNat : Int)) := by
      show (match (w.setCell ⟨g, i, none⟩ (.int .u8 (b.toNat : Int))).heap[g]? with | some (.cells c _ _) => c | _ => #[]) = _
      rw [e]
    rw [e2, h.2]; exact secA_set s i b hi
theorem ScR.set_ne {w : World} {g k : Nat} {s : Sc} (h : ScR w k s) (i : Nat) (v : Value) (hn : g ≠ k) : ScR (w.setCell ⟨g, i, none⟩ v) k s := by
  unfold ScR rowOk rowAt at *
  have e : (w.setCell ⟨g, i, none⟩ v).heap[k]? = w.heap[k]? := by simp only [World.setCell, Array.getElem?_modify]; rw [if_neg hn]
  rw [e]; exact h
theorem ScR.range {w : World} {g : Nat} {s : Sc} (h : ScR w g s) : w.rangeAt g 0 (secA s).toList := fun j u hu => by
  rw [Array.getElem?_toList] at hu
  rw [Nat.zero_add, cell_rowAt h.1, h.2]; exact hu
def sectorD (v : UInt8) : Sc := fun i => v + UInt8.ofNat i
def upS (d : Sc) (k : Nat) : Sc := fun j => if j < k then d j else 0
theorem upS_zero (d : Sc) : upS d 0 = secZ := by funext j; simp [upS, secZ]
theorem upS_succ (d : Sc) (k : Nat) : upS d (k + 1) = upd (upS d k) k (d k) := by
  funext j
  unfold upS upd
  by_cases h : j = k
  · subst h; simp
  · have : (j < k + 1) = (j < k) := by simp; omega
    simp [h, this]
theorem upS_all (d : Sc) : secA (upS d 64) = secA d := (secA_inj _ _).2 fun i hi => by simp [upS, hi]
def firstS (fs : List UInt8) (i : Nat) : Sc := if i < fs.length then upd secZ 0 (fs[i]?.getD 0) else secZ
def fillL (n : Nat) (fs : List UInt8) : List Sc := (List.range n).map (firstS fs)
theorem fillL_len (n : Nat) (fs : List UInt8) : (fillL n fs).length = n := by simp [fillL]
theorem fillL_succ (n : Nat) (fs : List UInt8) : fillL (n + 1) fs = fillL n fs ++ [firstS fs n] := by simp [fillL, List.range_succ]
theorem wpL_appT {ops : Array Oper} {rest : List Oper} {o : Oper} {a : Act} {w : World} {Q : Exit → Act → World → Prop} (t : TypeId) (hgd : o.guard = none) (s x : Operand)
    (ho : o.op = .call { callee := .builtin .append, args := #[s, x], argTypes := #[t, t] }) (v' : Value) (w' : World) (hr : (Builtin.append_ #[t, t] o.type #[a.eval s, a.eval x]).run Try.prog w = .ok v' w')
    (h : wpList Try.prog ops Q rest (a.put o.dst v') w') : wpList Try.prog ops Q (o :: rest) a w :=
  wpList_plain hgd fun _ hK => by
    unfold Oper.wp execOp
    simp only [ho, resolve, invoke, builtin, Sem.run_bind, Sem.run_pure, Result.andThen_ok, List.map_toArray, List.map_cons, List.map_nil, hr]
    exact hK _ _ h
theorem newSc (w : World) (s : Sc) : (w.alloc (.cells (secA s) 35)).rangeAt w.heap.size 0 (secE.enc s) := by
  rw [secE_enc]; exact (ScR.new w s _).range
theorem sec_bodyPost2 {fn : Func} {R : Ending → World → Prop} {a : Act} {w : World} (p q n : Nat) (s : Sc) (hres : fn.results = #[.cell p 35, .tmp q]) (hp : a.tmps.getD p undef = .pointer (some ⟨n, 0, none⟩)) (hd : a.defers = [])
    (hok : ScR w n s) (h : R (.returned (.tuple #[.agg (secA s), a.tmps.getD q undef])) w) : bodyPost Try.prog fn R .ret a w := by
  obtain ⟨t, hg, hs⟩ := row_of_ok hok.1
  rw [hok.2] at hg
  have hp' : a.tmps[p]?.getD undef = .pointer (some ⟨n, 0, none⟩) := by simpa using hp
  have hl := run_loadVar_row (P := Try.prog) w n t 35 (secA s) (0, 0) _ hg Try.underlying35 rfl (by rw [size35, secA_size])
  refine bodyPost_ret (v := .tuple #[.agg (secA s), a.tmps.getD q undef]) ?_ hd h
  simp [results, hres, hp', asAddr, hl]
end Go.Proofs.Ytfdigmlhjjdggaa
