import Derived.Test.YtklbdhpnbjhgkaaGreatDoorQFinM
import Derived.Test.YtklbdhpnbjhgkaaGreatDoorQKel
import Derived.Test.YtklbdhpnbjhgkaaGreatDoorQRowg
import Derived.Test.YtklbdhpnbjhgkaaGreatDoorQNum
import Derived.Test.YtklbdhpnbjhgkaaGreatDoorQGao
import Derived.Test.YtklbdhpnbjhgkaaGreatDoorQGenA
import Derived.Laws.StructEq
namespace Go.Proofs.YtklbdhpnbjhgkaaGreatDoor
open Go.RowKit

/-! Findings, reports, faults, readers: rows as a whole -/
abbrev Dg := Nat → UInt8
def fdA (p : Fd) : Array Value := #[.int .i64 p.1, .int .i64 p.2]
def fdZ : Fd := (0, 0)
@[go_sem] theorem fdA_size (p : Fd) : (fdA p).size = 2 := rfl
@[go_sem] theorem fdA_one (p : Fd) : OneC (fdA p) = true := by simp [OneC, fdA, Value.oneCell']
@[go_sem] theorem fdA_0 (p : Fd) : (fdA p)[0]? = some (.int .i64 p.1) := rfl
@[go_sem] theorem fdA_1 (p : Fd) : (fdA p)[1]? = some (.int .i64 p.2) := rfl
@[go_sem] theorem fdA_g0 (p : Fd) (h : 0 < (fdA p).size) : (fdA p)[0]'h = .int .i64 p.1 := rfl
@[go_sem] theorem fdA_g1 (p : Fd) (h : 1 < (fdA p).size) : (fdA p)[1]'h = .int .i64 p.2 := rfl
section
variable (ρ : Operand → Value) (dst : Option Tmp) (ty : TypeId) (pos : String) (after : Array Edge) (guard : Option (Nat × Bool))
@[go_sem ↓] theorem execOp_load_fd (x : Operand) : execOp ρ { dst, op := .load 25 x, type := ty, pos, after, guard } = bigLoad 25 (ρ x) := rfl
@[go_sem ↓] theorem execOp_store_fd (x y : Operand) : execOp ρ { dst, op := .store 25 x y, type := ty, pos, after, guard } = bigStore 25 (ρ x) (ρ y) := rfl
@[go_sem ↓] theorem execOp_alloc_fd : execOp ρ { dst, op := .alloc 25, type := ty, pos, after, guard } = bigAlloc 25 := rfl
@[go_sem ↓] theorem execOp_box_fd (x : Operand) : execOp ρ { dst, op := .box 25 x, type := ty, pos, after, guard } = bigBox 25 (ρ x) := rfl
end
theorem info_fd : (Tryz.prog.info? 25).map (fun i => (i.zero, i.size)) = some (some (.agg (fdA fdZ)), 2) := by kernel_rfl
theorem sizeT_fd : (Tryz.prog.info? 25).map (·.size) = some 2 := (zero_of_info info_fd).2
@[go_sem] theorem run_load_fd (w : World) (g : Nat) (h : rowL w g = true) (hs : (rowAt w g).size = 2) : (bigLoad 25 (.pointer (some ⟨g, 0, none⟩))).run Tryz.prog w = .ok (.value (.agg (rowAt w g))) w := by
  rw [run_bigLoad 25 _ 2 Tryz.underlying25 rfl sizeT_fd w g 0 h (by omega), Nat.zero_add, Array.extract_eq_self_of_le (by omega)]
@[go_sem] theorem run_store_fd (w : World) (g : Nat) (c : Array Value) (h : rowL w g = true) (hs : (rowAt w g).size = 2) (hc : c.size = 2) (h1 : OneC c = true) : (bigStore 25 (.pointer (some ⟨g, 0, none⟩)) (.agg c)).run Tryz.prog w = .ok .skip (w.setRow g c) := by
  rw [run_bigStore 25 2 sizeT_fd w g 0 c h hc (by omega) h1, layC_all _ _ (by omega)]
@[go_sem] theorem run_alloc_fd (w : World) : (bigAlloc 25).run Tryz.prog w = .ok (.value (.pointer (some ⟨w.heap.size, 0, none⟩))) (w.alloc (.cells (fdA fdZ) 25)) := by
  simp only [bigAlloc, Instr.alloc, Sem.run_bind, (zero_of_info info_fd).1 w, Result.andThen_ok]
  rfl
@[go_sem] theorem run_box_fd (w : World) (c : Array Value) : (bigBox 25 (.agg c)).run Tryz.prog w = .ok (.value (.pointer (some ⟨w.heap.size, 0, none⟩))) (w.alloc (.cells c 25)) := run_bigBox _ c w
@[go_sem] theorem run_fd_mid (w : World) (b o : Nat) (h : rgOk w b o 2 = true) : (bigLoad 25 (.pointer (some ⟨b, o, none⟩))).run Tryz.prog w = .ok (.value (.agg (rg w b o 2))) w := by
  simp only [bigLoad, Sem.run_bind]
  rw [run_loadAt_mid w b o 25 _ _ (rangeAt_rg h) Tryz.underlying25 rfl (by rw [sizeT_fd, Array.length_toList, rg_size])]
  rfl
def fdE : EK Fd := { T := 25, S := 22, k := 2, bytes := 16, z := .agg (fdA fdZ), enc := fun p => (fdA p).toList }
theorem fdE_enc (p : Fd) : fdE.enc p = (fdA p).toList := by simp only [fdE]
theorem fdE_arr (p : Fd) : (fdE.enc p).toArray = fdA p := by rw [fdE_enc, Array.toArray_toList]
theorem fdE_k : fdE.k = 2 := rfl
theorem fdE_ok : fdE.Ok where
  len x := by rw [fdE_enc, Array.length_toList, fdA_size]; rfl
  one x v hv := by
    have h := fdA_one x
    unfold OneC at h
    exact Array.all_eq_true_iff_forall_mem.1 h v (by rw [fdE_enc] at hv; simpa using hv)
  und := Tryz.underlying22
  info := by
    have h : (Tryz.prog.info? 25).map (fun i => (i.zero, i.size, i.bytes)) = some (some (.agg (fdA fdZ)), 2, 16) := by kernel_rfl
    exact h
  zc := by show (fdA fdZ).size = 2; rfl
  kp := by show 0 < 2; omega
  row := ⟨_, Tryz.underlying25, rfl⟩
def dgE : EK Dg := { T := 50, S := 29, k := 32, bytes := 32, z := .agg (dg_secA dg_secZ), enc := fun p => (dg_secA p).toList }
theorem dgE_enc (p : Dg) : dgE.enc p = (dg_secA p).toList := by simp only [dgE]
theorem dgE_arr (p : Dg) : (dgE.enc p).toArray = dg_secA p := by rw [dgE_enc, Array.toArray_toList]
theorem dgE_k : dgE.k = 32 := rfl
theorem dgE_ok : dgE.Ok where
  len x := by rw [dgE_enc, Array.length_toList, dg_secA_size]; rfl
  one x v hv := Array.all_eq_true_iff_forall_mem.1 (dg_secA_one x) v (by rw [dgE_enc] at hv; simpa using hv)
  und := Tryz.underlying29
  info := by
    have h : (Tryz.prog.info? 50).map (fun i => (i.zero, i.size, i.bytes)) = some (some (.agg (dg_secA dg_secZ)), 32, 32) := by kernel_rfl
    exact h
  zc := by show (dg_secA dg_secZ).size = 32; rw [dg_secA_size]
  kp := by show 0 < 32; omega
  row := ⟨_, Tryz.underlying50, rfl⟩
@[go_sem] theorem run_dg_mid (w : World) (b o : Nat) (h : rgOk w b o 32 = true) : (dg_secLoad (.pointer (some ⟨b, o, none⟩))).run Tryz.prog w = .ok (.value (.agg (rg w b o 32))) w := by
  simp only [dg_secLoad, Sem.run_bind]
  rw [run_loadAt_mid w b o 50 _ _ (rangeAt_rg h) Tryz.underlying50 rfl (by rw [size50, Array.length_toList, rg_size])]
  rfl
theorem fd_at {w : World} {x : Option Addr} {n c : Nat} {l : List Fd} (h : IsK fdE w (.slice x n c) l) (i : Nat) (d : Fd) (hi : l[i]? = some d) : ∃ g o, x = some ⟨g, o, none⟩ ∧ g < w.heap.size ∧ w.cell? ⟨g, o + i * 2, none⟩ = some (.int .i64 d.1) ∧ w.cell? ⟨g, o + i * 2 + 1, none⟩ = some (.int .i64 d.2) ∧ rgOk w g (o + i * 2) 2 = true ∧ rg w g (o + i * 2) 2 = fdA d := by
  obtain ⟨g, o, e, hg, hr⟩ := h.at i d hi
  rw [fdE_k, fdE_enc] at hr
  have h1 := rg_of hr (by rw [Array.length_toList, fdA_size] : (fdA d).toList.length = 2)
  exact ⟨g, o, e, hg, hr 0 _ rfl, hr 1 _ rfl, h1.1, by rw [h1.2, Array.toArray_toList]⟩
theorem dg_at {w : World} {x : Option Addr} {n c : Nat} {l : List Dg} (h : IsK dgE w (.slice x n c) l) (i : Nat) (d : Dg) (hi : l[i]? = some d) : ∃ g o, x = some ⟨g, o, none⟩ ∧ g < w.heap.size ∧ rgOk w g (o + i * 32) 32 = true ∧ rg w g (o + i * 32) 32 = dg_secA d := by
  obtain ⟨g, o, e, hg, hr⟩ := h.at i d hi
  rw [dgE_k, dgE_enc] at hr
  have h1 := rg_of hr (by rw [Array.length_toList, dg_secA_size] : (dg_secA d).toList.length = 32)
  exact ⟨g, o, e, hg, h1.1, by rw [h1.2, Array.toArray_toList]⟩
def rpA (st : Int) (a b c : Value) : Array Value := #[.int .i64 st, a, b, c]
@[go_sem] theorem rpA_size (st : Int) (a b c : Value) : (rpA st a b c).size = 4 := rfl
@[go_sem] theorem rpA_one (st : Int) (x y z : Option Addr) (n m k c d e : Nat) : OneC (rpA st (.slice x n c) (.slice y m d) (.slice z k e)) = true := by simp [OneC, rpA, Value.oneCell']
@[go_sem] theorem rpA_0 (st : Int) (a b c : Value) : (rpA st a b c)[0]? = some (.int .i64 st) := rfl
@[go_sem] theorem rpA_1 (st : Int) (a b c : Value) : (rpA st a b c)[1]? = some a := rfl
@[go_sem] theorem rpA_2 (st : Int) (a b c : Value) : (rpA st a b c)[2]? = some b := rfl
@[go_sem] theorem rpA_3 (st : Int) (a b c : Value) : (rpA st a b c)[3]? = some c := rfl
section
variable (ρ : Operand → Value) (dst : Option Tmp) (ty : TypeId) (pos : String) (after : Array Edge) (guard : Option (Nat × Bool))
@[go_sem ↓] theorem execOp_load_rp (x : Operand) : execOp ρ { dst, op := .load 32 x, type := ty, pos, after, guard } = bigLoad 32 (ρ x) := rfl
@[go_sem ↓] theorem execOp_store_rp (x y : Operand) : execOp ρ { dst, op := .store 32 x y, type := ty, pos, after, guard } = bigStore 32 (ρ x) (ρ y) := rfl
@[go_sem ↓] theorem execOp_alloc_rp : execOp ρ { dst, op := .alloc 32, type := ty, pos, after, guard } = bigAlloc 32 := rfl
@[go_sem ↓] theorem execOp_box_rp (x : Operand) : execOp ρ { dst, op := .box 32 x, type := ty, pos, after, guard } = bigBox 32 (ρ x) := rfl
end
theorem info_rp : (Tryz.prog.info? 32).map (fun i => (i.zero, i.size)) = some (some (.agg (rpA 0 (.slice none 0 0) (.slice none 0 0) (.slice none 0 0))), 4) := by kernel_rfl
theorem sizeT_rp : (Tryz.prog.info? 32).map (·.size) = some 4 := (zero_of_info info_rp).2
@[go_sem] theorem run_load_rp (w : World) (g : Nat) (h : rowL w g = true) (hs : (rowAt w g).size = 4) : (bigLoad 32 (.pointer (some ⟨g, 0, none⟩))).run Tryz.prog w = .ok (.value (.agg (rowAt w g))) w := by
  rw [run_bigLoad 32 _ 4 Tryz.underlying32 rfl sizeT_rp w g 0 h (by omega), Nat.zero_add, Array.extract_eq_self_of_le (by omega)]
@[go_sem] theorem run_store_rp (w : World) (g : Nat) (c : Array Value) (h : rowL w g = true) (hs : (rowAt w g).size = 4) (hc : c.size = 4) (h1 : OneC c = true) : (bigStore 32 (.pointer (some ⟨g, 0, none⟩)) (.agg c)).run Tryz.prog w = .ok .skip (w.setRow g c) := by
  rw [run_bigStore 32 4 sizeT_rp w g 0 c h hc (by omega) h1, layC_all _ _ (by omega)]
@[go_sem] theorem run_alloc_rp (w : World) : (bigAlloc 32).run Tryz.prog w = .ok (.value (.pointer (some ⟨w.heap.size, 0, none⟩))) (w.alloc (.cells (rpA 0 (.slice none 0 0) (.slice none 0 0) (.slice none 0 0)) 32)) := by
  simp only [bigAlloc, Instr.alloc, Sem.run_bind, (zero_of_info info_rp).1 w, Result.andThen_ok]
  rfl
@[go_sem] theorem run_box_rp (w : World) (c : Array Value) : (bigBox 32 (.agg c)).run Tryz.prog w = .ok (.value (.pointer (some ⟨w.heap.size, 0, none⟩))) (w.alloc (.cells c 32)) := run_bigBox _ c w
def ftA (a e : Int) : Array Value := #[.int .i64 a, .int .i64 e]
@[go_sem] theorem ftA_size (a e : Int) : (ftA a e).size = 2 := rfl
@[go_sem] theorem ftA_one (a e : Int) : OneC (ftA a e) = true := by simp [OneC, ftA, Value.oneCell']
@[go_sem] theorem ftA_0 (a e : Int) : (ftA a e)[0]? = some (.int .i64 a) := rfl
@[go_sem] theorem ftA_1 (a e : Int) : (ftA a e)[1]? = some (.int .i64 e) := rfl
section
variable (ρ : Operand → Value) (dst : Option Tmp) (ty : TypeId) (pos : String) (after : Array Edge) (guard : Option (Nat × Bool))
@[go_sem ↓] theorem execOp_load_ft (x : Operand) : execOp ρ { dst, op := .load 72 x, type := ty, pos, after, guard } = bigLoad 72 (ρ x) := rfl
@[go_sem ↓] theorem execOp_store_ft (x y : Operand) : execOp ρ { dst, op := .store 72 x y, type := ty, pos, after, guard } = bigStore 72 (ρ x) (ρ y) := rfl
@[go_sem ↓] theorem execOp_alloc_ft : execOp ρ { dst, op := .alloc 72, type := ty, pos, after, guard } = bigAlloc 72 := rfl
@[go_sem ↓] theorem execOp_box_ft (x : Operand) : execOp ρ { dst, op := .box 72 x, type := ty, pos, after, guard } = bigBox 72 (ρ x) := rfl
end
theorem info_ft : (Tryz.prog.info? 72).map (fun i => (i.zero, i.size)) = some (some (.agg (ftA 0 0)), 2) := by kernel_rfl
theorem sizeT_ft : (Tryz.prog.info? 72).map (·.size) = some 2 := (zero_of_info info_ft).2
@[go_sem] theorem run_load_ft (w : World) (g : Nat) (h : rowL w g = true) (hs : (rowAt w g).size = 2) : (bigLoad 72 (.pointer (some ⟨g, 0, none⟩))).run Tryz.prog w = .ok (.value (.agg (rowAt w g))) w := by
  rw [run_bigLoad 72 _ 2 Tryz.underlying72 rfl sizeT_ft w g 0 h (by omega), Nat.zero_add, Array.extract_eq_self_of_le (by omega)]
@[go_sem] theorem run_store_ft (w : World) (g : Nat) (c : Array Value) (h : rowL w g = true) (hs : (rowAt w g).size = 2) (hc : c.size = 2) (h1 : OneC c = true) : (bigStore 72 (.pointer (some ⟨g, 0, none⟩)) (.agg c)).run Tryz.prog w = .ok .skip (w.setRow g c) := by
  rw [run_bigStore 72 2 sizeT_ft w g 0 c h hc (by omega) h1, layC_all _ _ (by omega)]
@[go_sem] theorem run_alloc_ft (w : World) : (bigAlloc 72).run Tryz.prog w = .ok (.value (.pointer (some ⟨w.heap.size, 0, none⟩))) (w.alloc (.cells (ftA 0 0) 72)) := by
  simp only [bigAlloc, Instr.alloc, Sem.run_bind, (zero_of_info info_ft).1 w, Result.andThen_ok]
  rfl
@[go_sem] theorem run_box_ft (w : World) (c : Array Value) : (bigBox 72 (.agg c)).run Tryz.prog w = .ok (.value (.pointer (some ⟨w.heap.size, 0, none⟩))) (w.alloc (.cells c 72)) := run_bigBox _ c w
def rdA (v : Value) (i : Int) : Array Value := #[v, .int .i64 i]
@[go_sem] theorem rdA_size (v : Value) (i : Int) : (rdA v i).size = 2 := rfl
@[go_sem] theorem rdA_one (x : Option Addr) (n c : Nat) (i : Int) : OneC (rdA (.slice x n c) i) = true := by simp [OneC, rdA, Value.oneCell']
@[go_sem] theorem rdA_0 (v : Value) (i : Int) : (rdA v i)[0]? = some v := rfl
@[go_sem] theorem rdA_1 (v : Value) (i : Int) : (rdA v i)[1]? = some (.int .i64 i) := rfl
section
variable (ρ : Operand → Value) (dst : Option Tmp) (ty : TypeId) (pos : String) (after : Array Edge) (guard : Option (Nat × Bool))
@[go_sem ↓] theorem execOp_load_rd (x : Operand) : execOp ρ { dst, op := .load 61 x, type := ty, pos, after, guard } = bigLoad 61 (ρ x) := rfl
@[go_sem ↓] theorem execOp_store_rd (x y : Operand) : execOp ρ { dst, op := .store 61 x y, type := ty, pos, after, guard } = bigStore 61 (ρ x) (ρ y) := rfl
@[go_sem ↓] theorem execOp_alloc_rd : execOp ρ { dst, op := .alloc 61, type := ty, pos, after, guard } = bigAlloc 61 := rfl
@[go_sem ↓] theorem execOp_box_rd (x : Operand) : execOp ρ { dst, op := .box 61 x, type := ty, pos, after, guard } = bigBox 61 (ρ x) := rfl
end
theorem info_rd : (Tryz.prog.info? 61).map (fun i => (i.zero, i.size)) = some (some (.agg (rdA (.slice none 0 0) 0)), 2) := by kernel_rfl
theorem sizeT_rd : (Tryz.prog.info? 61).map (·.size) = some 2 := (zero_of_info info_rd).2
@[go_sem] theorem run_load_rd (w : World) (g : Nat) (h : rowL w g = true) (hs : (rowAt w g).size = 2) : (bigLoad 61 (.pointer (some ⟨g, 0, none⟩))).run Tryz.prog w = .ok (.value (.agg (rowAt w g))) w := by
  rw [run_bigLoad 61 _ 2 Tryz.underlying61 rfl sizeT_rd w g 0 h (by omega), Nat.zero_add, Array.extract_eq_self_of_le (by omega)]
@[go_sem] theorem run_store_rd (w : World) (g : Nat) (c : Array Value) (h : rowL w g = true) (hs : (rowAt w g).size = 2) (hc : c.size = 2) (h1 : OneC c = true) : (bigStore 61 (.pointer (some ⟨g, 0, none⟩)) (.agg c)).run Tryz.prog w = .ok .skip (w.setRow g c) := by
  rw [run_bigStore 61 2 sizeT_rd w g 0 c h hc (by omega) h1, layC_all _ _ (by omega)]
@[go_sem] theorem run_alloc_rd (w : World) : (bigAlloc 61).run Tryz.prog w = .ok (.value (.pointer (some ⟨w.heap.size, 0, none⟩))) (w.alloc (.cells (rdA (.slice none 0 0) 0) 61)) := by
  simp only [bigAlloc, Instr.alloc, Sem.run_bind, (zero_of_info info_rd).1 w, Result.andThen_ok]
  rfl
@[go_sem] theorem run_box_rd (w : World) (c : Array Value) : (bigBox 61 (.agg c)).run Tryz.prog w = .ok (.value (.pointer (some ⟨w.heap.size, 0, none⟩))) (w.alloc (.cells c 61)) := run_bigBox _ c w
def rrA (v : Value) (i e b : Int) : Array Value := #[v, .int .i64 i, .int .i64 e, .int .i64 b]
@[go_sem] theorem rrA_size (v : Value) (i e b : Int) : (rrA v i e b).size = 4 := rfl
@[go_sem] theorem rrA_one (x : Option Addr) (n c : Nat) (i e b : Int) : OneC (rrA (.slice x n c) i e b) = true := by simp [OneC, rrA, Value.oneCell']
@[go_sem] theorem rrA_0 (v : Value) (i e b : Int) : (rrA v i e b)[0]? = some v := rfl
@[go_sem] theorem rrA_1 (v : Value) (i e b : Int) : (rrA v i e b)[1]? = some (.int .i64 i) := rfl
@[go_sem] theorem rrA_2 (v : Value) (i e b : Int) : (rrA v i e b)[2]? = some (.int .i64 e) := rfl
@[go_sem] theorem rrA_3 (v : Value) (i e b : Int) : (rrA v i e b)[3]? = some (.int .i64 b) := rfl
section
variable (ρ : Operand → Value) (dst : Option Tmp) (ty : TypeId) (pos : String) (after : Array Edge) (guard : Option (Nat × Bool))
@[go_sem ↓] theorem execOp_load_rr (x : Operand) : execOp ρ { dst, op := .load 125 x, type := ty, pos, after, guard } = bigLoad 125 (ρ x) := rfl
@[go_sem ↓] theorem execOp_store_rr (x y : Operand) : execOp ρ { dst, op := .store 125 x y, type := ty, pos, after, guard } = bigStore 125 (ρ x) (ρ y) := rfl
@[go_sem ↓] theorem execOp_alloc_rr : execOp ρ { dst, op := .alloc 125, type := ty, pos, after, guard } = bigAlloc 125 := rfl
@[go_sem ↓] theorem execOp_box_rr (x : Operand) : execOp ρ { dst, op := .box 125 x, type := ty, pos, after, guard } = bigBox 125 (ρ x) := rfl
end
theorem info_rr : (Tryz.prog.info? 125).map (fun i => (i.zero, i.size)) = some (some (.agg (rrA (.slice none 0 0) 0 0 0)), 4) := by kernel_rfl
theorem sizeT_rr : (Tryz.prog.info? 125).map (·.size) = some 4 := (zero_of_info info_rr).2
@[go_sem] theorem run_load_rr (w : World) (g : Nat) (h : rowL w g = true) (hs : (rowAt w g).size = 4) : (bigLoad 125 (.pointer (some ⟨g, 0, none⟩))).run Tryz.prog w = .ok (.value (.agg (rowAt w g))) w := by
  rw [run_bigLoad 125 _ 4 Tryz.underlying125 rfl sizeT_rr w g 0 h (by omega), Nat.zero_add, Array.extract_eq_self_of_le (by omega)]
@[go_sem] theorem run_store_rr (w : World) (g : Nat) (c : Array Value) (h : rowL w g = true) (hs : (rowAt w g).size = 4) (hc : c.size = 4) (h1 : OneC c = true) : (bigStore 125 (.pointer (some ⟨g, 0, none⟩)) (.agg c)).run Tryz.prog w = .ok .skip (w.setRow g c) := by
  rw [run_bigStore 125 4 sizeT_rr w g 0 c h hc (by omega) h1, layC_all _ _ (by omega)]
@[go_sem] theorem run_alloc_rr (w : World) : (bigAlloc 125).run Tryz.prog w = .ok (.value (.pointer (some ⟨w.heap.size, 0, none⟩))) (w.alloc (.cells (rrA (.slice none 0 0) 0 0 0) 125)) := by
  simp only [bigAlloc, Instr.alloc, Sem.run_bind, (zero_of_info info_rr).1 w, Result.andThen_ok]
  rfl
@[go_sem] theorem run_box_rr (w : World) (c : Array Value) : (bigBox 125 (.agg c)).run Tryz.prog w = .ok (.value (.pointer (some ⟨w.heap.size, 0, none⟩))) (w.alloc (.cells c 125)) := run_bigBox _ c w

/-! Builds -/
def fdBd_n  : Sem Next := do pure (.value (← Instr.build 25 #[]))
@[go_sem ↓] theorem execOp_fdBd_n (ρ : Operand → Value) (dst : Option Tmp) (ty : TypeId) (pos : String) (after : Array Edge) (guard : Option (Nat × Bool))  : execOp ρ { dst, op := .build 25 #[], type := ty, pos, after, guard } = fdBd_n  := by simp [execOp, fdBd_n]
@[go_sem] theorem run_fdBd_n (w : World)  : (fdBd_n ).run Tryz.prog w = .ok (.value (.agg (fdA fdZ))) w := by
  simp only [fdBd_n, Sem.run_bind]
  rw [run_build w 25 #[] (fdA fdZ) (by kernel_rfl)]; rfl
def fdBd_0 (x : Value) : Sem Next := do pure (.value (← Instr.build 25 #[(0, x)]))
@[go_sem ↓] theorem execOp_fdBd_0 (ρ : Operand → Value) (dst : Option Tmp) (ty : TypeId) (pos : String) (after : Array Edge) (guard : Option (Nat × Bool)) (x : Operand) : execOp ρ { dst, op := .build 25 #[(0, x)], type := ty, pos, after, guard } = fdBd_0 (ρ x) := by simp [execOp, fdBd_0]
@[go_sem] theorem run_fdBd_0 (w : World) (a : Int) : (fdBd_0 (.int .i64 a)).run Tryz.prog w = .ok (.value (.agg (fdA (a, 0)))) w := by
  simp only [fdBd_0, Sem.run_bind]
  rw [run_build w 25 #[(0, .int .i64 a)] (fdA (a, 0)) (by kernel_rfl)]; rfl
def fdBd_01 (x : Value) (y : Value) : Sem Next := do pure (.value (← Instr.build 25 #[(0, x), (1, y)]))
@[go_sem ↓] theorem execOp_fdBd_01 (ρ : Operand → Value) (dst : Option Tmp) (ty : TypeId) (pos : String) (after : Array Edge) (guard : Option (Nat × Bool)) (x : Operand) (y : Operand) : execOp ρ { dst, op := .build 25 #[(0, x), (1, y)], type := ty, pos, after, guard } = fdBd_01 (ρ x) (ρ y) := by simp [execOp, fdBd_01]
@[go_sem] theorem run_fdBd_01 (w : World) (a b : Int) : (fdBd_01 (.int .i64 a) (.int .i64 b)).run Tryz.prog w = .ok (.value (.agg (fdA (a, b)))) w := by
  simp only [fdBd_01, Sem.run_bind]
  rw [run_build w 25 #[(0, .int .i64 a), (1, .int .i64 b)] (fdA (a, b)) (by kernel_rfl)]; rfl
def rpBd_n  : Sem Next := do pure (.value (← Instr.build 32 #[]))
@[go_sem ↓] theorem execOp_rpBd_n (ρ : Operand → Value) (dst : Option Tmp) (ty : TypeId) (pos : String) (after : Array Edge) (guard : Option (Nat × Bool))  : execOp ρ { dst, op := .build 32 #[], type := ty, pos, after, guard } = rpBd_n  := by simp [execOp, rpBd_n]
@[go_sem] theorem run_rpBd_n (w : World)  : (rpBd_n ).run Tryz.prog w = .ok (.value (.agg (rpA 0 (.slice none 0 0) (.slice none 0 0) (.slice none 0 0)))) w := by
  simp only [rpBd_n, Sem.run_bind]
  rw [run_build w 32 #[] (rpA 0 (.slice none 0 0) (.slice none 0 0) (.slice none 0 0)) (by kernel_rfl)]; rfl
def rpBd_0 (x : Value) : Sem Next := do pure (.value (← Instr.build 32 #[(0, x)]))
@[go_sem ↓] theorem execOp_rpBd_0 (ρ : Operand → Value) (dst : Option Tmp) (ty : TypeId) (pos : String) (after : Array Edge) (guard : Option (Nat × Bool)) (x : Operand) : execOp ρ { dst, op := .build 32 #[(0, x)], type := ty, pos, after, guard } = rpBd_0 (ρ x) := by simp [execOp, rpBd_0]
@[go_sem] theorem run_rpBd_0 (w : World) (a : Int) : (rpBd_0 (.int .i64 a)).run Tryz.prog w = .ok (.value (.agg (rpA a (.slice none 0 0) (.slice none 0 0) (.slice none 0 0)))) w := by
  simp only [rpBd_0, Sem.run_bind]
  rw [run_build w 32 #[(0, .int .i64 a)] (rpA a (.slice none 0 0) (.slice none 0 0) (.slice none 0 0)) (by kernel_rfl)]; rfl
def ftBd_01 (x : Value) (y : Value) : Sem Next := do pure (.value (← Instr.build 72 #[(0, x), (1, y)]))
@[go_sem ↓] theorem execOp_ftBd_01 (ρ : Operand → Value) (dst : Option Tmp) (ty : TypeId) (pos : String) (after : Array Edge) (guard : Option (Nat × Bool)) (x : Operand) (y : Operand) : execOp ρ { dst, op := .build 72 #[(0, x), (1, y)], type := ty, pos, after, guard } = ftBd_01 (ρ x) (ρ y) := by simp [execOp, ftBd_01]
@[go_sem] theorem run_ftBd_01 (w : World) (a b : Int) : (ftBd_01 (.int .i64 a) (.int .i64 b)).run Tryz.prog w = .ok (.value (.agg (ftA a b))) w := by
  simp only [ftBd_01, Sem.run_bind]
  rw [run_build w 72 #[(0, .int .i64 a), (1, .int .i64 b)] (ftA a b) (by kernel_rfl)]; rfl
def rdBd_0 (x : Value) : Sem Next := do pure (.value (← Instr.build 61 #[(0, x)]))
@[go_sem ↓] theorem execOp_rdBd_0 (ρ : Operand → Value) (dst : Option Tmp) (ty : TypeId) (pos : String) (after : Array Edge) (guard : Option (Nat × Bool)) (x : Operand) : execOp ρ { dst, op := .build 61 #[(0, x)], type := ty, pos, after, guard } = rdBd_0 (ρ x) := by simp [execOp, rdBd_0]
@[go_sem] theorem run_rdBd_0 (w : World) (x : Option Addr) (n c : Nat) : (rdBd_0 (.slice x n c)).run Tryz.prog w = .ok (.value (.agg (rdA (.slice x n c) 0))) w := by
  simp only [rdBd_0, Sem.run_bind]
  rw [run_build w 61 #[(0, .slice x n c)] (rdA (.slice x n c) 0) (by kernel_rfl)]; rfl
def rrBd_0 (x : Value) : Sem Next := do pure (.value (← Instr.build 125 #[(0, x)]))
@[go_sem ↓] theorem execOp_rrBd_0 (ρ : Operand → Value) (dst : Option Tmp) (ty : TypeId) (pos : String) (after : Array Edge) (guard : Option (Nat × Bool)) (x : Operand) : execOp ρ { dst, op := .build 125 #[(0, x)], type := ty, pos, after, guard } = rrBd_0 (ρ x) := by simp [execOp, rrBd_0]
@[go_sem] theorem run_rrBd_0 (w : World) (x : Option Addr) (n c : Nat) : (rrBd_0 (.slice x n c)).run Tryz.prog w = .ok (.value (.agg (rrA (.slice x n c) 0 0 0))) w := by
  simp only [rrBd_0, Sem.run_bind]
  rw [run_build w 125 #[(0, .slice x n c)] (rrA (.slice x n c) 0 0 0) (by kernel_rfl)]; rfl
/-! Literals of slices -/
def fdLit0  : Sem Next := do pure (.value (← Instr.buildSlice 22 0 #[]))
@[go_sem ↓] theorem execOp_fdLit0 (ρ : Operand → Value) (dst : Option Tmp) (ty : TypeId) (pos : String) (after : Array Edge) (guard : Option (Nat × Bool))  : execOp ρ { dst, op := .buildSlice 22 0 #[], type := ty, pos, after, guard } = fdLit0  := by simp [execOp, fdLit0]
@[go_sem] theorem run_fdLit0 (w : World)  : (fdLit0 ).run Tryz.prog w = .ok (.value (.slice (some ⟨w.heap.size, 0, none⟩) 0 0)) (w.alloc (.cells (#[]) 25)) := by
  have h := run_litK0 fdE_ok w
  have h' : (Instr.buildSlice 22 0 #[]).run Tryz.prog w = .ok (.slice (some ⟨w.heap.size, 0, none⟩) 0 0) (w.alloc (.cells (#[]) 25)) := h
  simp only [fdLit0, Sem.run_bind, h', Result.andThen_ok]; rfl
theorem own_fdLit0 (w : World)  : OwnK fdE (w.alloc (.cells (#[]) 25)) w.heap.size (.slice (some ⟨w.heap.size, 0, none⟩) 0 0) [] := by
  exact OwnK.lit0 fdE w
def fdLit1 (x : Value) : Sem Next := do pure (.value (← Instr.buildSlice 22 1 #[(0, x)]))
@[go_sem ↓] theorem execOp_fdLit1 (ρ : Operand → Value) (dst : Option Tmp) (ty : TypeId) (pos : String) (after : Array Edge) (guard : Option (Nat × Bool)) (x : Operand) : execOp ρ { dst, op := .buildSlice 22 1 #[(0, x)], type := ty, pos, after, guard } = fdLit1 (ρ x) := by simp [execOp, fdLit1]
@[go_sem] theorem run_fdLit1 (w : World) (p : Fd) : (fdLit1 (.agg (fdA p))).run Tryz.prog w = .ok (.value (.slice (some ⟨w.heap.size, 0, none⟩) 1 1)) (w.alloc (.cells (fdA p) 25)) := by
  have h := run_litK1 fdE_ok (by show fdE.k ≤ 1000; decide) w p
  rw [fdE_arr] at h
  have h' : (Instr.buildSlice 22 1 #[(0, .agg (fdA p))]).run Tryz.prog w = .ok (.slice (some ⟨w.heap.size, 0, none⟩) 1 1) (w.alloc (.cells (fdA p) 25)) := h
  simp only [fdLit1, Sem.run_bind, h', Result.andThen_ok]; rfl
def fdLit2 (x : Value) (y : Value) : Sem Next := do pure (.value (← Instr.buildSlice 22 2 #[(0, x), (1, y)]))
@[go_sem ↓] theorem execOp_fdLit2 (ρ : Operand → Value) (dst : Option Tmp) (ty : TypeId) (pos : String) (after : Array Edge) (guard : Option (Nat × Bool)) (x : Operand) (y : Operand) : execOp ρ { dst, op := .buildSlice 22 2 #[(0, x), (1, y)], type := ty, pos, after, guard } = fdLit2 (ρ x) (ρ y) := by simp [execOp, fdLit2]
@[go_sem] theorem run_fdLit2 (w : World) (p q : Fd) : (fdLit2 (.agg (fdA p)) (.agg (fdA q))).run Tryz.prog w = .ok (.value (.slice (some ⟨w.heap.size, 0, none⟩) 2 2)) (w.alloc (.cells ((flK fdE [p, q]).toArray) 25)) := by
  have h := run_litK fdE_ok w [p, q] (by simp) (by show 2 * fdE.k ≤ 10000; decide)
  simp only [psK, fdE_arr] at h
  have h' : (Instr.buildSlice 22 2 #[(0, .agg (fdA p)), (1, .agg (fdA q))]).run Tryz.prog w = .ok (.slice (some ⟨w.heap.size, 0, none⟩) 2 2) (w.alloc (.cells ((flK fdE [p, q]).toArray) 25)) := h
  simp only [fdLit2, Sem.run_bind, h', Result.andThen_ok]; rfl
theorem own_fdLit2 (w : World) (p q : Fd) : OwnK fdE (w.alloc (.cells ((flK fdE [p, q]).toArray) 25)) w.heap.size (.slice (some ⟨w.heap.size, 0, none⟩) 2 2) [p, q] := by
  exact OwnK.lit fdE_ok w [p, q] (by show 2 ≤ maxLen; decide)
def fdLit3 (x : Value) (y : Value) (z : Value) : Sem Next := do pure (.value (← Instr.buildSlice 22 3 #[(0, x), (1, y), (2, z)]))
@[go_sem ↓] theorem execOp_fdLit3 (ρ : Operand → Value) (dst : Option Tmp) (ty : TypeId) (pos : String) (after : Array Edge) (guard : Option (Nat × Bool)) (x : Operand) (y : Operand) (z : Operand) : execOp ρ { dst, op := .buildSlice 22 3 #[(0, x), (1, y), (2, z)], type := ty, pos, after, guard } = fdLit3 (ρ x) (ρ y) (ρ z) := by simp [execOp, fdLit3]
@[go_sem] theorem run_fdLit3 (w : World) (p q r : Fd) : (fdLit3 (.agg (fdA p)) (.agg (fdA q)) (.agg (fdA r))).run Tryz.prog w = .ok (.value (.slice (some ⟨w.heap.size, 0, none⟩) 3 3)) (w.alloc (.cells ((flK fdE [p, q, r]).toArray) 25)) := by
  have h := run_litK fdE_ok w [p, q, r] (by simp) (by show 3 * fdE.k ≤ 10000; decide)
  simp only [psK, fdE_arr] at h
  have h' : (Instr.buildSlice 22 3 #[(0, .agg (fdA p)), (1, .agg (fdA q)), (2, .agg (fdA r))]).run Tryz.prog w = .ok (.slice (some ⟨w.heap.size, 0, none⟩) 3 3) (w.alloc (.cells ((flK fdE [p, q, r]).toArray) 25)) := h
  simp only [fdLit3, Sem.run_bind, h', Result.andThen_ok]; rfl
theorem own_fdLit3 (w : World) (p q r : Fd) : OwnK fdE (w.alloc (.cells ((flK fdE [p, q, r]).toArray) 25)) w.heap.size (.slice (some ⟨w.heap.size, 0, none⟩) 3 3) [p, q, r] := by
  exact OwnK.lit fdE_ok w [p, q, r] (by show 3 ≤ maxLen; decide)
def dgLit0  : Sem Next := do pure (.value (← Instr.buildSlice 29 0 #[]))
@[go_sem ↓] theorem execOp_dgLit0 (ρ : Operand → Value) (dst : Option Tmp) (ty : TypeId) (pos : String) (after : Array Edge) (guard : Option (Nat × Bool))  : execOp ρ { dst, op := .buildSlice 29 0 #[], type := ty, pos, after, guard } = dgLit0  := by simp [execOp, dgLit0]
@[go_sem] theorem run_dgLit0 (w : World)  : (dgLit0 ).run Tryz.prog w = .ok (.value (.slice (some ⟨w.heap.size, 0, none⟩) 0 0)) (w.alloc (.cells (#[]) 50)) := by
  have h := run_litK0 dgE_ok w
  have h' : (Instr.buildSlice 29 0 #[]).run Tryz.prog w = .ok (.slice (some ⟨w.heap.size, 0, none⟩) 0 0) (w.alloc (.cells (#[]) 50)) := h
  simp only [dgLit0, Sem.run_bind, h', Result.andThen_ok]; rfl
def dgLit1 (x : Value) : Sem Next := do pure (.value (← Instr.buildSlice 29 1 #[(0, x)]))
@[go_sem ↓] theorem execOp_dgLit1 (ρ : Operand → Value) (dst : Option Tmp) (ty : TypeId) (pos : String) (after : Array Edge) (guard : Option (Nat × Bool)) (x : Operand) : execOp ρ { dst, op := .buildSlice 29 1 #[(0, x)], type := ty, pos, after, guard } = dgLit1 (ρ x) := by simp [execOp, dgLit1]
@[go_sem] theorem run_dgLit1 (w : World) (p : Dg) : (dgLit1 (.agg (dg_secA p))).run Tryz.prog w = .ok (.value (.slice (some ⟨w.heap.size, 0, none⟩) 1 1)) (w.alloc (.cells (dg_secA p) 50)) := by
  have h := run_litK1 dgE_ok (by show dgE.k ≤ 1000; decide) w p
  rw [dgE_arr] at h
  have h' : (Instr.buildSlice 29 1 #[(0, .agg (dg_secA p))]).run Tryz.prog w = .ok (.slice (some ⟨w.heap.size, 0, none⟩) 1 1) (w.alloc (.cells (dg_secA p) 50)) := h
  simp only [dgLit1, Sem.run_bind, h', Result.andThen_ok]; rfl
theorem own_dgLit1 (w : World) (p : Dg) : OwnK dgE (w.alloc (.cells (dg_secA p) 50)) w.heap.size (.slice (some ⟨w.heap.size, 0, none⟩) 1 1) [p] := by
  have := OwnK.lit1 dgE_ok w p
  rwa [dgE_arr] at this
/-! == of findings -/
def fdEq (x y : Fd) : Bool := x.1 == y.1 && x.2 == y.2
theorem fdEq_dec (x y : Fd) : fdEq x y = decide (x = y) := by
  rw [Bool.eq_iff_iff]
  simp [fdEq, Prod.ext_iff]
def fdBin (op : BinOp) (x y : Operand) (u v : Value) : Sem Next := do pure (.value (← (do eqGuard op 25 x y u v; binOp op 25 u v)))
@[go_sem ↓] theorem execOp_fdBin (ρ : Operand → Value) (dst : Option Tmp) (ty ty' : TypeId) (pos : String) (after : Array Edge) (guard : Option (Nat × Bool)) (op : BinOp) (x y : Operand) : execOp ρ { dst, op := .binOp op 25 x y ty', type := ty, pos, after, guard } = fdBin op x y (ρ x) (ρ y) := rfl
set_option linter.unusedSimpArgs false in
theorem run_equal_fd (w : World) (x y : Fd) : (Op.equalIn 10000 25 (.agg (fdA x)) (.agg (fdA y))).run Tryz.prog w = .ok (fdEq x y) w := by
  have p0 : ∀ (x : Fd) (W : World), (part 3 (fdA x) 0).run Tryz.prog W = .ok (.int .i64 x.1) W := fun x W => by
    unfold part
    simp only [Sem.run_bind, Tryz.isAgg3, Result.andThen_ok, Bool.false_eq_true, if_false, fdA_0, Sem.run_pure]
  have p1 : ∀ (x : Fd) (W : World), (part 3 (fdA x) 1).run Tryz.prog W = .ok (.int .i64 x.2) W := fun x W => by
    unfold part
    simp only [Sem.run_bind, Tryz.isAgg3, Result.andThen_ok, Bool.false_eq_true, if_false, fdA_1, Sem.run_pure]
  have p9 : ∀ (a b : Int) (W : World), (Op.equalIn 9999 3 (.int .i64 a) (.int .i64 b)).run Tryz.prog W = .ok (a == b) W := fun a b W => run_equalIn_int W 9998 3 .i64 .i64 _ _ Tryz.underlying3
  have hsz : ∀ W, (sizeOf 3).run Tryz.prog W = .ok 1 W := fun W => by simp [go_sem]
  rw [Op.equalIn]
  simp only [Sem.run_bind, run_underlying Tryz.underlying25, Result.andThen_ok, hsz]
  simp [p0, p1, p9, fdEq, hsz]
  by_cases h0 : x.1 = y.1
  · by_cases h1 : x.2 = y.2
    · simp [h0, h1]
    · simp [h0, h1]
  · simp [h0]
theorem eqGuard_fd (w : World) (op : BinOp) (x y : Operand) (xs ys : Array Value) : (eqGuard op 25 x y (.agg xs) (.agg ys)).run Tryz.prog w = .ok () w :=
  run_eqGuard_agg w op 25 x y xs ys (by kernel_rfl)
@[go_sem] theorem run_fdEql (w : World) (x y : Operand) (s t : Fd) : (fdBin .eql x y (.agg (fdA s)) (.agg (fdA t))).run Tryz.prog w = .ok (.value (.bool (fdEq s t))) w := by
  simp only [fdBin, Sem.run_bind, eqGuard_fd, Result.andThen_ok]
  rw [run_eql_struct, run_equal_fd]; rfl
@[go_sem] theorem run_fdNeq (w : World) (x y : Operand) (s t : Fd) : (fdBin .neq x y (.agg (fdA s)) (.agg (fdA t))).run Tryz.prog w = .ok (.value (.bool (!fdEq s t))) w := by
  simp only [fdBin, Sem.run_bind, eqGuard_fd, Result.andThen_ok]
  rw [run_neq_struct, run_equal_fd]; rfl
/-! Digests: boxed, built of one byte -/
@[go_sem ↓] theorem execOp_dgBox (ρ : Operand → Value) (dst : Option Tmp) (ty : TypeId) (pos : String) (after : Array Edge) (guard : Option (Nat × Bool)) (x : Operand) : execOp ρ { dst, op := .box 50 x, type := ty, pos, after, guard } = bigBox 50 (ρ x) := rfl
@[go_sem] theorem run_dgBox (w : World) (c : Array Value) : (bigBox 50 (.agg c)).run Tryz.prog w = .ok (.value (.pointer (some ⟨w.heap.size, 0, none⟩))) (w.alloc (.cells c 50)) := run_bigBox _ c w
def dgBd7 : Sem Next := do pure (.value (← Instr.build 50 #[(0, .int .u8 7)]))
@[go_sem ↓] theorem execOp_dgBd7 (ρ : Operand → Value) (hk : ρ (.const (.int .u8 7)) = .int .u8 7) (dst : Option Tmp) (ty : TypeId) (pos : String) (after : Array Edge) (guard : Option (Nat × Bool)) : execOp ρ { dst, op := .build 50 #[(0, .const (.int .u8 7))], type := ty, pos, after, guard } = dgBd7 := by simp [execOp, dgBd7, hk]
def dg7 : Dg := upd dg_secZ 0 7
@[go_sem] theorem run_dgBd7 (w : World) : dgBd7.run Tryz.prog w = .ok (.value (.agg (dg_secA dg7))) w := by
  simp only [dgBd7, Sem.run_bind]
  rw [run_build w 50 #[(0, .int .u8 7)] (dg_secA dg7) (by kernel_rfl)]; rfl
def dgBd9 : Sem Next := do pure (.value (← Instr.build 50 #[(0, .int .u8 9)]))
@[go_sem ↓] theorem execOp_dgBd9 (ρ : Operand → Value) (hk : ρ (.const (.int .u8 9)) = .int .u8 9) (dst : Option Tmp) (ty : TypeId) (pos : String) (after : Array Edge) (guard : Option (Nat × Bool)) : execOp ρ { dst, op := .build 50 #[(0, .const (.int .u8 9))], type := ty, pos, after, guard } = dgBd9 := by simp [execOp, dgBd9, hk]
def dg9 : Dg := upd dg_secZ 0 9
@[go_sem] theorem run_dgBd9 (w : World) : dgBd9.run Tryz.prog w = .ok (.value (.agg (dg_secA dg9))) w := by
  simp only [dgBd9, Sem.run_bind]
  rw [run_build w 50 #[(0, .int .u8 9)] (dg_secA dg9) (by kernel_rfl)]; rfl
end Go.Proofs.YtklbdhpnbjhgkaaGreatDoor
