import Derived.Test.YtddmmmfpdmejbaaGreatDoorQJop
import Derived.Test.YtddmmmfpdmejbaaGreatDoorQJpu
import Derived.Test.YtddmmmfpdmejbaaGreatDoorQNum
import Derived.Lib.SmallJoins
import Derived.Deep.AppendLies
import Derived.Great.BuildSlice
import Derived.Test.YtddmmmfpdmejbaaGreatDoorQRelk
namespace Go.Proofs.YtddmmmfpdmejbaaGreatDoor
open Go.RowKit

/-! Print's and Field's mathematics; what json owes; assaylaw15.known, read -/
/-! What json owes -/
def JpP (q : Nd × Int × Int) (w : World) (e : Ending) (w' : World) : Prop := ∃ v, e = .returned (.tuple #[v, .int .i64 q.2.1, .int .i64 q.2.2]) ∧ (q.2.1 = 0 → VlF w' (w.heap.size ≤ ·) v q.1) ∧ (q.2.1 ≠ 0 → v = .nilIface) ∧ Below w.heap.size w w'
/-- The lists are its own, no two of them one. -/
def JoP (q : Nd × Int × Int) (w : World) (e : Ending) (w' : World) : Prop := ∃ v, e = .returned (.tuple #[v, .int .i64 q.2.1, .int .i64 q.2.2]) ∧ (q.2.1 = 0 → ∃ L K, VlO w' w.heap.size v q.1 L K ∧ (blks L K).Nodup) ∧ (q.2.1 ≠ 0 → v = .nilIface) ∧ Below w.heap.size w w'
theorem JoP.jp {q : Nd × Int × Int} {w w' : World} {e : Ending} (h : JoP q w e w') : JpP q w e w' := by
  obtain ⟨v, he, h0, h1, hb⟩ := h
  exact ⟨v, he, fun hq => by obtain ⟨L, K, hv, -⟩ := h0 hq; exact hv.f, h1, hb⟩
def PtP (d : Nd) (w : World) (e : Ending) (w' : World) : Prop := e = .returned (.tuple #[.string ⟨(prtS d).toArray⟩, .int .i64 (prtE d)]) ∧ Below w.heap.size w w'
set_option linter.unusedVariables false
def VlG (w : World) (F : Nat → Prop) (i1 : Value) (i2 : Nd) : Prop := ∀ Q : Value → Nd → Prop, (∀ (k : Int) (hk : ¬ (1 ≤ k ∧ k ≤ 6)), Q .nilIface (.mk k 0 [] [] [])) → (Q (.iface 65 (.agg #[])) (.mk 1 0 [] [] [])) → (∀ (b : Bool), Q (.iface 66 (.bool b)) (.mk 2 (bif b then 1 else 0) [] [] [])) → (∀ (n : Int) (hn : -9223372036854775808 ≤ n ∧ n ≤ 9223372036854775807), Q (.iface 67 (.int .i64 n)) (.mk 3 n [] [] [])) → (∀ (s : ByteArray), Q (.iface 54 (.string s)) (.mk 4 0 (lS s) [] [])) → (∀ (a : Sl) (us : List Value) (ds : List Nd) (hv : IsG w a.v us) (hF : a.In F) (hl : us.length = ds.length) (hz : a.n ≤ 1759218604441) (he : ∀ (i : Nat) u d, us[i]? = some u → ds[i]? = some d → Q u d), Q (.iface 68 a.v) (.mk 5 0 [] [] ds)) → (∀ (ks a : Sl) (kb : List ByteArray) (us : List Value) (ds : List Nd) (hk : IsG w ks.v (strs kb)) (hkF : ks.In F) (hv : IsG w a.v us) (hF : a.In F) (hl : us.length = ds.length) (hz : ks.n ≤ 8796093022208 ∧ a.n ≤ 1759218604441) (he : ∀ (i : Nat) u d, us[i]? = some u → ds[i]? = some d → Q u d), Q (.iface 70 (.agg #[ks.v, a.v])) (.mk 6 0 [] (kb.map lS) ds)) → Q i1 i2
theorem VlG.nil {w : World} {F : Nat → Prop} (k : Int) (hk : ¬ (1 ≤ k ∧ k ≤ 6)) : VlG w F .nilIface (.mk k 0 [] [] []) := fun Q q0 q1 q2 q3 q4 q5 q6 => q0 k hk
theorem VlG.null {w : World} {F : Nat → Prop}  : VlG w F (.iface 65 (.agg #[])) (.mk 1 0 [] [] []) := fun Q q0 q1 q2 q3 q4 q5 q6 => q1
theorem VlG.bool {w : World} {F : Nat → Prop} (b : Bool) : VlG w F (.iface 66 (.bool b)) (.mk 2 (bif b then 1 else 0) [] [] []) := fun Q q0 q1 q2 q3 q4 q5 q6 => q2 b
theorem VlG.num {w : World} {F : Nat → Prop} (n : Int) (hn : -9223372036854775808 ≤ n ∧ n ≤ 9223372036854775807) : VlG w F (.iface 67 (.int .i64 n)) (.mk 3 n [] [] []) := fun Q q0 q1 q2 q3 q4 q5 q6 => q3 n hn
theorem VlG.str {w : World} {F : Nat → Prop} (s : ByteArray) : VlG w F (.iface 54 (.string s)) (.mk 4 0 (lS s) [] []) := fun Q q0 q1 q2 q3 q4 q5 q6 => q4 s
theorem VlG.list {w : World} {F : Nat → Prop} (a : Sl) (us : List Value) (ds : List Nd) (hv : IsG w a.v us) (hF : a.In F) (hl : us.length = ds.length) (hz : a.n ≤ 1759218604441) (he : ∀ (i : Nat) u d, us[i]? = some u → ds[i]? = some d → VlG w F u d) : VlG w F (.iface 68 a.v) (.mk 5 0 [] [] ds) := fun Q q0 q1 q2 q3 q4 q5 q6 => q5 a us ds hv hF hl hz (fun i u d hz0 hz1 => he i u d hz0 hz1 Q q0 q1 q2 q3 q4 q5 q6)
theorem VlG.obj {w : World} {F : Nat → Prop} (ks a : Sl) (kb : List ByteArray) (us : List Value) (ds : List Nd) (hk : IsG w ks.v (strs kb)) (hkF : ks.In F) (hv : IsG w a.v us) (hF : a.In F) (hl : us.length = ds.length) (hz : ks.n ≤ 8796093022208 ∧ a.n ≤ 1759218604441) (he : ∀ (i : Nat) u d, us[i]? = some u → ds[i]? = some d → VlG w F u d) : VlG w F (.iface 70 (.agg #[ks.v, a.v])) (.mk 6 0 [] (kb.map lS) ds) := fun Q q0 q1 q2 q3 q4 q5 q6 => q6 ks a kb us ds hk hkF hv hF hl hz (fun i u d hz0 hz1 => he i u d hz0 hz1 Q q0 q1 q2 q3 q4 q5 q6)
theorem VlG.rc {w : World} {F : Nat → Prop} {M : ∀ (i1 : Value) (i2 : Nd), VlG w F i1 i2 → Prop} (nil : ∀ (k : Int) (hk : ¬ (1 ≤ k ∧ k ≤ 6)), M .nilIface (.mk k 0 [] [] []) (VlG.nil k hk)) (null : M (.iface 65 (.agg #[])) (.mk 1 0 [] [] []) (VlG.null)) (bool : ∀ (b : Bool), M (.iface 66 (.bool b)) (.mk 2 (bif b then 1 else 0) [] [] []) (VlG.bool b)) (num : ∀ (n : Int) (hn : -9223372036854775808 ≤ n ∧ n ≤ 9223372036854775807), M (.iface 67 (.int .i64 n)) (.mk 3 n [] [] []) (VlG.num n hn)) (str : ∀ (s : ByteArray), M (.iface 54 (.string s)) (.mk 4 0 (lS s) [] []) (VlG.str s)) (list : ∀ (a : Sl) (us : List Value) (ds : List Nd) (hv : IsG w a.v us) (hF : a.In F) (hl : us.length = ds.length) (hz : a.n ≤ 1759218604441) (he : ∀ (i : Nat) u d, us[i]? = some u → ds[i]? = some d → VlG w F u d), (∀ (i : Nat) u d (hz0 : us[i]? = some u) (hz1 : ds[i]? = some d), M u d (he i u d hz0 hz1)) → M (.iface 68 a.v) (.mk 5 0 [] [] ds) (VlG.list a us ds hv hF hl hz he)) (obj : ∀ (ks a : Sl) (kb : List ByteArray) (us : List Value) (ds : List Nd) (hk : IsG w ks.v (strs kb)) (hkF : ks.In F) (hv : IsG w a.v us) (hF : a.In F) (hl : us.length = ds.length) (hz : ks.n ≤ 8796093022208 ∧ a.n ≤ 1759218604441) (he : ∀ (i : Nat) u d, us[i]? = some u → ds[i]? = some d → VlG w F u d), (∀ (i : Nat) u d (hz0 : us[i]? = some u) (hz1 : ds[i]? = some d), M u d (he i u d hz0 hz1)) → M (.iface 70 (.agg #[ks.v, a.v])) (.mk 6 0 [] (kb.map lS) ds) (VlG.obj ks a kb us ds hk hkF hv hF hl hz he)) {i1 : Value} {i2 : Nd} (h : VlG w F i1 i2) : M i1 i2 h :=
  (h (fun i1 i2 => ∃ h9 : VlG w F i1 i2, M i1 i2 h9) (fun k hk => ⟨VlG.nil k hk, nil k hk⟩) (⟨VlG.null, null⟩) (fun b => ⟨VlG.bool b, bool b⟩) (fun n hn => ⟨VlG.num n hn, num n hn⟩) (fun s => ⟨VlG.str s, str s⟩) (fun a us ds hv hF hl hz he => ⟨VlG.list a us ds hv hF hl hz (fun i u d hz0 hz1 => (he i u d hz0 hz1).1), list a us ds hv hF hl hz (fun i u d hz0 hz1 => (he i u d hz0 hz1).1) (fun i u d hz0 hz1 => (he i u d hz0 hz1).2)⟩) (fun ks a kb us ds hk hkF hv hF hl hz he => ⟨VlG.obj ks a kb us ds hk hkF hv hF hl hz (fun i u d hz0 hz1 => (he i u d hz0 hz1).1), obj ks a kb us ds hk hkF hv hF hl hz (fun i u d hz0 hz1 => (he i u d hz0 hz1).1) (fun i u d hz0 hz1 => (he i u d hz0 hz1).2)⟩)).2
theorem VlF.g {w : World} {F : Nat → Prop} {v : Value} {d : Nd} (h : VlF w F v d) : VlG w F v d := by
  induction h using VlF.rc with
  | null => exact .null
  | bool b => exact .bool b
  | num n hn => exact .num n hn
  | str s => exact .str s
  | list a us ds hv hF hl hz he ih => exact .list a us ds hv hF hl hz ih
  | obj ks a kb us ds hk hkF hv hF hl hz he ih => exact .obj ks a kb us ds hk hkF hv hF hl hz ih
theorem VlG.ag {w w1 : World} {F : Nat → Prop} {v : Value} {d : Nd} (h : VlG w F v d) (hb : ∀ b, F b → b < w.heap.size → w1.heap[b]? = w.heap[b]?) : VlG w1 F v d := by
  induction h using VlG.rc with
  | nil k hk => exact .nil k hk
  | null => exact .null
  | bool b => exact .bool b
  | num n hn => exact .num n hn
  | str s => exact .str s
  | list a us ds hv hF hl hz he ih => exact .list a us ds (hv.ag hF hb) hF hl hz ih
  | obj ks a kb us ds hk hkF hv hF hl hz he ih => exact .obj ks a kb us ds (hk.ag hkF hb) hkF (hv.ag hF hb) hF hl hz ih
theorem VlG.kept {w w1 : World} {F : Nat → Prop} {v : Value} {d : Nd} (h : VlG w F v d) (hb : Below w.heap.size w w1) : VlG w1 F v d := h.ag (fun b _ hl => hb.block b hl)
def whlN : Nd → Bool
  | .mk k _ _ _ vs => (vs.map fun d => whlN d).all id && decide (1 ≤ k ∧ k ≤ 6)
def whlL : List Nd → Bool
  | [] => true
  | d :: r => whlN d && whlL r
theorem whlL_mpp : ∀ l : List Nd, (l.map fun d => whlN d).all id = whlL l
  | [] => rfl
  | d :: r => by rw [List.map_cons, List.all_cons, whlL_mpp r, whlL]; rfl
theorem whlN_mk (k n : Int) (s : List UInt8) (ks : List (List UInt8)) (vs : List Nd) : whlN (.mk k n s ks vs) = (whlL vs && decide (1 ≤ k ∧ k ≤ 6)) := by rw [whlN, whlL_mpp]
theorem whlL_at : ∀ (vs : List Nd) (i : Nat) (d : Nd), vs[i]? = some d → whlL vs = true → whlN d = true
  | a :: r, 0, d, h, hw => by
    simp at h; subst h
    rw [whlL, Bool.and_eq_true] at hw; exact hw.1
  | a :: r, i + 1, d, h, hw => by
    rw [whlL, Bool.and_eq_true] at hw
    exact whlL_at r i d (by simpa using h) hw.2
/-- Where there is no nil. -/
theorem VlG.f {w : World} {F : Nat → Prop} {v : Value} {d : Nd} (h : VlG w F v d) : whlN d = true → VlF w F v d := by
  induction h using VlG.rc with
  | nil k hk => intro hw; rw [whlN_mk, Bool.and_eq_true, decide_eq_true_eq] at hw; exact absurd hw.2 hk
  | null => exact fun _ => .null
  | bool b => exact fun _ => .bool b
  | num n hn => exact fun _ => .num n hn
  | str s => exact fun _ => .str s
  | list a us ds hv hF hl hz he ih => intro hw; rw [whlN_mk, Bool.and_eq_true] at hw; exact .list a us ds hv hF hl hz fun i u d h1 h2 => ih i u d h1 h2 (whlL_at ds i d h2 hw.1)
  | obj ks a kb us ds hk hkF hv hF hl hz he ih => intro hw; rw [whlN_mk, Bool.and_eq_true] at hw; exact .obj ks a kb us ds hk hkF hv hF hl hz fun i u d h1 h2 => ih i u d h1 h2 (whlL_at ds i d h2 hw.1)
def FdP (o : Option Nd) (w : World) (e : Ending) (w' : World) : Prop := (∃ v b, e = .returned (.tuple #[v, .bool b]) ∧ (∀ d, o = some d → b = true ∧ ∃ G, VlG w' G v d) ∧ (o = none → b = false ∧ v = .nilIface)) ∧ Below w.heap.size w w'
/-- What json owes; V: what is asked of the library's variables. -/
structure JsOk (V : World → Prop) : Prop where
  keep : ∀ (w W : World), V w → Below w.heap.size w W → V W
  prs : ∀ (l : List UInt8) (x : Option Addr) (L c : Nat) (w : World), l.length = L → L ≤ c → L ≤ 140737488355328 → IsB w (.slice x L c) l → V w → Calls Tryz.prog 11 #[.slice x L c] w fun e w' => JpP (prsA l) w e w'
  own : ∀ (l : List UInt8) (x : Option Addr) (L c : Nat) (w : World), l.length = L → L ≤ c → L ≤ 140737488355328 → IsB w (.slice x L c) l → V w → Calls Tryz.prog 11 #[.slice x L c] w fun e w' => JoP (prsA l) w e w'
  prt : ∀ (d : Nd) (F : Nat → Prop) (v : Value) (w : World), VlG w F v d → szN d ≤ 1099511627776 → depN d ≤ 60000 → V w → Calls Tryz.prog 9 #[v] w fun e w' => PtP d w e w'
  fld : ∀ (d : Nd) (F : Nat → Prop) (v : Value) (s : ByteArray) (w : World), VlG w F v d → depN d ≤ 60000 → V w → Calls Tryz.prog 13 #[v, .string s] w fun e w' => FdP (fldN d (lS s)) w e w'
def kn21 : List UInt8 := [123, 34, 97, 34, 58, 91, 49, 44, 110, 117, 108, 108, 93, 44, 34, 98, 34, 58, 123, 125, 125]
def knD : Nd := .mk 6 0 [] [[97], [98]] [.mk 5 0 [] [] [.mk 3 1 [] [] [], .mk 1 0 [] [] []], .mk 6 0 [] [] []]
set_option maxRecDepth 100000 in
theorem kn15_P : prsA kn21 = (knD, 0, 0) := by kernel_rfl
set_option linter.unusedSimpArgs false in
theorem kn15_S : prtS knD = kn21 := by unfold prtS prtE knD; simp only [frmN_mk, frmL, plnN_mk, plnL, twcN_mk, twcL, depN_mk, depL, txtN_mk, txtL, txtO, szN_mk, szL]; decide +kernel
set_option linter.unusedSimpArgs false in
theorem kn15_E : prtE knD = 0 := by unfold prtE knD; simp only [frmN_mk, frmL, plnN_mk, plnL, twcN_mk, twcL, depN_mk, depL, txtN_mk, txtL, txtO, szN_mk, szL]; decide +kernel
set_option linter.unusedSimpArgs false in
theorem kn15_dp : depN knD ≤ 60000 := by unfold knD; simp only [frmN_mk, frmL, plnN_mk, plnL, twcN_mk, twcL, depN_mk, depL, txtN_mk, txtL, txtO, szN_mk, szL]; decide +kernel
set_option linter.unusedSimpArgs false in
theorem kn15_z : szN knD ≤ 1099511627776 := by unfold knD; simp only [frmN_mk, frmL, plnN_mk, plnL, twcN_mk, twcL, depN_mk, depL, txtN_mk, txtL, txtO, szN_mk, szL]; decide +kernel
set_option maxRecDepth 100000 in
theorem kn15_B : (prsA [91, 49, 44, 93]).2 = (31, 3) := by kernel_rfl
theorem kn15_F : fldN knD [98] = some (.mk 6 0 [] [] []) := rfl
set_option linter.unusedSimpArgs false in
theorem kn15_S2 : prtS (.mk 6 0 [] [] []) = [123, 125] := by unfold prtS prtE; simp only [frmN_mk, frmL, plnN_mk, plnL, twcN_mk, twcL, depN_mk, depL, txtN_mk, txtL, txtO, szN_mk, szL]; decide +kernel
set_option linter.unusedSimpArgs false in
theorem kn15_E2 : prtE (.mk 6 0 [] [] []) = 0 := by unfold prtE; simp only [frmN_mk, frmL, plnN_mk, plnL, twcN_mk, twcL, depN_mk, depL, txtN_mk, txtL, txtO, szN_mk, szL]; decide +kernel
end Go.Proofs.YtddmmmfpdmejbaaGreatDoor
namespace Go.Proofs.YtddmmmfpdmejbaaGreatDoor
open Go.RowKit

/-! assaylaw15's nodes in memory; the program's values with one more in their spare room -/
def lnE : EK Rn := { T := 25, S := 23, k := 5, bytes := 80, z := .agg (rnA rnZ), enc := fun r => (rnA r).toList }
theorem lnE_ok : lnE.Ok where
  len x := rfl
  one x v hv := by
    unfold lnE rnA Sl.v at hv
    simp only [List.mem_cons, List.not_mem_nil, or_false] at hv
    rcases hv with rfl | rfl | rfl | rfl | rfl <;> rfl
  und := Tryz.underlying23
  info := by
    have h : (Tryz.prog.info? 25).map (fun i => (i.zero, i.size, i.bytes)) = some (some (.agg (rnA rnZ)), 5, 80) := by kernel_rfl
    exact h
  zc := rfl
  kp := by show 0 < 5; omega
  row := ⟨_, Tryz.underlying25, rfl⟩
theorem info_ln : (Tryz.prog.info? 25).map (fun i => (i.zero, i.size)) = some (some (.agg (rnA rnZ)), 5) := by kernel_rfl
theorem sizeT_ln : (Tryz.prog.info? 25).map (·.size) = some 5 := (zero_of_info info_ln).2
section
variable (ρ : Operand → Value) (dst : Option Tmp) (ty : TypeId) (pos : String) (after : Array Edge) (guard : Option (Nat × Bool))
@[go_sem ↓] theorem execOp_store_ln (x y : Operand) : execOp ρ { dst, op := .store 25 x y, type := ty, pos, after, guard } = bigStore 25 (ρ x) (ρ y) := rfl
@[go_sem ↓] theorem execOp_alloc_ln : execOp ρ { dst, op := .alloc 25, type := ty, pos, after, guard } = bigAlloc 25 := rfl
@[go_sem ↓] theorem execOp_load_ln (x : Operand) : execOp ρ { dst, op := .load 25 x, type := ty, pos, after, guard } = bigLoad 25 (ρ x) := rfl
@[go_sem ↓] theorem execOp_box_ln (x : Operand) : execOp ρ { dst, op := .box 25 x, type := ty, pos, after, guard } = bigBox 25 (ρ x) := rfl
end
@[go_sem] theorem run_store_ln (w : World) (g : Nat) (c : Array Value) (h : rowL w g = true) (hs : (rowAt w g).size = 5) (hc : c.size = 5) (h1 : OneC c = true) : (bigStore 25 (.pointer (some ⟨g, 0, none⟩)) (.agg c)).run Tryz.prog w = .ok .skip (w.setRow g c) := by
  rw [run_bigStore 25 5 sizeT_ln w g 0 c h hc (by omega) h1, layC_all _ _ (by omega)]
@[go_sem] theorem run_alloc_ln (w : World) : (bigAlloc 25).run Tryz.prog w = .ok (.value (.pointer (some ⟨w.heap.size, 0, none⟩))) (w.alloc (.cells (rnA rnZ) 25)) := by
  simp only [bigAlloc, Instr.alloc, Sem.run_bind, (zero_of_info info_ln).1 w, Result.andThen_ok]
  rfl
@[go_sem] theorem run_load_ln (w : World) (g : Nat) (h : rowL w g = true) (hs : (rowAt w g).size = 5) : (bigLoad 25 (.pointer (some ⟨g, 0, none⟩))).run Tryz.prog w = .ok (.value (.agg (rowAt w g))) w := by
  rw [run_bigLoad 25 _ 5 Tryz.underlying25 rfl sizeT_ln w g 0 h (by omega), Nat.zero_add, Array.extract_eq_self_of_le (by omega)]
theorem run_load_ln_el {w : World} {b o : Nat} {r : Rn} (h : w.rangeAt b o (lnE.enc r)) : (bigLoad 25 (.pointer (some ⟨b, o, none⟩))).run Tryz.prog w = .ok (.value (.agg (rnA r))) w := by
  have h9 := run_loadK lnE_ok h
  simp only [bigLoad, Sem.run_bind]
  rw [show (Instr.loadAt 25 (.pointer (some ⟨b, o, none⟩))).run Tryz.prog w = .ok (.agg (rnA r)) w from h9]
  rfl
@[go_sem] theorem run_box_ln (w : World) (r : Rn) : (bigBox 25 (.agg (rnA r))).run Tryz.prog w = .ok (.value (.pointer (some ⟨w.heap.size, 0, none⟩))) (w.alloc (.cells (rnA r) 25)) := run_bigBox _ _ w
theorem eltV : Elt 53 27 16 := ⟨Tryz.underlying53, by
  have h : (Tryz.prog.info? 27).map (fun i => (i.zero, i.size, i.bytes)) = some (some .nilIface, 1, 16) := by kernel_rfl
  obtain ⟨i, hi, hzz⟩ := Option.map_eq_some_iff.1 h
  simp only [Prod.mk.injEq] at hzz
  exact ⟨i, _, hi, hzz.1, hzz.2.1, hzz.2.2, rfl⟩⟩
set_option linter.unusedVariables false
def LnF (w : World) (i1 : Rn) (i2 : Nd) : Prop := ∀ Q : Rn → Nd → Prop, (∀ (r : Rn) (kb : List ByteArray) (rs : List Rn) (vs : List Nd) (hk : IsG w r.ks.v (strs kb)) (hv : IsK lnE w r.vs.v rs) (hl : rs.length = vs.length) (hi : -9223372036854775808 ≤ r.n ∧ r.n ≤ 9223372036854775807) (hz : r.ks.n ≤ 8796093021952 ∧ r.vs.n ≤ 1759218604390) (hq : r.ks.n ≤ r.ks.c) (he : ∀ (i : Nat) a d, rs[i]? = some a → vs[i]? = some d → Q a d), Q r (.mk r.k r.n (lS r.s) (kb.map lS) vs)) → Q i1 i2
theorem LnF.mk {w : World} (r : Rn) (kb : List ByteArray) (rs : List Rn) (vs : List Nd) (hk : IsG w r.ks.v (strs kb)) (hv : IsK lnE w r.vs.v rs) (hl : rs.length = vs.length) (hi : -9223372036854775808 ≤ r.n ∧ r.n ≤ 9223372036854775807) (hz : r.ks.n ≤ 8796093021952 ∧ r.vs.n ≤ 1759218604390) (hq : r.ks.n ≤ r.ks.c) (he : ∀ (i : Nat) a d, rs[i]? = some a → vs[i]? = some d → LnF w a d) : LnF w r (.mk r.k r.n (lS r.s) (kb.map lS) vs) := fun Q q0 => q0 r kb rs vs hk hv hl hi hz hq (fun i a d hz0 hz1 => he i a d hz0 hz1 Q q0)
theorem LnF.rc {w : World} {M : ∀ (i1 : Rn) (i2 : Nd), LnF w i1 i2 → Prop} (mk : ∀ (r : Rn) (kb : List ByteArray) (rs : List Rn) (vs : List Nd) (hk : IsG w r.ks.v (strs kb)) (hv : IsK lnE w r.vs.v rs) (hl : rs.length = vs.length) (hi : -9223372036854775808 ≤ r.n ∧ r.n ≤ 9223372036854775807) (hz : r.ks.n ≤ 8796093021952 ∧ r.vs.n ≤ 1759218604390) (hq : r.ks.n ≤ r.ks.c) (he : ∀ (i : Nat) a d, rs[i]? = some a → vs[i]? = some d → LnF w a d), (∀ (i : Nat) a d (hz0 : rs[i]? = some a) (hz1 : vs[i]? = some d), M a d (he i a d hz0 hz1)) → M r (.mk r.k r.n (lS r.s) (kb.map lS) vs) (LnF.mk r kb rs vs hk hv hl hi hz hq he)) {i1 : Rn} {i2 : Nd} (h : LnF w i1 i2) : M i1 i2 h :=
  (h (fun i1 i2 => ∃ h9 : LnF w i1 i2, M i1 i2 h9) (fun r kb rs vs hk hv hl hi hz hq he => ⟨LnF.mk r kb rs vs hk hv hl hi hz hq (fun i a d hz0 hz1 => (he i a d hz0 hz1).1), mk r kb rs vs hk hv hl hi hz hq (fun i a d hz0 hz1 => (he i a d hz0 hz1).1) (fun i a d hz0 hz1 => (he i a d hz0 hz1).2)⟩)).2
theorem LnF.inv {w : World} {r : Rn} {k n : Int} {s : List UInt8} {ks : List (List UInt8)} {vs : List Nd} (h : LnF w r (.mk k n s ks vs)) : r.k = k ∧ r.n = n ∧ lS r.s = s ∧ ∃ kb rs, IsG w r.ks.v (strs kb) ∧ kb.map lS = ks ∧ IsK lnE w r.vs.v rs ∧ rs.length = vs.length ∧ (-9223372036854775808 ≤ r.n ∧ r.n ≤ 9223372036854775807) ∧ (r.ks.n ≤ 8796093021952 ∧ r.vs.n ≤ 1759218604390) ∧ r.ks.n ≤ r.ks.c ∧ ∀ (i : Nat) a d, rs[i]? = some a → vs[i]? = some d → LnF w a d := by
  cases h using LnF.rc with
  | mk r kb rs vs hk hv hl hi hz hq he r9 => clear r9; exact ⟨rfl, rfl, rfl, kb, rs, hk, rfl, hv, hl, hi, hz, hq, he⟩
theorem LnF.kept {w w1 : World} {r : Rn} {d : Nd} (h : LnF w r d) (hb : Below w.heap.size w w1) : LnF w1 r d := by
  induction h using LnF.rc with
  | mk r kb rs vs hk hv hl hi hz hq he ih => exact .mk r kb rs vs (hk.kept hb) (hv.kept hb) hl hi hz hq ih
/-- What made makes of a node, and what meant means by it. -/
def mdK (k n : Int) (s : List UInt8) (ks : List (List UInt8)) (vs : List Nd) : Nd :=
  if k = 2 then .mk 2 (if n = 1 then 1 else 0) [] [] [] else if k = 3 then .mk 3 n [] [] [] else if k = 4 then .mk 4 0 s [] [] else if k = 5 then .mk 5 0 [] [] vs else if k = 6 then .mk 6 0 [] ks vs else .mk k 0 [] [] []
def mdN : Nd → Nat → Nd
  | .mk k n s ks vs, dep => mdK k n s ks (if dep < 12 then vs.map (fun d => mdN d (dep + 1)) else [])
def mdL : List Nd → Nat → List Nd
  | [], _ => []
  | d :: r, dep => mdN d dep :: mdL r dep
theorem mdL_mpp (dep : Nat) : ∀ l : List Nd, l.map (fun d => mdN d dep) = mdL l dep
  | [] => rfl
  | d :: r => by rw [List.map_cons, mdL_mpp dep r, mdL]
theorem mdN_mk (k n : Int) (s : List UInt8) (ks : List (List UInt8)) (vs : List Nd) (dep : Nat) : mdN (.mk k n s ks vs) dep = mdK k n s ks (if dep < 12 then mdL vs (dep + 1) else []) := by rw [mdN, mdL_mpp]
theorem mdL_map : ∀ (vs : List Nd) (dep : Nat), mdL vs dep = vs.map (mdN · dep)
  | [], _ => rfl
  | d :: r, dep => by rw [mdL, mdL_map r dep]; rfl
def sprS : ByteArray := ⟨#[115, 112, 97, 114, 101]⟩
def sprV : Value := .iface 54 (.string sprS)
set_option linter.unusedVariables false
def VlS (w : World) (F : Nat → Prop) (i1 : Value) (i2 : Nd) : Prop := ∀ Q : Value → Nd → Prop, (∀ (k : Int) (hk : ¬ (1 ≤ k ∧ k ≤ 6)), Q .nilIface (.mk k 0 [] [] [])) → (Q (.iface 65 (.agg #[])) (.mk 1 0 [] [] [])) → (∀ (b : Bool), Q (.iface 66 (.bool b)) (.mk 2 (bif b then 1 else 0) [] [] [])) → (∀ (n : Int) (hn : -9223372036854775808 ≤ n ∧ n ≤ 9223372036854775807), Q (.iface 67 (.int .i64 n)) (.mk 3 n [] [] [])) → (∀ (s : ByteArray), Q (.iface 54 (.string s)) (.mk 4 0 (lS s) [] [])) → (∀ (g n c : Nat) (us : List Value) (ds : List Nd) (hg : F g) (ht : g < w.heap.size) (hc : n + 1 ≤ c) (hn : us.length = n) (hv : ∀ (j : Nat) u, (us ++ [sprV])[j]? = some u → w.cell? ⟨g, j, none⟩ = some u) (hl : us.length = ds.length) (hz : n ≤ 1759218604390) (he : ∀ (i : Nat) u d, us[i]? = some u → ds[i]? = some d → Q u d), Q (.iface 68 (.slice (some ⟨g, 0, none⟩) n c)) (.mk 5 0 [] [] ds)) → (∀ (q m e : Nat) (kb : List ByteArray) (g n c : Nat) (us : List Value) (ds : List Nd) (hq : F q) (htq : q < w.heap.size) (hqe : m + 1 ≤ e) (hm : kb.length = m) (hk : ∀ (j : Nat) u, (strs kb ++ [.string sprS])[j]? = some u → w.cell? ⟨q, j, none⟩ = some u) (hg : F g) (ht : g < w.heap.size) (hc : n + 1 ≤ c) (hn : us.length = n) (hv : ∀ (j : Nat) u, (us ++ [sprV])[j]? = some u → w.cell? ⟨g, j, none⟩ = some u) (hl : us.length = ds.length) (hz : n ≤ 1759218604390 ∧ m ≤ 8796093021952) (he : ∀ (i : Nat) u d, us[i]? = some u → ds[i]? = some d → Q u d), Q (.iface 70 (.agg #[.slice (some ⟨q, 0, none⟩) m e, .slice (some ⟨g, 0, none⟩) n c])) (.mk 6 0 [] (kb.map lS) ds)) → Q i1 i2
theorem VlS.nil {w : World} {F : Nat → Prop} (k : Int) (hk : ¬ (1 ≤ k ∧ k ≤ 6)) : VlS w F .nilIface (.mk k 0 [] [] []) := fun Q q0 q1 q2 q3 q4 q5 q6 => q0 k hk
theorem VlS.null {w : World} {F : Nat → Prop}  : VlS w F (.iface 65 (.agg #[])) (.mk 1 0 [] [] []) := fun Q q0 q1 q2 q3 q4 q5 q6 => q1
theorem VlS.bool {w : World} {F : Nat → Prop} (b : Bool) : VlS w F (.iface 66 (.bool b)) (.mk 2 (bif b then 1 else 0) [] [] []) := fun Q q0 q1 q2 q3 q4 q5 q6 => q2 b
theorem VlS.num {w : World} {F : Nat → Prop} (n : Int) (hn : -9223372036854775808 ≤ n ∧ n ≤ 9223372036854775807) : VlS w F (.iface 67 (.int .i64 n)) (.mk 3 n [] [] []) := fun Q q0 q1 q2 q3 q4 q5 q6 => q3 n hn
theorem VlS.str {w : World} {F : Nat → Prop} (s : ByteArray) : VlS w F (.iface 54 (.string s)) (.mk 4 0 (lS s) [] []) := fun Q q0 q1 q2 q3 q4 q5 q6 => q4 s
theorem VlS.list {w : World} {F : Nat → Prop} (g n c : Nat) (us : List Value) (ds : List Nd) (hg : F g) (ht : g < w.heap.size) (hc : n + 1 ≤ c) (hn : us.length = n) (hv : ∀ (j : Nat) u, (us ++ [sprV])[j]? = some u → w.cell? ⟨g, j, none⟩ = some u) (hl : us.length = ds.length) (hz : n ≤ 1759218604390) (he : ∀ (i : Nat) u d, us[i]? = some u → ds[i]? = some d → VlS w F u d) : VlS w F (.iface 68 (.slice (some ⟨g, 0, none⟩) n c)) (.mk 5 0 [] [] ds) := fun Q q0 q1 q2 q3 q4 q5 q6 => q5 g n c us ds hg ht hc hn hv hl hz (fun i u d hz0 hz1 => he i u d hz0 hz1 Q q0 q1 q2 q3 q4 q5 q6)
theorem VlS.obj {w : World} {F : Nat → Prop} (q m e : Nat) (kb : List ByteArray) (g n c : Nat) (us : List Value) (ds : List Nd) (hq : F q) (htq : q < w.heap.size) (hqe : m + 1 ≤ e) (hm : kb.length = m) (hk : ∀ (j : Nat) u, (strs kb ++ [.string sprS])[j]? = some u → w.cell? ⟨q, j, none⟩ = some u) (hg : F g) (ht : g < w.heap.size) (hc : n + 1 ≤ c) (hn : us.length = n) (hv : ∀ (j : Nat) u, (us ++ [sprV])[j]? = some u → w.cell? ⟨g, j, none⟩ = some u) (hl : us.length = ds.length) (hz : n ≤ 1759218604390 ∧ m ≤ 8796093021952) (he : ∀ (i : Nat) u d, us[i]? = some u → ds[i]? = some d → VlS w F u d) : VlS w F (.iface 70 (.agg #[.slice (some ⟨q, 0, none⟩) m e, .slice (some ⟨g, 0, none⟩) n c])) (.mk 6 0 [] (kb.map lS) ds) := fun Q q0 q1 q2 q3 q4 q5 q6 => q6 q m e kb g n c us ds hq htq hqe hm hk hg ht hc hn hv hl hz (fun i u d hz0 hz1 => he i u d hz0 hz1 Q q0 q1 q2 q3 q4 q5 q6)
theorem VlS.rc {w : World} {F : Nat → Prop} {M : ∀ (i1 : Value) (i2 : Nd), VlS w F i1 i2 → Prop} (nil : ∀ (k : Int) (hk : ¬ (1 ≤ k ∧ k ≤ 6)), M .nilIface (.mk k 0 [] [] []) (VlS.nil k hk)) (null : M (.iface 65 (.agg #[])) (.mk 1 0 [] [] []) (VlS.null)) (bool : ∀ (b : Bool), M (.iface 66 (.bool b)) (.mk 2 (bif b then 1 else 0) [] [] []) (VlS.bool b)) (num : ∀ (n : Int) (hn : -9223372036854775808 ≤ n ∧ n ≤ 9223372036854775807), M (.iface 67 (.int .i64 n)) (.mk 3 n [] [] []) (VlS.num n hn)) (str : ∀ (s : ByteArray), M (.iface 54 (.string s)) (.mk 4 0 (lS s) [] []) (VlS.str s)) (list : ∀ (g n c : Nat) (us : List Value) (ds : List Nd) (hg : F g) (ht : g < w.heap.size) (hc : n + 1 ≤ c) (hn : us.length = n) (hv : ∀ (j : Nat) u, (us ++ [sprV])[j]? = some u → w.cell? ⟨g, j, none⟩ = some u) (hl : us.length = ds.length) (hz : n ≤ 1759218604390) (he : ∀ (i : Nat) u d, us[i]? = some u → ds[i]? = some d → VlS w F u d), (∀ (i : Nat) u d (hz0 : us[i]? = some u) (hz1 : ds[i]? = some d), M u d (he i u d hz0 hz1)) → M (.iface 68 (.slice (some ⟨g, 0, none⟩) n c)) (.mk 5 0 [] [] ds) (VlS.list g n c us ds hg ht hc hn hv hl hz he)) (obj : ∀ (q m e : Nat) (kb : List ByteArray) (g n c : Nat) (us : List Value) (ds : List Nd) (hq : F q) (htq : q < w.heap.size) (hqe : m + 1 ≤ e) (hm : kb.length = m) (hk : ∀ (j : Nat) u, (strs kb ++ [.string sprS])[j]? = some u → w.cell? ⟨q, j, none⟩ = some u) (hg : F g) (ht : g < w.heap.size) (hc : n + 1 ≤ c) (hn : us.length = n) (hv : ∀ (j : Nat) u, (us ++ [sprV])[j]? = some u → w.cell? ⟨g, j, none⟩ = some u) (hl : us.length = ds.length) (hz : n ≤ 1759218604390 ∧ m ≤ 8796093021952) (he : ∀ (i : Nat) u d, us[i]? = some u → ds[i]? = some d → VlS w F u d), (∀ (i : Nat) u d (hz0 : us[i]? = some u) (hz1 : ds[i]? = some d), M u d (he i u d hz0 hz1)) → M (.iface 70 (.agg #[.slice (some ⟨q, 0, none⟩) m e, .slice (some ⟨g, 0, none⟩) n c])) (.mk 6 0 [] (kb.map lS) ds) (VlS.obj q m e kb g n c us ds hq htq hqe hm hk hg ht hc hn hv hl hz he)) {i1 : Value} {i2 : Nd} (h : VlS w F i1 i2) : M i1 i2 h :=
  (h (fun i1 i2 => ∃ h9 : VlS w F i1 i2, M i1 i2 h9) (fun k hk => ⟨VlS.nil k hk, nil k hk⟩) (⟨VlS.null, null⟩) (fun b => ⟨VlS.bool b, bool b⟩) (fun n hn => ⟨VlS.num n hn, num n hn⟩) (fun s => ⟨VlS.str s, str s⟩) (fun g n c us ds hg ht hc hn hv hl hz he => ⟨VlS.list g n c us ds hg ht hc hn hv hl hz (fun i u d hz0 hz1 => (he i u d hz0 hz1).1), list g n c us ds hg ht hc hn hv hl hz (fun i u d hz0 hz1 => (he i u d hz0 hz1).1) (fun i u d hz0 hz1 => (he i u d hz0 hz1).2)⟩) (fun q m e kb g n c us ds hq htq hqe hm hk hg ht hc hn hv hl hz he => ⟨VlS.obj q m e kb g n c us ds hq htq hqe hm hk hg ht hc hn hv hl hz (fun i u d hz0 hz1 => (he i u d hz0 hz1).1), obj q m e kb g n c us ds hq htq hqe hm hk hg ht hc hn hv hl hz (fun i u d hz0 hz1 => (he i u d hz0 hz1).1) (fun i u d hz0 hz1 => (he i u d hz0 hz1).2)⟩)).2
theorem isG_of {w : World} {g n c : Nat} {us : List Value} {x : Value} (hn : us.length = n) (hv : ∀ (j : Nat) u, (us ++ [x])[j]? = some u → w.cell? ⟨g, j, none⟩ = some u) : IsG w (.slice (some ⟨g, 0, none⟩) n c) us := by
  subst hn
  refine .inr ⟨⟨g, 0, none⟩, c, rfl, fun i hi => ?_⟩
  rw [addr_add, Nat.zero_add]
  exact hv i _ (by rw [List.getElem?_append_left hi]; exact List.getElem?_eq_getElem hi)
theorem VlS.g {w : World} {F : Nat → Prop} {v : Value} {d : Nd} (h : VlS w F v d) : VlG w F v d := by
  induction h using VlS.rc with
  | nil k hk => exact .nil k hk
  | null => exact .null
  | bool b => exact .bool b
  | num n hn => exact .num n hn
  | str s => exact .str s
  | list g n c us ds hg ht hc hn hv hl hz he ih => exact .list ⟨some ⟨g, 0, none⟩, n, c⟩ us ds (isG_of hn hv) (fun _ p hp => by cases hp; exact hg) hl (by show n ≤ _; omega) ih
  | obj q m e kb g n c us ds hq htq hqe hm hk hg ht hc hn hv hl hz he ih => exact .obj ⟨some ⟨q, 0, none⟩, m, e⟩ ⟨some ⟨g, 0, none⟩, n, c⟩ kb us ds (isG_of (by simpa [strs] using hm) hk) (fun _ p hp => by cases hp; exact hq) (isG_of hn hv) (fun _ p hp => by cases hp; exact hg) hl ⟨by show m ≤ _; omega, by show n ≤ _; omega⟩ ih
theorem VlS.ag {w w1 : World} {F G : Nat → Prop} {v : Value} {d : Nd} (h : VlS w F v d) (hs : w.heap.size ≤ w1.heap.size) (hb : ∀ b, F b → b < w.heap.size → G b ∧ w1.heap[b]? = w.heap[b]?) : VlS w1 G v d := by
  induction h using VlS.rc with
  | nil k hk => exact .nil k hk
  | null => exact .null
  | bool b => exact .bool b
  | num n hn => exact .num n hn
  | str s => exact .str s
  | list g n c us ds hg ht hc hn hv hl hz he ih =>
    obtain ⟨h1, h2⟩ := hb g hg ht
    exact .list g n c us ds h1 (by omega) hc hn (fun j u hu => by rw [World.cell?_of_block (w := w) (a := ⟨g, j, none⟩) h2]; exact hv j u hu) hl hz ih
  | obj q m e kb g n c us ds hq htq hqe hm hk hg ht hc hn hv hl hz he ih =>
    obtain ⟨h1, h2⟩ := hb g hg ht
    obtain ⟨h3, h4⟩ := hb q hq htq
    exact .obj q m e kb g n c us ds h3 (by omega) hqe hm (fun j u hu => by rw [World.cell?_of_block (w := w) (a := ⟨q, j, none⟩) h4]; exact hk j u hu) h1 (by omega) hc hn (fun j u hu => by rw [World.cell?_of_block (w := w) (a := ⟨g, j, none⟩) h2]; exact hv j u hu) hl hz ih
theorem VlS.kept {w w1 : World} {F : Nat → Prop} {v : Value} {d : Nd} (h : VlS w F v d) (hb : Below w.heap.size w w1) : VlS w1 F v d := h.ag hb.size fun b hF hl => ⟨hF, hb.block b hl⟩
theorem VlS.one {w : World} {F : Nat → Prop} {v : Value} {d : Nd} (h : VlS w F v d) : v.oneCell' = true := by cases h using VlS.rc <;> rfl
def IfV (x : Value) : Prop := x = .nilIface ∨ ∃ t p, x = .iface t p
theorem VlS.ifv {w : World} {F : Nat → Prop} {v : Value} {d : Nd} (h : VlS w F v d) : IfV v := by
  cases h using VlS.rc <;> first | exact .inl rfl | exact .inr ⟨_, _, rfl⟩
def vlBS (x : Value) : Sem Next := do pure (.value (← Instr.buildSlice 53 1 #[(0, x)]))
section
variable (ρ : Operand → Value) (dst : Option Tmp) (ty : TypeId) (pos : String) (after : Array Edge) (guard : Option (Nat × Bool))
@[go_sem ↓] theorem execOp_vlBS (x : Operand) : execOp ρ { dst, op := .buildSlice 53 1 #[(0, x)], type := ty, pos, after, guard } = vlBS (ρ x) := by simp [execOp, vlBS]
end
@[go_sem] theorem run_vlBS (w : World) (x : Value) (h : IfV x) : (vlBS x).run Tryz.prog w = .ok (.value (.slice (some ⟨w.heap.size, 0, none⟩) 1 1)) (w.alloc (.cells #[x] 27)) := by
  have hI : (Tryz.prog.info? 27).map (fun i => (i.zero, i.size, i.bytes)) = some (some .nilIface, 1, 16) := by kernel_rfl
  obtain ⟨i, hi, hzz⟩ := Option.map_eq_some_iff.1 hI
  simp only [Prod.mk.injEq] at hzz
  have h2 : (Instr.buildSlice 53 1 #[(0, x)]).run Tryz.prog w = .ok (.slice (some ⟨w.heap.size, 0, none⟩) 1 1) (w.alloc (.cells #[x] 27)) := by
    refine run_buildSlice (P := Tryz.prog) w 53 27 1 _ #[x] i .nilIface Tryz.underlying53 hi hzz.1 (by rw [hzz.2.1]; decide) (by rw [hzz.2.1]; decide) ?_
    rw [hzz.2.1]
    rcases h with rfl | ⟨t, p, rfl⟩
    all_goals simp only [Instr.fill, Value.cells]
    all_goals simp
    all_goals apply Array.ext
    all_goals first | (simp; done) | skip
    all_goals intro q h1 h2
    all_goals
      have h3 : q = 0 := by simp at h2; omega
      subst h3
      simp
  simp only [vlBS, Sem.run_bind, h2]
  rfl
@[go_sem] theorem ifv_spr : IfV (.iface 54 (.string sprS)) := .inr ⟨_, _, rfl⟩
@[go_sem] theorem ifv_any (t : TypeId) (p : Value) : IfV (.iface t p) := .inr ⟨_, _, rfl⟩
/-- A list of such values that grows. -/
structure VsL (w : World) (B : Nat) (v : Sl) (us : List Value) (ds : List Nd) : Prop where
  own : OwnG 27 w B v.v us
  len : us.length = ds.length
  el : ∀ (i : Nat) u d, us[i]? = some u → ds[i]? = some d → VlS w (fun b => B ≤ b ∧ v.v.ownBlock ≠ some b) u d
theorem VsL.nil (w : World) (B : Nat) : VsL w B slZ [] [] := ⟨OwnG.nil _ w B, rfl, fun i u d h => absurd h (by simp)⟩
theorem VsL.kept {w w1 : World} {B : Nat} {v : Sl} {us : List Value} {ds : List Nd} (h : VsL w B v us ds) (hb : Below w.heap.size w w1) : VsL w1 B v us ds := ⟨h.own.keep hb, h.len, fun i u d h1 h2 => (h.el i u d h1 h2).kept hb⟩
/-- append(v, u): where the answer lies. -/
theorem app1L {t e : TypeId} {bytes : Nat} (EL : Elt t e bytes) (w : World) (B y : Nat) (v : Value) (xs : List Value) (u : Value) (ty : TypeId) (h : OwnG e w B v xs) (hy : w.cell? ⟨y, 0, none⟩ = some u) (hu : u.oneCell' = true) (hl : (xs.length + 1) * bytes ≤ 140737488355328) (h63 : xs.length + 1 ≤ maxLen) (hb : B ≤ w.heap.size) :
    ∃ g c' w', (Builtin.append_ #[t, t] ty #[v, .slice (some ⟨y, 0, none⟩) 1 1]).run Tryz.prog w = .ok (.slice (some ⟨g, 0, none⟩) (xs.length + 1) c') w' ∧ OwnG e w' B (.slice (some ⟨g, 0, none⟩) (xs.length + 1) c') (xs ++ [u]) ∧ w.grownBy w' v.ownBlock ∧ (v.ownBlock = some g ∨ g = w.heap.size) := by
  obtain ⟨i, z, hi, hz, hsz, hby, hzs⟩ := EL.info
  obtain ⟨g, c', w', hr, hO, hg, hway, -⟩ := run_append_lies (P := Tryz.prog) w t ty B e i z 1 bytes EL.ht hi hz hsz hby hzs (by omega) v xs.length xs h ⟨y, 0, none⟩ 1 1 [u] (by simp) (fun j x hx => by
    rcases j with _ | j
    · simp at hx; subst hx; rw [addr_add]; exact hy
    · simp at hx) (by simpa using hu) (by omega) h63 hl hb _ rfl
  exact ⟨g, c', w', hr, by unfold OwnG; rw [List.length_append]; exact hO, hg, hway⟩
/-- append(v, u): u's own lists lie in blocks from H on. -/
theorem VsL.app {w : World} {B H y : Nat} {v : Sl} {us : List Value} {ds : List Nd} {u : Value} (ty : TypeId) (h : VsL w B v us ds) (hB : B ≤ H) (hy : w.cell? ⟨y, 0, none⟩ = some u) (hu1 : u.oneCell' = true) (hv : ∀ b, v.v.ownBlock = some b → b < H) (hH : H ≤ w.heap.size) (hn : us.length ≤ 1759218604390) :
    ∃ a w', (Builtin.append_ #[53, 53] ty #[v.v, .slice (some ⟨y, 0, none⟩) 1 1]).run Tryz.prog w = .ok a.v w' ∧ OwnG 27 w' B a.v (us ++ [u]) ∧ w.grownBy w' v.v.ownBlock ∧ (∃ g, a.x = some ⟨g, 0, none⟩ ∧ (v.v.ownBlock = some g ∨ g = w.heap.size)) ∧ a.n = us.length + 1 ∧ us.length + 1 ≤ a.c ∧
      (∀ (i : Nat) x d, us[i]? = some x → ds[i]? = some d → VlS w' (fun b => B ≤ b ∧ a.v.ownBlock ≠ some b) x d) ∧ (∀ d, VlS w (H ≤ ·) u d → VsL w' B a (us ++ [u]) (ds ++ [d])) := by
  have hm : maxLen = 9223372036854775807 := rfl
  obtain ⟨g, c', w', hrun, hO, hg, hw⟩ := app1L eltV w B y v.v us u ty h.own hy hu1 (by omega) (by omega) (by omega)
  have hoff : ∀ b, v.v.ownBlock ≠ some b → b < w.heap.size → w'.heap[b]? = w.heap[b]? := fun b hb hl => hg.block b hl (fun e => hb e.symm)
  have hG : ∀ b, v.v.ownBlock ≠ some b → b < w.heap.size → (Sl.v ⟨some ⟨g, 0, none⟩, us.length + 1, c'⟩).ownBlock ≠ some b := fun b hb hl e => by
    have e9 : g = b := by
      simp only [Sl.v, Value.ownBlock, Option.some.injEq] at e
      exact e
    rcases hw with hw | hw
    · exact hb (by rw [hw, e9])
    · omega
  have old : ∀ (i : Nat) x d, us[i]? = some x → ds[i]? = some d → VlS w' (fun b => B ≤ b ∧ (Sl.v ⟨some ⟨g, 0, none⟩, us.length + 1, c'⟩).ownBlock ≠ some b) x d := fun i x d h1 h2 => (h.el i x d h1 h2).ag hg.size fun b hb hl => ⟨⟨hb.1, hG b hb.2 hl⟩, hoff b hb.2 hl⟩
  refine ⟨⟨some ⟨g, 0, none⟩, us.length + 1, c'⟩, w', hrun, hO, hg, ⟨g, rfl, hw⟩, rfl, ?_, old, fun d hd => ⟨hO, by simp [h.len], fun i x e h1 h2 => ?_⟩⟩
  · obtain ⟨g9, c9, he, -, -, h8, -⟩ := hO.form (by simp)
    have he2 : c' = c9 := by
      have h9 := he
      simp only [Value.slice.injEq] at h9
      exact h9.2.2
    rw [List.length_append, List.length_singleton] at h8
    show us.length + 1 ≤ c'
    omega
  · rcases Nat.lt_or_ge i us.length with hi | hi
    · rw [List.getElem?_append_left hi] at h1
      rw [List.getElem?_append_left (by rw [← h.len]; exact hi)] at h2
      exact old i x e h1 h2
    · rw [List.getElem?_append_right hi] at h1
      rw [List.getElem?_append_right (by rw [← h.len]; exact hi), ← h.len] at h2
      have hi0 : i - us.length = 0 := by
        rcases Nat.eq_zero_or_pos (i - us.length) with h0 | h0
        · exact h0
        · rw [List.getElem?_eq_none (by simp; omega)] at h1; cases h1
      rw [hi0] at h1 h2
      cases h1
      cases h2
      refine hd.ag hg.size fun b hb hl => ?_
      have hne : v.v.ownBlock ≠ some b := fun e9 => by have := hv b e9; omega
      exact ⟨⟨by omega, hG b hne hl⟩, hoff b hne hl⟩
end Go.Proofs.YtddmmmfpdmejbaaGreatDoor
namespace Go.Proofs.YtddmmmfpdmejbaaGreatDoor
open Go.RowKit

/-! assaylaw15.whole -/
theorem whlL_app : ∀ a b : List Nd, whlL (a ++ b) = (whlL a && whlL b)
  | [], b => by simp [whlL]
  | d :: r, b => by rw [List.cons_append, whlL, whlL, whlL_app r b, Bool.and_assoc]
theorem whlL_no (vs : List Nd) (j : Nat) (d : Nd) (hd : vs[j]? = some d) (h : whlN d = false) : whlL vs = false := by
  have hj := (List.getElem?_eq_some_iff.1 hd).1
  have e : vs = vs.take j ++ (d :: vs.drop (j + 1)) := by
    have h1 : vs.drop j = d :: vs.drop (j + 1) := by
      rw [List.drop_eq_getElem_cons hj]
      rw [(List.getElem?_eq_some_iff.1 hd).2]
    rw [← h1, List.take_append_drop]
  rw [e, whlL_app, whlL, h]
  simp
def WhlOk (d : Nd) : Prop := ∀ (w : World) (F : Nat → Prop) (a : Rn), NdF w F a d → Calls Tryz.prog 17 #[.agg (rnA a)] w fun e w' => e = .returned (.bool (whlN d)) ∧ Below w.heap.size w w'
set_option linter.unusedSimpArgs false in
set_option maxRecDepth 100000 in
set_option maxHeartbeats 16000000 in
theorem whole15_step (k n : Int) (s : List UInt8) (ks : List (List UInt8)) (vs : List Nd) (ih : ∀ d ∈ vs, WhlOk d) : WhlOk (.mk k n s ks vs) := fun w F a ha => by
  obtain ⟨a1, -, -, kb, rs, -, -, -, av, -, al, ⟨-, hmv⟩, ae⟩ := ha.inv
  have va := av.num
  have bY := below_alloc w (.cells (rnA a) 41)
  have rA := RowC.new w (rnA a) 41
  have HFR : Hid (whlN (.mk k n s ks vs) = (whlL vs && decide (1 ≤ k ∧ k ≤ 6))) := by show _ = _; rw [whlN_mk]
  obtain ⟨n0, hn0⟩ : ∃ q, w.heap.size = q := ⟨_, rfl⟩
  rw [hn0] at rA
  go_enter Tryz.func17, Tryz.ntmps17
  go_upto_region 1 with fail
  have avY := av.kept bY
  have HAE : Hid (∀ (i : Nat) u d, rs[i]? = some u → vs[i]? = some d → NdF (w.alloc (.cells (rnA a) 41)) F u d) := fun i u d h1 h2 => (ae i u d h1 h2).kept bY
  rw [hn0] at bY
  generalize w.alloc (.cells (rnA a) 41) = Y at rA bY avY HAE ⊢
  obtain ⟨k9, n9, s9, sk, ⟨xv, nv, cv⟩⟩ := a
  simp only at a1 va hmv
  subst a1
  have a0 : Y.cell? ⟨n0, 0, none⟩ = some (.int .i64 k9) := rA.cell 0
  have a4 : Y.cell? ⟨n0, 4, none⟩ = some (.slice xv nv cv) := rA.cell 4
  have HV : Hid (nv = rs.length ∧ nv = vs.length) := ⟨va, by omega⟩
  have HAV : Hid (IsK ndE Y (.slice xv nv cv) rs) := avY
  have HBY : Hid (Below n0 w Y) := bY
  clear av ae ha avY rA bY al va
  go_wp2_with fail
  go_loopw [8] (fun iv wr => ∃ j : Nat, j ≤ nv ∧ iv = .int .i64 j ∧ Hid (whlL (vs.take j) = true) ∧ Below Y.heap.size Y wr) (fun iv _ => nv - (intOf iv).toNat)
  case atStart => exact ⟨0, by omega, rfl, rfl, Below.refl _ _⟩
  case round =>
    obtain ⟨j, hj, rfl, HJ, hB⟩ := hrel
    by_cases hlt : j < nv
    · have i1 : (j : Int) < (nv : Int) := by omega
      have i0 : (0 : Int) ≤ (j : Int) := by omega
      obtain ⟨va, vc⟩ := HV.out
      obtain ⟨ra, hra⟩ : ∃ q, rs[j]? = some q := ⟨_, List.getElem?_eq_getElem (by omega)⟩
      obtain ⟨dd, hdd⟩ : ∃ q, vs[j]? = some q := ⟨_, List.getElem?_eq_getElem (by omega)⟩
      obtain ⟨ba, oa, rfl, -, ca⟩ := IsK.at HAV.out j ra hra
      have la := run_load_el (range_later ca hB)
      have b9 := below_alloc wr (.cells (rnA ra) 41)
      have r9 := RowC.new wr (rnA ra) 41
      have hC := ih dd (List.mem_of_getElem? hdd) _ F ra (((HAE.out j ra dd hra hdd).kept hB).kept b9)
      have hB9 := hB.trans (b9.mono hB.size)
      have hwr : IntKind.i64.wrap ((j : Int) + 1) = (j : Int) + 1 := by rw [IntKind.wrap_i64]; omega
      have l5 : ndE.k = 5 := rfl
      rw [l5] at la
      have HT : Hid (whlL (vs.take (j + 1)) = whlN dd) := by
        show _ = _
        rw [List.take_add_one, hdd, whlL_app, HJ.out]
        simp [whlL]
      have HN : Hid (whlN dd = false → whlL vs = false) := fun h9 => whlL_no vs j dd hdd h9
      clear ca hra hdd va vc b9
      go_upto_region 4 with fail
      obtain ⟨g9, hg9⟩ : ∃ q, wr.heap.size = q := ⟨_, rfl⟩
      rw [hg9] at r9 ⊢
      generalize wr.alloc (.cells (rnA ra) 41) = X at r9 hC hB9 ⊢
      clear la
      obtain ⟨p1, p2⟩ := id r9
      have p3 : (rowAt X g9).size = 5 := by rw [p2]; rfl
      go_wp2_with fail
      refine hC.mono ?_
      rintro e w1 ⟨rfl, hb1⟩
      clear hC
      have hB1 := hB9.trans (hb1.mono hB9.size)
      clear hB hB9 hb1 p1 p2 p3 r9
      cases hf : whlN dd with
      | true =>
        have HT1 : Hid (whlL (vs.take (j + 1)) = true) := by show _ = _; rw [HT.out]; exact hf
        clear hf
        go_wp2
        go_roundw
        case rel => first | exact ⟨j + 1, by omega, by go_num, HT1, hB1⟩ | ((repeat apply Exists.intro); refine ⟨⟨j + 1, by omega, ?_, HT1, hB1⟩, rfl⟩; go_num)
        case measure => simp [intOf]; omega
      | false =>
        have HR : Hid (whlN (.mk k9 n s ks vs) = false) := by show _ = _; rw [HFR.out, HN.out hf]; rfl
        have hBf : Below n0 w w1 := HBY.out.trans (hB1.mono (by have := HBY.out.size; omega))
        clear hf
        go_wp2
        go_ret
        rw [HR.out]
        exact ⟨rfl, by first | exact hBf | (rw [hn0]; exact hBf)⟩
    · obtain rfl : j = nv := by omega
      have i1 : ¬ (j : Int) < (j : Int) := by omega
      have q0 := cell_later hB a0
      have HF : Hid (whlN (.mk k9 n s ks vs) = decide (1 ≤ k9 ∧ k9 ≤ 6)) := by
        have h9 : whlL (vs.take j) = true := HJ.out
        rw [List.take_of_length_le (by obtain ⟨va, vc⟩ := HV.out; omega)] at h9
        show _ = _
        rw [HFR.out, h9]; rfl
      have hBf : Below n0 w wr := HBY.out.trans (hB.mono (by have := HBY.out.size; omega))
      by_cases h1 : 1 ≤ k9
      · by_cases h6 : k9 ≤ 6
        · have HR : Hid (whlN (.mk k9 n s ks vs) = true) := by show _ = _; rw [HF.out, decide_eq_true ⟨h1, h6⟩]
          go_wp2
          go_ret
          rw [HR.out]
          exact ⟨rfl, by first | exact hBf | (rw [hn0]; exact hBf)⟩
        · have HR : Hid (whlN (.mk k9 n s ks vs) = false) := by show _ = _; rw [HF.out, decide_eq_false (fun h => h6 h.2)]
          go_wp2
          go_ret
          rw [HR.out]
          exact ⟨rfl, by first | exact hBf | (rw [hn0]; exact hBf)⟩
      · have HR : Hid (whlN (.mk k9 n s ks vs) = false) := by show _ = _; rw [HF.out, decide_eq_false (fun h => h1 h.1)]
        go_wp2
        go_ret
        rw [HR.out]
        exact ⟨rfl, by first | exact hBf | (rw [hn0]; exact hBf)⟩
theorem whole15_any : ∀ d, WhlOk d := Nd.ind fun k n s ks vs ih => whole15_step k n s ks vs ih
end Go.Proofs.YtddmmmfpdmejbaaGreatDoor
namespace Go.Proofs.YtddmmmfpdmejbaaGreatDoor
open Go.RowKit

/-! The keys of an object that made makes: what holds while they are laid -/
structure IM (B : Nat) (kb : List ByteArray) (lv : Value) (d : Nat → Bool) (u : Nat → Value) (x : World) : Prop where
  sz : B ≤ x.heap.size
  f0 : d 0 = true → d 3 = false → ∃ y, u 0 = .slice (some ⟨y, 0, none⟩) 0 0 ∧ B ≤ y ∧ OwnG 9 x y (.slice (some ⟨y, 0, none⟩) 0 0) []
  f3 : d 3 = true → d 5 = false → ∃ a : Sl, u 3 = a.v ∧ OwnG 9 x B a.v (strs kb)
  f4 : d 4 = true → d 5 = false → ∃ z, u 4 = .slice (some ⟨z, 0, none⟩) 1 1 ∧ x.cell? ⟨z, 0, none⟩ = some (.string sprS)
  f5 : d 5 = true → d 3 = true ∧ ∃ q e, u 5 = .slice (some ⟨q, 0, none⟩) (kb.length + 1) e ∧ OwnG 9 x B (.slice (some ⟨q, 0, none⟩) (kb.length + 1) e) (strs kb ++ [.string sprS])
  f9 : d 9 = true → d 5 = true ∧ ∃ q e, u 5 = .slice (some ⟨q, 0, none⟩) (kb.length + 1) e ∧ u 9 = .slice (some ⟨q, 0, none⟩) kb.length e
  f11 : d 11 = true → d 9 = true ∧ u 11 = .agg #[u 9, lv]
  f12 : d 12 = true → d 11 = true ∧ u 12 = .iface 70 (u 11)
  f13 : d 13 = true → d 12 = true ∧ u 13 = u 12
variable {B : Nat} {kb : List ByteArray} {lv : Value}
theorem IM.start {x : World} (h : B ≤ x.heap.size) : IM B kb lv (fun _ => false) (fun _ => undef) x :=
  ⟨h, nofun, nofun, nofun, nofun, nofun, nofun, nofun, nofun⟩
theorem IM_later : ∀ d u w w', IM B kb lv d u w → Below w.heap.size w w' → IM B kb lv d u w' := by
  intro d u w w' h hb
  refine ⟨Nat.le_trans h.sz hb.size, fun a b => ?_, fun a b => ?_, fun a b => ?_, fun a => ?_, h.f9, h.f11, h.f12, h.f13⟩
  · obtain ⟨y, e1, e2, e3⟩ := h.f0 a b
    exact ⟨y, e1, e2, e3.keep hb⟩
  · obtain ⟨q, e1, e2⟩ := h.f3 a b
    exact ⟨q, e1, e2.keep hb⟩
  · obtain ⟨z, e1, e2⟩ := h.f4 a b
    exact ⟨z, e1, cell_later hb e2⟩
  · obtain ⟨e0, q, e, e1, e2⟩ := h.f5 a
    exact ⟨e0, q, e, e1, e2.keep hb⟩
theorem IM_congr : ∀ d d' u u' w, (∀ i ∈ [0, 3, 4, 5, 9, 11, 12, 13], d i = d' i) → (∀ i ∈ [0, 3, 4, 5, 9, 11, 12, 13], d i = true → u i = u' i) → IM B kb lv d u w → IM B kb lv d' u' w := by
  intro d d' u u' w hd hu h
  have a0 := hd 0 (by simp)
  have a3 := hd 3 (by simp)
  have a4 := hd 4 (by simp)
  have a5 := hd 5 (by simp)
  have a9 := hd 9 (by simp)
  have a11 := hd 11 (by simp)
  have a12 := hd 12 (by simp)
  have a13 := hd 13 (by simp)
  refine ⟨h.sz, fun a b => ?_, fun a b => ?_, fun a b => ?_, fun a => ?_, fun a => ?_, fun a => ?_, fun a => ?_, fun a => ?_⟩
  · rw [← a0] at a; rw [← a3] at b
    rw [← hu 0 (by simp) a]; exact h.f0 a b
  · rw [← a3] at a; rw [← a5] at b
    rw [← hu 3 (by simp) a]; exact h.f3 a b
  · rw [← a4] at a; rw [← a5] at b
    rw [← hu 4 (by simp) a]; exact h.f4 a b
  · rw [← a5] at a
    rw [← hu 5 (by simp) a, ← a3]; exact h.f5 a
  · rw [← a9] at a
    have h9 := h.f9 a
    rw [← hu 9 (by simp) a, ← hu 5 (by simp) h9.1, ← a5]; exact h9
  · rw [← a11] at a
    have h9 := h.f11 a
    rw [← hu 11 (by simp) a, ← hu 9 (by simp) h9.1, ← a9]; exact h9
  · rw [← a12] at a
    have h9 := h.f12 a
    rw [← hu 12 (by simp) a, ← hu 11 (by simp) h9.1, ← a11]; exact h9
  · rw [← a13] at a
    have h9 := h.f13 a
    rw [← hu 13 (by simp) a, ← hu 12 (by simp) h9.1, ← a12]; exact h9
/-- One more is done: what is said of the others stays. -/
theorem IM.b0 {d : Nat → Bool} {u : Nat → Value} {x : World} (h : IM B kb lv d u x) : IM B kb lv (upB d 0) (upV u 0 (.slice (some ⟨x.heap.size, 0, none⟩) 0 0)) (x.alloc (.cells #[] 9)) := by
  have h' := IM_later _ _ _ _ h (below_alloc x (.cells #[] 9))
  exact ⟨h'.sz, fun _ _ => ⟨x.heap.size, rfl, h.sz, OwnG.lit 9 x [] (by decide)⟩, h'.f3, h'.f4, h'.f5, h'.f9, h'.f11, h'.f12, h'.f13⟩
theorem IM.b4 {d : Nat → Bool} {u : Nat → Value} {x : World} (h : IM B kb lv d u x) : IM B kb lv (upB d 4) (upV u 4 (.slice (some ⟨x.heap.size, 0, none⟩) 1 1)) (x.alloc (.cells #[.string sprS] 9)) := by
  have h' := IM_later _ _ _ _ h (below_alloc x (.cells #[.string sprS] 9))
  exact ⟨h'.sz, h'.f0, h'.f3, fun _ _ => ⟨x.heap.size, rfl, by rw [cell_of_row _ _ _ _ _ _ (heap_alloc_last _ _)]; rfl⟩, h'.f5, h'.f9, h'.f11, h'.f12, h'.f13⟩
theorem isG_kj {w x : World} {v : Value} {xs : List Value} {g : Nat} (h : IsG w v xs) (hk : Kj g w.heap.size w x) (hg : w.heap.size ≤ g) : IsG x v xs := by
  rcases h with h | ⟨y, d, he, hc⟩
  · exact .inl h
  · refine .inr ⟨y, d, he, fun i hi => ?_⟩
    have h1 := hc i hi
    have h2 := World.block_lt_of_cell? w _ h1
    rw [World.cell?_of_block (w := w) (hk.block _ h2 h2 (by omega))]
    exact h1
theorem IM.a3 {d : Nat → Bool} {u : Nat → Value} {x : World} (ty : TypeId) (xk : Option Addr) (nk ck : Nat) (h : IM B kb lv d u x) (h0 : d 0 = true) (h3 : d 3 = false) (h5 : d 5 = false) (hk : IsG x (.slice xk nk ck) (strs kb)) (hn : nk ≤ 8796093021952) :
    ∃ v x', (Builtin.append_ #[22, 22] ty #[u 0, .slice xk nk ck]).run Tryz.prog x = .ok v x' ∧ IM B kb lv (upB d 3) (upV u 3 v) x' ∧ Below x.heap.size x x' := by
  obtain ⟨y, e1, e2, e3⟩ := h.f0 h0 h3
  obtain ⟨a, x', hr, hO, hb⟩ := copyS x y xk nk ck kb ty e3 hk (by omega)
  rw [e1]
  have h' := IM_later _ _ _ _ h hb
  exact ⟨_, x', hr, ⟨h'.sz, fun _ b => by simp [upB] at b, fun _ _ => ⟨a, rfl, hO.le e2⟩, h'.f4, fun a9 => absurd (by simpa [upB] using a9) (by rw [h5]; simp), h'.f9, h'.f11, h'.f12, h'.f13⟩, hb⟩
theorem IM.a5 {d : Nat → Bool} {u : Nat → Value} {x : World} (ty : TypeId) (h : IM B kb lv d u x) (h3 : d 3 = true) (h4 : d 4 = true) (h5 : d 5 = false) (hn : kb.length ≤ 8796093021952) (h9 : d 9 = false) :
    ∃ v x', (Builtin.append_ #[22, 22] ty #[u 3, u 4]).run Tryz.prog x = .ok v x' ∧ IM B kb lv (upB d 5) (upV u 5 v) x' ∧ Kj B B x x' := by
  obtain ⟨a, e1, e2⟩ := h.f3 h3 h5
  obtain ⟨z, e3, e4⟩ := h.f4 h4 h5
  have hl : (strs kb).length = kb.length := by simp [strs]
  obtain ⟨q, e, x', hr, hO, hg, -⟩ := app1L eltS x B z a.v (strs kb) (.string sprS) ty e2 e4 rfl (by rw [hl]; omega) (by rw [hl]; unfold maxLen; omega) h.sz
  rw [hl] at hr hO
  rw [e1, e3]
  refine ⟨_, x', hr, ⟨Nat.le_trans h.sz hg.size, fun _ b => absurd (by simpa [upB] using b) (by rw [h3]; simp), fun _ b => by simp [upB] at b, fun _ b => by simp [upB] at b, fun _ => ⟨by simpa [upB] using h3, q, e, rfl, hO⟩, fun a9 => absurd (by simpa [upB] using a9) (by rw [h9]; simp), h.f11, h.f12, h.f13⟩, ?_⟩
  exact ⟨hg.os, hg.tape, hg.output, hg.size, fun b h1 h2 _ => hg.block b h1 (fun e9 => by have := (OwnG.lt e2 b e9.symm).1; omega)⟩
theorem IM.s9 {d : Nat → Bool} {u : Nat → Value} {x : World} (h : IM B kb lv d u x) (h5 : d 5 = true) (q e : Nat) (e5 : u 5 = .slice (some ⟨q, 0, none⟩) (kb.length + 1) e) (h11 : d 11 = false) : IM B kb lv (upB d 9) (upV u 9 (.slice (some ⟨q, 0, none⟩) kb.length e)) x :=
  ⟨h.sz, h.f0, h.f3, h.f4, h.f5, fun _ => ⟨h5, q, e, e5, rfl⟩, fun a => absurd (by simpa [upB] using a) (by rw [h11]; simp), h.f12, h.f13⟩
theorem IM.s11 {d : Nat → Bool} {u : Nat → Value} {x : World} (h : IM B kb lv d u x) (h9 : d 9 = true) (h12 : d 12 = false) : IM B kb lv (upB d 11) (upV u 11 (.agg #[u 9, lv])) x :=
  ⟨h.sz, h.f0, h.f3, h.f4, h.f5, h.f9, fun _ => ⟨h9, rfl⟩, fun a => absurd (by simpa [upB] using a) (by rw [h12]; simp), h.f13⟩
theorem IM.s12 {d : Nat → Bool} {u : Nat → Value} {x : World} (h : IM B kb lv d u x) (h11 : d 11 = true) (h13 : d 13 = false) : IM B kb lv (upB d 12) (upV u 12 (.iface 70 (u 11))) x :=
  ⟨h.sz, h.f0, h.f3, h.f4, h.f5, h.f9, h.f11, fun _ => ⟨h11, rfl⟩, fun a => absurd (by simpa [upB] using a) (by rw [h13]; simp)⟩
theorem IM.s13 {d : Nat → Bool} {u : Nat → Value} {x : World} (h : IM B kb lv d u x) (h12 : d 12 = true) : IM B kb lv (upB d 13) (upV u 13 (u 12)) x :=
  ⟨h.sz, h.f0, h.f3, h.f4, h.f5, h.f9, h.f11, h.f12, fun _ => ⟨h12, rfl⟩⟩
end Go.Proofs.YtddmmmfpdmejbaaGreatDoor
namespace Go.Proofs.YtddmmmfpdmejbaaGreatDoor
open Go.RowKit

/-! assaylaw15.made -/
def MadeOk (d : Nd) : Prop := ∀ (dep : Nat) (w : World) (r : Rn), dep ≤ 12 → LnF w r d → Calls Tryz.prog 8 #[.agg (rnA r), .int .i64 (dep : Int)] w fun e w' => ∃ v, e = .returned v ∧ VlS w' (w.heap.size ≤ ·) v (mdN d dep) ∧ Below w.heap.size w w'
def mdP (vs : List Nd) (dep j : Nat) : List Nd := if dep < 12 then mdL (vs.take j) (dep + 1) else []
theorem mdP_len (vs : List Nd) (dep j : Nat) : (mdP vs dep j).length ≤ vs.length := by
  unfold mdP
  split
  · rw [mdL_map, List.length_map, List.length_take]; omega
  · simp
theorem mdP_all (vs : List Nd) (dep j : Nat) (h : vs.length ≤ j) : mdP vs dep j = if dep < 12 then mdL vs (dep + 1) else [] := by
  unfold mdP
  rw [List.take_of_length_le h]
theorem mdP_succ (vs : List Nd) (dep j : Nat) (d : Nd) (h : vs[j]? = some d) (hd : dep < 12) : mdP vs dep (j + 1) = mdP vs dep j ++ [mdN d (dep + 1)] := by
  unfold mdP
  rw [if_pos hd, if_pos hd, List.take_add_one, h, mdL_map, mdL_map]
  simp
theorem mdP_no (vs : List Nd) (dep j : Nat) (hd : ¬ dep < 12) : mdP vs dep (j + 1) = mdP vs dep j := by
  unfold mdP
  rw [if_neg hd, if_neg hd]
set_option linter.unusedSimpArgs false in
set_option maxRecDepth 100000 in
set_option maxHeartbeats 16000000 in
theorem made15_step (k n : Int) (s : List UInt8) (ks : List (List UInt8)) (vs : List Nd) (ih : ∀ d ∈ vs, MadeOk d) : MadeOk (.mk k n s ks vs) := fun dep w a hdep ha => by
  obtain ⟨a1, a2, a3, kb, rs, ak, akb, av, al, ai, ⟨hmk, hmv⟩, hqc, ae⟩ := ha.inv
  have va := av.num
  have bY := below_alloc w (.cells (rnA a) 25)
  have rA := RowC.new w (rnA a) 25
  have hYs : (w.alloc (.cells (rnA a) 25)).heap.size = w.heap.size + 1 := alloc_sz15 w _
  obtain ⟨n0, hn0⟩ : ∃ q, w.heap.size = q := ⟨_, rfl⟩
  have HN0 : Hid (w.heap.size = n0) := hn0
  rw [hn0] at rA hYs
  go_enter Tryz.func8, Tryz.ntmps8
  go_upto_region 2 with fail
  have avY := av.kept bY
  have akY := ak.kept bY
  have HAE : Hid (∀ (i : Nat) u d, rs[i]? = some u → vs[i]? = some d → LnF (w.alloc (.cells (rnA a) 25)) u d) := fun i u d h1 h2 => (ae i u d h1 h2).kept bY
  rw [hn0] at bY
  generalize w.alloc (.cells (rnA a) 25) = Y at rA bY avY akY HAE hYs ⊢
  obtain ⟨k9, n9, s9, ⟨xk, nk, ck⟩, ⟨xv, nv, cv⟩⟩ := a
  simp only at a1 a2 a3 va hmv hmk ai hqc
  subst a1 a2
  have a0 : Y.cell? ⟨n0, 0, none⟩ = some (.int .i64 k9) := rA.cell 0
  have a4 : Y.cell? ⟨n0, 4, none⟩ = some (.slice xv nv cv) := rA.cell 4
  have HA1 : Hid (Y.cell? ⟨n0, 1, none⟩ = some (.int .i64 n9)) := rA.cell 1
  have HA2 : Hid (Y.cell? ⟨n0, 2, none⟩ = some (.string s9)) := rA.cell 2
  have HA3 : Hid (Y.cell? ⟨n0, 3, none⟩ = some (.slice xk nk ck)) := rA.cell 3
  have HV : Hid (nv = rs.length ∧ nv = vs.length) := ⟨va, by omega⟩
  have HAV : Hid (IsK lnE Y (.slice xv nv cv) rs) := avY
  have HAK : Hid (IsG Y (.slice xk nk ck) (strs kb)) := akY
  have HBY : Hid (Below n0 w Y) := bY
  have HYS : Hid (Y.heap.size = n0 + 1) := hYs
  have HKS : Hid (kb.map lS = ks ∧ lS s9 = s ∧ nk ≤ 8796093021952 ∧ nk ≤ ck ∧ (-9223372036854775808 ≤ n9 ∧ n9 ≤ 9223372036854775807)) := ⟨akb, a3, hmk, hqc, ai⟩
  clear av ae ha avY rA bY al va ak akY akb a3 hmk hqc ai hYs hn0
  go_wp2_with fail
  go_loopw [5, 11] (fun lv iv wr => ∃ (j : Nat) (b : Sl) (us : List Value), j ≤ nv ∧ lv = b.v ∧ iv = .int .i64 j ∧ VsL wr (n0 + 1) b us (mdP vs dep j) ∧ Below Y.heap.size Y wr) (fun _ iv _ => nv - (intOf iv).toNat)
  case atStart => exact ⟨0, slZ, [], by omega, rfl, rfl, by have : mdP vs dep 0 = [] := by unfold mdP; split <;> rfl
                                                            rw [this]; exact VsL.nil _ _, Below.refl _ _⟩
  case round =>
    obtain ⟨j, b, us, hj, rfl, rfl, hL, hB⟩ := hrel
    by_cases hlt : j < nv
    · have i1 : (j : Int) < (nv : Int) := by omega
      have i0 : (0 : Int) ≤ (j : Int) := by omega
      obtain ⟨va, vc⟩ := HV.out
      obtain ⟨ra, hra⟩ : ∃ q, rs[j]? = some q := ⟨_, List.getElem?_eq_getElem (by omega)⟩
      obtain ⟨dd, hdd⟩ : ∃ q, vs[j]? = some q := ⟨_, List.getElem?_eq_getElem (by omega)⟩
      obtain ⟨ba, oa, rfl, -, ca⟩ := IsK.at HAV.out j ra hra
      have la := run_load_ln_el (range_later ca hB)
      have b9 := below_alloc wr (.cells (rnA ra) 25)
      have r9 := RowC.new wr (rnA ra) 25
      have hC := fun h12 : dep + 1 ≤ 12 => ih dd (List.mem_of_getElem? hdd) (dep + 1) _ ra h12 (((HAE.out j ra dd hra hdd).kept hB).kept b9)
      have hB9 := hB.trans (b9.mono hB.size)
      have hL9 := hL.kept b9
      have hown : ∀ q, b.v.ownBlock = some q → q < (wr.alloc (.cells (rnA ra) 25)).heap.size := fun q hq => by
        have := (OwnG.lt hL9.own q hq).2
        exact this
      have hwr : IntKind.i64.wrap ((j : Int) + 1) = (j : Int) + 1 := by rw [IntKind.wrap_i64]; omega
      have l5 : lnE.k = 5 := rfl
      rw [l5] at la
      have HS1 : Hid (dep < 12 → mdP vs dep (j + 1) = mdP vs dep j ++ [mdN dd (dep + 1)]) := fun h => mdP_succ vs dep j dd hdd h
      have hul : us.length ≤ 1759218604390 := by
        have h1 := hL.len
        have h2 := mdP_len vs dep j
        omega
      clear ca hra hdd va vc b9 hL hB
      go_upto_region 5 with fail
      obtain ⟨g9, hg9⟩ : ∃ q, wr.heap.size = q := ⟨_, rfl⟩
      rw [hg9] at r9 ⊢
      generalize wr.alloc (.cells (rnA ra) 25) = X at r9 hC hB9 hL9 hown ⊢
      clear la
      obtain ⟨p1, p2⟩ := id r9
      have p3 : (rowAt X g9).size = 5 := by rw [p2]; rfl
      by_cases hd12 : dep < 12
      · have c12 : (dep : Int) < 12 := by omega
        have hC1 := hC (by omega)
        have hdp : (((dep + 1 : Nat) : Nat) : Int) = (dep : Int) + 1 := by omega
        rw [hdp] at hC1
        have hwd : IntKind.i64.wrap ((dep : Int) + 1) = (dep : Int) + 1 := by rw [IntKind.wrap_i64]; omega
        clear hC hdp
        go_wp2_with fail
        refine hC1.mono ?_
        rintro e w1 ⟨v1, rfl, hv1, hb1⟩
        clear hC1
        have hB1 := hB9.trans (hb1.mono hB9.size)
        have hL1 := hL9.kept hb1
        have b2 := below_alloc w1 (.cells #[v1] 27)
        have hy : (w1.alloc (.cells #[v1] 27)).cell? ⟨w1.heap.size, 0, none⟩ = some v1 := by
          rw [cell_of_row _ _ _ _ _ _ (heap_alloc_last _ _)]; rfl
        have hXs : X.heap.size ≤ (w1.alloc (.cells #[v1] 27)).heap.size := Nat.le_trans hb1.size b2.size
        obtain ⟨a5, w5, hr5, hO5, hg5, -, -, -, -, hN5⟩ := (hL1.kept b2).app 53 (H := X.heap.size) (by have := hB9.size; have := HYS.out; omega) hy hv1.one hown hXs hul
        have hN6 := hN5 _ (hv1.kept b2)
        rw [← HS1.out hd12] at hN6
        have hB5 : Below Y.heap.size Y w5 := (hB1.trans (b2.mono hB1.size)).trans (by
          have h9 := OwnG.below (hL1.kept b2).own hg5 (by have := hB1.size; have := HYS.out; have := b2.size; omega)
          rw [HYS.out]; exact h9)
        have hif := hv1.ifv
        clear hO5 hg5 hN5 hL1 hv1 hb1 hL9 hown p1 p2 p3 r9 hB9 hXs hul hB1 b2 hy
        go_wp2_with (at_builtin; refine wpL_appG 53 rfl _ _ rfl _ w5 (by exact hr5) ?_)
        go_roundw
        case rel => first | exact ⟨j + 1, a5, us ++ [v1], by omega, rfl, by go_num, hN6, hB5⟩ | ((repeat apply Exists.intro); refine ⟨⟨j + 1, a5, us ++ [v1], by omega, rfl, ?_, hN6, hB5⟩, rfl⟩; go_num)
        case measure => simp [intOf]; omega
      · have c12 : ¬ (dep : Int) < 12 := by omega
        have hN6 : VsL X (n0 + 1) b us (mdP vs dep (j + 1)) := by rw [mdP_no vs dep j hd12]; exact hL9
        clear hC hL9 hown p1 p2 p3 r9
        go_wp2
        go_roundw
        case rel => first | exact ⟨j + 1, b, us, by omega, rfl, by go_num, hN6, hB9⟩ | ((repeat apply Exists.intro); refine ⟨⟨j + 1, b, us, by omega, rfl, ?_, hN6, hB9⟩, rfl⟩; go_num)
        case measure => simp [intOf]; omega
    · obtain rfl : j = nv := by omega
      have i1 : ¬ (j : Int) < (j : Int) := by omega
      have hall : mdP vs dep j = if dep < 12 then mdL vs (dep + 1) else [] := mdP_all vs dep j (by obtain ⟨-, h2⟩ := HV.out; omega)
      rw [hall] at hL
      have hul : us.length ≤ 1759218604390 := by
        have h1 := hL.len
        have h2 := mdP_len vs dep j
        rw [hall] at h2
        obtain ⟨-, h3⟩ := HV.out
        omega
      have HM : Hid (mdN (.mk k9 n9 s ks vs) dep = mdK k9 n9 s ks (if dep < 12 then mdL vs (dep + 1) else [])) := by show _ = _; rw [mdN_mk]
      generalize (if dep < 12 then mdL vs (dep + 1) else []) = ds at hL HM
      clear hall
      have b2 := below_alloc wr (.cells #[sprV] 27)
      have hy : (wr.alloc (.cells #[sprV] 27)).cell? ⟨wr.heap.size, 0, none⟩ = some sprV := by
        rw [cell_of_row _ _ _ _ _ _ (heap_alloc_last _ _)]; rfl
      have hL2 := hL.kept b2
      obtain ⟨a5, w5, hr5, hO5, hg5, ⟨g5, hg9, -⟩, hn5, hc5, hel, -⟩ := hL2.app 53 (H := wr.heap.size) (by have := hB.size; have := HYS.out; omega) hy rfl (fun q hq => (OwnG.lt hL.own q hq).2) b2.size hul
      obtain ⟨x5, m5, c5⟩ := a5
      simp only at hg9 hn5 hc5
      subst hg9 hn5
      have hB5 : Below Y.heap.size Y w5 := (hB.trans (b2.mono hB.size)).trans (by
        have h9 := OwnG.below hL2.own hg5 (by have := hB.size; have := HYS.out; have := b2.size; omega)
        rw [HYS.out]; exact h9)
      have hbn : b.n = us.length := by
        obtain ⟨bx, bn, bc⟩ := b
        exact OwnG.num hL.own
      have hgl := (OwnG.lt hO5 g5 rfl)
      have HVS : Hid (VlS w5 (n0 + 1 ≤ ·) (.iface 68 (.slice (some ⟨g5, 0, none⟩) us.length c5)) (.mk 5 0 [] [] ds)) := by
        refine .list g5 us.length c5 us ds hgl.1 hgl.2 hc5 rfl (fun q u hu => hO5.cell q u hu) hL.len hul (fun i u d h1 h2 => ?_)
        exact (hel i u d h1 h2).ag (Nat.le_refl _) fun q hq hl => ⟨hq.1, rfl⟩
      have HEL : Hid (∀ (i : Nat) u d, us[i]? = some u → ds[i]? = some d → VlS w5 (n0 + 1 ≤ ·) u d) := fun i u d h1 h2 => (hel i u d h1 h2).ag (Nat.le_refl _) fun q hq hl => ⟨hq.1, rfl⟩
      have HO5 : Hid (OwnG 27 w5 (n0 + 1) (.slice (some ⟨g5, 0, none⟩) (us.length + 1) c5) (us ++ [sprV])) := hO5
      have HLN : Hid (us.length = ds.length) := hL.len
      have q0 := cell_later hB5 a0
      have HB5Y : Hid (Below Y.heap.size Y w5) := hB5
      have q1 := cell_later hB5 HA1.out
      have q2 := cell_later hB5 HA2.out
      have q3 := cell_later hB5 HA3.out
      have hBf : Below n0 w w5 := HBY.out.trans (hB5.mono (by have := HBY.out.size; have := HYS.out; omega))
      obtain ⟨bx, bn, bc⟩ := b
      simp only at hbn
      subst hbn
      obtain ⟨nu, hnu⟩ : ∃ q, us.length = q := ⟨_, rfl⟩
      have HNU : Hid (us.length = nu) := hnu
      rw [hnu] at hr5 hc5 hul HVS
      have hr6 : (Builtin.append_ #[53, 53] 53 #[.slice bx nu bc, .slice (some ⟨wr.heap.size, 0, none⟩) 1 1]).run Tryz.prog (wr.alloc (.cells #[sprV] 27)) = .ok (.slice (some ⟨g5, 0, none⟩) (nu + 1) c5) w5 := hr5
      have j1 : (0 : Int) ≤ (nu : Int) := by omega
      have j2 : (nu : Int) ≤ (c5 : Int) := by omega
      have HK : Hid (n0 ≤ g5 ∧ g5 < w5.heap.size) := ⟨by have := hgl.1; omega, hgl.2⟩
      simp only [Sl.v, hnu]
      have es : (⟨#[115, 112, 97, 114, 101]⟩ : ByteArray) = sprS := rfl
      have ev : Value.iface 54 (.string sprS) = sprV := rfl
      have hsp : IfV sprV := .inr ⟨_, _, rfl⟩
      clear hr5 hL hL2 hO5 hg5 hel hgl b2 hy hnu a0 a4 hB hB5
      go_upto_region 9 with (at_builtin; refine wpL_appG 53 rfl _ _ rfl _ w5 (by exact hr6) ?_)
      clear hr6
      by_cases hk : k9 = 1
      · have kd1 : (k9 == 1) = true := beq_iff_eq.2 hk
        have kd2 : (k9 == 2) = false := beq_eq_false_iff_ne.2 (by omega)
        have kd3 : (k9 == 3) = false := beq_eq_false_iff_ne.2 (by omega)
        have kd4 : (k9 == 4) = false := beq_eq_false_iff_ne.2 (by omega)
        have kd5 : (k9 == 5) = false := beq_eq_false_iff_ne.2 (by omega)
        have kd6 : (k9 == 6) = false := beq_eq_false_iff_ne.2 (by omega)
        have HD : Hid (mdN (.mk k9 n9 s ks vs) dep = .mk 1 0 [] [] []) := by show _ = _; rw [HM.out, hk]; rfl
        clear hk
        go_wp2
        go_ret
        refine ⟨_, rfl, ?_, by rw [HN0.out]; exact hBf⟩
        rw [HD.out]
        exact .null
      have n1 := hk
      clear hk
      by_cases hk : k9 = 2
      · have kd1 : (k9 == 1) = false := beq_eq_false_iff_ne.2 (by omega)
        have kd2 : (k9 == 2) = true := beq_iff_eq.2 hk
        have kd3 : (k9 == 3) = false := beq_eq_false_iff_ne.2 (by omega)
        have kd4 : (k9 == 4) = false := beq_eq_false_iff_ne.2 (by omega)
        have kd5 : (k9 == 5) = false := beq_eq_false_iff_ne.2 (by omega)
        have kd6 : (k9 == 6) = false := beq_eq_false_iff_ne.2 (by omega)
        by_cases h1 : n9 = 1
        · have HD : Hid (mdN (.mk k9 n9 s ks vs) dep = .mk 2 1 [] [] []) := by show _ = _; rw [HM.out, hk]; show Nd.mk 2 (if n9 = 1 then 1 else 0) [] [] [] = _; rw [if_pos h1]
          have d1 : (n9 == 1) = true := beq_iff_eq.2 h1
          clear hk h1
          go_wp2
          go_ret
          refine ⟨_, rfl, ?_, by rw [HN0.out]; exact hBf⟩
          rw [HD.out]
          exact .bool true
        · have HD : Hid (mdN (.mk k9 n9 s ks vs) dep = .mk 2 0 [] [] []) := by show _ = _; rw [HM.out, hk]; show Nd.mk 2 (if n9 = 1 then 1 else 0) [] [] [] = _; rw [if_neg h1]
          have d1 : (n9 == 1) = false := beq_eq_false_iff_ne.2 h1
          clear hk h1
          go_wp2
          go_ret
          refine ⟨_, rfl, ?_, by rw [HN0.out]; exact hBf⟩
          rw [HD.out]
          exact .bool false
      have n2 := hk
      clear hk
      by_cases hk : k9 = 3
      · have kd1 : (k9 == 1) = false := beq_eq_false_iff_ne.2 (by omega)
        have kd2 : (k9 == 2) = false := beq_eq_false_iff_ne.2 (by omega)
        have kd3 : (k9 == 3) = true := beq_iff_eq.2 hk
        have kd4 : (k9 == 4) = false := beq_eq_false_iff_ne.2 (by omega)
        have kd5 : (k9 == 5) = false := beq_eq_false_iff_ne.2 (by omega)
        have kd6 : (k9 == 6) = false := beq_eq_false_iff_ne.2 (by omega)
        have HD : Hid (mdN (.mk k9 n9 s ks vs) dep = .mk 3 n9 [] [] []) := by show _ = _; rw [HM.out, hk]; rfl
        clear hk
        go_wp2
        go_ret
        refine ⟨_, rfl, ?_, by rw [HN0.out]; exact hBf⟩
        rw [HD.out]
        exact .num n9 HKS.out.2.2.2.2
      have n3 := hk
      clear hk
      by_cases hk : k9 = 4
      · have kd1 : (k9 == 1) = false := beq_eq_false_iff_ne.2 (by omega)
        have kd2 : (k9 == 2) = false := beq_eq_false_iff_ne.2 (by omega)
        have kd3 : (k9 == 3) = false := beq_eq_false_iff_ne.2 (by omega)
        have kd4 : (k9 == 4) = true := beq_iff_eq.2 hk
        have kd5 : (k9 == 5) = false := beq_eq_false_iff_ne.2 (by omega)
        have kd6 : (k9 == 6) = false := beq_eq_false_iff_ne.2 (by omega)
        have HD : Hid (mdN (.mk k9 n9 s ks vs) dep = .mk 4 0 s [] []) := by show _ = _; rw [HM.out, hk]; rfl
        clear hk
        go_wp2
        go_ret
        refine ⟨_, rfl, ?_, by rw [HN0.out]; exact hBf⟩
        rw [HD.out, ← HKS.out.2.1]
        exact .str s9
      have n4 := hk
      clear hk
      by_cases hk : k9 = 5
      · have kd1 : (k9 == 1) = false := beq_eq_false_iff_ne.2 (by omega)
        have kd2 : (k9 == 2) = false := beq_eq_false_iff_ne.2 (by omega)
        have kd3 : (k9 == 3) = false := beq_eq_false_iff_ne.2 (by omega)
        have kd4 : (k9 == 4) = false := beq_eq_false_iff_ne.2 (by omega)
        have kd5 : (k9 == 5) = true := beq_iff_eq.2 hk
        have kd6 : (k9 == 6) = false := beq_eq_false_iff_ne.2 (by omega)
        have HD : Hid (mdN (.mk k9 n9 s ks vs) dep = .mk 5 0 [] [] ds) := by show _ = _; rw [HM.out, hk]; rfl
        clear hk
        go_wp2
        go_ret
        refine ⟨_, rfl, ?_, by rw [HN0.out]; exact hBf⟩
        rw [HD.out]
        exact HVS.out.ag (Nat.le_refl _) fun q hq _ => ⟨by rw [HN0.out]; omega, rfl⟩
      have n5 := hk
      clear hk
      by_cases hk : k9 = 6
      · have kd1 : (k9 == 1) = false := beq_eq_false_iff_ne.2 (by omega)
        have kd2 : (k9 == 2) = false := beq_eq_false_iff_ne.2 (by omega)
        have kd3 : (k9 == 3) = false := beq_eq_false_iff_ne.2 (by omega)
        have kd4 : (k9 == 4) = false := beq_eq_false_iff_ne.2 (by omega)
        have kd5 : (k9 == 5) = false := beq_eq_false_iff_ne.2 (by omega)
        have kd6 : (k9 == 6) = true := beq_iff_eq.2 hk
        have HD : Hid (mdN (.mk k9 n9 s ks vs) dep = .mk 6 0 [] ks ds) := by show _ = _; rw [HM.out, hk]; rfl
        clear hk
        obtain ⟨B5, hB5s⟩ : ∃ q, w5.heap.size = q := ⟨_, rfl⟩
        have HB5 : Hid (w5.heap.size = B5) := hB5s
        have HAK5 : Hid (IsG w5 (.slice xk nk ck) (strs kb)) := IsG.kept HAK.out HB5Y.out
        obtain rfl : nk = kb.length := by
          have h9 := IsG.num (a := ⟨xk, nk, ck⟩) HAK.out
          simp only at h9
          rw [h9]; simp [strs]
        have HI0 : Hid (IM B5 kb (.slice (some ⟨g5, 0, none⟩) nu c5) (fun _ => false) (fun _ => undef) w5) := IM.start (by rw [hB5s]; exact Nat.le_refl _)
        have HN0B : Hid (n0 < B5) := by
          show n0 < B5
          have := HK.out
          omega
        have HUS : Hid (∃ uz : List Value, uz.length = nu ∧ uz.length = ds.length ∧ (∀ (j : Nat) u, (uz ++ [sprV])[j]? = some u → w5.cell? ⟨g5, j, none⟩ = some u) ∧ ∀ (i : Nat) u d, uz[i]? = some u → ds[i]? = some d → VlS w5 (n0 + 1 ≤ ·) u d) := ⟨us, HNU.out, HLN.out, fun j u hu => HO5.out.cell j u hu, HEL.out⟩
        have HCU : Hid (nu + 1 ≤ c5 ∧ nu ≤ 1759218604390) := ⟨by omega, by omega⟩
        clear hB5s
        go_upto_region 21 with fail
        refine wp_reliesU (kokJ (g := B5) (B := B5)) (IM B5 kb (.slice (some ⟨g5, 0, none⟩) nu c5)) [0, 3, 4, 5, 9, 11, 12, 13] [(fun _ _ => True), Fx (.pointer (some ⟨n0, 3, none⟩)), Fx (.slice xk kb.length ck), (fun _ _ => True), (fun _ _ => True), (fun _ _ => True), Fx (.pointer (some ⟨n0, 3, none⟩)), Fx (.slice xk kb.length ck), Fx (.int .i64 (kb.length : Int)), (fun _ _ => True), Fx (.slice (some ⟨g5, 0, none⟩) nu c5), (fun _ _ => True), (fun _ _ => True), (fun _ _ => True)] (by kernel_rfl) (by kernel_rfl) (by kernel_rfl) (by kernel_rfl) (by exact HI0.out) IM_later IM_congr ?_ ?_ ?_
        · repeat' (first | exact all_nil | apply all_cons)
          all_goals intro v y y' hv hb
          all_goals first | exact (show Fx _ _ _ from hv) | exact trivial
        · refine ⟨?_, ?_, ?_, ?_, ?_, ?_, ?_, ?_, ?_, ?_, ?_, ?_, ?_, ?_, trivial⟩
          all_goals
            intro ρ x dn hk hat hrd ρc ρg ρf ho hd
            have o2 : ρ (.tmp 2) = .pointer (some ⟨n0, 0, none⟩) := ho 2 rfl
            have o5 : ρ (.tmp 5) = .slice (some ⟨g5, 0, none⟩) nu c5 := ho 5 rfl
            clear ho
            simp only [depsR, depR, slotR, Fx, List.getElem?_cons_succ, List.getElem?_cons_zero, Region.binds, forall_const] at hd
            simp only [guardR, List.contains_cons, List.contains_nil, List.elem_cons, List.elem_nil, Nat.reduceBEq, Bool.or_false, Bool.false_or, Bool.or_true, Bool.true_or, cond_true, cond_false]
            go_split_ands
          · go_simp
            exact ⟨⟨trivial, IM.b0 hat⟩, Kj.below (below_alloc _ _)⟩
          · go_simp
          · have kb9 := hk.cell q3 HN0B.out (by have := HN0B.out; omega)
            go_simp
          · have hd2 : ρ (.tmp 62) = .slice xk kb.length ck := by first | assumption | exact hd.2 | exact hd.2.1 | exact hd.1
            have hk9 : Kj B5 w5.heap.size w5 x := by rw [HB5.out]; exact hk
            obtain ⟨v9, x9, hr9, i9, b9⟩ := IM.a3 22 xk kb.length ck hat (hrd.yes 0 (by kernel_rfl)) hrd.no (hrd.later [] 5 (by kernel_rfl)) (isG_kj HAK5.out hk9 (by rw [HB5.out]; exact Nat.le_refl _)) HKS.out.2.2.1
            have hr8 : (Builtin.append_ #[22, 22] 22 #[ρ (.tmp 60), .slice xk kb.length ck]).run Tryz.prog x = .ok v9 x9 := hr9
            rw [BigFrame.execOp_builtin, BigFrame.builtin_append]
            simp only [List.map_toArray, List.map_cons, List.map_nil, hd2, hr8, Sem.run_bind, Result.andThen_ok, Sem.run_pure, okUponD_some]
            exact ⟨⟨trivial, i9⟩, Kj.below b9⟩
          · go_simp
            exact ⟨⟨trivial, IM.b4 hat⟩, Kj.below (below_alloc _ _)⟩
          · obtain ⟨v9, x9, hr9, i9, k9⟩ := IM.a5 22 hat (hrd.yes 3 (by kernel_rfl)) (hrd.yes 4 (by kernel_rfl)) hrd.no HKS.out.2.2.1 (hrd.later [] 9 (by kernel_rfl))
            have hr8 : (Builtin.append_ #[22, 22] 22 #[ρ (.tmp 63), ρ (.tmp 64)]).run Tryz.prog x = .ok v9 x9 := hr9
            rw [BigFrame.execOp_builtin, BigFrame.builtin_append]
            simp only [List.map_toArray, List.map_cons, List.map_nil, hr8, Sem.run_bind, Result.andThen_ok, Sem.run_pure, okUponD_some]
            exact ⟨⟨trivial, i9⟩, k9⟩
          · go_simp
          · have kb9 := hk.cell q3 HN0B.out (by have := HN0B.out; omega)
            go_simp
          · go_simp
          · have h5 := hrd.yes 5 (by kernel_rfl)
            obtain ⟨-, q9, e9, e5, o9⟩ := hat.f5 h5
            have i9 := IM.s9 hat h5 q9 e9 e5 (hrd.later [] 11 (by kernel_rfl))
            replace e5 : ρ (.tmp 65) = .slice (some ⟨q9, 0, none⟩) (kb.length + 1) e9 := e5
            have hce : kb.length + 1 ≤ e9 := by
              obtain ⟨g8, c8, h8, -, -, h7, -⟩ := o9.form (by simp)
              simp only [Value.slice.injEq] at h8
              simp [strs] at h7
              omega
            have hd8 : ρ (.tmp 68) = .int .i64 (kb.length : Int) := by first | assumption | exact hd.2 | exact hd.2.1 | exact hd.1
            have j1 : (0 : Int) ≤ (kb.length : Int) := by omega
            have j2 : (kb.length : Int) ≤ (e9 : Int) := by omega
            go_simp
            exact ⟨⟨trivial, i9⟩, Kj.below (Below.refl _ _)⟩
          · go_simp
          · have i9 := IM.s11 hat (hrd.yes 9 (by kernel_rfl)) (hrd.later [] 12 (by kernel_rfl))
            obtain ⟨-, q9, e9, -, u9⟩ := hat.f9 (hrd.yes 9 (by kernel_rfl))
            replace u9 : ρ (.tmp 69) = .slice (some ⟨q9, 0, none⟩) kb.length e9 := u9
            have i8 : IM B5 kb (.slice (some ⟨g5, 0, none⟩) nu c5) (upB dn 11) (upV _ 11 (.agg #[ρ (.tmp 69), .slice (some ⟨g5, 0, none⟩) nu c5])) x := i9
            rw [u9] at i8
            have hd8 : ρ (.tmp 70) = .slice (some ⟨g5, 0, none⟩) nu c5 := by first | assumption | exact hd.2 | exact hd.2.1 | exact hd.1
            go_simp
            exact ⟨⟨trivial, i8⟩, Kj.below (Below.refl _ _)⟩
          · have i9 := IM.s12 hat (hrd.yes 11 (by kernel_rfl)) (hrd.later [] 13 (by kernel_rfl))
            obtain ⟨h9, u11⟩ := hat.f11 (hrd.yes 11 (by kernel_rfl))
            obtain ⟨-, q9, e9, -, u9⟩ := hat.f9 h9
            rw [u9] at u11
            have i8 : IM B5 kb (.slice (some ⟨g5, 0, none⟩) nu c5) (upB dn 12) (upV _ 12 (.iface 70 (ρ (.tmp 71)))) x := i9
            replace u11 : ρ (.tmp 71) = .agg #[.slice (some ⟨q9, 0, none⟩) kb.length e9, .slice (some ⟨g5, 0, none⟩) nu c5] := u11
            rw [u11] at i8
            go_simp
            exact ⟨⟨trivial, i8⟩, Kj.below (Below.refl _ _)⟩
          · have i9 := IM.s13 hat (hrd.yes 12 (by kernel_rfl))
            obtain ⟨h11, u12⟩ := hat.f12 (hrd.yes 12 (by kernel_rfl))
            have i8 : IM B5 kb (.slice (some ⟨g5, 0, none⟩) nu c5) (upB dn 13) (upV _ 13 (ρ (.tmp 72))) x := i9
            go_simp
            exact ⟨⟨trivial, i8⟩, Kj.below (Below.refl _ _)⟩
        · intro us x2 hk hw hI
          simp only [owed, Fx] at hw
          obtain ⟨e0, e1, e2, e3, e4, e5, e6, e7, e8, e9, e10, e11, e12, e13, -⟩ := hw
          simp only [asg, e1, e2, e6, e7, e8, e10]
          clear e1 e2 e6 e7 e8 e10 e0 e3 e4 e5 e9 e11 e12 e13
          obtain ⟨h12, g13⟩ := hI.f13 rfl
          obtain ⟨h11, g12⟩ := hI.f12 h12
          obtain ⟨h9, g11⟩ := hI.f11 h11
          obtain ⟨h5, q9, e9, g5a, g9⟩ := hI.f9 h9
          obtain ⟨-, q8, e8, g5b, O8⟩ := hI.f5 h5
          rw [g5a] at g5b
          obtain ⟨rfl, rfl⟩ : q9 = q8 ∧ e9 = e8 := by
            simp only [Value.slice.injEq, Option.some.injEq, Addr.mk.injEq] at g5b
            exact ⟨g5b.1.1, g5b.2.2⟩
          rw [g12, g11, g9] at g13
          have HO8 : Hid (OwnG 9 x2 B5 (.slice (some ⟨q9, 0, none⟩) (kb.length + 1) e9) (strs kb ++ [.string sprS])) := O8
          have HK9 : Hid (Kj B5 B5 w5 x2) := hk
          clear hI O8 hk g12 g11 g9 g5a g5b
          simp only [g13]
          go_wp2
          go_ret
          obtain ⟨uz, z1, z2, z3, z4⟩ := HUS.out
          have hk := HK9.out
          have o8 := HO8.out
          have hl8 := OwnG.lt o8 q9 rfl
          have hc8 : kb.length + 1 ≤ e9 := by
            obtain ⟨g8, c8, h8, -, -, h7, -⟩ := o8.form (by simp)
            simp only [Value.slice.injEq] at h8
            simp [strs] at h7
            omega
          have hB := HB5.out
          have hg := HK.out
          have hY := HYS.out
          have hN := HN0.out
          refine ⟨_, rfl, ?_, ?_⟩
          · rw [HD.out, ← HKS.out.1]
            refine .obj q9 kb.length e9 kb g5 nu c5 uz ds ?_ hl8.2 hc8 rfl (fun j u hu => o8.cell j u hu) ?_ ?_ HCU.out.1 z1 (fun j u hu => ?_) z2 ⟨HCU.out.2, HKS.out.2.2.1⟩ (fun i u d h1 h2 => ?_)
            · show w.heap.size ≤ q9
              have := hl8.1
              omega
            · show w.heap.size ≤ g5
              omega
            · have := hk.size
              omega
            · exact hk.cell (z3 j u hu) (by omega) (by omega)
            · refine (z4 i u d h1 h2).ag (by have := hk.size; omega) fun b hb hl => ⟨by omega, hk.block b hl (by omega) (by omega)⟩
          · rw [hN]
            have h9 : Below w5.heap.size w5 x2 := { os := hk.os, tape := hk.tape, output := hk.output, size := hk.size, block := fun b h => hk.block b h (by omega) (by omega) }
            exact hBf.trans (h9.mono (by omega))
      have n6 := hk
      clear hk
      have HD : Hid (mdN (.mk k9 n9 s ks vs) dep = .mk k9 0 [] [] []) := by
        show _ = _
        rw [HM.out]
        unfold mdK
        rw [if_neg n2, if_neg n3, if_neg n4, if_neg n5, if_neg n6]
      have kd1 : (k9 == 1) = false := beq_eq_false_iff_ne.2 (by omega)
      have kd2 : (k9 == 2) = false := beq_eq_false_iff_ne.2 (by omega)
      have kd3 : (k9 == 3) = false := beq_eq_false_iff_ne.2 (by omega)
      have kd4 : (k9 == 4) = false := beq_eq_false_iff_ne.2 (by omega)
      have kd5 : (k9 == 5) = false := beq_eq_false_iff_ne.2 (by omega)
      have kd6 : (k9 == 6) = false := beq_eq_false_iff_ne.2 (by omega)
      have hno : ¬ (1 ≤ k9 ∧ k9 ≤ 6) := by omega
      clear n1 n2 n3 n4 n5 n6
      go_wp2
      go_ret
      refine ⟨_, rfl, ?_, by rw [HN0.out]; exact hBf⟩
      rw [HD.out]
      exact .nil k9 hno
theorem made15_any : ∀ d, MadeOk d := Nd.ind fun k n s ks vs ih => made15_step k n s ks vs ih
end Go.Proofs.YtddmmmfpdmejbaaGreatDoor
namespace Go.Proofs.YtddmmmfpdmejbaaGreatDoor
open Go.RowKit

/-! assaylaw15.meant -/
def MeantOk (d : Nd) : Prop := ∀ (dep : Nat) (w : World) (r : Rn), dep ≤ 12 → LnF w r d → Calls Tryz.prog 15 #[.agg (rnA r), .int .i64 (dep : Int)] w fun e w' => ∃ r', e = .returned (.agg (rnA r')) ∧ NdF w' (w.heap.size ≤ ·) r' (mdN d dep) ∧ Below w.heap.size w w'
def mtP (k : Int) (vs : List Nd) (dep j : Nat) : List Nd := if dep < 12 ∧ (k = 5 ∨ k = 6) then mdL (vs.take j) (dep + 1) else []
theorem mtP_len (k : Int) (vs : List Nd) (dep j : Nat) : (mtP k vs dep j).length ≤ vs.length := by
  unfold mtP
  split
  · rw [mdL_map, List.length_map, List.length_take]; omega
  · simp
theorem mtP_all (k : Int) (vs : List Nd) (dep j : Nat) (h : vs.length ≤ j) : mtP k vs dep j = if dep < 12 ∧ (k = 5 ∨ k = 6) then mdL vs (dep + 1) else [] := by
  unfold mtP
  rw [List.take_of_length_le h]
theorem mtP_zero (k : Int) (vs : List Nd) (dep : Nat) : mtP k vs dep 0 = [] := by
  unfold mtP
  split <;> rfl
theorem mtP_succ (k : Int) (vs : List Nd) (dep j : Nat) (d : Nd) (h : vs[j]? = some d) (hd : dep < 12 ∧ (k = 5 ∨ k = 6)) : mtP k vs dep (j + 1) = mtP k vs dep j ++ [mdN d (dep + 1)] := by
  unfold mtP
  rw [if_pos hd, if_pos hd, List.take_add_one, h, mdL_map, mdL_map]
  simp
theorem mtP_no (k : Int) (vs : List Nd) (dep j : Nat) (hd : ¬ (dep < 12 ∧ (k = 5 ∨ k = 6))) : mtP k vs dep (j + 1) = mtP k vs dep j := by
  unfold mtP
  rw [if_neg hd, if_neg hd]
/-- append(nil, l...) of texts. -/
theorem copyN (w : World) (x : Option Addr) (n c : Nat) (kb : List ByteArray) (ty : TypeId) (h : IsG w (.slice x n c) (strs kb)) (hn : n ≤ 8796093022208) :
    ∃ (a : Sl) (w' : World), (Builtin.append_ #[22, 22] ty #[.slice none 0 0, .slice x n c]).run Tryz.prog w = .ok a.v w' ∧ OwnG 9 w' w.heap.size a.v (strs kb) ∧ Below w.heap.size w w' := by
  have hlen : (strs kb).length = n := by
    obtain ⟨x9, c9, he9⟩ := h.len
    simp only [Value.slice.injEq] at he9
    exact he9.2.1.symm
  have hm : maxLen = 9223372036854775807 := rfl
  by_cases h0 : strs kb = []
  · rw [h0] at hlen ⊢
    obtain rfl : n = 0 := hlen.symm
    exact ⟨slZ, w, run_app0G eltS w none 0 0 (Nat.zero_le _) x c ty (fun _ => rfl), OwnG.nil _ _ _, Below.refl _ _⟩
  · rcases h with ⟨h, h2⟩ | ⟨a, d, he, hc⟩
    · exact absurd h2 h0
    · simp only [Value.slice.injEq] at he
      obtain ⟨rfl, rfl, rfl⟩ := he
      obtain ⟨v', w', hr, hO, -, hb⟩ := run_appG eltS w w.heap.size (.slice none 0 0) [] (strs kb) a c ty (OwnG.nil _ _ _) (fun j u hu => by
        obtain ⟨hj, rfl⟩ := List.getElem?_eq_some_iff.1 hu
        exact hc j hj) (fun u hu => by
        unfold strs at hu
        obtain ⟨s, -, rfl⟩ := List.mem_map.1 hu
        rfl) h0 (by simp only [List.length_nil]; omega) (by simp only [List.length_nil]; omega) (Nat.le_refl _)
      obtain ⟨g, c9, he9, -⟩ := hO.form (by simpa using h0)
      exact ⟨⟨some ⟨g, 0, none⟩, _, c9⟩, w', by rw [hr, he9]; rfl, by rw [he9] at hO; exact hO, hb⟩
/-- The list with one more behind it: what holds behind the call, the slice that is built, and append. -/
def IT1 (B : Nat) (v : Sl) (rs : List Rn) (vs : List Nd) (d : Nd) (r : Rn) (x : World) : Prop :=
  LsO x B (fun _ => False) v rs vs ∧ ∃ H, B ≤ H ∧ H ≤ x.heap.size ∧ (∀ b, v.v.ownBlock = some b → b < H) ∧ NdF x (H ≤ ·) r d
def IT (g7 : Nat) (ra ld : Rn) (dl : Nd) (B : Nat) (v : Sl) (rs : List Rn) (vs : List Nd) (d : Nd) : List Value → World → Prop
  | [], x => LsO x B (fun _ => False) v rs vs ∧ B ≤ x.heap.size ∧ RowC x g7 (rnA ra) ∧ LnF x ld dl
  | [a], x => ∃ r, a = .agg (rnA r) ∧ IT1 B v rs vs d r x
  | [_, c], x => ∃ r y, c = .slice (some ⟨y, 0, none⟩) 1 1 ∧ RowC x y (rnA r) ∧ IT1 B v rs vs d r x
  | [_, _, q], x => ∃ (r : Rn) (a : Sl), q = a.v ∧ B ≤ x.heap.size ∧ LsO x B (fun _ => False) a (rs ++ [r]) (vs ++ [d])
  | _, _ => False
section
variable {g7 : Nat} {ra ld : Rn} {dl : Nd} {B : Nat} {v : Sl} {rs : List Rn} {vs : List Nd} {d : Nd}
theorem IT1_later {r : Rn} {w w' : World} (h : IT1 B v rs vs d r w) (hb : Below w.heap.size w w') : IT1 B v rs vs d r w' := by
  obtain ⟨h2, H, h3, h4, h5, h7⟩ := h
  exact ⟨h2.later hb, H, h3, Nat.le_trans h4 hb.size, h5, h7.kept hb⟩
theorem IT_later : ∀ us w w', IT g7 ra ld dl B v rs vs d us w → Below w.heap.size w w' → IT g7 ra ld dl B v rs vs d us w'
  | [], _, _, ⟨h1, h2, h3, h4⟩, hb => ⟨h1.later hb, Nat.le_trans h2 hb.size, h3.kept hb, h4.kept hb⟩
  | [_], _, _, ⟨r, e, h⟩, hb => ⟨r, e, IT1_later h hb⟩
  | [_, _], _, _, ⟨r, y, e, h, k⟩, hb => ⟨r, y, e, h.kept hb, IT1_later k hb⟩
  | [_, _, _], _, _, ⟨r, a, e, h, k⟩, hb => ⟨r, a, e, Nat.le_trans h hb.size, k.later hb⟩
  | _ :: _ :: _ :: _ :: _, _, _, h, _ => h.elim
theorem IT.call {x x' : World} {r : Rn} (h : IT g7 ra ld dl B v rs vs d [] x) (hN : NdF x' (x.heap.size ≤ ·) r d) (hb : Below x.heap.size x x') : IT g7 ra ld dl B v rs vs d [.agg (rnA r)] x' := by
  obtain ⟨h1, h2, h3, h4⟩ := h
  exact ⟨r, rfl, h1.later hb, x.heap.size, h2, hb.size, fun b hb => (h1.lt b hb).2, hN⟩
theorem IT.build {x : World} {r : Rn} (a : Value) (h : IT1 B v rs vs d r x) : IT g7 ra ld dl B v rs vs d [a, .slice (some ⟨x.heap.size, 0, none⟩) 1 1] (x.alloc (.cells (rnA r) 41)) :=
  ⟨r, x.heap.size, rfl, RowC.new _ _ _, IT1_later h (below_alloc _ _)⟩
theorem IT.app {x : World} {a c : Value} (g : Nat) (ty : TypeId) (h : IT g7 ra ld dl B v rs vs d [a, c] x) (hn : rs.length ≤ 1759218604390) :
    ∃ q x', (Builtin.append_ #[39, 39] ty #[v.v, c]).run Tryz.prog x = .ok q x' ∧ IT g7 ra ld dl B v rs vs d [a, c, q] x' ∧ Kj g B x x' := by
  obtain ⟨r, y, rfl, hy, hL, H, h1, h2, h3, h5⟩ := h
  obtain ⟨q, x', hrun, hO, hg, -⟩ := hL.app ty h1 hy (fun b hb => hb.elim) h3 h5 h2 (by omega)
  exact ⟨q.v, x', hrun, ⟨r, q, rfl, by have := hg.size; omega, hO⟩, Kj.own hg (fun b e => (hL.lt b e).1)⟩
end
/-- What holds ahead of each value. -/
def MtI (n0 g4 g5 B : Nat) (a : Rn) (k n : Int) (s : ByteArray) (ks : Sl) (kb : List ByteArray) (vs : List Nd) (dep : Nat) (w : World) (j : Nat) (wr : World) : Prop :=
  ∃ (v : Sl) (rs : List Rn), RowC wr n0 (rnA a) ∧ RowC wr g5 (rnA ⟨k, n, s, ks, v⟩) ∧ RowC wr g4 (rnA rnZ) ∧ LsO wr B (fun _ => False) v rs (mtP k vs dep j) ∧ Below n0 w wr ∧ B ≤ wr.heap.size ∧ IsG wr ks.v (strs kb) ∧ ks.In (fun b => n0 ≤ b ∧ b < B ∧ b ≠ g4 ∧ b ≠ g5)
set_option linter.unusedSimpArgs false in
set_option maxRecDepth 100000 in
set_option maxHeartbeats 16000000 in
theorem meant15_step (k n : Int) (s : List UInt8) (ks : List (List UInt8)) (vs : List Nd) (ih : ∀ d ∈ vs, MeantOk d) : MeantOk (.mk k n s ks vs) := fun dep w a hdep ha => by
  obtain ⟨a1, a2, a3, kb, rs, ak, akb, av, al, ai, ⟨hmk, hmv⟩, hqc, ae⟩ := ha.inv
  have va := av.num
  obtain ⟨n0, hn0⟩ : ∃ q, w.heap.size = q := ⟨_, rfl⟩
  have HN0 : Hid (w.heap.size = n0) := hn0
  obtain ⟨k9, n9, s9, ⟨xk, nk, ck⟩, ⟨xv, nv, cv⟩⟩ := a
  simp only at a1 a2 a3 va hmv hmk ai hqc av ak
  subst a1 a2
  have b1 := below_alloc w (.cells (rnA ⟨k9, n9, s9, ⟨xk, nk, ck⟩, ⟨xv, nv, cv⟩⟩) 25)
  have b2 := below_alloc (w.alloc (.cells (rnA ⟨k9, n9, s9, ⟨xk, nk, ck⟩, ⟨xv, nv, cv⟩⟩) 25)) (.cells (rnA rnZ) 41)
  have r1 := (RowC.new w (rnA ⟨k9, n9, s9, ⟨xk, nk, ck⟩, ⟨xv, nv, cv⟩⟩) 25).kept b2
  have r2 := RowC.new (w.alloc (.cells (rnA ⟨k9, n9, s9, ⟨xk, nk, ck⟩, ⟨xv, nv, cv⟩⟩) 25)) (rnA rnZ) 41
  have bY := b1.trans (b2.mono b1.size)
  have z1 : (w.alloc (.cells (rnA ⟨k9, n9, s9, ⟨xk, nk, ck⟩, ⟨xv, nv, cv⟩⟩) 25)).heap.size = n0 + 1 := by rw [alloc_sz15, hn0]
  have zY : ((w.alloc (.cells (rnA ⟨k9, n9, s9, ⟨xk, nk, ck⟩, ⟨xv, nv, cv⟩⟩) 25)).alloc (.cells (rnA rnZ) 41)).heap.size = n0 + 2 := by rw [alloc_sz15, z1]
  rw [z1] at r2
  rw [hn0] at r1 bY
  have HV : Hid (nv = rs.length ∧ nv = vs.length) := ⟨va, by omega⟩
  have HAV : Hid (IsK lnE w (.slice xv nv cv) rs) := av
  have HAK : Hid (IsG w (.slice xk nk ck) (strs kb)) := ak
  have HAE : Hid (∀ (i : Nat) u d, rs[i]? = some u → vs[i]? = some d → LnF w u d) := ae
  have HKS : Hid (kb.map lS = ks ∧ lS s9 = s ∧ nk ≤ 8796093021952 ∧ nk ≤ ck ∧ (-9223372036854775808 ≤ n9 ∧ n9 ≤ 9223372036854775807)) := ⟨akb, a3, hmk, hqc, ai⟩
  clear av ak ae akb a3 hmk hqc ai va ha al b1 b2 z1
  go_enter Tryz.func15, Tryz.ntmps15
  go_upto_region 1 with fail
  generalize (w.alloc (.cells (rnA ⟨k9, n9, s9, ⟨xk, nk, ck⟩, ⟨xv, nv, cv⟩⟩) 25)).alloc (.cells (rnA rnZ) 41) = Y at r1 r2 bY zY ⊢
  obtain ⟨g4, hg4⟩ : ∃ q, n0 + 1 = q := ⟨_, rfl⟩
  obtain ⟨g5, hg5⟩ : ∃ q, n0 + 2 = q := ⟨_, rfl⟩
  rw [hg4] at r2 ⊢
  rw [hg5] at zY
  have a0 : Y.cell? ⟨n0, 0, none⟩ = some (.int .i64 k9) := r1.cell 0
  have b3 := below_alloc Y (.cells (rnA ⟨k9, 0, ⟨#[]⟩, slZ, slZ⟩) 41)
  have r3 := RowC.new Y (rnA ⟨k9, 0, ⟨#[]⟩, slZ, slZ⟩) 41
  have bZ := bY.trans (b3.mono (by omega))
  have r1z := r1.kept b3
  have r2z := r2.kept b3
  have zZ : (Y.alloc (.cells (rnA ⟨k9, 0, ⟨#[]⟩, slZ, slZ⟩) 41)).heap.size = g5 + 1 := by rw [alloc_sz15, zY]
  rw [zY] at r3
  clear r1 r2 bY
  go_upto_region 2 with fail
  obtain ⟨Z, hZ⟩ : ∃ q, Y.alloc (.cells #[.int .i64 k9, .int .i64 0, .string ⟨#[]⟩, .slice none 0 0, .slice none 0 0] 41) = q := ⟨_, rfl⟩
  have hZ' : Y.alloc (.cells (rnA ⟨k9, 0, ⟨#[]⟩, slZ, slZ⟩) 41) = Z := hZ
  rw [hZ'] at b3 r3 bZ r1z r2z zZ
  rw [hZ]
  have q0 : Z.cell? ⟨n0, 0, none⟩ = some (.int .i64 k9) := r1z.cell 0
  have HR1 : Hid (RowC Z n0 (rnA ⟨k9, n9, s9, ⟨xk, nk, ck⟩, ⟨xv, nv, cv⟩⟩)) := r1z
  have HR2 : Hid (RowC Z g4 (rnA rnZ)) := r2z
  have HR3 : Hid (RowC Z g5 (rnA ⟨k9, 0, ⟨#[]⟩, slZ, slZ⟩)) := r3
  have HBZ : Hid (Below n0 w Z) := bZ
  have HZS : Hid (Z.heap.size = g5 + 1) := zZ
  have HM : Hid (mdN (.mk k9 n9 s ks vs) dep = mdK k9 n9 s ks (if dep < 12 then mdL vs (dep + 1) else [])) := by show _ = _; rw [mdN_mk]
  clear b3 r3 bZ r1z r2z zZ hZ hZ' zY a0
  by_cases hk : k9 = 2
  · have kd2 : (k9 == 2) = true := beq_iff_eq.2 hk
    have kd3 : (k9 == 3) = false := beq_eq_false_iff_ne.2 (by omega)
    have kd4 : (k9 == 4) = false := beq_eq_false_iff_ne.2 (by omega)
    have kd5 : (k9 == 5) = false := beq_eq_false_iff_ne.2 (by omega)
    have kd6 : (k9 == 6) = false := beq_eq_false_iff_ne.2 (by omega)
    have HKC : Hid (k9 = 2) := hk
    clear hk
    have q1 : Z.cell? ⟨n0, 1, none⟩ = some (.int .i64 n9) := HR1.out.cell 1
    by_cases h1 : n9 = 1
    · have d1 : (n9 == 1) = true := beq_iff_eq.2 h1
      have HD0 : Hid (mdN (.mk k9 n9 s ks vs) dep = .mk k9 (1) (lS ⟨#[]⟩) (([] : List ByteArray).map lS) (mtP k9 vs dep nv)) := by
        show _ = _
        rw [HM.out, mtP_all k9 vs dep nv (by have := HV.out; omega)]
        rw [if_neg (show ¬ (dep < 12 ∧ (k9 = 5 ∨ k9 = 6)) by have := HKC.out; omega)]
        rw [HKC.out]; show Nd.mk 2 (if n9 = 1 then 1 else 0) [] [] [] = _; rw [if_pos h1]; rfl
      have H00 : Hid (MtI n0 g4 g5 (g5 + 1) ⟨k9, n9, s9, ⟨xk, nk, ck⟩, ⟨xv, nv, cv⟩⟩ k9 (1) ⟨#[]⟩ slZ ([]) vs dep w 0 (Z.setCell ⟨g5, 1, none⟩ (.int .i64 1))) := ⟨slZ, [], HR1.out.set_ne 1 _ (by omega), HR3.out.set 1 _, HR2.out.set_ne 1 _ (by omega), by rw [mtP_zero]; exact LsO.nil _ _ _, HBZ.out.setCell (p := ⟨g5, 1, none⟩) (show n0 ≤ g5 by omega) _, by have := HZS.out; simp; omega, .inl ⟨rfl, rfl⟩, fun h => absurd h (by decide)⟩
      have HQ0 : Hid (((slZ : Sl).n) ≤ 17592186044416) := by show _ ≤ _; decide
      have HGB : Hid (g5 < g5 + 1) := Nat.lt_succ_self _
      have hcf := HR3.out.cell 1
      have hzf := HR3.out.frozen 1
      have q4 : (Z.setCell ⟨g5, 1, none⟩ (.int .i64 1)).cell? ⟨n0, 4, none⟩ = some (.slice xv nv cv) := H00.out.elim fun v h => h.elim fun r h => h.1.cell 4
      have H01 : ∃ n8 s8 xq nq cq kq B, Hid (mdN (.mk k9 n9 s ks vs) dep = .mk k9 n8 (lS s8) (kq.map lS) (mtP k9 vs dep nv)) ∧ Hid (MtI n0 g4 g5 B ⟨k9, n9, s9, ⟨xk, nk, ck⟩, ⟨xv, nv, cv⟩⟩ k9 n8 s8 ⟨xq, nq, cq⟩ kq vs dep w 0 (Z.setCell ⟨g5, 1, none⟩ (.int .i64 1))) ∧ Hid (nq ≤ 17592186044416) ∧ Hid (g5 < B) := ⟨_, _, _, _, _, _, _, HD0, H00, HQ0, HGB⟩
      clear HD0 H00 HQ0 HGB
      obtain ⟨n8, s8, xq, nq, cq, kq, B, HD, H0, HQ, hGB⟩ := H01
      have hGB := hGB.out
      clear h1
      go_wp2_with fail
      go_loopw [40] (fun iv wr => ∃ j : Nat, j ≤ nv ∧ iv = .int .i64 j ∧ MtI n0 g4 g5 B ⟨k9, n9, s9, ⟨xk, nk, ck⟩, ⟨xv, nv, cv⟩⟩ k9 n8 s8 ⟨xq, nq, cq⟩ kq vs dep w j wr) (fun iv _ => nv - (intOf iv).toNat)
      case atStart => exact ⟨0, by omega, rfl, H0.out⟩
      case round =>
        clear H0
        obtain ⟨j, hj, rfl, ⟨xw, nw, cw⟩, rq, r0, r5, r4, hL, hB, hsz, hK, hKF⟩ := hrel
        by_cases hlt : j < nv
        · have i1 : (j : Int) < (nv : Int) := by omega
          have i0 : (0 : Int) ≤ (j : Int) := by omega
          obtain ⟨va, vc⟩ := HV.out
          obtain ⟨ra, hra⟩ : ∃ q, rs[j]? = some q := ⟨_, List.getElem?_eq_getElem (by omega)⟩
          obtain ⟨dd, hdd⟩ : ∃ q, vs[j]? = some q := ⟨_, List.getElem?_eq_getElem (by omega)⟩
          have hBw : Below w.heap.size w wr := by rw [HN0.out]; exact hB
          obtain ⟨ba, oa, rfl, -, ca⟩ := IsK.at HAV.out j ra hra
          have la := run_load_ln_el (range_later ca hBw)
          have b9 := below_alloc wr (.cells (rnA ra) 25)
          have r9 := RowC.new wr (rnA ra) 25
          have hE9 := ((HAE.out j ra dd hra hdd).kept hBw).kept b9
          have hwr : IntKind.i64.wrap ((j : Int) + 1) = (j : Int) + 1 := by rw [IntKind.wrap_i64]; omega
          have l5 : lnE.k = 5 := rfl
          rw [l5] at la
          have hi := ih dd (List.mem_of_getElem? hdd)
          have HS1 : Hid (dep < 12 ∧ (k9 = 5 ∨ k9 = 6) → mtP k9 vs dep (j + 1) = mtP k9 vs dep j ++ [mdN dd (dep + 1)]) := fun h => mtP_succ k9 vs dep j dd hdd h
          have hrl : rq.length ≤ 1759218604390 := by
            have h1 := hL.len
            have h2 := mtP_len k9 vs dep j
            omega
          have r0x := r0.kept b9
          have r5x := r5.kept b9
          have r4x := r4.kept b9
          have hLx := hL.later b9
          have hBx : Below n0 w (wr.alloc (.cells (rnA ra) 25)) := hB.trans (b9.mono (by have := hB.size; have := HN0.out; omega))
          have hKx := IsG.kept hK b9
          have hszx : B ≤ (wr.alloc (.cells (rnA ra) 25)).heap.size := Nat.le_trans hsz b9.size
          clear ca hra hdd va vc b9 hL hB hK r0 r4 r5 hBw
          go_upto_region 15 with fail
          obtain ⟨g7, hg7⟩ : ∃ q, wr.heap.size = q := ⟨_, rfl⟩
          rw [hg7] at r9 hsz ⊢
          generalize wr.alloc (.cells (rnA ra) 25) = X at r9 r0x r5x r4x hLx hBx hKx hszx hE9 ⊢
          clear la hg7
          have c0 : X.cell? ⟨n0, 0, none⟩ = some (.int .i64 k9) := r0x.cell 0
          have HNEW : Hid (MtI n0 g4 g5 B ⟨k9, n9, s9, ⟨xk, nk, ck⟩, ⟨some ⟨ba, oa, none⟩, nv, cv⟩⟩ k9 n8 s8 ⟨xq, nq, cq⟩ kq vs dep w (j + 1) X) := ⟨⟨xw, nw, cw⟩, rq, r0x, r5x, r4x, by rw [mtP_no k9 vs dep j (by have := HKC.out; omega)]; exact hLx, hBx, hszx, hKx, hKF⟩
          by_cases hd12 : dep < 12
          · have c12 : (dep : Int) < 12 := by omega
            clear r0x r5x r4x hLx hBx hKx hszx hE9 r9 hi
            go_wp2
            go_roundw
            case rel => first | exact ⟨j + 1, by omega, by go_num, HNEW.out⟩ | ((repeat apply Exists.intro); refine ⟨⟨j + 1, by omega, ?_, HNEW.out⟩, rfl⟩; go_num)
            case measure => simp [intOf]; omega
          · have c12 : ¬ (dep : Int) < 12 := by omega
            clear r0x r5x r4x hLx hBx hKx hszx hE9 r9 hi
            go_wp2
            go_roundw
            case rel => first | exact ⟨j + 1, by omega, by go_num, HNEW.out⟩ | ((repeat apply Exists.intro); refine ⟨⟨j + 1, by omega, ?_, HNEW.out⟩, rfl⟩; go_num)
            case measure => simp [intOf]; omega
        · obtain rfl : j = nv := by omega
          have i1 : ¬ (j : Int) < (j : Int) := by omega
          obtain ⟨p1, p2⟩ := id r5
          obtain ⟨p3, p4⟩ := id r4
          have p5 : (rowAt wr g5).size = 5 := by rw [p2]; rfl
          have p6 : (rowAt wr g4).size = 5 := by rw [p4]; rfl
          have hs := grown_setRow15 wr g4 (rnA ⟨k9, n8, s8, ⟨xq, nq, cq⟩, ⟨xw, nw, cw⟩⟩)
          have hwn : nw ≤ 17592186044416 := by
            have h1 := hL.len
            have h2 := mtP_len k9 vs dep j
            have h3 := HV.out
            have h4 : nw = rq.length := (OwnK.isK ndE_ok hL.own).num
            omega
          have HF : Hid (NdF (wr.setRow g4 (rnA ⟨k9, n8, s8, ⟨xq, nq, cq⟩, ⟨xw, nw, cw⟩⟩)) (n0 ≤ ·) ⟨k9, n8, s8, ⟨xq, nq, cq⟩, ⟨xw, nw, cw⟩⟩ (mdN (.mk k9 n9 s ks vs) dep) ∧ Below n0 w (wr.setRow g4 (rnA ⟨k9, n8, s8, ⟨xq, nq, cq⟩, ⟨xw, nw, cw⟩⟩))) := by
            refine ⟨?_, below_row14 hB (by omega) _⟩
            rw [HD.out]
            have hL8 := (LsO.ag hL hs.size (fun b hb _ hl => hs.block b hl (fun e => by cases e; omega))).le (show n0 ≤ B by omega)
            exact LsO.node k9 n8 s8 ⟨xq, nq, cq⟩ ⟨xw, nw, cw⟩ kq hL8 (hK.ag hKF fun b hb hl => hs.block b hl (fun e => by cases e; omega)) (hKF.mono fun b hb => hb.1) ⟨HQ.out, hwn⟩
          clear hs hL hB hK hKF hwn
          go_wp2
          refine nd_bodyPost1 4 g4 (rnA ⟨k9, n8, s8, ⟨xq, nq, cq⟩, ⟨xw, nw, cw⟩⟩) rfl rfl rfl (RowC.setRow r4 _) rfl ?_
          exact ⟨⟨k9, n8, s8, ⟨xq, nq, cq⟩, ⟨xw, nw, cw⟩⟩, rfl, by first | exact HF.out.1 | (rw [HN0.out]; exact HF.out.1), by first | exact HF.out.2 | (rw [HN0.out]; exact HF.out.2)⟩
    · have d1 : (n9 == 1) = false := beq_eq_false_iff_ne.2 h1
      have HD0 : Hid (mdN (.mk k9 n9 s ks vs) dep = .mk k9 (0) (lS ⟨#[]⟩) (([] : List ByteArray).map lS) (mtP k9 vs dep nv)) := by
        show _ = _
        rw [HM.out, mtP_all k9 vs dep nv (by have := HV.out; omega)]
        rw [if_neg (show ¬ (dep < 12 ∧ (k9 = 5 ∨ k9 = 6)) by have := HKC.out; omega)]
        rw [HKC.out]; show Nd.mk 2 (if n9 = 1 then 1 else 0) [] [] [] = _; rw [if_neg h1]; rfl
      have H00 : Hid (MtI n0 g4 g5 (g5 + 1) ⟨k9, n9, s9, ⟨xk, nk, ck⟩, ⟨xv, nv, cv⟩⟩ k9 (0) ⟨#[]⟩ slZ ([]) vs dep w 0 (Z)) := ⟨slZ, [], HR1.out, HR3.out, HR2.out, by rw [mtP_zero]; exact LsO.nil _ _ _, HBZ.out, by have := HZS.out; simp; omega, .inl ⟨rfl, rfl⟩, fun h => absurd h (by decide)⟩
      have HQ0 : Hid (((slZ : Sl).n) ≤ 17592186044416) := by show _ ≤ _; decide
      have HGB : Hid (g5 < g5 + 1) := Nat.lt_succ_self _
      have q4 : (Z).cell? ⟨n0, 4, none⟩ = some (.slice xv nv cv) := H00.out.elim fun v h => h.elim fun r h => h.1.cell 4
      have H01 : ∃ n8 s8 xq nq cq kq B, Hid (mdN (.mk k9 n9 s ks vs) dep = .mk k9 n8 (lS s8) (kq.map lS) (mtP k9 vs dep nv)) ∧ Hid (MtI n0 g4 g5 B ⟨k9, n9, s9, ⟨xk, nk, ck⟩, ⟨xv, nv, cv⟩⟩ k9 n8 s8 ⟨xq, nq, cq⟩ kq vs dep w 0 (Z)) ∧ Hid (nq ≤ 17592186044416) ∧ Hid (g5 < B) := ⟨_, _, _, _, _, _, _, HD0, H00, HQ0, HGB⟩
      clear HD0 H00 HQ0 HGB
      obtain ⟨n8, s8, xq, nq, cq, kq, B, HD, H0, HQ, hGB⟩ := H01
      have hGB := hGB.out
      clear h1
      go_wp2_with fail
      go_loopw [40] (fun iv wr => ∃ j : Nat, j ≤ nv ∧ iv = .int .i64 j ∧ MtI n0 g4 g5 B ⟨k9, n9, s9, ⟨xk, nk, ck⟩, ⟨xv, nv, cv⟩⟩ k9 n8 s8 ⟨xq, nq, cq⟩ kq vs dep w j wr) (fun iv _ => nv - (intOf iv).toNat)
      case atStart => exact ⟨0, by omega, rfl, H0.out⟩
      case round =>
        clear H0
        obtain ⟨j, hj, rfl, ⟨xw, nw, cw⟩, rq, r0, r5, r4, hL, hB, hsz, hK, hKF⟩ := hrel
        by_cases hlt : j < nv
        · have i1 : (j : Int) < (nv : Int) := by omega
          have i0 : (0 : Int) ≤ (j : Int) := by omega
          obtain ⟨va, vc⟩ := HV.out
          obtain ⟨ra, hra⟩ : ∃ q, rs[j]? = some q := ⟨_, List.getElem?_eq_getElem (by omega)⟩
          obtain ⟨dd, hdd⟩ : ∃ q, vs[j]? = some q := ⟨_, List.getElem?_eq_getElem (by omega)⟩
          have hBw : Below w.heap.size w wr := by rw [HN0.out]; exact hB
          obtain ⟨ba, oa, rfl, -, ca⟩ := IsK.at HAV.out j ra hra
          have la := run_load_ln_el (range_later ca hBw)
          have b9 := below_alloc wr (.cells (rnA ra) 25)
          have r9 := RowC.new wr (rnA ra) 25
          have hE9 := ((HAE.out j ra dd hra hdd).kept hBw).kept b9
          have hwr : IntKind.i64.wrap ((j : Int) + 1) = (j : Int) + 1 := by rw [IntKind.wrap_i64]; omega
          have l5 : lnE.k = 5 := rfl
          rw [l5] at la
          have hi := ih dd (List.mem_of_getElem? hdd)
          have HS1 : Hid (dep < 12 ∧ (k9 = 5 ∨ k9 = 6) → mtP k9 vs dep (j + 1) = mtP k9 vs dep j ++ [mdN dd (dep + 1)]) := fun h => mtP_succ k9 vs dep j dd hdd h
          have hrl : rq.length ≤ 1759218604390 := by
            have h1 := hL.len
            have h2 := mtP_len k9 vs dep j
            omega
          have r0x := r0.kept b9
          have r5x := r5.kept b9
          have r4x := r4.kept b9
          have hLx := hL.later b9
          have hBx : Below n0 w (wr.alloc (.cells (rnA ra) 25)) := hB.trans (b9.mono (by have := hB.size; have := HN0.out; omega))
          have hKx := IsG.kept hK b9
          have hszx : B ≤ (wr.alloc (.cells (rnA ra) 25)).heap.size := Nat.le_trans hsz b9.size
          clear ca hra hdd va vc b9 hL hB hK r0 r4 r5 hBw
          go_upto_region 15 with fail
          obtain ⟨g7, hg7⟩ : ∃ q, wr.heap.size = q := ⟨_, rfl⟩
          rw [hg7] at r9 hsz ⊢
          generalize wr.alloc (.cells (rnA ra) 25) = X at r9 r0x r5x r4x hLx hBx hKx hszx hE9 ⊢
          clear la hg7
          have c0 : X.cell? ⟨n0, 0, none⟩ = some (.int .i64 k9) := r0x.cell 0
          have HNEW : Hid (MtI n0 g4 g5 B ⟨k9, n9, s9, ⟨xk, nk, ck⟩, ⟨some ⟨ba, oa, none⟩, nv, cv⟩⟩ k9 n8 s8 ⟨xq, nq, cq⟩ kq vs dep w (j + 1) X) := ⟨⟨xw, nw, cw⟩, rq, r0x, r5x, r4x, by rw [mtP_no k9 vs dep j (by have := HKC.out; omega)]; exact hLx, hBx, hszx, hKx, hKF⟩
          by_cases hd12 : dep < 12
          · have c12 : (dep : Int) < 12 := by omega
            clear r0x r5x r4x hLx hBx hKx hszx hE9 r9 hi
            go_wp2
            go_roundw
            case rel => first | exact ⟨j + 1, by omega, by go_num, HNEW.out⟩ | ((repeat apply Exists.intro); refine ⟨⟨j + 1, by omega, ?_, HNEW.out⟩, rfl⟩; go_num)
            case measure => simp [intOf]; omega
          · have c12 : ¬ (dep : Int) < 12 := by omega
            clear r0x r5x r4x hLx hBx hKx hszx hE9 r9 hi
            go_wp2
            go_roundw
            case rel => first | exact ⟨j + 1, by omega, by go_num, HNEW.out⟩ | ((repeat apply Exists.intro); refine ⟨⟨j + 1, by omega, ?_, HNEW.out⟩, rfl⟩; go_num)
            case measure => simp [intOf]; omega
        · obtain rfl : j = nv := by omega
          have i1 : ¬ (j : Int) < (j : Int) := by omega
          obtain ⟨p1, p2⟩ := id r5
          obtain ⟨p3, p4⟩ := id r4
          have p5 : (rowAt wr g5).size = 5 := by rw [p2]; rfl
          have p6 : (rowAt wr g4).size = 5 := by rw [p4]; rfl
          have hs := grown_setRow15 wr g4 (rnA ⟨k9, n8, s8, ⟨xq, nq, cq⟩, ⟨xw, nw, cw⟩⟩)
          have hwn : nw ≤ 17592186044416 := by
            have h1 := hL.len
            have h2 := mtP_len k9 vs dep j
            have h3 := HV.out
            have h4 : nw = rq.length := (OwnK.isK ndE_ok hL.own).num
            omega
          have HF : Hid (NdF (wr.setRow g4 (rnA ⟨k9, n8, s8, ⟨xq, nq, cq⟩, ⟨xw, nw, cw⟩⟩)) (n0 ≤ ·) ⟨k9, n8, s8, ⟨xq, nq, cq⟩, ⟨xw, nw, cw⟩⟩ (mdN (.mk k9 n9 s ks vs) dep) ∧ Below n0 w (wr.setRow g4 (rnA ⟨k9, n8, s8, ⟨xq, nq, cq⟩, ⟨xw, nw, cw⟩⟩))) := by
            refine ⟨?_, below_row14 hB (by omega) _⟩
            rw [HD.out]
            have hL8 := (LsO.ag hL hs.size (fun b hb _ hl => hs.block b hl (fun e => by cases e; omega))).le (show n0 ≤ B by omega)
            exact LsO.node k9 n8 s8 ⟨xq, nq, cq⟩ ⟨xw, nw, cw⟩ kq hL8 (hK.ag hKF fun b hb hl => hs.block b hl (fun e => by cases e; omega)) (hKF.mono fun b hb => hb.1) ⟨HQ.out, hwn⟩
          clear hs hL hB hK hKF hwn
          go_wp2
          refine nd_bodyPost1 4 g4 (rnA ⟨k9, n8, s8, ⟨xq, nq, cq⟩, ⟨xw, nw, cw⟩⟩) rfl rfl rfl (RowC.setRow r4 _) rfl ?_
          exact ⟨⟨k9, n8, s8, ⟨xq, nq, cq⟩, ⟨xw, nw, cw⟩⟩, rfl, by first | exact HF.out.1 | (rw [HN0.out]; exact HF.out.1), by first | exact HF.out.2 | (rw [HN0.out]; exact HF.out.2)⟩
  have n2 := hk
  clear hk
  by_cases hk : k9 = 3
  · have kd2 : (k9 == 2) = false := beq_eq_false_iff_ne.2 (by omega)
    have kd3 : (k9 == 3) = true := beq_iff_eq.2 hk
    have kd4 : (k9 == 4) = false := beq_eq_false_iff_ne.2 (by omega)
    have kd5 : (k9 == 5) = false := beq_eq_false_iff_ne.2 (by omega)
    have kd6 : (k9 == 6) = false := beq_eq_false_iff_ne.2 (by omega)
    have HKC : Hid (k9 = 3) := hk
    clear hk
    have q1 : Z.cell? ⟨n0, 1, none⟩ = some (.int .i64 n9) := HR1.out.cell 1
    have HD0 : Hid (mdN (.mk k9 n9 s ks vs) dep = .mk k9 (n9) (lS ⟨#[]⟩) (([] : List ByteArray).map lS) (mtP k9 vs dep nv)) := by
      show _ = _
      rw [HM.out, mtP_all k9 vs dep nv (by have := HV.out; omega)]
      rw [if_neg (show ¬ (dep < 12 ∧ (k9 = 5 ∨ k9 = 6)) by have := HKC.out; omega)]
      rw [HKC.out]; rfl
    have H00 : Hid (MtI n0 g4 g5 (g5 + 1) ⟨k9, n9, s9, ⟨xk, nk, ck⟩, ⟨xv, nv, cv⟩⟩ k9 (n9) ⟨#[]⟩ slZ ([]) vs dep w 0 (Z.setCell ⟨g5, 1, none⟩ (.int .i64 n9))) := ⟨slZ, [], HR1.out.set_ne 1 _ (by omega), HR3.out.set 1 _, HR2.out.set_ne 1 _ (by omega), by rw [mtP_zero]; exact LsO.nil _ _ _, HBZ.out.setCell (p := ⟨g5, 1, none⟩) (show n0 ≤ g5 by omega) _, by have := HZS.out; simp; omega, .inl ⟨rfl, rfl⟩, fun h => absurd h (by decide)⟩
    have HQ0 : Hid (((slZ : Sl).n) ≤ 17592186044416) := by show _ ≤ _; decide
    have HGB : Hid (g5 < g5 + 1) := Nat.lt_succ_self _
    have hcf := HR3.out.cell 1
    have hzf := HR3.out.frozen 1
    have q4 : (Z.setCell ⟨g5, 1, none⟩ (.int .i64 n9)).cell? ⟨n0, 4, none⟩ = some (.slice xv nv cv) := H00.out.elim fun v h => h.elim fun r h => h.1.cell 4
    have H01 : ∃ n8 s8 xq nq cq kq B, Hid (mdN (.mk k9 n9 s ks vs) dep = .mk k9 n8 (lS s8) (kq.map lS) (mtP k9 vs dep nv)) ∧ Hid (MtI n0 g4 g5 B ⟨k9, n9, s9, ⟨xk, nk, ck⟩, ⟨xv, nv, cv⟩⟩ k9 n8 s8 ⟨xq, nq, cq⟩ kq vs dep w 0 (Z.setCell ⟨g5, 1, none⟩ (.int .i64 n9))) ∧ Hid (nq ≤ 17592186044416) ∧ Hid (g5 < B) := ⟨_, _, _, _, _, _, _, HD0, H00, HQ0, HGB⟩
    clear HD0 H00 HQ0 HGB
    obtain ⟨n8, s8, xq, nq, cq, kq, B, HD, H0, HQ, hGB⟩ := H01
    have hGB := hGB.out
    go_wp2_with fail
    go_loopw [40] (fun iv wr => ∃ j : Nat, j ≤ nv ∧ iv = .int .i64 j ∧ MtI n0 g4 g5 B ⟨k9, n9, s9, ⟨xk, nk, ck⟩, ⟨xv, nv, cv⟩⟩ k9 n8 s8 ⟨xq, nq, cq⟩ kq vs dep w j wr) (fun iv _ => nv - (intOf iv).toNat)
    case atStart => exact ⟨0, by omega, rfl, H0.out⟩
    case round =>
      clear H0
      obtain ⟨j, hj, rfl, ⟨xw, nw, cw⟩, rq, r0, r5, r4, hL, hB, hsz, hK, hKF⟩ := hrel
      by_cases hlt : j < nv
      · have i1 : (j : Int) < (nv : Int) := by omega
        have i0 : (0 : Int) ≤ (j : Int) := by omega
        obtain ⟨va, vc⟩ := HV.out
        obtain ⟨ra, hra⟩ : ∃ q, rs[j]? = some q := ⟨_, List.getElem?_eq_getElem (by omega)⟩
        obtain ⟨dd, hdd⟩ : ∃ q, vs[j]? = some q := ⟨_, List.getElem?_eq_getElem (by omega)⟩
        have hBw : Below w.heap.size w wr := by rw [HN0.out]; exact hB
        obtain ⟨ba, oa, rfl, -, ca⟩ := IsK.at HAV.out j ra hra
        have la := run_load_ln_el (range_later ca hBw)
        have b9 := below_alloc wr (.cells (rnA ra) 25)
        have r9 := RowC.new wr (rnA ra) 25
        have hE9 := ((HAE.out j ra dd hra hdd).kept hBw).kept b9
        have hwr : IntKind.i64.wrap ((j : Int) + 1) = (j : Int) + 1 := by rw [IntKind.wrap_i64]; omega
        have l5 : lnE.k = 5 := rfl
        rw [l5] at la
        have hi := ih dd (List.mem_of_getElem? hdd)
        have HS1 : Hid (dep < 12 ∧ (k9 = 5 ∨ k9 = 6) → mtP k9 vs dep (j + 1) = mtP k9 vs dep j ++ [mdN dd (dep + 1)]) := fun h => mtP_succ k9 vs dep j dd hdd h
        have hrl : rq.length ≤ 1759218604390 := by
          have h1 := hL.len
          have h2 := mtP_len k9 vs dep j
          omega
        have r0x := r0.kept b9
        have r5x := r5.kept b9
        have r4x := r4.kept b9
        have hLx := hL.later b9
        have hBx : Below n0 w (wr.alloc (.cells (rnA ra) 25)) := hB.trans (b9.mono (by have := hB.size; have := HN0.out; omega))
        have hKx := IsG.kept hK b9
        have hszx : B ≤ (wr.alloc (.cells (rnA ra) 25)).heap.size := Nat.le_trans hsz b9.size
        clear ca hra hdd va vc b9 hL hB hK r0 r4 r5 hBw
        go_upto_region 15 with fail
        obtain ⟨g7, hg7⟩ : ∃ q, wr.heap.size = q := ⟨_, rfl⟩
        rw [hg7] at r9 hsz ⊢
        generalize wr.alloc (.cells (rnA ra) 25) = X at r9 r0x r5x r4x hLx hBx hKx hszx hE9 ⊢
        clear la hg7
        have c0 : X.cell? ⟨n0, 0, none⟩ = some (.int .i64 k9) := r0x.cell 0
        have HNEW : Hid (MtI n0 g4 g5 B ⟨k9, n9, s9, ⟨xk, nk, ck⟩, ⟨some ⟨ba, oa, none⟩, nv, cv⟩⟩ k9 n8 s8 ⟨xq, nq, cq⟩ kq vs dep w (j + 1) X) := ⟨⟨xw, nw, cw⟩, rq, r0x, r5x, r4x, by rw [mtP_no k9 vs dep j (by have := HKC.out; omega)]; exact hLx, hBx, hszx, hKx, hKF⟩
        by_cases hd12 : dep < 12
        · have c12 : (dep : Int) < 12 := by omega
          clear r0x r5x r4x hLx hBx hKx hszx hE9 r9 hi
          go_wp2
          go_roundw
          case rel => first | exact ⟨j + 1, by omega, by go_num, HNEW.out⟩ | ((repeat apply Exists.intro); refine ⟨⟨j + 1, by omega, ?_, HNEW.out⟩, rfl⟩; go_num)
          case measure => simp [intOf]; omega
        · have c12 : ¬ (dep : Int) < 12 := by omega
          clear r0x r5x r4x hLx hBx hKx hszx hE9 r9 hi
          go_wp2
          go_roundw
          case rel => first | exact ⟨j + 1, by omega, by go_num, HNEW.out⟩ | ((repeat apply Exists.intro); refine ⟨⟨j + 1, by omega, ?_, HNEW.out⟩, rfl⟩; go_num)
          case measure => simp [intOf]; omega
      · obtain rfl : j = nv := by omega
        have i1 : ¬ (j : Int) < (j : Int) := by omega
        obtain ⟨p1, p2⟩ := id r5
        obtain ⟨p3, p4⟩ := id r4
        have p5 : (rowAt wr g5).size = 5 := by rw [p2]; rfl
        have p6 : (rowAt wr g4).size = 5 := by rw [p4]; rfl
        have hs := grown_setRow15 wr g4 (rnA ⟨k9, n8, s8, ⟨xq, nq, cq⟩, ⟨xw, nw, cw⟩⟩)
        have hwn : nw ≤ 17592186044416 := by
          have h1 := hL.len
          have h2 := mtP_len k9 vs dep j
          have h3 := HV.out
          have h4 : nw = rq.length := (OwnK.isK ndE_ok hL.own).num
          omega
        have HF : Hid (NdF (wr.setRow g4 (rnA ⟨k9, n8, s8, ⟨xq, nq, cq⟩, ⟨xw, nw, cw⟩⟩)) (n0 ≤ ·) ⟨k9, n8, s8, ⟨xq, nq, cq⟩, ⟨xw, nw, cw⟩⟩ (mdN (.mk k9 n9 s ks vs) dep) ∧ Below n0 w (wr.setRow g4 (rnA ⟨k9, n8, s8, ⟨xq, nq, cq⟩, ⟨xw, nw, cw⟩⟩))) := by
          refine ⟨?_, below_row14 hB (by omega) _⟩
          rw [HD.out]
          have hL8 := (LsO.ag hL hs.size (fun b hb _ hl => hs.block b hl (fun e => by cases e; omega))).le (show n0 ≤ B by omega)
          exact LsO.node k9 n8 s8 ⟨xq, nq, cq⟩ ⟨xw, nw, cw⟩ kq hL8 (hK.ag hKF fun b hb hl => hs.block b hl (fun e => by cases e; omega)) (hKF.mono fun b hb => hb.1) ⟨HQ.out, hwn⟩
        clear hs hL hB hK hKF hwn
        go_wp2
        refine nd_bodyPost1 4 g4 (rnA ⟨k9, n8, s8, ⟨xq, nq, cq⟩, ⟨xw, nw, cw⟩⟩) rfl rfl rfl (RowC.setRow r4 _) rfl ?_
        exact ⟨⟨k9, n8, s8, ⟨xq, nq, cq⟩, ⟨xw, nw, cw⟩⟩, rfl, by first | exact HF.out.1 | (rw [HN0.out]; exact HF.out.1), by first | exact HF.out.2 | (rw [HN0.out]; exact HF.out.2)⟩
  have n3 := hk
  clear hk
  by_cases hk : k9 = 4
  · have kd2 : (k9 == 2) = false := beq_eq_false_iff_ne.2 (by omega)
    have kd3 : (k9 == 3) = false := beq_eq_false_iff_ne.2 (by omega)
    have kd4 : (k9 == 4) = true := beq_iff_eq.2 hk
    have kd5 : (k9 == 5) = false := beq_eq_false_iff_ne.2 (by omega)
    have kd6 : (k9 == 6) = false := beq_eq_false_iff_ne.2 (by omega)
    have HKC : Hid (k9 = 4) := hk
    clear hk
    have q1 : Z.cell? ⟨n0, 2, none⟩ = some (.string s9) := HR1.out.cell 2
    have HD0 : Hid (mdN (.mk k9 n9 s ks vs) dep = .mk k9 (0) (lS s9) (([] : List ByteArray).map lS) (mtP k9 vs dep nv)) := by
      show _ = _
      rw [HM.out, mtP_all k9 vs dep nv (by have := HV.out; omega)]
      rw [if_neg (show ¬ (dep < 12 ∧ (k9 = 5 ∨ k9 = 6)) by have := HKC.out; omega)]
      rw [HKC.out, ← HKS.out.2.1]; rfl
    have H00 : Hid (MtI n0 g4 g5 (g5 + 1) ⟨k9, n9, s9, ⟨xk, nk, ck⟩, ⟨xv, nv, cv⟩⟩ k9 (0) s9 slZ ([]) vs dep w 0 (Z.setCell ⟨g5, 2, none⟩ (.string s9))) := ⟨slZ, [], HR1.out.set_ne 2 _ (by omega), HR3.out.set 2 _, HR2.out.set_ne 2 _ (by omega), by rw [mtP_zero]; exact LsO.nil _ _ _, HBZ.out.setCell (p := ⟨g5, 2, none⟩) (show n0 ≤ g5 by omega) _, by have := HZS.out; simp; omega, .inl ⟨rfl, rfl⟩, fun h => absurd h (by decide)⟩
    have HQ0 : Hid (((slZ : Sl).n) ≤ 17592186044416) := by show _ ≤ _; decide
    have HGB : Hid (g5 < g5 + 1) := Nat.lt_succ_self _
    have hcf := HR3.out.cell 2
    have hzf := HR3.out.frozen 2
    have q4 : (Z.setCell ⟨g5, 2, none⟩ (.string s9)).cell? ⟨n0, 4, none⟩ = some (.slice xv nv cv) := H00.out.elim fun v h => h.elim fun r h => h.1.cell 4
    have H01 : ∃ n8 s8 xq nq cq kq B, Hid (mdN (.mk k9 n9 s ks vs) dep = .mk k9 n8 (lS s8) (kq.map lS) (mtP k9 vs dep nv)) ∧ Hid (MtI n0 g4 g5 B ⟨k9, n9, s9, ⟨xk, nk, ck⟩, ⟨xv, nv, cv⟩⟩ k9 n8 s8 ⟨xq, nq, cq⟩ kq vs dep w 0 (Z.setCell ⟨g5, 2, none⟩ (.string s9))) ∧ Hid (nq ≤ 17592186044416) ∧ Hid (g5 < B) := ⟨_, _, _, _, _, _, _, HD0, H00, HQ0, HGB⟩
    clear HD0 H00 HQ0 HGB
    obtain ⟨n8, s8, xq, nq, cq, kq, B, HD, H0, HQ, hGB⟩ := H01
    have hGB := hGB.out
    go_wp2_with fail
    go_loopw [40] (fun iv wr => ∃ j : Nat, j ≤ nv ∧ iv = .int .i64 j ∧ MtI n0 g4 g5 B ⟨k9, n9, s9, ⟨xk, nk, ck⟩, ⟨xv, nv, cv⟩⟩ k9 n8 s8 ⟨xq, nq, cq⟩ kq vs dep w j wr) (fun iv _ => nv - (intOf iv).toNat)
    case atStart => exact ⟨0, by omega, rfl, H0.out⟩
    case round =>
      clear H0
      obtain ⟨j, hj, rfl, ⟨xw, nw, cw⟩, rq, r0, r5, r4, hL, hB, hsz, hK, hKF⟩ := hrel
      by_cases hlt : j < nv
      · have i1 : (j : Int) < (nv : Int) := by omega
        have i0 : (0 : Int) ≤ (j : Int) := by omega
        obtain ⟨va, vc⟩ := HV.out
        obtain ⟨ra, hra⟩ : ∃ q, rs[j]? = some q := ⟨_, List.getElem?_eq_getElem (by omega)⟩
        obtain ⟨dd, hdd⟩ : ∃ q, vs[j]? = some q := ⟨_, List.getElem?_eq_getElem (by omega)⟩
        have hBw : Below w.heap.size w wr := by rw [HN0.out]; exact hB
        obtain ⟨ba, oa, rfl, -, ca⟩ := IsK.at HAV.out j ra hra
        have la := run_load_ln_el (range_later ca hBw)
        have b9 := below_alloc wr (.cells (rnA ra) 25)
        have r9 := RowC.new wr (rnA ra) 25
        have hE9 := ((HAE.out j ra dd hra hdd).kept hBw).kept b9
        have hwr : IntKind.i64.wrap ((j : Int) + 1) = (j : Int) + 1 := by rw [IntKind.wrap_i64]; omega
        have l5 : lnE.k = 5 := rfl
        rw [l5] at la
        have hi := ih dd (List.mem_of_getElem? hdd)
        have HS1 : Hid (dep < 12 ∧ (k9 = 5 ∨ k9 = 6) → mtP k9 vs dep (j + 1) = mtP k9 vs dep j ++ [mdN dd (dep + 1)]) := fun h => mtP_succ k9 vs dep j dd hdd h
        have hrl : rq.length ≤ 1759218604390 := by
          have h1 := hL.len
          have h2 := mtP_len k9 vs dep j
          omega
        have r0x := r0.kept b9
        have r5x := r5.kept b9
        have r4x := r4.kept b9
        have hLx := hL.later b9
        have hBx : Below n0 w (wr.alloc (.cells (rnA ra) 25)) := hB.trans (b9.mono (by have := hB.size; have := HN0.out; omega))
        have hKx := IsG.kept hK b9
        have hszx : B ≤ (wr.alloc (.cells (rnA ra) 25)).heap.size := Nat.le_trans hsz b9.size
        clear ca hra hdd va vc b9 hL hB hK r0 r4 r5 hBw
        go_upto_region 15 with fail
        obtain ⟨g7, hg7⟩ : ∃ q, wr.heap.size = q := ⟨_, rfl⟩
        rw [hg7] at r9 hsz ⊢
        generalize wr.alloc (.cells (rnA ra) 25) = X at r9 r0x r5x r4x hLx hBx hKx hszx hE9 ⊢
        clear la hg7
        have c0 : X.cell? ⟨n0, 0, none⟩ = some (.int .i64 k9) := r0x.cell 0
        have HNEW : Hid (MtI n0 g4 g5 B ⟨k9, n9, s9, ⟨xk, nk, ck⟩, ⟨some ⟨ba, oa, none⟩, nv, cv⟩⟩ k9 n8 s8 ⟨xq, nq, cq⟩ kq vs dep w (j + 1) X) := ⟨⟨xw, nw, cw⟩, rq, r0x, r5x, r4x, by rw [mtP_no k9 vs dep j (by have := HKC.out; omega)]; exact hLx, hBx, hszx, hKx, hKF⟩
        by_cases hd12 : dep < 12
        · have c12 : (dep : Int) < 12 := by omega
          clear r0x r5x r4x hLx hBx hKx hszx hE9 r9 hi
          go_wp2
          go_roundw
          case rel => first | exact ⟨j + 1, by omega, by go_num, HNEW.out⟩ | ((repeat apply Exists.intro); refine ⟨⟨j + 1, by omega, ?_, HNEW.out⟩, rfl⟩; go_num)
          case measure => simp [intOf]; omega
        · have c12 : ¬ (dep : Int) < 12 := by omega
          clear r0x r5x r4x hLx hBx hKx hszx hE9 r9 hi
          go_wp2
          go_roundw
          case rel => first | exact ⟨j + 1, by omega, by go_num, HNEW.out⟩ | ((repeat apply Exists.intro); refine ⟨⟨j + 1, by omega, ?_, HNEW.out⟩, rfl⟩; go_num)
          case measure => simp [intOf]; omega
      · obtain rfl : j = nv := by omega
        have i1 : ¬ (j : Int) < (j : Int) := by omega
        obtain ⟨p1, p2⟩ := id r5
        obtain ⟨p3, p4⟩ := id r4
        have p5 : (rowAt wr g5).size = 5 := by rw [p2]; rfl
        have p6 : (rowAt wr g4).size = 5 := by rw [p4]; rfl
        have hs := grown_setRow15 wr g4 (rnA ⟨k9, n8, s8, ⟨xq, nq, cq⟩, ⟨xw, nw, cw⟩⟩)
        have hwn : nw ≤ 17592186044416 := by
          have h1 := hL.len
          have h2 := mtP_len k9 vs dep j
          have h3 := HV.out
          have h4 : nw = rq.length := (OwnK.isK ndE_ok hL.own).num
          omega
        have HF : Hid (NdF (wr.setRow g4 (rnA ⟨k9, n8, s8, ⟨xq, nq, cq⟩, ⟨xw, nw, cw⟩⟩)) (n0 ≤ ·) ⟨k9, n8, s8, ⟨xq, nq, cq⟩, ⟨xw, nw, cw⟩⟩ (mdN (.mk k9 n9 s ks vs) dep) ∧ Below n0 w (wr.setRow g4 (rnA ⟨k9, n8, s8, ⟨xq, nq, cq⟩, ⟨xw, nw, cw⟩⟩))) := by
          refine ⟨?_, below_row14 hB (by omega) _⟩
          rw [HD.out]
          have hL8 := (LsO.ag hL hs.size (fun b hb _ hl => hs.block b hl (fun e => by cases e; omega))).le (show n0 ≤ B by omega)
          exact LsO.node k9 n8 s8 ⟨xq, nq, cq⟩ ⟨xw, nw, cw⟩ kq hL8 (hK.ag hKF fun b hb hl => hs.block b hl (fun e => by cases e; omega)) (hKF.mono fun b hb => hb.1) ⟨HQ.out, hwn⟩
        clear hs hL hB hK hKF hwn
        go_wp2
        refine nd_bodyPost1 4 g4 (rnA ⟨k9, n8, s8, ⟨xq, nq, cq⟩, ⟨xw, nw, cw⟩⟩) rfl rfl rfl (RowC.setRow r4 _) rfl ?_
        exact ⟨⟨k9, n8, s8, ⟨xq, nq, cq⟩, ⟨xw, nw, cw⟩⟩, rfl, by first | exact HF.out.1 | (rw [HN0.out]; exact HF.out.1), by first | exact HF.out.2 | (rw [HN0.out]; exact HF.out.2)⟩
  have n4 := hk
  clear hk
  by_cases hk : k9 = 5
  · have kd2 : (k9 == 2) = false := beq_eq_false_iff_ne.2 (by omega)
    have kd3 : (k9 == 3) = false := beq_eq_false_iff_ne.2 (by omega)
    have kd4 : (k9 == 4) = false := beq_eq_false_iff_ne.2 (by omega)
    have kd5 : (k9 == 5) = true := beq_iff_eq.2 hk
    have kd6 : (k9 == 6) = false := beq_eq_false_iff_ne.2 (by omega)
    have HKC : Hid (k9 = 5) := hk
    clear hk
    have HD0 : Hid (mdN (.mk k9 n9 s ks vs) dep = .mk k9 (0) (lS ⟨#[]⟩) (([] : List ByteArray).map lS) (mtP k9 vs dep nv)) := by
      show _ = _
      rw [HM.out, mtP_all k9 vs dep nv (by have := HV.out; omega)]
      rw [HKC.out]
      by_cases h9 : dep < 12
      · rw [if_pos h9, if_pos ⟨h9, .inl rfl⟩]; rfl
      · rw [if_neg h9, if_neg (by omega)]; rfl
    have H00 : Hid (MtI n0 g4 g5 (g5 + 1) ⟨k9, n9, s9, ⟨xk, nk, ck⟩, ⟨xv, nv, cv⟩⟩ k9 (0) ⟨#[]⟩ slZ ([]) vs dep w 0 (Z)) := ⟨slZ, [], HR1.out, HR3.out, HR2.out, by rw [mtP_zero]; exact LsO.nil _ _ _, HBZ.out, by have := HZS.out; simp; omega, .inl ⟨rfl, rfl⟩, fun h => absurd h (by decide)⟩
    have HQ0 : Hid (((slZ : Sl).n) ≤ 17592186044416) := by show _ ≤ _; decide
    have HGB : Hid (g5 < g5 + 1) := Nat.lt_succ_self _
    have q4 : (Z).cell? ⟨n0, 4, none⟩ = some (.slice xv nv cv) := H00.out.elim fun v h => h.elim fun r h => h.1.cell 4
    have H01 : ∃ n8 s8 xq nq cq kq B, Hid (mdN (.mk k9 n9 s ks vs) dep = .mk k9 n8 (lS s8) (kq.map lS) (mtP k9 vs dep nv)) ∧ Hid (MtI n0 g4 g5 B ⟨k9, n9, s9, ⟨xk, nk, ck⟩, ⟨xv, nv, cv⟩⟩ k9 n8 s8 ⟨xq, nq, cq⟩ kq vs dep w 0 (Z)) ∧ Hid (nq ≤ 17592186044416) ∧ Hid (g5 < B) := ⟨_, _, _, _, _, _, _, HD0, H00, HQ0, HGB⟩
    clear HD0 H00 HQ0 HGB
    obtain ⟨n8, s8, xq, nq, cq, kq, B, HD, H0, HQ, hGB⟩ := H01
    have hGB := hGB.out
    go_wp2_with fail
    go_loopw [40] (fun iv wr => ∃ j : Nat, j ≤ nv ∧ iv = .int .i64 j ∧ MtI n0 g4 g5 B ⟨k9, n9, s9, ⟨xk, nk, ck⟩, ⟨xv, nv, cv⟩⟩ k9 n8 s8 ⟨xq, nq, cq⟩ kq vs dep w j wr) (fun iv _ => nv - (intOf iv).toNat)
    case atStart => exact ⟨0, by omega, rfl, H0.out⟩
    case round =>
      clear H0
      obtain ⟨j, hj, rfl, ⟨xw, nw, cw⟩, rq, r0, r5, r4, hL, hB, hsz, hK, hKF⟩ := hrel
      by_cases hlt : j < nv
      · have i1 : (j : Int) < (nv : Int) := by omega
        have i0 : (0 : Int) ≤ (j : Int) := by omega
        obtain ⟨va, vc⟩ := HV.out
        obtain ⟨ra, hra⟩ : ∃ q, rs[j]? = some q := ⟨_, List.getElem?_eq_getElem (by omega)⟩
        obtain ⟨dd, hdd⟩ : ∃ q, vs[j]? = some q := ⟨_, List.getElem?_eq_getElem (by omega)⟩
        have hBw : Below w.heap.size w wr := by rw [HN0.out]; exact hB
        obtain ⟨ba, oa, rfl, -, ca⟩ := IsK.at HAV.out j ra hra
        have la := run_load_ln_el (range_later ca hBw)
        have b9 := below_alloc wr (.cells (rnA ra) 25)
        have r9 := RowC.new wr (rnA ra) 25
        have hE9 := ((HAE.out j ra dd hra hdd).kept hBw).kept b9
        have hwr : IntKind.i64.wrap ((j : Int) + 1) = (j : Int) + 1 := by rw [IntKind.wrap_i64]; omega
        have l5 : lnE.k = 5 := rfl
        rw [l5] at la
        have hi := ih dd (List.mem_of_getElem? hdd)
        have HS1 : Hid (dep < 12 ∧ (k9 = 5 ∨ k9 = 6) → mtP k9 vs dep (j + 1) = mtP k9 vs dep j ++ [mdN dd (dep + 1)]) := fun h => mtP_succ k9 vs dep j dd hdd h
        have hrl : rq.length ≤ 1759218604390 := by
          have h1 := hL.len
          have h2 := mtP_len k9 vs dep j
          omega
        have r0x := r0.kept b9
        have r5x := r5.kept b9
        have r4x := r4.kept b9
        have hLx := hL.later b9
        have hBx : Below n0 w (wr.alloc (.cells (rnA ra) 25)) := hB.trans (b9.mono (by have := hB.size; have := HN0.out; omega))
        have hKx := IsG.kept hK b9
        have hszx : B ≤ (wr.alloc (.cells (rnA ra) 25)).heap.size := Nat.le_trans hsz b9.size
        clear ca hra hdd va vc b9 hL hB hK r0 r4 r5 hBw
        go_upto_region 15 with fail
        obtain ⟨g7, hg7⟩ : ∃ q, wr.heap.size = q := ⟨_, rfl⟩
        rw [hg7] at r9 hsz ⊢
        generalize wr.alloc (.cells (rnA ra) 25) = X at r9 r0x r5x r4x hLx hBx hKx hszx hE9 ⊢
        clear la hg7
        have c0 : X.cell? ⟨n0, 0, none⟩ = some (.int .i64 k9) := r0x.cell 0
        by_cases hd12 : dep < 12
        · have c12 : (dep : Int) < 12 := by omega
          have hwd : IntKind.i64.wrap ((dep : Int) + 1) = (dep : Int) + 1 := by rw [IntKind.wrap_i64]; omega
          have HS2 := HS1.out ⟨hd12, .inl HKC.out⟩
          have hdp : (((dep + 1 : Nat) : Nat) : Int) = (dep : Int) + 1 := by omega
          have HC : Hid (∀ x, LnF x ra dd → Calls Tryz.prog 15 #[.agg (rnA ra), .int .i64 ((dep : Int) + 1)] x fun e w' => ∃ r', e = .returned (.agg (rnA r')) ∧ NdF w' (x.heap.size ≤ ·) r' (mdN dd (dep + 1)) ∧ Below x.heap.size x w') := fun x hx => by
            have h9 := hi (dep + 1) x ra (by omega) hx
            rw [hdp] at h9
            exact h9
          have q4 : X.cell? ⟨g5, 4, none⟩ = some (.slice xw nw cw) := r5x.cell 4
          have HI0 : Hid (IT g7 ra ra dd B ⟨xw, nw, cw⟩ rq (mtP k9 vs dep j) (mdN dd (dep + 1)) [] X) := ⟨hLx, hszx, r9, hE9⟩
          have HX : Hid (RowC X n0 (rnA ⟨k9, n9, s9, ⟨xk, nk, ck⟩, ⟨some ⟨ba, oa, none⟩, nv, cv⟩⟩) ∧ RowC X g5 (rnA ⟨k9, n8, s8, ⟨xq, nq, cq⟩, ⟨xw, nw, cw⟩⟩) ∧ RowC X g4 (rnA rnZ) ∧ Below n0 w X ∧ IsG X (.slice xq nq cq) (strs kq)) := ⟨r0x, r5x, r4x, hBx, hKx⟩
          have HKX : Hid (∀ x, Kj B B X x → x.cell? ⟨g5, 4, none⟩ = some (.slice xw nw cw)) := fun x h => h.cell q4 (by omega) (by omega)
          clear r0x r5x r4x hLx hBx hKx hszx hE9 r9 hi hdp q4
          go_upto_region 16 with fail
          refine wp_reliesI (kokJ (g := B) (B := B)) (IT g7 ra ra dd B ⟨xw, nw, cw⟩ rq (mtP k9 vs dep j) (mdN dd (dep + 1))) [5, 6, 7] [none, none, some (0, [], []), none, none, some (0, [], []), some (1, [], []), some (2, [], []), none] [Fx (.pointer (some ⟨g5, 4, none⟩)), Fx (.slice xw nw cw), Fx (.agg (rnA ra)), Fx (.int .i64 (dep : Int)), Fx (.int .i64 ((dep : Int) + 1)), (fun _ _ => True), (fun _ _ => True), (fun _ _ => True), Fx (.pointer (some ⟨g5, 4, none⟩))] rfl (by decide) rfl (by kernel_rfl) (by kernel_rfl) (by kernel_rfl) (by exact HI0.out) IT_later ?_ ?_ ?_ ?_
          · repeat' (first | exact all_nil | apply all_cons)
            all_goals intro v y y' hv hb
            all_goals first | exact Fx_mono _ _ _ _ hv hb | exact trivial
          · intro i9 f9 hf9 hl9 v y y' hv hb
            rcases i9 with _ | i9
            · first | (cases hl9; done) | (cases hf9; first | exact hv | exact trivial)
            rcases i9 with _ | i9
            · first | (cases hl9; done) | (cases hf9; first | exact hv | exact trivial)
            rcases i9 with _ | i9
            · first | (cases hl9; done) | (cases hf9; first | exact hv | exact trivial)
            rcases i9 with _ | i9
            · first | (cases hl9; done) | (cases hf9; first | exact hv | exact trivial)
            rcases i9 with _ | i9
            · first | (cases hl9; done) | (cases hf9; first | exact hv | exact trivial)
            rcases i9 with _ | i9
            · first | (cases hl9; done) | (cases hf9; first | exact hv | exact trivial)
            rcases i9 with _ | i9
            · first | (cases hl9; done) | (cases hf9; first | exact hv | exact trivial)
            rcases i9 with _ | i9
            · first | (cases hl9; done) | (cases hf9; first | exact hv | exact trivial)
            rcases i9 with _ | i9
            · first | (cases hl9; done) | (cases hf9; first | exact hv | exact trivial)
            · simp at hf9
          · refine ⟨?_, ?_, ?_, ?_, ?_, ?_, ?_, ?_, ?_, trivial⟩
            all_goals
              intro ρ x hk hat ρc ρg ρf ho hd
              have o5 : ρ (.tmp 5) = .pointer (some ⟨g5, 0, none⟩) := ho 5 rfl
              have o7 : ρ (.tmp 7) = .pointer (some ⟨g7, 0, none⟩) := ho 7 rfl
              have o1 : ρ (.tmp 1) = .int .i64 (dep : Int) := ho 1 rfl
              clear ho
              simp only [depsR, depR, slotR, Fx, List.getElem?_cons_succ, List.getElem?_cons_zero, Region.binds, forall_const] at hd
              simp only [guardR, List.contains_cons, List.contains_nil, List.elem_cons, List.elem_nil, Nat.reduceBEq, Bool.or_false, Bool.false_or, Bool.or_true, Bool.true_or, cond_true, cond_false]
              go_split_ands
            · go_simp
            · have kb9 := HKX.out x (by assumption)
              go_simp
            · have hat0 : IT g7 ra ra dd B ⟨xw, nw, cw⟩ rq (mtP k9 vs dep j) (mdN dd (dep + 1)) [] x := hat
              obtain ⟨p1, p2⟩ := id hat0.2.2.1
              have p3 : (rowAt x g7).size = 5 := by rw [p2]; rfl
              go_simp
            · go_simp
            · go_simp
            · go_simp
              have hat0 : IT g7 ra ra dd B ⟨xw, nw, cw⟩ rq (mtP k9 vs dep j) (mdN dd (dep + 1)) [] x := hat
              refine (HC.out x hat0.2.2.2).mono ?_
              rintro e x' ⟨r9, rfl, hN9, hb9⟩
              exact ⟨_, rfl, ⟨trivial, IT.call hat0 hN9 hb9⟩, Kj.below hb9⟩
            · have hat1 : IT g7 ra ra dd B ⟨xw, nw, cw⟩ rq (mtP k9 vs dep j) (mdN dd (dep + 1)) [ρ (.tmp 61)] x := hat
              obtain ⟨r9, e9, h9⟩ := hat1
              go_simp
              exact ⟨⟨trivial, IT.build _ h9⟩, Kj.below (below_alloc _ _)⟩
            · have hat2 : IT g7 ra ra dd B ⟨xw, nw, cw⟩ rq (mtP k9 vs dep j) (mdN dd (dep + 1)) [ρ (.tmp 61), ρ (.tmp 62)] x := hat
              have hd1 : ρ (.tmp 57) = .slice xw nw cw := by first | assumption | exact hd.1
              obtain ⟨d9, x9, hr9, i9, k9⟩ := hat2.app B 39 hrl
              have hr8 : (Builtin.append_ #[39, 39] 39 #[.slice xw nw cw, ρ (.tmp 62)]).run Tryz.prog x = .ok d9 x9 := hr9
              rw [BigFrame.execOp_builtin, BigFrame.builtin_append]
              simp only [List.map_toArray, List.map_cons, List.map_nil, hd1, hr8, Sem.run_bind, Result.andThen_ok, Sem.run_pure, okUponD_some]
              exact ⟨⟨trivial, i9⟩, k9⟩
            · go_simp
          · intro us x1 hk hw hI
            simp only [owed, Fx] at hw
            obtain ⟨e0, e1, e2, e3, e4, e5, e6, e7, e8, -⟩ := hw
            simp only [List.length_cons, List.length_nil, List.take_succ_cons, List.take_zero, List.drop_succ_cons, List.drop_zero, asg, List.cons_append, List.nil_append, e0, e1, e2, e3, e4, e8]
            clear e0 e1 e2 e3 e4 e8 e5 e6 e7
            obtain ⟨r9, ⟨xa, na, ca⟩, ea, hsa, hLa⟩ : ∃ (r : Rn) (a : Sl), us 7 = a.v ∧ B ≤ x1.heap.size ∧ LsO x1 B (fun _ => False) a (rq ++ [r]) (mtP k9 vs dep j ++ [mdN dd (dep + 1)]) := hI
            obtain ⟨X0, X5, X4, XB, XK⟩ := HX.out
            have y0 := hk.row X0 (by omega) (by omega)
            have y4 := hk.row X4 (by omega) (by omega)
            have y5 := hk.row X5 (by omega) (by omega)
            have hs7 := grown_set1 x1 g5 4 (.slice xa na ca)
            have HNEW : Hid (MtI n0 g4 g5 B ⟨k9, n9, s9, ⟨xk, nk, ck⟩, ⟨some ⟨ba, oa, none⟩, nv, cv⟩⟩ k9 n8 s8 ⟨xq, nq, cq⟩ kq vs dep w (j + 1) (x1.setCell ⟨g5, 4, none⟩ (.slice xa na ca))) := by
              refine ⟨⟨xa, na, ca⟩, rq ++ [r9], y0.set_ne 4 _ (by omega), y5.set 4 _, y4.set_ne 4 _ (by omega), ?_, ?_, Nat.le_trans hsa hs7.size, ?_, hKF⟩
              · rw [HS2]
                exact hLa.ag hs7.size (fun b hb _ hl => hs7.block b hl (fun e => by cases e; omega))
              · have h0 := XB.size
                have h1 : Below n0 w x1 := XB.trans { os := hk.os, tape := hk.tape, output := hk.output, size := hk.size, block := fun b h => hk.block b (by omega) (by omega) (by omega) }
                exact h1.setCell (p := ⟨g5, 4, none⟩) (show n0 ≤ g5 by omega) _
              · exact IsG.ag (a := ⟨xq, nq, cq⟩) XK hKF (fun b hb hl => (hs7.block b (by have := hk.size; omega) (fun e => by cases e; omega)).trans (hk.block b hl (by omega) (by omega)))
            have hcf := y5.cell 4
            have hzf := y5.frozen 4
            have ea2 : us 7 = .slice xa na ca := ea
            clear ea hLa X0 X5 X4 XB XK y0 y4 y5 hs7 hk hKF HS2
            simp only [ea2]
            go_wp2
            go_roundw
            case rel => first | exact ⟨j + 1, by omega, by go_num, HNEW.out⟩ | ((repeat apply Exists.intro); refine ⟨⟨j + 1, by omega, ?_, HNEW.out⟩, rfl⟩; go_num)
            case measure => simp [intOf]; omega
        · have c12 : ¬ (dep : Int) < 12 := by omega
          have HNEW : Hid (MtI n0 g4 g5 B ⟨k9, n9, s9, ⟨xk, nk, ck⟩, ⟨some ⟨ba, oa, none⟩, nv, cv⟩⟩ k9 n8 s8 ⟨xq, nq, cq⟩ kq vs dep w (j + 1) X) := ⟨⟨xw, nw, cw⟩, rq, r0x, r5x, r4x, by rw [mtP_no k9 vs dep j (by omega)]; exact hLx, hBx, hszx, hKx, hKF⟩
          clear r0x r5x r4x hLx hBx hKx hszx hE9 r9 hi
          go_wp2
          go_roundw
          case rel => first | exact ⟨j + 1, by omega, by go_num, HNEW.out⟩ | ((repeat apply Exists.intro); refine ⟨⟨j + 1, by omega, ?_, HNEW.out⟩, rfl⟩; go_num)
          case measure => simp [intOf]; omega
      · obtain rfl : j = nv := by omega
        have i1 : ¬ (j : Int) < (j : Int) := by omega
        obtain ⟨p1, p2⟩ := id r5
        obtain ⟨p3, p4⟩ := id r4
        have p5 : (rowAt wr g5).size = 5 := by rw [p2]; rfl
        have p6 : (rowAt wr g4).size = 5 := by rw [p4]; rfl
        have hs := grown_setRow15 wr g4 (rnA ⟨k9, n8, s8, ⟨xq, nq, cq⟩, ⟨xw, nw, cw⟩⟩)
        have hwn : nw ≤ 17592186044416 := by
          have h1 := hL.len
          have h2 := mtP_len k9 vs dep j
          have h3 := HV.out
          have h4 : nw = rq.length := (OwnK.isK ndE_ok hL.own).num
          omega
        have HF : Hid (NdF (wr.setRow g4 (rnA ⟨k9, n8, s8, ⟨xq, nq, cq⟩, ⟨xw, nw, cw⟩⟩)) (n0 ≤ ·) ⟨k9, n8, s8, ⟨xq, nq, cq⟩, ⟨xw, nw, cw⟩⟩ (mdN (.mk k9 n9 s ks vs) dep) ∧ Below n0 w (wr.setRow g4 (rnA ⟨k9, n8, s8, ⟨xq, nq, cq⟩, ⟨xw, nw, cw⟩⟩))) := by
          refine ⟨?_, below_row14 hB (by omega) _⟩
          rw [HD.out]
          have hL8 := (LsO.ag hL hs.size (fun b hb _ hl => hs.block b hl (fun e => by cases e; omega))).le (show n0 ≤ B by omega)
          exact LsO.node k9 n8 s8 ⟨xq, nq, cq⟩ ⟨xw, nw, cw⟩ kq hL8 (hK.ag hKF fun b hb hl => hs.block b hl (fun e => by cases e; omega)) (hKF.mono fun b hb => hb.1) ⟨HQ.out, hwn⟩
        clear hs hL hB hK hKF hwn
        go_wp2
        refine nd_bodyPost1 4 g4 (rnA ⟨k9, n8, s8, ⟨xq, nq, cq⟩, ⟨xw, nw, cw⟩⟩) rfl rfl rfl (RowC.setRow r4 _) rfl ?_
        exact ⟨⟨k9, n8, s8, ⟨xq, nq, cq⟩, ⟨xw, nw, cw⟩⟩, rfl, by first | exact HF.out.1 | (rw [HN0.out]; exact HF.out.1), by first | exact HF.out.2 | (rw [HN0.out]; exact HF.out.2)⟩
  have n5 := hk
  clear hk
  by_cases hk : k9 = 6
  · have kd2 : (k9 == 2) = false := beq_eq_false_iff_ne.2 (by omega)
    have kd3 : (k9 == 3) = false := beq_eq_false_iff_ne.2 (by omega)
    have kd4 : (k9 == 4) = false := beq_eq_false_iff_ne.2 (by omega)
    have kd5 : (k9 == 5) = false := beq_eq_false_iff_ne.2 (by omega)
    have kd6 : (k9 == 6) = true := beq_iff_eq.2 hk
    have HKC : Hid (k9 = 6) := hk
    clear hk
    obtain ⟨⟨xq, nq, cq⟩, x6, hr6, hO6, hb6⟩ := copyN Z xk nk ck kb 22 (IsG.kept HAK.out (by rw [HN0.out]; exact HBZ.out)) (by have := HKS.out; omega)
    have hnq : nq = kb.length := by
      have h9 := IsG.num (a := ⟨xq, nq, cq⟩) hO6.isG
      simp only at h9
      rw [h9]; simp [strs]
    have hs7 := grown_set1 x6 g5 3 (.slice xq nq cq)
    have hz := HZS.out
    have r56 := HR3.out.kept hb6
    have HD0 : Hid (mdN (.mk k9 n9 s ks vs) dep = .mk k9 0 (lS ⟨#[]⟩) (kb.map lS) (mtP k9 vs dep nv)) := by
      show _ = _
      rw [HM.out, mtP_all k9 vs dep nv (by have := HV.out; omega), HKC.out, HKS.out.1]
      by_cases h9 : dep < 12
      · rw [if_pos h9, if_pos ⟨h9, .inr rfl⟩]; rfl
      · rw [if_neg h9, if_neg (by omega)]; rfl
    have hki : ∀ b, (Value.slice xq nq cq).ownBlock = some b → g5 + 1 ≤ b ∧ b < x6.heap.size := fun b hb => by have := OwnG.lt hO6 b hb; omega
    have hin : Sl.In ⟨xq, nq, cq⟩ (fun b => n0 ≤ b ∧ b < x6.heap.size ∧ b ≠ g4 ∧ b ≠ g5) := fun h0 p hp => by
      have h9 : ∃ g, xq = some ⟨g, 0, none⟩ ∧ (Value.slice xq nq cq).ownBlock = some g := by
        obtain ⟨g, c9, e9, -⟩ := hO6.form (by intro e; have e2 : kb.length = 0 := (by have := congrArg List.length e; simpa [strs] using this); have h1 : 0 < nq := h0; omega)
        have e8 : xq = some ⟨g, 0, none⟩ := by
          have := e9
          injection this
        subst e8
        exact ⟨g, rfl, rfl⟩
      obtain ⟨g, rfl, hg⟩ := h9
      have := hki g hg
      cases hp
      show n0 ≤ g ∧ g < x6.heap.size ∧ g ≠ g4 ∧ g ≠ g5
      omega
    have hK6 : IsG (x6.setCell ⟨g5, 3, none⟩ (.slice xq nq cq)) (.slice xq nq cq) (strs kb) := (hO6.isG).ag (a := ⟨xq, nq, cq⟩) hin fun b hb hl => hs7.block b hl (fun e => by cases e; omega)
    have H00 : Hid (MtI n0 g4 g5 x6.heap.size ⟨k9, n9, s9, ⟨xk, nk, ck⟩, ⟨xv, nv, cv⟩⟩ k9 0 ⟨#[]⟩ ⟨xq, nq, cq⟩ kb vs dep w 0 (x6.setCell ⟨g5, 3, none⟩ (.slice xq nq cq))) := ⟨slZ, [], (HR1.out.kept hb6).set_ne 3 _ (by omega), r56.set 3 _, (HR2.out.kept hb6).set_ne 3 _ (by omega), by rw [mtP_zero]; exact LsO.nil _ _ _, (HBZ.out.trans (hb6.mono (by omega))).setCell (p := ⟨g5, 3, none⟩) (show n0 ≤ g5 by omega) _, hs7.size, hK6, hin⟩
    have HQ0 : Hid (nq ≤ 17592186044416) := by
      show nq ≤ _
      have h8 := HKS.out
      have h9 : nk = kb.length := by
        have h9 := IsG.num (a := ⟨xk, nk, ck⟩) HAK.out
        simp only at h9
        rw [h9]; simp [strs]
      omega
    have HGB : Hid (g5 < x6.heap.size) := by
      show g5 < x6.heap.size
      have := hb6.size
      omega
    have q3 : Z.cell? ⟨g5, 3, none⟩ = some (.slice none 0 0) := HR3.out.cell 3
    have q2 : Z.cell? ⟨n0, 3, none⟩ = some (.slice xk nk ck) := HR1.out.cell 3
    have hcf := r56.cell 3
    have hzf := r56.frozen 3
    have hr7 : (Builtin.append_ #[22, 22] 22 #[.slice none 0 0, .slice xk nk ck]).run Tryz.prog Z = .ok (.slice xq nq cq) x6 := hr6
    clear hr6 hO6 hki hin hK6 hs7 hb6 r56 hnq
    have q4 : (x6.setCell ⟨g5, 3, none⟩ (.slice xq nq cq)).cell? ⟨n0, 4, none⟩ = some (.slice xv nv cv) := H00.out.elim fun v h => h.elim fun r h => h.1.cell 4
    go_upto_region 12 with (at_builtin; refine wpL_appG 22 rfl _ _ rfl _ x6 (by exact hr7) ?_)
    generalize x6.setCell ⟨g5, 3, none⟩ (.slice xq nq cq) = Z6 at H00 q4 ⊢
    generalize x6.heap.size = B at H00 HGB
    clear hr7 hcf hzf q3 q2
    have HD := HD0
    have H0 := H00
    have HQ := HQ0
    have hGB := HGB.out
    clear HD0 H00 HQ0 HGB
    obtain ⟨kq, hkq⟩ : ∃ q, kb = q := ⟨_, rfl⟩
    obtain ⟨n8, hn8⟩ : ∃ q : Int, 0 = q := ⟨_, rfl⟩
    obtain ⟨s8, hs8⟩ : ∃ q : ByteArray, ⟨#[]⟩ = q := ⟨_, rfl⟩
    rw [hkq, hn8, hs8] at H0 HD
    go_wp2_with fail
    go_loopw [40] (fun iv wr => ∃ j : Nat, j ≤ nv ∧ iv = .int .i64 j ∧ MtI n0 g4 g5 B ⟨k9, n9, s9, ⟨xk, nk, ck⟩, ⟨xv, nv, cv⟩⟩ k9 n8 s8 ⟨xq, nq, cq⟩ kq vs dep w j wr) (fun iv _ => nv - (intOf iv).toNat)
    case atStart => exact ⟨0, by omega, rfl, H0.out⟩
    case round =>
      clear H0
      obtain ⟨j, hj, rfl, ⟨xw, nw, cw⟩, rq, r0, r5, r4, hL, hB, hsz, hK, hKF⟩ := hrel
      by_cases hlt : j < nv
      · have i1 : (j : Int) < (nv : Int) := by omega
        have i0 : (0 : Int) ≤ (j : Int) := by omega
        obtain ⟨va, vc⟩ := HV.out
        obtain ⟨ra, hra⟩ : ∃ q, rs[j]? = some q := ⟨_, List.getElem?_eq_getElem (by omega)⟩
        obtain ⟨dd, hdd⟩ : ∃ q, vs[j]? = some q := ⟨_, List.getElem?_eq_getElem (by omega)⟩
        have hBw : Below w.heap.size w wr := by rw [HN0.out]; exact hB
        obtain ⟨ba, oa, rfl, -, ca⟩ := IsK.at HAV.out j ra hra
        have la := run_load_ln_el (range_later ca hBw)
        have b9 := below_alloc wr (.cells (rnA ra) 25)
        have r9 := RowC.new wr (rnA ra) 25
        have hE9 := ((HAE.out j ra dd hra hdd).kept hBw).kept b9
        have hwr : IntKind.i64.wrap ((j : Int) + 1) = (j : Int) + 1 := by rw [IntKind.wrap_i64]; omega
        have l5 : lnE.k = 5 := rfl
        rw [l5] at la
        have hi := ih dd (List.mem_of_getElem? hdd)
        have HS1 : Hid (dep < 12 ∧ (k9 = 5 ∨ k9 = 6) → mtP k9 vs dep (j + 1) = mtP k9 vs dep j ++ [mdN dd (dep + 1)]) := fun h => mtP_succ k9 vs dep j dd hdd h
        have hrl : rq.length ≤ 1759218604390 := by
          have h1 := hL.len
          have h2 := mtP_len k9 vs dep j
          omega
        have r0x := r0.kept b9
        have r5x := r5.kept b9
        have r4x := r4.kept b9
        have hLx := hL.later b9
        have hBx : Below n0 w (wr.alloc (.cells (rnA ra) 25)) := hB.trans (b9.mono (by have := hB.size; have := HN0.out; omega))
        have hKx := IsG.kept hK b9
        have hszx : B ≤ (wr.alloc (.cells (rnA ra) 25)).heap.size := Nat.le_trans hsz b9.size
        clear ca hra hdd va vc b9 hL hB hK r0 r4 r5 hBw
        go_upto_region 15 with fail
        obtain ⟨g7, hg7⟩ : ∃ q, wr.heap.size = q := ⟨_, rfl⟩
        rw [hg7] at r9 hsz ⊢
        generalize wr.alloc (.cells (rnA ra) 25) = X at r9 r0x r5x r4x hLx hBx hKx hszx hE9 ⊢
        clear la hg7
        have c0 : X.cell? ⟨n0, 0, none⟩ = some (.int .i64 k9) := r0x.cell 0
        by_cases hd12 : dep < 12
        · have c12 : (dep : Int) < 12 := by omega
          have hwd : IntKind.i64.wrap ((dep : Int) + 1) = (dep : Int) + 1 := by rw [IntKind.wrap_i64]; omega
          have HS2 := HS1.out ⟨hd12, .inr HKC.out⟩
          have hdp : (((dep + 1 : Nat) : Nat) : Int) = (dep : Int) + 1 := by omega
          have HC : Hid (∀ x, LnF x ra dd → Calls Tryz.prog 15 #[.agg (rnA ra), .int .i64 ((dep : Int) + 1)] x fun e w' => ∃ r', e = .returned (.agg (rnA r')) ∧ NdF w' (x.heap.size ≤ ·) r' (mdN dd (dep + 1)) ∧ Below x.heap.size x w') := fun x hx => by
            have h9 := hi (dep + 1) x ra (by omega) hx
            rw [hdp] at h9
            exact h9
          have q4 : X.cell? ⟨g5, 4, none⟩ = some (.slice xw nw cw) := r5x.cell 4
          have HI0 : Hid (IT g7 ra ra dd B ⟨xw, nw, cw⟩ rq (mtP k9 vs dep j) (mdN dd (dep + 1)) [] X) := ⟨hLx, hszx, r9, hE9⟩
          have HX : Hid (RowC X n0 (rnA ⟨k9, n9, s9, ⟨xk, nk, ck⟩, ⟨some ⟨ba, oa, none⟩, nv, cv⟩⟩) ∧ RowC X g5 (rnA ⟨k9, n8, s8, ⟨xq, nq, cq⟩, ⟨xw, nw, cw⟩⟩) ∧ RowC X g4 (rnA rnZ) ∧ Below n0 w X ∧ IsG X (.slice xq nq cq) (strs kq)) := ⟨r0x, r5x, r4x, hBx, hKx⟩
          have HKX : Hid (∀ x, Kj B B X x → x.cell? ⟨g5, 4, none⟩ = some (.slice xw nw cw)) := fun x h => h.cell q4 (by omega) (by omega)
          clear r0x r5x r4x hLx hBx hKx hszx hE9 r9 hi hdp q4
          go_upto_region 16 with fail
          refine wp_reliesI (kokJ (g := B) (B := B)) (IT g7 ra ra dd B ⟨xw, nw, cw⟩ rq (mtP k9 vs dep j) (mdN dd (dep + 1))) [5, 6, 7] [none, none, some (0, [], []), none, none, some (0, [], []), some (1, [], []), some (2, [], []), none] [Fx (.pointer (some ⟨g5, 4, none⟩)), Fx (.slice xw nw cw), Fx (.agg (rnA ra)), Fx (.int .i64 (dep : Int)), Fx (.int .i64 ((dep : Int) + 1)), (fun _ _ => True), (fun _ _ => True), (fun _ _ => True), Fx (.pointer (some ⟨g5, 4, none⟩))] rfl (by decide) rfl (by kernel_rfl) (by kernel_rfl) (by kernel_rfl) (by exact HI0.out) IT_later ?_ ?_ ?_ ?_
          · repeat' (first | exact all_nil | apply all_cons)
            all_goals intro v y y' hv hb
            all_goals first | exact Fx_mono _ _ _ _ hv hb | exact trivial
          · intro i9 f9 hf9 hl9 v y y' hv hb
            rcases i9 with _ | i9
            · first | (cases hl9; done) | (cases hf9; first | exact hv | exact trivial)
            rcases i9 with _ | i9
            · first | (cases hl9; done) | (cases hf9; first | exact hv | exact trivial)
            rcases i9 with _ | i9
            · first | (cases hl9; done) | (cases hf9; first | exact hv | exact trivial)
            rcases i9 with _ | i9
            · first | (cases hl9; done) | (cases hf9; first | exact hv | exact trivial)
            rcases i9 with _ | i9
            · first | (cases hl9; done) | (cases hf9; first | exact hv | exact trivial)
            rcases i9 with _ | i9
            · first | (cases hl9; done) | (cases hf9; first | exact hv | exact trivial)
            rcases i9 with _ | i9
            · first | (cases hl9; done) | (cases hf9; first | exact hv | exact trivial)
            rcases i9 with _ | i9
            · first | (cases hl9; done) | (cases hf9; first | exact hv | exact trivial)
            rcases i9 with _ | i9
            · first | (cases hl9; done) | (cases hf9; first | exact hv | exact trivial)
            · simp at hf9
          · refine ⟨?_, ?_, ?_, ?_, ?_, ?_, ?_, ?_, ?_, trivial⟩
            all_goals
              intro ρ x hk hat ρc ρg ρf ho hd
              have o5 : ρ (.tmp 5) = .pointer (some ⟨g5, 0, none⟩) := ho 5 rfl
              have o7 : ρ (.tmp 7) = .pointer (some ⟨g7, 0, none⟩) := ho 7 rfl
              have o1 : ρ (.tmp 1) = .int .i64 (dep : Int) := ho 1 rfl
              clear ho
              simp only [depsR, depR, slotR, Fx, List.getElem?_cons_succ, List.getElem?_cons_zero, Region.binds, forall_const] at hd
              simp only [guardR, List.contains_cons, List.contains_nil, List.elem_cons, List.elem_nil, Nat.reduceBEq, Bool.or_false, Bool.false_or, Bool.or_true, Bool.true_or, cond_true, cond_false]
              go_split_ands
            · go_simp
            · have kb9 := HKX.out x (by assumption)
              go_simp
            · have hat0 : IT g7 ra ra dd B ⟨xw, nw, cw⟩ rq (mtP k9 vs dep j) (mdN dd (dep + 1)) [] x := hat
              obtain ⟨p1, p2⟩ := id hat0.2.2.1
              have p3 : (rowAt x g7).size = 5 := by rw [p2]; rfl
              go_simp
            · go_simp
            · go_simp
            · go_simp
              have hat0 : IT g7 ra ra dd B ⟨xw, nw, cw⟩ rq (mtP k9 vs dep j) (mdN dd (dep + 1)) [] x := hat
              refine (HC.out x hat0.2.2.2).mono ?_
              rintro e x' ⟨r9, rfl, hN9, hb9⟩
              exact ⟨_, rfl, ⟨trivial, IT.call hat0 hN9 hb9⟩, Kj.below hb9⟩
            · have hat1 : IT g7 ra ra dd B ⟨xw, nw, cw⟩ rq (mtP k9 vs dep j) (mdN dd (dep + 1)) [ρ (.tmp 61)] x := hat
              obtain ⟨r9, e9, h9⟩ := hat1
              go_simp
              exact ⟨⟨trivial, IT.build _ h9⟩, Kj.below (below_alloc _ _)⟩
            · have hat2 : IT g7 ra ra dd B ⟨xw, nw, cw⟩ rq (mtP k9 vs dep j) (mdN dd (dep + 1)) [ρ (.tmp 61), ρ (.tmp 62)] x := hat
              have hd1 : ρ (.tmp 57) = .slice xw nw cw := by first | assumption | exact hd.1
              obtain ⟨d9, x9, hr9, i9, k9⟩ := hat2.app B 39 hrl
              have hr8 : (Builtin.append_ #[39, 39] 39 #[.slice xw nw cw, ρ (.tmp 62)]).run Tryz.prog x = .ok d9 x9 := hr9
              rw [BigFrame.execOp_builtin, BigFrame.builtin_append]
              simp only [List.map_toArray, List.map_cons, List.map_nil, hd1, hr8, Sem.run_bind, Result.andThen_ok, Sem.run_pure, okUponD_some]
              exact ⟨⟨trivial, i9⟩, k9⟩
            · go_simp
          · intro us x1 hk hw hI
            simp only [owed, Fx] at hw
            obtain ⟨e0, e1, e2, e3, e4, e5, e6, e7, e8, -⟩ := hw
            simp only [List.length_cons, List.length_nil, List.take_succ_cons, List.take_zero, List.drop_succ_cons, List.drop_zero, asg, List.cons_append, List.nil_append, e0, e1, e2, e3, e4, e8]
            clear e0 e1 e2 e3 e4 e8 e5 e6 e7
            obtain ⟨r9, ⟨xa, na, ca⟩, ea, hsa, hLa⟩ : ∃ (r : Rn) (a : Sl), us 7 = a.v ∧ B ≤ x1.heap.size ∧ LsO x1 B (fun _ => False) a (rq ++ [r]) (mtP k9 vs dep j ++ [mdN dd (dep + 1)]) := hI
            obtain ⟨X0, X5, X4, XB, XK⟩ := HX.out
            have y0 := hk.row X0 (by omega) (by omega)
            have y4 := hk.row X4 (by omega) (by omega)
            have y5 := hk.row X5 (by omega) (by omega)
            have hs7 := grown_set1 x1 g5 4 (.slice xa na ca)
            have HNEW : Hid (MtI n0 g4 g5 B ⟨k9, n9, s9, ⟨xk, nk, ck⟩, ⟨some ⟨ba, oa, none⟩, nv, cv⟩⟩ k9 n8 s8 ⟨xq, nq, cq⟩ kq vs dep w (j + 1) (x1.setCell ⟨g5, 4, none⟩ (.slice xa na ca))) := by
              refine ⟨⟨xa, na, ca⟩, rq ++ [r9], y0.set_ne 4 _ (by omega), y5.set 4 _, y4.set_ne 4 _ (by omega), ?_, ?_, Nat.le_trans hsa hs7.size, ?_, hKF⟩
              · rw [HS2]
                exact hLa.ag hs7.size (fun b hb _ hl => hs7.block b hl (fun e => by cases e; omega))
              · have h0 := XB.size
                have h1 : Below n0 w x1 := XB.trans { os := hk.os, tape := hk.tape, output := hk.output, size := hk.size, block := fun b h => hk.block b (by omega) (by omega) (by omega) }
                exact h1.setCell (p := ⟨g5, 4, none⟩) (show n0 ≤ g5 by omega) _
              · exact IsG.ag (a := ⟨xq, nq, cq⟩) XK hKF (fun b hb hl => (hs7.block b (by have := hk.size; omega) (fun e => by cases e; omega)).trans (hk.block b hl (by omega) (by omega)))
            have hcf := y5.cell 4
            have hzf := y5.frozen 4
            have ea2 : us 7 = .slice xa na ca := ea
            clear ea hLa X0 X5 X4 XB XK y0 y4 y5 hs7 hk hKF HS2
            simp only [ea2]
            go_wp2
            go_roundw
            case rel => first | exact ⟨j + 1, by omega, by go_num, HNEW.out⟩ | ((repeat apply Exists.intro); refine ⟨⟨j + 1, by omega, ?_, HNEW.out⟩, rfl⟩; go_num)
            case measure => simp [intOf]; omega
        · have c12 : ¬ (dep : Int) < 12 := by omega
          have HNEW : Hid (MtI n0 g4 g5 B ⟨k9, n9, s9, ⟨xk, nk, ck⟩, ⟨some ⟨ba, oa, none⟩, nv, cv⟩⟩ k9 n8 s8 ⟨xq, nq, cq⟩ kq vs dep w (j + 1) X) := ⟨⟨xw, nw, cw⟩, rq, r0x, r5x, r4x, by rw [mtP_no k9 vs dep j (by omega)]; exact hLx, hBx, hszx, hKx, hKF⟩
          clear r0x r5x r4x hLx hBx hKx hszx hE9 r9 hi
          go_wp2
          go_roundw
          case rel => first | exact ⟨j + 1, by omega, by go_num, HNEW.out⟩ | ((repeat apply Exists.intro); refine ⟨⟨j + 1, by omega, ?_, HNEW.out⟩, rfl⟩; go_num)
          case measure => simp [intOf]; omega
      · obtain rfl : j = nv := by omega
        have i1 : ¬ (j : Int) < (j : Int) := by omega
        obtain ⟨p1, p2⟩ := id r5
        obtain ⟨p3, p4⟩ := id r4
        have p5 : (rowAt wr g5).size = 5 := by rw [p2]; rfl
        have p6 : (rowAt wr g4).size = 5 := by rw [p4]; rfl
        have hs := grown_setRow15 wr g4 (rnA ⟨k9, n8, s8, ⟨xq, nq, cq⟩, ⟨xw, nw, cw⟩⟩)
        have hwn : nw ≤ 17592186044416 := by
          have h1 := hL.len
          have h2 := mtP_len k9 vs dep j
          have h3 := HV.out
          have h4 : nw = rq.length := (OwnK.isK ndE_ok hL.own).num
          omega
        have HF : Hid (NdF (wr.setRow g4 (rnA ⟨k9, n8, s8, ⟨xq, nq, cq⟩, ⟨xw, nw, cw⟩⟩)) (n0 ≤ ·) ⟨k9, n8, s8, ⟨xq, nq, cq⟩, ⟨xw, nw, cw⟩⟩ (mdN (.mk k9 n9 s ks vs) dep) ∧ Below n0 w (wr.setRow g4 (rnA ⟨k9, n8, s8, ⟨xq, nq, cq⟩, ⟨xw, nw, cw⟩⟩))) := by
          refine ⟨?_, below_row14 hB (by omega) _⟩
          rw [HD.out]
          have hL8 := (LsO.ag hL hs.size (fun b hb _ hl => hs.block b hl (fun e => by cases e; omega))).le (show n0 ≤ B by omega)
          exact LsO.node k9 n8 s8 ⟨xq, nq, cq⟩ ⟨xw, nw, cw⟩ kq hL8 (hK.ag hKF fun b hb hl => hs.block b hl (fun e => by cases e; omega)) (hKF.mono fun b hb => hb.1) ⟨HQ.out, hwn⟩
        clear hs hL hB hK hKF hwn
        go_wp2
        refine nd_bodyPost1 4 g4 (rnA ⟨k9, n8, s8, ⟨xq, nq, cq⟩, ⟨xw, nw, cw⟩⟩) rfl rfl rfl (RowC.setRow r4 _) rfl ?_
        exact ⟨⟨k9, n8, s8, ⟨xq, nq, cq⟩, ⟨xw, nw, cw⟩⟩, rfl, by first | exact HF.out.1 | (rw [HN0.out]; exact HF.out.1), by first | exact HF.out.2 | (rw [HN0.out]; exact HF.out.2)⟩
  have n6 := hk
  clear hk
  have hk := trivial
  have kd2 : (k9 == 2) = false := beq_eq_false_iff_ne.2 n2
  have kd3 : (k9 == 3) = false := beq_eq_false_iff_ne.2 n3
  have kd4 : (k9 == 4) = false := beq_eq_false_iff_ne.2 n4
  have kd5 : (k9 == 5) = false := beq_eq_false_iff_ne.2 n5
  have kd6 : (k9 == 6) = false := beq_eq_false_iff_ne.2 n6
  have HKC : Hid (¬ (k9 = 5 ∨ k9 = 6)) := by
    show ¬ _
    omega
  have HD0 : Hid (mdN (.mk k9 n9 s ks vs) dep = .mk k9 (0) (lS ⟨#[]⟩) (([] : List ByteArray).map lS) (mtP k9 vs dep nv)) := by
    show _ = _
    rw [HM.out, mtP_all k9 vs dep nv (by have := HV.out; omega)]
    rw [if_neg (show ¬ (dep < 12 ∧ (k9 = 5 ∨ k9 = 6)) by have := HKC.out; omega)]
    unfold mdK
    rw [if_neg n2, if_neg n3, if_neg n4, if_neg n5, if_neg n6]
    rfl
  have H00 : Hid (MtI n0 g4 g5 (g5 + 1) ⟨k9, n9, s9, ⟨xk, nk, ck⟩, ⟨xv, nv, cv⟩⟩ k9 (0) ⟨#[]⟩ slZ ([]) vs dep w 0 (Z)) := ⟨slZ, [], HR1.out, HR3.out, HR2.out, by rw [mtP_zero]; exact LsO.nil _ _ _, HBZ.out, by have := HZS.out; simp; omega, .inl ⟨rfl, rfl⟩, fun h => absurd h (by decide)⟩
  have HQ0 : Hid (((slZ : Sl).n) ≤ 17592186044416) := by show _ ≤ _; decide
  have HGB : Hid (g5 < g5 + 1) := Nat.lt_succ_self _
  have q4 : (Z).cell? ⟨n0, 4, none⟩ = some (.slice xv nv cv) := H00.out.elim fun v h => h.elim fun r h => h.1.cell 4
  have H01 : ∃ n8 s8 xq nq cq kq B, Hid (mdN (.mk k9 n9 s ks vs) dep = .mk k9 n8 (lS s8) (kq.map lS) (mtP k9 vs dep nv)) ∧ Hid (MtI n0 g4 g5 B ⟨k9, n9, s9, ⟨xk, nk, ck⟩, ⟨xv, nv, cv⟩⟩ k9 n8 s8 ⟨xq, nq, cq⟩ kq vs dep w 0 (Z)) ∧ Hid (nq ≤ 17592186044416) ∧ Hid (g5 < B) := ⟨_, _, _, _, _, _, _, HD0, H00, HQ0, HGB⟩
  clear HD0 H00 HQ0 HGB
  obtain ⟨n8, s8, xq, nq, cq, kq, B, HD, H0, HQ, hGB⟩ := H01
  have hGB := hGB.out
  clear n2 n3 n4
  go_wp2_with fail
  go_loopw [40] (fun iv wr => ∃ j : Nat, j ≤ nv ∧ iv = .int .i64 j ∧ MtI n0 g4 g5 B ⟨k9, n9, s9, ⟨xk, nk, ck⟩, ⟨xv, nv, cv⟩⟩ k9 n8 s8 ⟨xq, nq, cq⟩ kq vs dep w j wr) (fun iv _ => nv - (intOf iv).toNat)
  case atStart => exact ⟨0, by omega, rfl, H0.out⟩
  case round =>
    clear H0
    obtain ⟨j, hj, rfl, ⟨xw, nw, cw⟩, rq, r0, r5, r4, hL, hB, hsz, hK, hKF⟩ := hrel
    by_cases hlt : j < nv
    · have i1 : (j : Int) < (nv : Int) := by omega
      have i0 : (0 : Int) ≤ (j : Int) := by omega
      obtain ⟨va, vc⟩ := HV.out
      obtain ⟨ra, hra⟩ : ∃ q, rs[j]? = some q := ⟨_, List.getElem?_eq_getElem (by omega)⟩
      obtain ⟨dd, hdd⟩ : ∃ q, vs[j]? = some q := ⟨_, List.getElem?_eq_getElem (by omega)⟩
      have hBw : Below w.heap.size w wr := by rw [HN0.out]; exact hB
      obtain ⟨ba, oa, rfl, -, ca⟩ := IsK.at HAV.out j ra hra
      have la := run_load_ln_el (range_later ca hBw)
      have b9 := below_alloc wr (.cells (rnA ra) 25)
      have r9 := RowC.new wr (rnA ra) 25
      have hE9 := ((HAE.out j ra dd hra hdd).kept hBw).kept b9
      have hwr : IntKind.i64.wrap ((j : Int) + 1) = (j : Int) + 1 := by rw [IntKind.wrap_i64]; omega
      have l5 : lnE.k = 5 := rfl
      rw [l5] at la
      have hi := ih dd (List.mem_of_getElem? hdd)
      have HS1 : Hid (dep < 12 ∧ (k9 = 5 ∨ k9 = 6) → mtP k9 vs dep (j + 1) = mtP k9 vs dep j ++ [mdN dd (dep + 1)]) := fun h => mtP_succ k9 vs dep j dd hdd h
      have hrl : rq.length ≤ 1759218604390 := by
        have h1 := hL.len
        have h2 := mtP_len k9 vs dep j
        omega
      have r0x := r0.kept b9
      have r5x := r5.kept b9
      have r4x := r4.kept b9
      have hLx := hL.later b9
      have hBx : Below n0 w (wr.alloc (.cells (rnA ra) 25)) := hB.trans (b9.mono (by have := hB.size; have := HN0.out; omega))
      have hKx := IsG.kept hK b9
      have hszx : B ≤ (wr.alloc (.cells (rnA ra) 25)).heap.size := Nat.le_trans hsz b9.size
      clear ca hra hdd va vc b9 hL hB hK r0 r4 r5 hBw
      go_upto_region 15 with fail
      obtain ⟨g7, hg7⟩ : ∃ q, wr.heap.size = q := ⟨_, rfl⟩
      rw [hg7] at r9 hsz ⊢
      generalize wr.alloc (.cells (rnA ra) 25) = X at r9 r0x r5x r4x hLx hBx hKx hszx hE9 ⊢
      clear la hg7
      have c0 : X.cell? ⟨n0, 0, none⟩ = some (.int .i64 k9) := r0x.cell 0
      have HNEW : Hid (MtI n0 g4 g5 B ⟨k9, n9, s9, ⟨xk, nk, ck⟩, ⟨some ⟨ba, oa, none⟩, nv, cv⟩⟩ k9 n8 s8 ⟨xq, nq, cq⟩ kq vs dep w (j + 1) X) := ⟨⟨xw, nw, cw⟩, rq, r0x, r5x, r4x, by rw [mtP_no k9 vs dep j (by have := HKC.out; omega)]; exact hLx, hBx, hszx, hKx, hKF⟩
      by_cases hd12 : dep < 12
      · have c12 : (dep : Int) < 12 := by omega
        clear r0x r5x r4x hLx hBx hKx hszx hE9 r9 hi
        go_wp2
        go_roundw
        case rel => first | exact ⟨j + 1, by omega, by go_num, HNEW.out⟩ | ((repeat apply Exists.intro); refine ⟨⟨j + 1, by omega, ?_, HNEW.out⟩, rfl⟩; go_num)
        case measure => simp [intOf]; omega
      · have c12 : ¬ (dep : Int) < 12 := by omega
        clear r0x r5x r4x hLx hBx hKx hszx hE9 r9 hi
        go_wp2
        go_roundw
        case rel => first | exact ⟨j + 1, by omega, by go_num, HNEW.out⟩ | ((repeat apply Exists.intro); refine ⟨⟨j + 1, by omega, ?_, HNEW.out⟩, rfl⟩; go_num)
        case measure => simp [intOf]; omega
    · obtain rfl : j = nv := by omega
      have i1 : ¬ (j : Int) < (j : Int) := by omega
      obtain ⟨p1, p2⟩ := id r5
      obtain ⟨p3, p4⟩ := id r4
      have p5 : (rowAt wr g5).size = 5 := by rw [p2]; rfl
      have p6 : (rowAt wr g4).size = 5 := by rw [p4]; rfl
      have hs := grown_setRow15 wr g4 (rnA ⟨k9, n8, s8, ⟨xq, nq, cq⟩, ⟨xw, nw, cw⟩⟩)
      have hwn : nw ≤ 17592186044416 := by
        have h1 := hL.len
        have h2 := mtP_len k9 vs dep j
        have h3 := HV.out
        have h4 : nw = rq.length := (OwnK.isK ndE_ok hL.own).num
        omega
      have HF : Hid (NdF (wr.setRow g4 (rnA ⟨k9, n8, s8, ⟨xq, nq, cq⟩, ⟨xw, nw, cw⟩⟩)) (n0 ≤ ·) ⟨k9, n8, s8, ⟨xq, nq, cq⟩, ⟨xw, nw, cw⟩⟩ (mdN (.mk k9 n9 s ks vs) dep) ∧ Below n0 w (wr.setRow g4 (rnA ⟨k9, n8, s8, ⟨xq, nq, cq⟩, ⟨xw, nw, cw⟩⟩))) := by
        refine ⟨?_, below_row14 hB (by omega) _⟩
        rw [HD.out]
        have hL8 := (LsO.ag hL hs.size (fun b hb _ hl => hs.block b hl (fun e => by cases e; omega))).le (show n0 ≤ B by omega)
        exact LsO.node k9 n8 s8 ⟨xq, nq, cq⟩ ⟨xw, nw, cw⟩ kq hL8 (hK.ag hKF fun b hb hl => hs.block b hl (fun e => by cases e; omega)) (hKF.mono fun b hb => hb.1) ⟨HQ.out, hwn⟩
      clear hs hL hB hK hKF hwn
      go_wp2
      refine nd_bodyPost1 4 g4 (rnA ⟨k9, n8, s8, ⟨xq, nq, cq⟩, ⟨xw, nw, cw⟩⟩) rfl rfl rfl (RowC.setRow r4 _) rfl ?_
      exact ⟨⟨k9, n8, s8, ⟨xq, nq, cq⟩, ⟨xw, nw, cw⟩⟩, rfl, by first | exact HF.out.1 | (rw [HN0.out]; exact HF.out.1), by first | exact HF.out.2 | (rw [HN0.out]; exact HF.out.2)⟩
theorem meant15_any : ∀ d, MeantOk d := Nd.ind fun k n s ks vs ih => meant15_step k n s ks vs ih
end Go.Proofs.YtddmmmfpdmejbaaGreatDoor
namespace Go.Proofs.YtddmmmfpdmejbaaGreatDoor
open Go.RowKit

/-! assaylaw15.spare -/
@[go_sem] theorem eqg_spr (a b : Operand) (w : World) : (eqGuard .eql 27 a b sprV sprV).run Tryz.prog w = .ok () w := by kernel_rfl
@[go_sem] theorem eq_spr (w : World) : (binOp .eql 27 sprV sprV).run Tryz.prog w = .ok (.bool true) w := by kernel_rfl
end Go.Proofs.YtddmmmfpdmejbaaGreatDoor
namespace Go.Proofs.YtddmmmfpdmejbaaGreatDoor
open Go.RowKit

/-! assaylaw15.plain of a value with a nil in it -/
def PlzOk (d : Nd) : Prop := ∀ (w : World) (F : Nat → Prop) (v : Value), VlG w F v d → whlN d = false → Calls Tryz.prog 16 #[v] w fun e w' => e = .returned (.tuple #[.agg (rnA rnZ), .bool false]) ∧ Below w.heap.size w w'
set_option linter.unusedSimpArgs false in
set_option maxRecDepth 100000 in
set_option maxHeartbeats 16000000 in
theorem plainsNo15_any (ds : List Nd) (ih : ∀ d ∈ ds, PlzOk d) (hno : whlL ds = false) (w : World) (F : Nat → Prop) (k : Int) (ks : Sl) (x : Option Addr) (m c : Nat) (us : List Value) (hv : IsG w (.slice x m c) us) (hl : us.length = ds.length) (hz : m ≤ 1759218604441) (he : ∀ (i : Nat) u d, us[i]? = some u → ds[i]? = some d → VlG w F u d) :
    Calls Tryz.prog 35 #[.agg (rnA ⟨k, 0, ⟨#[]⟩, ks, slZ⟩), .slice x m c] w fun e w' => e = .returned (.tuple #[.agg (rnA rnZ), .bool false]) ∧ Below w.heap.size w w' := by
  obtain ⟨n0, hn0⟩ : ∃ q, w.heap.size = q := ⟨_, rfl⟩
  have hm : m = us.length := by
    obtain ⟨x9, c9, he9⟩ := hv.len
    simp only [Value.slice.injEq] at he9
    exact he9.2.1
  have bA := below_alloc w (.cells (rnA ⟨k, 0, ⟨#[]⟩, ks, slZ⟩) 41)
  have bB := below_alloc (w.alloc (.cells (rnA ⟨k, 0, ⟨#[]⟩, ks, slZ⟩) 41)) (.cells (rnA rnZ) 41)
  have rA := (RowC.new w (rnA ⟨k, 0, ⟨#[]⟩, ks, slZ⟩) 41).kept bB
  have rB := RowC.new (w.alloc (.cells (rnA ⟨k, 0, ⟨#[]⟩, ks, slZ⟩) 41)) (rnA rnZ) 41
  have bY := bA.trans (bB.mono bA.size)
  rw [hn0] at bY
  have hsz1 : (w.alloc (.cells (rnA ⟨k, 0, ⟨#[]⟩, ks, slZ⟩) 41)).heap.size = n0 + 1 := by rw [alloc_sz15, hn0]
  have hszY : ((w.alloc (.cells (rnA ⟨k, 0, ⟨#[]⟩, ks, slZ⟩) 41)).alloc (.cells (rnA rnZ) 41)).heap.size = n0 + 2 := by rw [alloc_sz15, alloc_sz15, hn0]
  rw [hsz1] at rB
  rw [hn0] at rA
  go_enter Tryz.func35, Tryz.ntmps35
  go_upto_region 1 with fail
  generalize (w.alloc (.cells (rnA ⟨k, 0, ⟨#[]⟩, ks, slZ⟩) 41)).alloc (.cells (rnA rnZ) 41) = Y at rA rB bY hszY ⊢
  clear bA bB hsz1
  obtain ⟨g4, hg4⟩ : ∃ q, n0 + 1 = q := ⟨_, rfl⟩
  obtain ⟨B, hBe⟩ : ∃ q, n0 + 2 = q := ⟨_, rfl⟩
  rw [hg4] at rB ⊢
  have H0 : Hid (PlI n0 n0 g4 B k ks ds w 0 Y) := ⟨slZ, [], rA, rB, by rw [List.take_zero]; exact LsO.nil _ _ _, bY, by omega⟩
  have HM : Hid (m = us.length ∧ us.length = ds.length) := ⟨hm, hl⟩
  have HV : Hid (IsG w (.slice x m c) us) := hv
  have HE : Hid (∀ (i : Nat) u d, us[i]? = some u → ds[i]? = some d → VlG w F u d) := he
  clear rA rB bY hm hl hv he
  go_wp2_with fail
  go_loopw [12] (fun iv wr => ∃ j : Nat, j ≤ m ∧ iv = .int .i64 j ∧ PlI n0 n0 g4 B k ks ds w j wr ∧ Hid (whlL (ds.take j) = true)) (fun iv _ => m - (intOf iv).toNat)
  case atStart => exact ⟨0, by omega, rfl, H0.out, by show _ = _; rw [List.take_zero]; rfl⟩
  case round =>
    clear H0
    obtain ⟨j, hj, rfl, ⟨⟨xv, nv, cv⟩, rs, r2, r4, hL, hB, hsz⟩, HWJ⟩ := hrel
    by_cases hlt : j < m
    · have i1 : (j : Int) < (m : Int) := by omega
      have i0 : (0 : Int) ≤ (j : Int) := by omega
      obtain ⟨hm1, hm2⟩ := HM.out
      obtain ⟨u, hu⟩ : ∃ q, us[j]? = some q := ⟨_, List.getElem?_eq_getElem (by omega)⟩
      obtain ⟨d, hd⟩ : ∃ q, ds[j]? = some q := ⟨_, List.getElem?_eq_getElem (by omega)⟩
      have hBw : Below w.heap.size w wr := by rw [hn0]; exact hB
      obtain ⟨b, o, rfl, -, cu⟩ := IsG.spot HV.out j (by omega)
      have q1 := cell_later hBw (cu j u hu)
      have hvl := (HE.out j u d hu hd).kept hBw
      have hwr : IntKind.i64.wrap ((j : Int) + 1) = (j : Int) + 1 := by rw [IntKind.wrap_i64]; omega
      have HD : Hid (ds.take (j + 1) = ds.take j ++ [d]) := by show _ = _; rw [List.take_add_one, hd]; rfl
      have hrl : rs.length + 1 ≤ 1759218604441 := by have := hL.len; rw [List.length_take] at this; omega
      by_cases hw9 : whlN d = true
      · have hC := plain15_any d wr F u (hvl.f hw9)
        have HWJ1 : Hid (whlL (ds.take (j + 1)) = true) := by show _ = _; rw [HD.out, whlL_app, HWJ.out, whlL, whlL, hw9]; rfl
        clear cu hu hd hvl hm1 hm2
        go_wp2_with fail
        refine hC.mono ?_
        rintro e w1 ⟨r, rfl, hN1, hb1⟩
        clear hC q1
        have hb2 := below_alloc w1 (.cells (rnA r) 41)
        have hbx := hb1.trans (hb2.mono hb1.size)
        have r2x := r2.kept hbx
        have r4x := r4.kept hbx
        have hLx := hL.later hbx
        have hNx := hN1.kept hb2
        have h8x := RowC.new w1 (rnA r) 41
        have hszx : wr.heap.size ≤ (w1.alloc (.cells (rnA r) 41)).heap.size := hbx.size
        have hg8 : wr.heap.size ≤ w1.heap.size := hb1.size
        have hBx : Below n0 w (w1.alloc (.cells (rnA r) 41)) := hB.trans (hbx.mono (by omega))
        have hown : ∀ b, (Value.slice xv nv cv).ownBlock = some b → b < wr.heap.size := fun b hb => (hL.lt b hb).2
        clear hL r2 r4 hN1 hb1 hb2 hbx hB hBw
        go_upto_region 5 with fail
        obtain ⟨g8, hg8e⟩ : ∃ q, w1.heap.size = q := ⟨_, rfl⟩
        rw [hg8e] at h8x hg8 ⊢
        generalize w1.alloc (.cells (rnA r) 41) = X at r2x r4x hLx hNx h8x hszx hBx ⊢
        obtain ⟨H, hH⟩ : ∃ q, wr.heap.size = q := ⟨_, rfl⟩
        rw [hH] at hNx hszx hown hg8
        have hby := below_alloc X (.cells (rnA r) 41)
        obtain ⟨⟨xa, na, ca⟩, w6, hr6, hL6, hg6, -⟩ := (hLx.later hby).app 39 (by omega : B ≤ H) (RowC.new X (rnA r) 41) (fun b hb => hb.elim) hown (hNx.kept hby) (by have := hby.size; omega) hrl
        have hlowv : ∀ b, (Value.slice xv nv cv).ownBlock = some b → B ≤ b := fun b hb => (hLx.lt b hb).1
        have hne : ∀ b, b < B → b < X.heap.size → w6.heap[b]? = X.heap[b]? := fun b hb hl => (hg6.block b (by have := hby.size; omega) (fun e => by have := hlowv b e.symm; omega)).trans (hby.block b hl)
        have r26 := r2x.block (hne n0 (by omega) r2x.lt)
        have r46 := r4x.block (hne g4 (by omega) r4x.lt)
        have hs7 := grown_set1 w6 n0 4 (.slice xa na ca)
        have HNEW : Hid (PlI n0 n0 g4 B k ks ds w (j + 1) (w6.setCell ⟨n0, 4, none⟩ (.slice xa na ca))) := by
          refine ⟨⟨xa, na, ca⟩, rs ++ [r], r26.set 4 _, r46.set_ne 4 _ (by omega), ?_, ?_, ?_⟩
          · rw [HD.out]
            exact hL6.ag hs7.size (fun b hb _ hl => hs7.block b hl (fun e => by cases e; omega))
          · have h1 : Below n0 w w6 := hBx.trans ⟨hg6.os, hg6.tape, hg6.output, Nat.le_trans hby.size hg6.size, fun k hk => hne k (by omega) (by have := hBx.size; omega)⟩
            exact h1.setCell (p := ⟨n0, 4, none⟩) (Nat.le_refl _) _
          · have := hg6.size
            have := hby.size
            have := hs7.size
            omega
        have q4 : X.cell? ⟨n0, 4, none⟩ = some (.slice xv nv cv) := r2x.cell 4
        have q46 : w6.cell? ⟨n0, 4, none⟩ = some (.slice xv nv cv) := r26.cell 4
        have z46 := r26.frozen 4
        obtain ⟨p1, p2⟩ := id h8x
        have p3 : (rowAt X g8).size = 5 := by rw [p2]; rfl
        have hr7 : (Builtin.append_ #[39, 39] 39 #[.slice xv nv cv, .slice (some ⟨X.heap.size, 0, none⟩) 1 1]).run Tryz.prog (X.alloc (.cells (rnA r) 41)) = .ok (.slice xa na ca) w6 := hr6
        clear r2x r4x hLx hNx hby hr6 hL6 hg6 hne r26 r46 hs7 hBx hown hlowv HD
        go_wp2_with (at_builtin; refine wpL_appG 39 rfl _ _ rfl _ w6 (by exact hr7) ?_)
        go_roundw
        case rel => first | exact ⟨j + 1, by omega, by go_num, HNEW.out, HWJ1⟩ | ((repeat apply Exists.intro); refine ⟨⟨j + 1, by omega, ?_, HNEW.out, HWJ1⟩, rfl⟩; go_num)
        case measure => simp [intOf]; omega
      · have hC := ih d (List.mem_of_getElem? hd) wr F u hvl (by simpa using hw9)
        clear cu hu hd hvl hm1 hm2
        go_wp2_with fail
        refine hC.mono ?_
        rintro e w1 ⟨rfl, hb1⟩
        clear hC q1
        have hb2 := below_alloc w1 (.cells (rnA rnZ) 41)
        have hbx := hb1.trans (hb2.mono hb1.size)
        have r4x := r4.kept hbx
        have hBx : Below n0 w (w1.alloc (.cells (rnA rnZ) 41)) := hB.trans (hbx.mono (by omega))
        clear hL r2 r4 hb1 hb2 hbx hB hBw
        go_upto_region 5 with fail
        generalize w1.alloc (.cells (rnA rnZ) 41) = X at r4x hBx ⊢
        obtain ⟨p3, p4⟩ := id r4x
        have p6 : (rowAt X g4).size = 5 := by rw [p4]; rfl
        have HF : Hid (Below n0 w (X.setRow g4 (rnA rnZ))) := below_row14 hBx (by omega) _
        clear hBx
        go_wp2
        refine nd_bodyPost2 4 5 g4 (rnA rnZ) rfl rfl rfl (RowC.setRow r4x _) rfl ?_
        exact ⟨rfl, by first | exact HF.out | (rw [hn0]; exact HF.out)⟩
    · exfalso
      have h9 := HWJ.out
      rw [List.take_of_length_le (by obtain ⟨h1, h2⟩ := HM.out; omega), hno] at h9
      cases h9
set_option linter.unusedSimpArgs false in
set_option maxRecDepth 100000 in
set_option maxHeartbeats 16000000 in
theorem plainNo15_step (k n : Int) (s : List UInt8) (ks : List (List UInt8)) (vs : List Nd) (ih : ∀ d ∈ vs, PlzOk d) : PlzOk (.mk k n s ks vs) := fun w F v hv hno => by
  obtain ⟨n0, hn0⟩ : ∃ q, w.heap.size = q := ⟨_, rfl⟩
  have bA := below_alloc w (.cells (rnA rnZ) 41)
  have rA := RowC.new w (rnA rnZ) 41
  have hvY := hv.kept bA
  have hsz : (w.alloc (.cells (rnA rnZ) 41)).heap.size = n0 + 1 := by rw [alloc_sz15, hn0]
  rw [hn0] at rA bA
  clear hv
  go_enter Tryz.func16, Tryz.ntmps16
  go_upto_region 1 with fail
  generalize w.alloc (.cells (rnA rnZ) 41) = Y at bA rA hvY hsz ⊢
  obtain ⟨p1, p2⟩ := id rA
  have p3 : (rowAt Y n0).size = 5 := by rw [p2]; rfl
  cases hvY using VlG.rc with
  | nil k hk =>
    have HP : Hid (Below n0 w (Y.setRow n0 (rnA rnZ))) := below_row14 bA (Nat.le_refl _) _
    clear bA
    go_wp2
    exact nd_bodyPost2 2 3 n0 (rnA rnZ) rfl rfl rfl (RowC.setRow rA _) rfl (by exact ⟨rfl, by first | exact HP.out | (rw [hn0]; exact HP.out)⟩)
  | null => exact absurd hno (by rw [whlN_mk, whlL]; decide)
  | bool b => exact absurd hno (by rw [whlN_mk, whlL]; decide)
  | num n hn => exact absurd hno (by rw [whlN_mk, whlL]; decide)
  | str s => exact absurd hno (by rw [whlN_mk, whlL]; decide)
  | list a us ds hv hF hl hz he r9 =>
    clear r9
    have hno5 : whlL vs = false := by
      rw [whlN_mk] at hno
      simpa using hno
    obtain ⟨xa, na, ca⟩ := a
    have hC := plainsNo15_any vs ih hno5 Y F 5 slZ xa na ca us hv hl hz he
    go_wp2_with fail
    refine hC.mono ?_
    rintro e w1 ⟨rfl, hb1⟩
    clear hC
    have r1 := rA.kept hb1
    have hB1 : Below n0 w w1 := bA.trans (hb1.mono (by omega))
    obtain ⟨a1, a2⟩ := id r1
    have a3 : (rowAt w1 n0).size = 5 := by rw [a2]; rfl
    have HP : Hid (Below n0 w (w1.setRow n0 (rnA rnZ))) := below_row14 hB1 (Nat.le_refl _) _
    clear hb1 p1 p2 p3 rA hB1
    go_wp2
    exact nd_bodyPost2 2 3 n0 (rnA rnZ) rfl rfl rfl (RowC.setRow r1 _) rfl (by exact ⟨rfl, by first | exact HP.out | (rw [hn0]; exact HP.out)⟩)
  | obj ks a kb us ds hk hkF hv hF hl hz he r9 =>
    clear r9
    have hno5 : whlL vs = false := by
      rw [whlN_mk] at hno
      simpa using hno
    obtain ⟨xk, nk, ck⟩ := ks
    obtain ⟨xa, na, ca⟩ := a
    simp only [Sl.v]
    simp only at hz
    go_upto_region 22 with fail
    have b2 := below_alloc Y (.cells #[.slice xk nk ck, .slice xa na ca] 70)
    have hBX : Below n0 w (Y.alloc (.cells #[.slice xk nk ck, .slice xa na ca] 70)) := bA.trans (b2.mono (by omega))
    have rX := rA.kept b2
    have rN := RowC.new Y #[.slice xk nk ck, .slice xa na ca] 70
    have hkX := hk.kept b2
    have hvX := hv.kept b2
    have heX := fun (i : Nat) u d (h1 : us[i]? = some u) (h2 : vs[i]? = some d) => (he i u d h1 h2).kept b2
    have hszX : (Y.alloc (.cells #[.slice xk nk ck, .slice xa na ca] 70)).heap.size = n0 + 2 := by rw [alloc_sz15, hsz]
    rw [hsz] at rN
    generalize Y.alloc (.cells #[.slice xk nk ck, .slice xa na ca] 70) = X at hBX rX rN hkX hvX heX hszX ⊢
    obtain ⟨go, hgo⟩ : ∃ q, n0 + 1 = q := ⟨_, rfl⟩
    rw [hgo] at rN ⊢
    obtain ⟨B, hBe⟩ : ∃ q, X.heap.size = q := ⟨_, rfl⟩
    have c0 : X.cell? ⟨go, 0, none⟩ = some (.slice xk nk ck) := rN.cell 0
    have c1 : X.cell? ⟨go, 1, none⟩ = some (.slice xa na ca) := rN.cell 1
    have HKX : Hid (IsG X (.slice xk nk ck) (strs kb)) := hkX
    have HVX : Hid (IsG X (.slice xa na ca) us) := hvX
    have HEX : Hid (∀ (i : Nat) u d, us[i]? = some u → vs[i]? = some d → VlG X F u d) := heX
    have HRX : Hid (RowC X n0 (rnA rnZ)) := rX
    have HZ : Hid (nk ≤ 8796093022208 ∧ na ≤ 1759218604441) := hz
    have HBX : Hid (Below n0 w X) := hBX
    have HNU : Hid (na = us.length ∧ nk = kb.length) := ⟨IsG.num hv, by have := IsG.num hk; simpa [strs] using this⟩
    clear hk hv he b2 p1 p2 p3 rA rN hkX hvX heX rX hBX hkF hF bA
    refine wp_reliesT [PF0 B, Fx (.pointer (some ⟨go, 0, none⟩)), Fx (.slice xk nk ck), PF3 B kb, PF4 B kb, Fx (.pointer (some ⟨go, 1, none⟩)), Fx (.slice xa na ca), Fx (.tuple #[.agg (rnA rnZ), .bool false]), Fx (.agg (rnA rnZ)), Fx (.bool false)] (by kernel_rfl) (by kernel_rfl) ?_ ?_ ?_
    · repeat' (first | exact all_nil | apply all_cons)
      all_goals intro v y y' hv hb
      all_goals first | exact Fx_mono _ _ _ _ hv hb | exact PF0.keep hv hb | exact PF3.keep hv hb | exact PF4.keep hv hb
    · refine ⟨?_, ?_, ?_, ?_, ?_, ?_, ?_, ?_, ?_, ?_, trivial⟩
      all_goals
        intro ρ x hp ρc ρg ρf ho hd
        have o10 : ρ (.tmp 10) = .pointer (some ⟨go, 0, none⟩) := ho 10 rfl
        clear ho
        have k0 := cell_later hp c0
        have k1 := cell_later hp c1
        simp only [depsR, depR, slotR, Fx, List.getElem?_cons_succ, List.getElem?_cons_zero, Region.binds, forall_const] at hd
        simp only [guardR]
        go_split_ands
      · go_simp
        exact ⟨⟨x.heap.size, rfl, by have := hp.size; omega, OwnG.lit 9 x [] (Nat.zero_le _)⟩, below_alloc _ _⟩
      · go_simp
      · go_simp
      · obtain ⟨y9, e9, l9, o9⟩ : PF0 B (ρ (.tmp 44)) x := by first | exact hd | exact hd.1 | exact hd.2 | assumption
        have hd2 : ρ (.tmp 46) = .slice xk nk ck := by first | assumption | exact hd.2 | exact hd.2.1
        rw [e9] at o9
        obtain ⟨a9, x9, hr9, hO9, hb9⟩ := copyS x y9 xk nk ck kb 22 o9 (IsG.kept HKX.out hp) HZ.out.1
        rw [BigFrame.execOp_builtin, BigFrame.builtin_append]
        simp only [List.map_toArray, List.map_cons, List.map_nil, e9, hd2, hr9, Sem.run_bind, Result.andThen_ok, Sem.run_pure, okUpon]
        exact ⟨⟨a9, rfl, hO9.le l9⟩, hb9⟩
      · obtain ⟨⟨x9, n9, c9⟩, e9, o9⟩ : PF3 B kb (ρ (.tmp 47)) x := by first | exact hd | exact hd.1 | exact hd.2 | assumption
        simp only [Sl.v] at e9
        go_simp
        exact ⟨⟨x9, n9, c9⟩, rfl, o9⟩
      · go_simp
      · go_simp
      · obtain ⟨a9, e9, o9⟩ : PF4 B kb (ρ (.tmp 48)) x := by first | exact hd | exact hd.1 | exact hd.2 | assumption
        have hd2 : ρ (.tmp 50) = .slice xa na ca := by first | assumption | exact hd.2 | exact hd.2.1
        go_simp
        refine (plainsNo15_any vs ih hno5 x F 6 a9 xa na ca us (IsG.kept HVX.out hp) hl HZ.out.2 (fun i u d h1 h2 => VlG.kept (HEX.out i u d h1 h2) hp)).mono ?_
        rintro e x' ⟨rfl, hb9⟩
        exact ⟨_, rfl, rfl, hb9⟩
      · go_simp
      · go_simp
    · intro us9 x1 hp1 hw
      simp only [owed, Fx] at hw
      obtain ⟨e0, e1, e2, e3, e4, e5, e6, e7, e8, e9, -⟩ := hw
      simp only [List.length_cons, List.length_nil, List.take_succ_cons, List.take_zero, List.drop_succ_cons, List.drop_zero, asg, List.cons_append, List.nil_append, e1, e2, e5, e6, e7, e8, e9]
      clear e1 e2 e5 e6 e8 e9 e0 e3 e4 e7
      have h2x : RowC x1 n0 (rnA rnZ) := RowC.kept HRX.out hp1
      obtain ⟨a1, a2⟩ := id h2x
      have a3 : (rowAt x1 n0).size = 5 := by rw [a2]; rfl
      have hB1 : Below n0 w x1 := Below.trans HBX.out (hp1.mono (by omega))
      have HP : Hid (Below n0 w (x1.setRow n0 (rnA rnZ))) := below_row14 hB1 (Nat.le_refl _) _
      clear HKX HVX HEX HRX HBX c0 c1 hp1 hB1
      go_wp2
      exact nd_bodyPost2 2 3 n0 (rnA rnZ) rfl rfl rfl (RowC.setRow h2x _) rfl (by exact ⟨rfl, by first | exact HP.out | (rw [hn0]; exact HP.out)⟩)
theorem plainNo15_any : ∀ d, PlzOk d := Nd.ind fun k n s ks vs ih => plainNo15_step k n s ks vs ih
end Go.Proofs.YtddmmmfpdmejbaaGreatDoor
namespace Go.Proofs.YtddmmmfpdmejbaaGreatDoor
open Go.RowKit

/-! assaylaw15.equal -/
end Go.Proofs.YtddmmmfpdmejbaaGreatDoor
