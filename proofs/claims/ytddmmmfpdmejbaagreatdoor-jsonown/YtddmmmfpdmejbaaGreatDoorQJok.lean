import Derived.Test.YtddmmmfpdmejbaaGreatDoorQJop
import Derived.Test.YtddmmmfpdmejbaaGreatDoorQJpu
import Derived.Test.YtddmmmfpdmejbaaGreatDoorQNum
import Derived.Lib.SmallJoins
import Derived.Deep.AppendLies
import Derived.Great.BuildSlice
import Derived.Test.YtddmmmfpdmejbaaGreatDoorQRelk
namespace Go.Proofs.YtddmmmfpdmejbaaGreatDoor
open Go.RowKit

/-! Print's and Field's mathematics; what json owes; assaylaw15.known, read -/
/-! What json owes -/
def JpP (q : Nd × Int × Int) (w : World) (e : Ending) (w' : World) : Prop := ∃ v, e = .returned (.tuple #[v, .int .i64 q.2.1, .int .i64 q.2.2]) ∧ (q.2.1 = 0 → VlF w' (w.heap.size ≤ ·) v q.1) ∧ (q.2.1 ≠ 0 → v = .nilIface) ∧ Below w.heap.size w w'
/-- The lists are its own, no two of them one. -/
def JoP (q : Nd × Int × Int) (w : World) (e : Ending) (w' : World) : Prop := ∃ v, e = .returned (.tuple #[v, .int .i64 q.2.1, .int .i64 q.2.2]) ∧ (q.2.1 = 0 → ∃ L K, VlO w' w.heap.size v q.1 L K ∧ (blks L K).Nodup) ∧ (q.2.1 ≠ 0 → v = .nilIface) ∧ Below w.heap.size w w'
theorem JoP.jp {q : Nd × Int × Int} {w w' : World} {e : Ending} (h : JoP q w e w') : JpP q w e w' := by
  obtain ⟨v, he, h0, h1, hb⟩ := h
  exact ⟨v, he, fun hq => by obtain ⟨L, K, hv, -⟩ := h0 hq; exact hv.f, h1, hb⟩
def PtP (d : Nd) (w : World) (e : Ending) (w' : World) : Prop := e = .returned (.tuple #[.string ⟨(prtS d).toArray⟩, .int .i64 (prtE d)]) ∧ Below w.heap.size w w'
set_option linter.unusedVariables false
def VlG (w : World) (F : Nat → Prop) (i1 : Value) (i2 : Nd) : Prop := ∀ Q : Value → Nd → Prop, (∀ (k : Int) (hk : ¬ (1 ≤ k ∧ k ≤ 6)), Q .nilIface (.mk k 0 [] [] [])) → (Q (.iface 65 (.agg #[])) (.mk 1 0 [] [] [])) → (∀ (b : Bool), Q (.iface 66 (.bool b)) (.mk 2 (bif b then 1 else 0) [] [] [])) → (∀ (n : Int) (hn : -9223372036854775808 ≤ n ∧ n ≤ 9223372036854775807), Q (.iface 67 (.int .i64 n)) (.mk 3 n [] [] [])) → (∀ (s : ByteArray), Q (.iface 54 (.string s)) (.mk 4 0 (lS s) [] [])) → (∀ (a : Sl) (us : List Value) (ds : List Nd) (hv : IsG w a.v us) (hF : a.In F) (hl : us.length = ds.length) (hz : a.n ≤ 1759218604441) (he : ∀ (i : Nat) u d, us[i]? = some u → ds[i]? = some d → Q u d), Q (.iface 68 a.v) (.mk 5 0 [] [] ds)) → (∀ (ks a : Sl) (kb : List ByteArray) (us : List Value) (ds : List Nd) (hk : IsG w ks.v (strs kb)) (hkF : ks.In F) (hv : IsG w a.v us) (hF : a.In F) (hl : us.length = ds.length) (hz : ks.n ≤ 8796093022208 ∧ a.n ≤ 1759218604441) (he : ∀ (i : Nat) u d, us[i]? = some u → ds[i]? = some d → Q u d), Q (.iface 70 (.agg #[ks.v, a.v])) (.mk 6 0 [] (kb.map lS) ds)) → Q i1 i2
theorem VlG.nil {w : World} {F : Nat → Prop} (k : Int) (hk : ¬ (1 ≤ k ∧ k ≤ 6)) : VlG w F .nilIface (.mk k 0 [] [] []) := fun Q q0 q1 q2 q3 q4 q5 q6 => q0 k hk
theorem VlG.null {w : World} {F : Nat → Prop}  : VlG w F (.iface 65 (.agg #[])) (.mk 1 0 [] [] []) := fun Q q0 q1 q2 q3 q4 q5 q6 => q1
theorem VlG.bool {w : World} {F : Nat → Prop} (b : Bool) : VlG w F (.iface 66 (.bool b)) (.mk 2 (bif b then 1 else 0) [] [] []) := fun Q q0 q1 q2 q3 q4 q5 q6 => q2 b
theorem VlG.num {w : World} {F : Nat → Prop} (n : Int) (hn : -9223372036854775808 ≤ n ∧ n ≤ 9223372036854775807) : VlG w F (.iface 67 (.int .i64 n)) (.mk 3 n [] [] []) := fun Q q0 q1 q2 q3 q4 q5 q6 => q3 n hn
theorem VlG.str {w : World} {F : Nat → Prop} (s : ByteArray) : VlG w F (.iface 54 (.string s)) (.mk 4 0 (lS s) [] []) := fun Q q0 q1 q2 q3 q4 q5 q6 => q4 s
theorem VlG.list {w : World} {F : Nat → Prop} (a : Sl) (us : List Value) (ds : List Nd) (hv : IsG w a.v us) (hF : a.In F) (hl : us.length = ds.length) (hz : a.n ≤ 1759218604441) (he : ∀ (i : Nat) u d, us[i]? = some u → ds[i]? = some d → VlG w F u d) : VlG w F (.iface 68 a.v) (.mk 5 0 [] [] ds) := fun Q q0 q1 q2 q3 q4 q5 q6 => q5 a us ds hv hF hl hz (fun i u d hz0 hz1 => he i u d hz0 hz1 Q q0 q1 q2 q3 q4 q5 q6)
theorem VlG.obj {w : World} {F : Nat → Prop} (ks a : Sl) (kb : List ByteArray) (us : List Value) (ds : List Nd) (hk : IsG w ks.v (strs kb)) (hkF : ks.In F) (hv : IsG w a.v us) (hF : a.In F) (hl : us.length = ds.length) (hz : ks.n ≤ 8796093022208 ∧ a.n ≤ 1759218604441) (he : ∀ (i : Nat) u d, us[i]? = some u → ds[i]? = some d → VlG w F u d) : VlG w F (.iface 70 (.agg #[ks.v, a.v])) (.mk 6 0 [] (kb.map lS) ds) := fun Q q0 q1 q2 q3 q4 q5 q6 => q6 ks a kb us ds hk hkF hv hF hl hz (fun i u d hz0 hz1 => he i u d hz0 hz1 Q q0 q1 q2 q3 q4 q5 q6)
theorem VlG.rc {w : World} {F : Nat → Prop} {M : ∀ (i1 : Value) (i2 : Nd), VlG w F i1 i2 → Prop} (nil : ∀ (k : Int) (hk : ¬ (1 ≤ k ∧ k ≤ 6)), M .nilIface (.mk k 0 [] [] []) (VlG.nil k hk)) (null : M (.iface 65 (.agg #[])) (.mk 1 0 [] [] []) (VlG.null)) (bool : ∀ (b : Bool), M (.iface 66 (.bool b)) (.mk 2 (bif b then 1 else 0) [] [] []) (VlG.bool b)) (num : ∀ (n : Int) (hn : -9223372036854775808 ≤ n ∧ n ≤ 9223372036854775807), M (.iface 67 (.int .i64 n)) (.mk 3 n [] [] []) (VlG.num n hn)) (str : ∀ (s : ByteArray), M (.iface 54 (.string s)) (.mk 4 0 (lS s) [] []) (VlG.str s)) (list : ∀ (a : Sl) (us : List Value) (ds : List Nd) (hv : IsG w a.v us) (hF : a.In F) (hl : us.length = ds.length) (hz : a.n ≤ 1759218604441) (he : ∀ (i : Nat) u d, us[i]? = some u → ds[i]? = some d → VlG w F u d), (∀ (i : Nat) u d (hz0 : us[i]? = some u) (hz1 : ds[i]? = some d), M u d (he i u d hz0 hz1)) → M (.iface 68 a.v) (.mk 5 0 [] [] ds) (VlG.list a us ds hv hF hl hz he)) (obj : ∀ (ks a : Sl) (kb : List ByteArray) (us : List Value) (ds : List Nd) (hk : IsG w ks.v (strs kb)) (hkF : ks.In F) (hv : IsG w a.v us) (hF : a.In F) (hl : us.length = ds.length) (hz : ks.n ≤ 8796093022208 ∧ a.n ≤ 1759218604441) (he : ∀ (i : Nat) u d, us[i]? = some u → ds[i]? = some d → VlG w F u d), (∀ (i : Nat) u d (hz0 : us[i]? = some u) (hz1 : ds[i]? = some d), M u d (he i u d hz0 hz1)) → M (.iface 70 (.agg #[ks.v, a.v])) (.mk 6 0 [] (kb.map lS) ds) (VlG.obj ks a kb us ds hk hkF hv hF hl hz he)) {i1 : Value} {i2 : Nd} (h : VlG w F i1 i2) : M i1 i2 h :=
  (h (fun i1 i2 => ∃ h9 : VlG w F i1 i2, M i1 i2 h9) (fun k hk => ⟨VlG.nil k hk, nil k hk⟩) (⟨VlG.null, null⟩) (fun b => ⟨VlG.bool b, bool b⟩) (fun n hn => ⟨VlG.num n hn, num n hn⟩) (fun s => ⟨VlG.str s, str s⟩) (fun a us ds hv hF hl hz he => ⟨VlG.list a us ds hv hF hl hz (fun i u d hz0 hz1 => (he i u d hz0 hz1).1), list a us ds hv hF hl hz (fun i u d hz0 hz1 => (he i u d hz0 hz1).1) (fun i u d hz0 hz1 => (he i u d hz0 hz1).2)⟩) (fun ks a kb us ds hk hkF hv hF hl hz he => ⟨VlG.obj ks a kb us ds hk hkF hv hF hl hz (fun i u d hz0 hz1 => (he i u d hz0 hz1).1), obj ks a kb us ds hk hkF hv hF hl hz (fun i u d hz0 hz1 => (he i u d hz0 hz1).1) (fun i u d hz0 hz1 => (he i u d hz0 hz1).2)⟩)).2
theorem VlF.g {w : World} {F : Nat → Prop} {v : Value} {d : Nd} (h : VlF w F v d) : VlG w F v d := by
  induction h using VlF.rc with
  | null => exact .null
  | bool b => exact .bool b
  | num n hn => exact .num n hn
  | str s => exact .str s
  | list a us ds hv hF hl hz he ih => exact .list a us ds hv hF hl hz ih
  | obj ks a kb us ds hk hkF hv hF hl hz he ih => exact .obj ks a kb us ds hk hkF hv hF hl hz ih
theorem VlG.ag {w w1 : World} {F : Nat → Prop} {v : Value} {d : Nd} (h : VlG w F v d) (hb : ∀ b, F b → b < w.heap.size → w1.heap[b]? = w.heap[b]?) : VlG w1 F v d := by
  induction h using VlG.rc with
  | nil k hk => exact .nil k hk
  | null => exact .null
  | bool b => exact .bool b
  | num n hn => exact .num n hn
  | str s => exact .str s
  | list a us ds hv hF hl hz he ih => exact .list a us ds (hv.ag hF hb) hF hl hz ih
  | obj ks a kb us ds hk hkF hv hF hl hz he ih => exact .obj ks a kb us ds (hk.ag hkF hb) hkF (hv.ag hF hb) hF hl hz ih
theorem VlG.kept {w w1 : World} {F : Nat → Prop} {v : Value} {d : Nd} (h : VlG w F v d) (hb : Below w.heap.size w w1) : VlG w1 F v d := h.ag (fun b _ hl => hb.block b hl)
def whlN : Nd → Bool
  | .mk k _ _ _ vs => (vs.map fun d => whlN d).all id && decide (1 ≤ k ∧ k ≤ 6)
def whlL : List Nd → Bool
  | [] => true
  | d :: r => whlN d && whlL r
theorem whlL_mpp : ∀ l : List Nd, (l.map fun d => whlN d).all id = whlL l
  | [] => rfl
  | d :: r => by rw [List.map_cons, List.all_cons, whlL_mpp r, whlL]; rfl
theorem whlN_mk (k n : Int) (s : List UInt8) (ks : List (List UInt8)) (vs : List Nd) : whlN (.mk k n s ks vs) = (whlL vs && decide (1 ≤ k ∧ k ≤ 6)) := by rw [whlN, whlL_mpp]
theorem whlL_at : ∀ (vs : List Nd) (i : Nat) (d : Nd), vs[i]? = some d → whlL vs = true → whlN d = true
  | a :: r, 0, d, h, hw => by
    simp at h; subst h
    rw [whlL, Bool.and_eq_true] at hw; exact hw.1
  | a :: r, i + 1, d, h, hw => by
    rw [whlL, Bool.and_eq_true] at hw
    exact whlL_at r i d (by simpa using h) hw.2
/-- Where there is no nil. -/
theorem VlG.f {w : World} {F : Nat → Prop} {v : Value} {d : Nd} (h : VlG w F v d) : whlN d = true → VlF w F v d := by
  induction h using VlG.rc with
  | nil k hk => intro hw; rw [whlN_mk, Bool.and_eq_true, decide_eq_true_eq] at hw; exact absurd hw.2 hk
  | null => exact fun _ => .null
  | bool b => exact fun _ => .bool b
  | num n hn => exact fun _ => .num n hn
  | str s => exact fun _ => .str s
  | list a us ds hv hF hl hz he ih => intro hw; rw [whlN_mk, Bool.and_eq_true] at hw; exact .list a us ds hv hF hl hz fun i u d h1 h2 => ih i u d h1 h2 (whlL_at ds i d h2 hw.1)
  | obj ks a kb us ds hk hkF hv hF hl hz he ih => intro hw; rw [whlN_mk, Bool.and_eq_true] at hw; exact .obj ks a kb us ds hk hkF hv hF hl hz fun i u d h1 h2 => ih i u d h1 h2 (whlL_at ds i d h2 hw.1)
def FdP (o : Option Nd) (w : World) (e : Ending) (w' : World) : Prop := (∃ v b, e = .returned (.tuple #[v, .bool b]) ∧ (∀ d, o = some d → b = true ∧ ∃ G, VlG w' G v d) ∧ (o = none → b = false ∧ v = .nilIface)) ∧ Below w.heap.size w w'
/-- What json owes; V: what is asked of the library's variables. -/
structure JsOk (V : World → Prop) : Prop where
  keep : ∀ (w W : World), V w → Below w.heap.size w W → V W
  prs : ∀ (l : List UInt8) (x : Option Addr) (L c : Nat) (w : World), l.length = L → L ≤ c → L ≤ 140737488355328 → IsB w (.slice x L c) l → V w → Calls Tryz.prog 11 #[.slice x L c] w fun e w' => JpP (prsA l) w e w'
  own : ∀ (l : List UInt8) (x : Option Addr) (L c : Nat) (w : World), l.length = L → L ≤ c → L ≤ 140737488355328 → IsB w (.slice x L c) l → V w → Calls Tryz.prog 11 #[.slice x L c] w fun e w' => JoP (prsA l) w e w'
  prt : ∀ (d : Nd) (F : Nat → Prop) (v : Value) (w : World), VlG w F v d → szN d ≤ 1099511627776 → depN d ≤ 60000 → V w → Calls Tryz.prog 9 #[v] w fun e w' => PtP d w e w'
  fld : ∀ (d : Nd) (F : Nat → Prop) (v : Value) (s : ByteArray) (w : World), VlG w F v d → depN d ≤ 60000 → V w → Calls Tryz.prog 13 #[v, .string s] w fun e w' => FdP (fldN d (lS s)) w e w'
def kn21 : List UInt8 := [123, 34, 97, 34, 58, 91, 49, 44, 110, 117, 108, 108, 93, 44, 34, 98, 34, 58, 123, 125, 125]
def knD : Nd := .mk 6 0 [] [[97], [98]] [.mk 5 0 [] [] [.mk 3 1 [] [] [], .mk 1 0 [] [] []], .mk 6 0 [] [] []]
set_option maxRecDepth 100000 in
theorem kn15_P : prsA kn21 = (knD, 0, 0) := by kernel_rfl
set_option linter.unusedSimpArgs false in
theorem kn15_S : prtS knD = kn21 := by unfold prtS prtE knD; simp only [frmN_mk, frmL, plnN_mk, plnL, twcN_mk, twcL, depN_mk, depL, txtN_mk, txtL, txtO, szN_mk, szL]; decide +kernel
set_option linter.unusedSimpArgs false in
theorem kn15_E : prtE knD = 0 := by unfold prtE knD; simp only [frmN_mk, frmL, plnN_mk, plnL, twcN_mk, twcL, depN_mk, depL, txtN_mk, txtL, txtO, szN_mk, szL]; decide +kernel
set_option linter.unusedSimpArgs false in
theorem kn15_dp : depN knD ≤ 60000 := by unfold knD; simp only [frmN_mk, frmL, plnN_mk, plnL, twcN_mk, twcL, depN_mk, depL, txtN_mk, txtL, txtO, szN_mk, szL]; decide +kernel
set_option linter.unusedSimpArgs false in
theorem kn15_z : szN knD ≤ 1099511627776 := by unfold knD; simp only [frmN_mk, frmL, plnN_mk, plnL, twcN_mk, twcL, depN_mk, depL, txtN_mk, txtL, txtO, szN_mk, szL]; decide +kernel
set_option maxRecDepth 100000 in
theorem kn15_B : (prsA [91, 49, 44, 93]).2 = (31, 3) := by kernel_rfl
theorem kn15_F : fldN knD [98] = some (.mk 6 0 [] [] []) := rfl
set_option linter.unusedSimpArgs false in
theorem kn15_S2 : prtS (.mk 6 0 [] [] []) = [123, 125] := by unfold prtS prtE; simp only [frmN_mk, frmL, plnN_mk, plnL, twcN_mk, twcL, depN_mk, depL, txtN_mk, txtL, txtO, szN_mk, szL]; decide +kernel
set_option linter.unusedSimpArgs false in
theorem kn15_E2 : prtE (.mk 6 0 [] [] []) = 0 := by unfold prtE; simp only [frmN_mk, frmL, plnN_mk, plnL, twcN_mk, twcL, depN_mk, depL, txtN_mk, txtL, txtO, szN_mk, szL]; decide +kernel
end Go.Proofs.YtddmmmfpdmejbaaGreatDoor
namespace Go.Proofs.YtddmmmfpdmejbaaGreatDoor
open Go.RowKit

/-! assaylaw15's nodes in memory; the program's values with one more in their spare room -/
def lnE : EK Rn := { T := 25, S := 23, k := 5, bytes := 80, z := .agg (rnA rnZ), enc := fun r => (rnA r).toList }
theorem info_ln : (Tryz.prog.info? 25).map (fun i => (i.zero, i.size)) = some (some (.agg (rnA rnZ)), 5) := by kernel_rfl
theorem sizeT_ln : (Tryz.prog.info? 25).map (·.size) = some 5 := (zero_of_info info_ln).2
section
variable (ρ : Operand → Value) (dst : Option Tmp) (ty : TypeId) (pos : String) (after : Array Edge) (guard : Option (Nat × Bool))
@[go_sem ↓] theorem execOp_store_ln (x y : Operand) : execOp ρ { dst, op := .store 25 x y, type := ty, pos, after, guard } = bigStore 25 (ρ x) (ρ y) := rfl
@[go_sem ↓] theorem execOp_alloc_ln : execOp ρ { dst, op := .alloc 25, type := ty, pos, after, guard } = bigAlloc 25 := rfl
@[go_sem ↓] theorem execOp_load_ln (x : Operand) : execOp ρ { dst, op := .load 25 x, type := ty, pos, after, guard } = bigLoad 25 (ρ x) := rfl
@[go_sem ↓] theorem execOp_box_ln (x : Operand) : execOp ρ { dst, op := .box 25 x, type := ty, pos, after, guard } = bigBox 25 (ρ x) := rfl
end
@[go_sem] theorem run_store_ln (w : World) (g : Nat) (c : Array Value) (h : rowL w g = true) (hs : (rowAt w g).size = 5) (hc : c.size = 5) (h1 : OneC c = true) : (bigStore 25 (.pointer (some ⟨g, 0, none⟩)) (.agg c)).run Tryz.prog w = .ok .skip (w.setRow g c) := by
  rw [run_bigStore 25 5 sizeT_ln w g 0 c h hc (by omega) h1, layC_all _ _ (by omega)]
@[go_sem] theorem run_alloc_ln (w : World) : (bigAlloc 25).run Tryz.prog w = .ok (.value (.pointer (some ⟨w.heap.size, 0, none⟩))) (w.alloc (.cells (rnA rnZ) 25)) := by
  simp only [bigAlloc, Instr.alloc, Sem.run_bind, (zero_of_info info_ln).1 w, Result.andThen_ok]
  rfl
@[go_sem] theorem run_load_ln (w : World) (g : Nat) (h : rowL w g = true) (hs : (rowAt w g).size = 5) : (bigLoad 25 (.pointer (some ⟨g, 0, none⟩))).run Tryz.prog w = .ok (.value (.agg (rowAt w g))) w := by
  rw [run_bigLoad 25 _ 5 Tryz.underlying25 rfl sizeT_ln w g 0 h (by omega), Nat.zero_add, Array.extract_eq_self_of_le (by omega)]
@[go_sem] theorem run_box_ln (w : World) (r : Rn) : (bigBox 25 (.agg (rnA r))).run Tryz.prog w = .ok (.value (.pointer (some ⟨w.heap.size, 0, none⟩))) (w.alloc (.cells (rnA r) 25)) := run_bigBox _ _ w
theorem eltV : Elt 53 27 16 := ⟨Tryz.underlying53, by
  have h : (Tryz.prog.info? 27).map (fun i => (i.zero, i.size, i.bytes)) = some (some .nilIface, 1, 16) := by kernel_rfl
  obtain ⟨i, hi, hzz⟩ := Option.map_eq_some_iff.1 h
  simp only [Prod.mk.injEq] at hzz
  exact ⟨i, _, hi, hzz.1, hzz.2.1, hzz.2.2, rfl⟩⟩
set_option linter.unusedVariables false
def LnF (w : World) (i1 : Rn) (i2 : Nd) : Prop := ∀ Q : Rn → Nd → Prop, (∀ (r : Rn) (kb : List ByteArray) (rs : List Rn) (vs : List Nd) (hk : IsG w r.ks.v (strs kb)) (hv : IsK lnE w r.vs.v rs) (hl : rs.length = vs.length) (hi : -9223372036854775808 ≤ r.n ∧ r.n ≤ 9223372036854775807) (hz : r.ks.n ≤ 1099511627776 ∧ r.vs.n ≤ 1099511627776) (hq : r.ks.n ≤ r.ks.c) (he : ∀ (i : Nat) a d, rs[i]? = some a → vs[i]? = some d → Q a d), Q r (.mk r.k r.n (lS r.s) (kb.map lS) vs)) → Q i1 i2
theorem LnF.mk {w : World} (r : Rn) (kb : List ByteArray) (rs : List Rn) (vs : List Nd) (hk : IsG w r.ks.v (strs kb)) (hv : IsK lnE w r.vs.v rs) (hl : rs.length = vs.length) (hi : -9223372036854775808 ≤ r.n ∧ r.n ≤ 9223372036854775807) (hz : r.ks.n ≤ 1099511627776 ∧ r.vs.n ≤ 1099511627776) (hq : r.ks.n ≤ r.ks.c) (he : ∀ (i : Nat) a d, rs[i]? = some a → vs[i]? = some d → LnF w a d) : LnF w r (.mk r.k r.n (lS r.s) (kb.map lS) vs) := fun Q q0 => q0 r kb rs vs hk hv hl hi hz hq (fun i a d hz0 hz1 => he i a d hz0 hz1 Q q0)
theorem LnF.rc {w : World} {M : ∀ (i1 : Rn) (i2 : Nd), LnF w i1 i2 → Prop} (mk : ∀ (r : Rn) (kb : List ByteArray) (rs : List Rn) (vs : List Nd) (hk : IsG w r.ks.v (strs kb)) (hv : IsK lnE w r.vs.v rs) (hl : rs.length = vs.length) (hi : -9223372036854775808 ≤ r.n ∧ r.n ≤ 9223372036854775807) (hz : r.ks.n ≤ 1099511627776 ∧ r.vs.n ≤ 1099511627776) (hq : r.ks.n ≤ r.ks.c) (he : ∀ (i : Nat) a d, rs[i]? = some a → vs[i]? = some d → LnF w a d), (∀ (i : Nat) a d (hz0 : rs[i]? = some a) (hz1 : vs[i]? = some d), M a d (he i a d hz0 hz1)) → M r (.mk r.k r.n (lS r.s) (kb.map lS) vs) (LnF.mk r kb rs vs hk hv hl hi hz hq he)) {i1 : Rn} {i2 : Nd} (h : LnF w i1 i2) : M i1 i2 h :=
  (h (fun i1 i2 => ∃ h9 : LnF w i1 i2, M i1 i2 h9) (fun r kb rs vs hk hv hl hi hz hq he => ⟨LnF.mk r kb rs vs hk hv hl hi hz hq (fun i a d hz0 hz1 => (he i a d hz0 hz1).1), mk r kb rs vs hk hv hl hi hz hq (fun i a d hz0 hz1 => (he i a d hz0 hz1).1) (fun i a d hz0 hz1 => (he i a d hz0 hz1).2)⟩)).2
theorem LnF.inv {w : World} {r : Rn} {k n : Int} {s : List UInt8} {ks : List (List UInt8)} {vs : List Nd} (h : LnF w r (.mk k n s ks vs)) : r.k = k ∧ r.n = n ∧ lS r.s = s ∧ ∃ kb rs, IsG w r.ks.v (strs kb) ∧ kb.map lS = ks ∧ IsK lnE w r.vs.v rs ∧ rs.length = vs.length ∧ (-9223372036854775808 ≤ r.n ∧ r.n ≤ 9223372036854775807) ∧ (r.ks.n ≤ 1099511627776 ∧ r.vs.n ≤ 1099511627776) ∧ r.ks.n ≤ r.ks.c ∧ ∀ (i : Nat) a d, rs[i]? = some a → vs[i]? = some d → LnF w a d := by
  cases h using LnF.rc with
  | mk r kb rs vs hk hv hl hi hz hq he r9 => clear r9; exact ⟨rfl, rfl, rfl, kb, rs, hk, rfl, hv, hl, hi, hz, hq, he⟩
theorem LnF.kept {w w1 : World} {r : Rn} {d : Nd} (h : LnF w r d) (hb : Below w.heap.size w w1) : LnF w1 r d := by
  induction h using LnF.rc with
  | mk r kb rs vs hk hv hl hi hz hq he ih => exact .mk r kb rs vs (hk.kept hb) (hv.kept hb) hl hi hz hq ih
def sprS : ByteArray := ⟨#[115, 112, 97, 114, 101]⟩
def sprV : Value := .iface 54 (.string sprS)
set_option linter.unusedVariables false
def VlS (w : World) (F : Nat → Prop) (i1 : Value) (i2 : Nd) : Prop := ∀ Q : Value → Nd → Prop, (∀ (k : Int) (hk : ¬ (1 ≤ k ∧ k ≤ 6)), Q .nilIface (.mk k 0 [] [] [])) → (Q (.iface 65 (.agg #[])) (.mk 1 0 [] [] [])) → (∀ (b : Bool), Q (.iface 66 (.bool b)) (.mk 2 (bif b then 1 else 0) [] [] [])) → (∀ (n : Int) (hn : -9223372036854775808 ≤ n ∧ n ≤ 9223372036854775807), Q (.iface 67 (.int .i64 n)) (.mk 3 n [] [] [])) → (∀ (s : ByteArray), Q (.iface 54 (.string s)) (.mk 4 0 (lS s) [] [])) → (∀ (g n c : Nat) (us : List Value) (ds : List Nd) (hg : F g) (ht : g < w.heap.size) (hc : n + 1 ≤ c) (hn : us.length = n) (hv : ∀ (j : Nat) u, (us ++ [sprV])[j]? = some u → w.cell? ⟨g, j, none⟩ = some u) (hl : us.length = ds.length) (hz : n ≤ 1099511627776) (he : ∀ (i : Nat) u d, us[i]? = some u → ds[i]? = some d → Q u d), Q (.iface 68 (.slice (some ⟨g, 0, none⟩) n c)) (.mk 5 0 [] [] ds)) → (∀ (q m e : Nat) (kb : List ByteArray) (g n c : Nat) (us : List Value) (ds : List Nd) (hq : F q) (htq : q < w.heap.size) (hqe : m + 1 ≤ e) (hm : kb.length = m) (hk : ∀ (j : Nat) u, (strs kb ++ [.string sprS])[j]? = some u → w.cell? ⟨q, j, none⟩ = some u) (hg : F g) (ht : g < w.heap.size) (hc : n + 1 ≤ c) (hn : us.length = n) (hv : ∀ (j : Nat) u, (us ++ [sprV])[j]? = some u → w.cell? ⟨g, j, none⟩ = some u) (hl : us.length = ds.length) (hz : n ≤ 1099511627776 ∧ m ≤ 1099511627776) (he : ∀ (i : Nat) u d, us[i]? = some u → ds[i]? = some d → Q u d), Q (.iface 70 (.agg #[.slice (some ⟨q, 0, none⟩) m e, .slice (some ⟨g, 0, none⟩) n c])) (.mk 6 0 [] (kb.map lS) ds)) → Q i1 i2
theorem VlS.nil {w : World} {F : Nat → Prop} (k : Int) (hk : ¬ (1 ≤ k ∧ k ≤ 6)) : VlS w F .nilIface (.mk k 0 [] [] []) := fun Q q0 q1 q2 q3 q4 q5 q6 => q0 k hk
theorem VlS.null {w : World} {F : Nat → Prop}  : VlS w F (.iface 65 (.agg #[])) (.mk 1 0 [] [] []) := fun Q q0 q1 q2 q3 q4 q5 q6 => q1
theorem VlS.bool {w : World} {F : Nat → Prop} (b : Bool) : VlS w F (.iface 66 (.bool b)) (.mk 2 (bif b then 1 else 0) [] [] []) := fun Q q0 q1 q2 q3 q4 q5 q6 => q2 b
theorem VlS.num {w : World} {F : Nat → Prop} (n : Int) (hn : -9223372036854775808 ≤ n ∧ n ≤ 9223372036854775807) : VlS w F (.iface 67 (.int .i64 n)) (.mk 3 n [] [] []) := fun Q q0 q1 q2 q3 q4 q5 q6 => q3 n hn
theorem VlS.str {w : World} {F : Nat → Prop} (s : ByteArray) : VlS w F (.iface 54 (.string s)) (.mk 4 0 (lS s) [] []) := fun Q q0 q1 q2 q3 q4 q5 q6 => q4 s
theorem VlS.list {w : World} {F : Nat → Prop} (g n c : Nat) (us : List Value) (ds : List Nd) (hg : F g) (ht : g < w.heap.size) (hc : n + 1 ≤ c) (hn : us.length = n) (hv : ∀ (j : Nat) u, (us ++ [sprV])[j]? = some u → w.cell? ⟨g, j, none⟩ = some u) (hl : us.length = ds.length) (hz : n ≤ 1099511627776) (he : ∀ (i : Nat) u d, us[i]? = some u → ds[i]? = some d → VlS w F u d) : VlS w F (.iface 68 (.slice (some ⟨g, 0, none⟩) n c)) (.mk 5 0 [] [] ds) := fun Q q0 q1 q2 q3 q4 q5 q6 => q5 g n c us ds hg ht hc hn hv hl hz (fun i u d hz0 hz1 => he i u d hz0 hz1 Q q0 q1 q2 q3 q4 q5 q6)
theorem VlS.obj {w : World} {F : Nat → Prop} (q m e : Nat) (kb : List ByteArray) (g n c : Nat) (us : List Value) (ds : List Nd) (hq : F q) (htq : q < w.heap.size) (hqe : m + 1 ≤ e) (hm : kb.length = m) (hk : ∀ (j : Nat) u, (strs kb ++ [.string sprS])[j]? = some u → w.cell? ⟨q, j, none⟩ = some u) (hg : F g) (ht : g < w.heap.size) (hc : n + 1 ≤ c) (hn : us.length = n) (hv : ∀ (j : Nat) u, (us ++ [sprV])[j]? = some u → w.cell? ⟨g, j, none⟩ = some u) (hl : us.length = ds.length) (hz : n ≤ 1099511627776 ∧ m ≤ 1099511627776) (he : ∀ (i : Nat) u d, us[i]? = some u → ds[i]? = some d → VlS w F u d) : VlS w F (.iface 70 (.agg #[.slice (some ⟨q, 0, none⟩) m e, .slice (some ⟨g, 0, none⟩) n c])) (.mk 6 0 [] (kb.map lS) ds) := fun Q q0 q1 q2 q3 q4 q5 q6 => q6 q m e kb g n c us ds hq htq hqe hm hk hg ht hc hn hv hl hz (fun i u d hz0 hz1 => he i u d hz0 hz1 Q q0 q1 q2 q3 q4 q5 q6)
theorem VlS.rc {w : World} {F : Nat → Prop} {M : ∀ (i1 : Value) (i2 : Nd), VlS w F i1 i2 → Prop} (nil : ∀ (k : Int) (hk : ¬ (1 ≤ k ∧ k ≤ 6)), M .nilIface (.mk k 0 [] [] []) (VlS.nil k hk)) (null : M (.iface 65 (.agg #[])) (.mk 1 0 [] [] []) (VlS.null)) (bool : ∀ (b : Bool), M (.iface 66 (.bool b)) (.mk 2 (bif b then 1 else 0) [] [] []) (VlS.bool b)) (num : ∀ (n : Int) (hn : -9223372036854775808 ≤ n ∧ n ≤ 9223372036854775807), M (.iface 67 (.int .i64 n)) (.mk 3 n [] [] []) (VlS.num n hn)) (str : ∀ (s : ByteArray), M (.iface 54 (.string s)) (.mk 4 0 (lS s) [] []) (VlS.str s)) (list : ∀ (g n c : Nat) (us : List Value) (ds : List Nd) (hg : F g) (ht : g < w.heap.size) (hc : n + 1 ≤ c) (hn : us.length = n) (hv : ∀ (j : Nat) u, (us ++ [sprV])[j]? = some u → w.cell? ⟨g, j, none⟩ = some u) (hl : us.length = ds.length) (hz : n ≤ 1099511627776) (he : ∀ (i : Nat) u d, us[i]? = some u → ds[i]? = some d → VlS w F u d), (∀ (i : Nat) u d (hz0 : us[i]? = some u) (hz1 : ds[i]? = some d), M u d (he i u d hz0 hz1)) → M (.iface 68 (.slice (some ⟨g, 0, none⟩) n c)) (.mk 5 0 [] [] ds) (VlS.list g n c us ds hg ht hc hn hv hl hz he)) (obj : ∀ (q m e : Nat) (kb : List ByteArray) (g n c : Nat) (us : List Value) (ds : List Nd) (hq : F q) (htq : q < w.heap.size) (hqe : m + 1 ≤ e) (hm : kb.length = m) (hk : ∀ (j : Nat) u, (strs kb ++ [.string sprS])[j]? = some u → w.cell? ⟨q, j, none⟩ = some u) (hg : F g) (ht : g < w.heap.size) (hc : n + 1 ≤ c) (hn : us.length = n) (hv : ∀ (j : Nat) u, (us ++ [sprV])[j]? = some u → w.cell? ⟨g, j, none⟩ = some u) (hl : us.length = ds.length) (hz : n ≤ 1099511627776 ∧ m ≤ 1099511627776) (he : ∀ (i : Nat) u d, us[i]? = some u → ds[i]? = some d → VlS w F u d), (∀ (i : Nat) u d (hz0 : us[i]? = some u) (hz1 : ds[i]? = some d), M u d (he i u d hz0 hz1)) → M (.iface 70 (.agg #[.slice (some ⟨q, 0, none⟩) m e, .slice (some ⟨g, 0, none⟩) n c])) (.mk 6 0 [] (kb.map lS) ds) (VlS.obj q m e kb g n c us ds hq htq hqe hm hk hg ht hc hn hv hl hz he)) {i1 : Value} {i2 : Nd} (h : VlS w F i1 i2) : M i1 i2 h :=
  (h (fun i1 i2 => ∃ h9 : VlS w F i1 i2, M i1 i2 h9) (fun k hk => ⟨VlS.nil k hk, nil k hk⟩) (⟨VlS.null, null⟩) (fun b => ⟨VlS.bool b, bool b⟩) (fun n hn => ⟨VlS.num n hn, num n hn⟩) (fun s => ⟨VlS.str s, str s⟩) (fun g n c us ds hg ht hc hn hv hl hz he => ⟨VlS.list g n c us ds hg ht hc hn hv hl hz (fun i u d hz0 hz1 => (he i u d hz0 hz1).1), list g n c us ds hg ht hc hn hv hl hz (fun i u d hz0 hz1 => (he i u d hz0 hz1).1) (fun i u d hz0 hz1 => (he i u d hz0 hz1).2)⟩) (fun q m e kb g n c us ds hq htq hqe hm hk hg ht hc hn hv hl hz he => ⟨VlS.obj q m e kb g n c us ds hq htq hqe hm hk hg ht hc hn hv hl hz (fun i u d hz0 hz1 => (he i u d hz0 hz1).1), obj q m e kb g n c us ds hq htq hqe hm hk hg ht hc hn hv hl hz (fun i u d hz0 hz1 => (he i u d hz0 hz1).1) (fun i u d hz0 hz1 => (he i u d hz0 hz1).2)⟩)).2
theorem isG_of {w : World} {g n c : Nat} {us : List Value} {x : Value} (hn : us.length = n) (hv : ∀ (j : Nat) u, (us ++ [x])[j]? = some u → w.cell? ⟨g, j, none⟩ = some u) : IsG w (.slice (some ⟨g, 0, none⟩) n c) us := by
  subst hn
  refine .inr ⟨⟨g, 0, none⟩, c, rfl, fun i hi => ?_⟩
  rw [addr_add, Nat.zero_add]
  exact hv i _ (by rw [List.getElem?_append_left hi]; exact List.getElem?_eq_getElem hi)
theorem VlS.g {w : World} {F : Nat → Prop} {v : Value} {d : Nd} (h : VlS w F v d) : VlG w F v d := by
  induction h using VlS.rc with
  | nil k hk => exact .nil k hk
  | null => exact .null
  | bool b => exact .bool b
  | num n hn => exact .num n hn
  | str s => exact .str s
  | list g n c us ds hg ht hc hn hv hl hz he ih => exact .list ⟨some ⟨g, 0, none⟩, n, c⟩ us ds (isG_of hn hv) (fun _ p hp => by cases hp; exact hg) hl (by show n ≤ _; omega) ih
  | obj q m e kb g n c us ds hq htq hqe hm hk hg ht hc hn hv hl hz he ih => exact .obj ⟨some ⟨q, 0, none⟩, m, e⟩ ⟨some ⟨g, 0, none⟩, n, c⟩ kb us ds (isG_of (by simpa [strs] using hm) hk) (fun _ p hp => by cases hp; exact hq) (isG_of hn hv) (fun _ p hp => by cases hp; exact hg) hl ⟨by show m ≤ _; omega, by show n ≤ _; omega⟩ ih
theorem VlS.ag {w w1 : World} {F G : Nat → Prop} {v : Value} {d : Nd} (h : VlS w F v d) (hs : w.heap.size ≤ w1.heap.size) (hb : ∀ b, F b → b < w.heap.size → G b ∧ w1.heap[b]? = w.heap[b]?) : VlS w1 G v d := by
  induction h using VlS.rc with
  | nil k hk => exact .nil k hk
  | null => exact .null
  | bool b => exact .bool b
  | num n hn => exact .num n hn
  | str s => exact .str s
  | list g n c us ds hg ht hc hn hv hl hz he ih =>
    obtain ⟨h1, h2⟩ := hb g hg ht
    exact .list g n c us ds h1 (by omega) hc hn (fun j u hu => by rw [World.cell?_of_block (w := w) (a := ⟨g, j, none⟩) h2]; exact hv j u hu) hl hz ih
  | obj q m e kb g n c us ds hq htq hqe hm hk hg ht hc hn hv hl hz he ih =>
    obtain ⟨h1, h2⟩ := hb g hg ht
    obtain ⟨h3, h4⟩ := hb q hq htq
    exact .obj q m e kb g n c us ds h3 (by omega) hqe hm (fun j u hu => by rw [World.cell?_of_block (w := w) (a := ⟨q, j, none⟩) h4]; exact hk j u hu) h1 (by omega) hc hn (fun j u hu => by rw [World.cell?_of_block (w := w) (a := ⟨g, j, none⟩) h2]; exact hv j u hu) hl hz ih
theorem VlS.kept {w w1 : World} {F : Nat → Prop} {v : Value} {d : Nd} (h : VlS w F v d) (hb : Below w.heap.size w w1) : VlS w1 F v d := h.ag hb.size fun b hF hl => ⟨hF, hb.block b hl⟩
theorem VlS.one {w : World} {F : Nat → Prop} {v : Value} {d : Nd} (h : VlS w F v d) : v.oneCell' = true := by cases h using VlS.rc <;> rfl
def IfV (x : Value) : Prop := x = .nilIface ∨ ∃ t p, x = .iface t p
def vlBS (x : Value) : Sem Next := do pure (.value (← Instr.buildSlice 53 1 #[(0, x)]))
section
variable (ρ : Operand → Value) (dst : Option Tmp) (ty : TypeId) (pos : String) (after : Array Edge) (guard : Option (Nat × Bool))
@[go_sem ↓] theorem execOp_vlBS (x : Operand) : execOp ρ { dst, op := .buildSlice 53 1 #[(0, x)], type := ty, pos, after, guard } = vlBS (ρ x) := by simp [execOp, vlBS]
end
@[go_sem] theorem run_vlBS (w : World) (x : Value) (h : IfV x) : (vlBS x).run Tryz.prog w = .ok (.value (.slice (some ⟨w.heap.size, 0, none⟩) 1 1)) (w.alloc (.cells #[x] 27)) := by
  have hI : (Tryz.prog.info? 27).map (fun i => (i.zero, i.size, i.bytes)) = some (some .nilIface, 1, 16) := by kernel_rfl
  obtain ⟨i, hi, hzz⟩ := Option.map_eq_some_iff.1 hI
  simp only [Prod.mk.injEq] at hzz
  have h2 : (Instr.buildSlice 53 1 #[(0, x)]).run Tryz.prog w = .ok (.slice (some ⟨w.heap.size, 0, none⟩) 1 1) (w.alloc (.cells #[x] 27)) := by
    refine run_buildSlice (P := Tryz.prog) w 53 27 1 _ #[x] i .nilIface Tryz.underlying53 hi hzz.1 (by rw [hzz.2.1]; decide) (by rw [hzz.2.1]; decide) ?_
    rw [hzz.2.1]
    rcases h with rfl | ⟨t, p, rfl⟩
    all_goals simp only [Instr.fill, Value.cells]
    all_goals simp
    all_goals apply Array.ext
    all_goals first | (simp; done) | skip
    all_goals intro q h1 h2
    all_goals
      have h3 : q = 0 := by simp at h2; omega
      subst h3
      simp
  simp only [vlBS, Sem.run_bind, h2]
  rfl
@[go_sem] theorem ifv_spr : IfV (.iface 54 (.string sprS)) := .inr ⟨_, _, rfl⟩
@[go_sem] theorem ifv_any (t : TypeId) (p : Value) : IfV (.iface t p) := .inr ⟨_, _, rfl⟩
/-- A list of such values that grows. -/
structure VsL (w : World) (B : Nat) (v : Sl) (us : List Value) (ds : List Nd) : Prop where
  own : OwnG 27 w B v.v us
  len : us.length = ds.length
  el : ∀ (i : Nat) u d, us[i]? = some u → ds[i]? = some d → VlS w (fun b => B ≤ b ∧ v.v.ownBlock ≠ some b) u d
theorem VsL.nil (w : World) (B : Nat) : VsL w B slZ [] [] := ⟨OwnG.nil _ w B, rfl, fun i u d h => absurd h (by simp)⟩
theorem VsL.kept {w w1 : World} {B : Nat} {v : Sl} {us : List Value} {ds : List Nd} (h : VsL w B v us ds) (hb : Below w.heap.size w w1) : VsL w1 B v us ds := ⟨h.own.keep hb, h.len, fun i u d h1 h2 => (h.el i u d h1 h2).kept hb⟩
/-- append(v, u): where the answer lies. -/
theorem app1L {t e : TypeId} {bytes : Nat} (EL : Elt t e bytes) (w : World) (B y : Nat) (v : Value) (xs : List Value) (u : Value) (ty : TypeId) (h : OwnG e w B v xs) (hy : w.cell? ⟨y, 0, none⟩ = some u) (hu : u.oneCell' = true) (hl : (xs.length + 1) * bytes ≤ 140737488355328) (h63 : xs.length + 1 ≤ maxLen) (hb : B ≤ w.heap.size) :
    ∃ g c' w', (Builtin.append_ #[t, t] ty #[v, .slice (some ⟨y, 0, none⟩) 1 1]).run Tryz.prog w = .ok (.slice (some ⟨g, 0, none⟩) (xs.length + 1) c') w' ∧ OwnG e w' B (.slice (some ⟨g, 0, none⟩) (xs.length + 1) c') (xs ++ [u]) ∧ w.grownBy w' v.ownBlock ∧ (v.ownBlock = some g ∨ g = w.heap.size) := by
  obtain ⟨i, z, hi, hz, hsz, hby, hzs⟩ := EL.info
  obtain ⟨g, c', w', hr, hO, hg, hway, -⟩ := run_append_lies (P := Tryz.prog) w t ty B e i z 1 bytes EL.ht hi hz hsz hby hzs (by omega) v xs.length xs h ⟨y, 0, none⟩ 1 1 [u] (by simp) (fun j x hx => by
    rcases j with _ | j
    · simp at hx; subst hx; rw [addr_add]; exact hy
    · simp at hx) (by simpa using hu) (by omega) h63 hl hb _ rfl
  exact ⟨g, c', w', hr, by unfold OwnG; rw [List.length_append]; exact hO, hg, hway⟩
/-- append(v, u): u's own lists lie in blocks from H on. -/
theorem VsL.app {w : World} {B H y : Nat} {v : Sl} {us : List Value} {ds : List Nd} {u : Value} (ty : TypeId) (h : VsL w B v us ds) (hB : B ≤ H) (hy : w.cell? ⟨y, 0, none⟩ = some u) (hu1 : u.oneCell' = true) (hv : ∀ b, v.v.ownBlock = some b → b < H) (hH : H ≤ w.heap.size) (hn : us.length ≤ 1099511627776) :
    ∃ a w', (Builtin.append_ #[53, 53] ty #[v.v, .slice (some ⟨y, 0, none⟩) 1 1]).run Tryz.prog w = .ok a.v w' ∧ OwnG 27 w' B a.v (us ++ [u]) ∧ w.grownBy w' v.v.ownBlock ∧ (∃ g, a.x = some ⟨g, 0, none⟩ ∧ (v.v.ownBlock = some g ∨ g = w.heap.size)) ∧ a.n = us.length + 1 ∧ us.length + 1 ≤ a.c ∧
      (∀ (i : Nat) x d, us[i]? = some x → ds[i]? = some d → VlS w' (fun b => B ≤ b ∧ a.v.ownBlock ≠ some b) x d) ∧ (∀ d, VlS w (H ≤ ·) u d → VsL w' B a (us ++ [u]) (ds ++ [d])) := by
  have hm : maxLen = 9223372036854775807 := rfl
  obtain ⟨g, c', w', hrun, hO, hg, hw⟩ := app1L eltV w B y v.v us u ty h.own hy hu1 (by omega) (by omega) (by omega)
  have hoff : ∀ b, v.v.ownBlock ≠ some b → b < w.heap.size → w'.heap[b]? = w.heap[b]? := fun b hb hl => hg.block b hl (fun e => hb e.symm)
  have hG : ∀ b, v.v.ownBlock ≠ some b → b < w.heap.size → (Sl.v ⟨some ⟨g, 0, none⟩, us.length + 1, c'⟩).ownBlock ≠ some b := fun b hb hl e => by
    have e9 : g = b := by
      simp only [Sl.v, Value.ownBlock, Option.some.injEq] at e
      exact e
    rcases hw with hw | hw
    · exact hb (by rw [hw, e9])
    · omega
  have old : ∀ (i : Nat) x d, us[i]? = some x → ds[i]? = some d → VlS w' (fun b => B ≤ b ∧ (Sl.v ⟨some ⟨g, 0, none⟩, us.length + 1, c'⟩).ownBlock ≠ some b) x d := fun i x d h1 h2 => (h.el i x d h1 h2).ag hg.size fun b hb hl => ⟨⟨hb.1, hG b hb.2 hl⟩, hoff b hb.2 hl⟩
  refine ⟨⟨some ⟨g, 0, none⟩, us.length + 1, c'⟩, w', hrun, hO, hg, ⟨g, rfl, hw⟩, rfl, ?_, old, fun d hd => ⟨hO, by simp [h.len], fun i x e h1 h2 => ?_⟩⟩
  · obtain ⟨g9, c9, he, -, -, h8, -⟩ := hO.form (by simp)
    have he2 : c' = c9 := by
      have h9 := he
      simp only [Value.slice.injEq] at h9
      exact h9.2.2
    rw [List.length_append, List.length_singleton] at h8
    show us.length + 1 ≤ c'
    omega
  · rcases Nat.lt_or_ge i us.length with hi | hi
    · rw [List.getElem?_append_left hi] at h1
      rw [List.getElem?_append_left (by rw [← h.len]; exact hi)] at h2
      exact old i x e h1 h2
    · rw [List.getElem?_append_right hi] at h1
      rw [List.getElem?_append_right (by rw [← h.len]; exact hi), ← h.len] at h2
      have hi0 : i - us.length = 0 := by
        rcases Nat.eq_zero_or_pos (i - us.length) with h0 | h0
        · exact h0
        · rw [List.getElem?_eq_none (by simp; omega)] at h1; cases h1
      rw [hi0] at h1 h2
      cases h1
      cases h2
      refine hd.ag hg.size fun b hb hl => ?_
      have hne : v.v.ownBlock ≠ some b := fun e9 => by have := hv b e9; omega
      exact ⟨⟨by omega, hG b hne hl⟩, hoff b hne hl⟩
end Go.Proofs.YtddmmmfpdmejbaaGreatDoor
namespace Go.Proofs.YtddmmmfpdmejbaaGreatDoor
open Go.RowKit

/-! assaylaw15.whole -/
end Go.Proofs.YtddmmmfpdmejbaaGreatDoor
namespace Go.Proofs.YtddmmmfpdmejbaaGreatDoor
open Go.RowKit

/-! The keys of an object that made makes: what holds while they are laid -/
structure IM (B : Nat) (kb : List ByteArray) (lv : Value) (d : Nat → Bool) (u : Nat → Value) (x : World) : Prop where
  sz : B ≤ x.heap.size
  f0 : d 0 = true → d 3 = false → ∃ y, u 0 = .slice (some ⟨y, 0, none⟩) 0 0 ∧ B ≤ y ∧ OwnG 9 x y (.slice (some ⟨y, 0, none⟩) 0 0) []
  f3 : d 3 = true → d 5 = false → ∃ a : Sl, u 3 = a.v ∧ OwnG 9 x B a.v (strs kb)
  f4 : d 4 = true → d 5 = false → ∃ z, u 4 = .slice (some ⟨z, 0, none⟩) 1 1 ∧ x.cell? ⟨z, 0, none⟩ = some (.string sprS)
  f5 : d 5 = true → d 3 = true ∧ ∃ q e, u 5 = .slice (some ⟨q, 0, none⟩) (kb.length + 1) e ∧ OwnG 9 x B (.slice (some ⟨q, 0, none⟩) (kb.length + 1) e) (strs kb ++ [.string sprS])
  f9 : d 9 = true → d 5 = true ∧ ∃ q e, u 5 = .slice (some ⟨q, 0, none⟩) (kb.length + 1) e ∧ u 9 = .slice (some ⟨q, 0, none⟩) kb.length e
  f11 : d 11 = true → d 9 = true ∧ u 11 = .agg #[u 9, lv]
  f12 : d 12 = true → d 11 = true ∧ u 12 = .iface 70 (u 11)
  f13 : d 13 = true → d 12 = true ∧ u 13 = u 12
variable {B : Nat} {kb : List ByteArray} {lv : Value}
theorem IM.start {x : World} (h : B ≤ x.heap.size) : IM B kb lv (fun _ => false) (fun _ => undef) x :=
  ⟨h, nofun, nofun, nofun, nofun, nofun, nofun, nofun, nofun⟩
end Go.Proofs.YtddmmmfpdmejbaaGreatDoor
namespace Go.Proofs.YtddmmmfpdmejbaaGreatDoor
open Go.RowKit

/-! assaylaw15.made -/
end Go.Proofs.YtddmmmfpdmejbaaGreatDoor
namespace Go.Proofs.YtddmmmfpdmejbaaGreatDoor
open Go.RowKit

/-! assaylaw15.meant -/
/-- The list with one more behind it: what holds behind the call, the slice that is built, and append. -/
def IT1 (B : Nat) (v : Sl) (rs : List Rn) (vs : List Nd) (d : Nd) (r : Rn) (x : World) : Prop :=
  LsO x B (fun _ => False) v rs vs ∧ ∃ H, B ≤ H ∧ H ≤ x.heap.size ∧ (∀ b, v.v.ownBlock = some b → b < H) ∧ NdF x (H ≤ ·) r d
def IT (g7 : Nat) (ra ld : Rn) (dl : Nd) (B : Nat) (v : Sl) (rs : List Rn) (vs : List Nd) (d : Nd) : List Value → World → Prop
  | [], x => LsO x B (fun _ => False) v rs vs ∧ B ≤ x.heap.size ∧ RowC x g7 (rnA ra) ∧ LnF x ld dl
  | [a], x => ∃ r, a = .agg (rnA r) ∧ IT1 B v rs vs d r x
  | [_, c], x => ∃ r y, c = .slice (some ⟨y, 0, none⟩) 1 1 ∧ RowC x y (rnA r) ∧ IT1 B v rs vs d r x
  | [_, _, q], x => ∃ (r : Rn) (a : Sl), q = a.v ∧ B ≤ x.heap.size ∧ LsO x B (fun _ => False) a (rs ++ [r]) (vs ++ [d])
  | _, _ => False
section
variable {g7 : Nat} {ra ld : Rn} {dl : Nd} {B : Nat} {v : Sl} {rs : List Rn} {vs : List Nd} {d : Nd}
theorem IT.call {x x' : World} {r : Rn} (h : IT g7 ra ld dl B v rs vs d [] x) (hN : NdF x' (x.heap.size ≤ ·) r d) (hb : Below x.heap.size x x') : IT g7 ra ld dl B v rs vs d [.agg (rnA r)] x' := by
  obtain ⟨h1, h2, h3, h4⟩ := h
  exact ⟨r, rfl, h1.later hb, x.heap.size, h2, hb.size, fun b hb => (h1.lt b hb).2, hN⟩
theorem IT.app {x : World} {a c : Value} (g : Nat) (ty : TypeId) (h : IT g7 ra ld dl B v rs vs d [a, c] x) (hn : rs.length ≤ 1099511627776) :
    ∃ q x', (Builtin.append_ #[39, 39] ty #[v.v, c]).run Tryz.prog x = .ok q x' ∧ IT g7 ra ld dl B v rs vs d [a, c, q] x' ∧ Kj g B x x' := by
  obtain ⟨r, y, rfl, hy, hL, H, h1, h2, h3, h5⟩ := h
  obtain ⟨q, x', hrun, hO, hg, -⟩ := hL.app ty h1 hy (fun b hb => hb.elim) h3 h5 h2 (by omega)
  exact ⟨q.v, x', hrun, ⟨r, q, rfl, by have := hg.size; omega, hO⟩, Kj.own hg (fun b e => (hL.lt b e).1)⟩
end
end Go.Proofs.YtddmmmfpdmejbaaGreatDoor
namespace Go.Proofs.YtddmmmfpdmejbaaGreatDoor
open Go.RowKit

/-! assaylaw15.spare -/
@[go_sem] theorem eqg_spr (a b : Operand) (w : World) : (eqGuard .eql 27 a b sprV sprV).run Tryz.prog w = .ok () w := by kernel_rfl
@[go_sem] theorem eq_spr (w : World) : (binOp .eql 27 sprV sprV).run Tryz.prog w = .ok (.bool true) w := by kernel_rfl
end Go.Proofs.YtddmmmfpdmejbaaGreatDoor
namespace Go.Proofs.YtddmmmfpdmejbaaGreatDoor
open Go.RowKit

/-! assaylaw15.plain of a value with a nil in it -/
end Go.Proofs.YtddmmmfpdmejbaaGreatDoor
namespace Go.Proofs.YtddmmmfpdmejbaaGreatDoor
open Go.RowKit

/-! assaylaw15.equal -/
set_option linter.unusedSimpArgs false in
set_option maxRecDepth 100000 in
set_option maxHeartbeats 8000000 in
theorem equal15_any (d : Nd) (F G : Nat → Prop) (u v : Value) (w : World) (hu : VlF w F u d) (hv : VlF w G v d) : Calls Tryz.prog 12 #[u, v] w fun e w' => e = .returned (.bool true) ∧ Below w.heap.size w w' := by
  have k1 := plain15_any d w F u hu
  go_enter Tryz.func12, Tryz.ntmps12
  go_wp2_with fail
  refine k1.mono ?_
  rintro e w1 ⟨r1, rfl, hN1, hb1⟩
  clear k1
  have b1 := below_alloc w1 (.cells (rnA r1) 41)
  have rA := RowC.new w1 (rnA r1) 41
  have hNA := hN1.kept b1
  have B1 := hb1.trans (b1.mono hb1.size)
  have hv1 := hv.kept B1
  go_upto_region 2 with fail
  obtain ⟨g5, hg5⟩ : ∃ q, w1.heap.size = q := ⟨_, rfl⟩
  rw [hg5] at rA ⊢
  generalize w1.alloc (.cells (rnA r1) 41) = X at rA hNA B1 hv1 ⊢
  clear hu hv hN1 hb1 b1
  have k2 := plain15_any d X G v hv1
  go_wp2_with fail
  refine k2.mono ?_
  rintro e w2 ⟨r2, rfl, hN2, hb2⟩
  clear k2 hv1
  have b2 := below_alloc w2 (.cells (rnA r2) 41)
  have rB := RowC.new w2 (rnA r2) 41
  have rA2 := (rA.kept hb2).kept b2
  have hNA2 := (hNA.kept hb2).kept b2
  have hNB := hN2.kept b2
  have B2 := B1.trans (hb2.mono B1.size)
  have B3 := B2.trans (b2.mono B2.size)
  go_upto_region 3 with fail
  obtain ⟨g7, hg7⟩ : ∃ q, w2.heap.size = q := ⟨_, rfl⟩
  rw [hg7] at rB ⊢
  generalize w2.alloc (.cells (rnA r2) 41) = Z at rA2 rB hNA2 hNB B3 ⊢
  have k3 := same15_any d Z _ _ r1 r2 hNA2 hNB
  obtain ⟨a1, a2⟩ := id rA2
  have a3 : (rowAt Z g5).size = 5 := by rw [a2]; rfl
  obtain ⟨d1, d2⟩ := id rB
  have d3 : (rowAt Z g7).size = 5 := by rw [d2]; rfl
  clear hNA2 hNB hN2 hNA b2 hb2 B2 rA B1
  go_wp2_with fail
  refine k3.mono ?_
  rintro e w9 ⟨rfl, hb9⟩
  clear k3
  have B9 := B3.trans (hb9.mono B3.size)
  go_wp2
  go_ret
  exact ⟨rfl, B9⟩
end Go.Proofs.YtddmmmfpdmejbaaGreatDoor
