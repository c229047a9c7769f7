import Derived.Test.YtddmmmfpdmejbaaGreatDoorQJow
import Derived.Test.YtddmmmfpdmejbaaGreatDoorQJpu
import Derived.Test.YtddmmmfpdmejbaaGreatDoorQNum
import Derived.Lib.SmallJoins
namespace Go.Proofs.YtddmmmfpdmejbaaGreatDoor
open Go.RowKit

/-! Print's and Field's mathematics; what json owes; assaylaw15.known, read -/
/-! What json owes -/
def JpP (q : Nd × Int × Int) (w : World) (e : Ending) (w' : World) : Prop := ∃ v, e = .returned (.tuple #[v, .int .i64 q.2.1, .int .i64 q.2.2]) ∧ (q.2.1 = 0 → VlF w' (w.heap.size ≤ ·) v q.1) ∧ (q.2.1 ≠ 0 → v = .nilIface) ∧ Below w.heap.size w w'
/-- The lists are its own, no two of them one. -/
def JoP (q : Nd × Int × Int) (w : World) (e : Ending) (w' : World) : Prop := ∃ v, e = .returned (.tuple #[v, .int .i64 q.2.1, .int .i64 q.2.2]) ∧ (q.2.1 = 0 → ∃ L K, VlO w' w.heap.size v q.1 L K ∧ (blks L K).Nodup) ∧ (q.2.1 ≠ 0 → v = .nilIface) ∧ Below w.heap.size w w'
theorem JoP.jp {q : Nd × Int × Int} {w w' : World} {e : Ending} (h : JoP q w e w') : JpP q w e w' := by
  obtain ⟨v, he, h0, h1, hb⟩ := h
  exact ⟨v, he, fun hq => by obtain ⟨L, K, hv, -⟩ := h0 hq; exact hv.f, h1, hb⟩
def PtP (d : Nd) (w : World) (e : Ending) (w' : World) : Prop := e = .returned (.tuple #[.string ⟨(prtS d).toArray⟩, .int .i64 (prtE d)]) ∧ Below w.heap.size w w'
set_option linter.unusedVariables false
def VlG (w : World) (F : Nat → Prop) (i1 : Value) (i2 : Nd) : Prop := ∀ Q : Value → Nd → Prop, (∀ (k : Int) (hk : ¬ (1 ≤ k ∧ k ≤ 6)), Q .nilIface (.mk k 0 [] [] [])) → (Q (.iface 65 (.agg #[])) (.mk 1 0 [] [] [])) → (∀ (b : Bool), Q (.iface 66 (.bool b)) (.mk 2 (bif b then 1 else 0) [] [] [])) → (∀ (n : Int) (hn : -9223372036854775808 ≤ n ∧ n ≤ 9223372036854775807), Q (.iface 67 (.int .i64 n)) (.mk 3 n [] [] [])) → (∀ (s : ByteArray), Q (.iface 54 (.string s)) (.mk 4 0 (lS s) [] [])) → (∀ (a : Sl) (us : List Value) (ds : List Nd) (hv : IsG w a.v us) (hF : a.In F) (hl : us.length = ds.length) (hz : a.n ≤ 1759218604441) (he : ∀ (i : Nat) u d, us[i]? = some u → ds[i]? = some d → Q u d), Q (.iface 68 a.v) (.mk 5 0 [] [] ds)) → (∀ (ks a : Sl) (kb : List ByteArray) (us : List Value) (ds : List Nd) (hk : IsG w ks.v (strs kb)) (hkF : ks.In F) (hv : IsG w a.v us) (hF : a.In F) (hl : us.length = ds.length) (hz : ks.n ≤ 8796093022208 ∧ a.n ≤ 1759218604441) (he : ∀ (i : Nat) u d, us[i]? = some u → ds[i]? = some d → Q u d), Q (.iface 70 (.agg #[ks.v, a.v])) (.mk 6 0 [] (kb.map lS) ds)) → Q i1 i2
theorem VlG.nil {w : World} {F : Nat → Prop} (k : Int) (hk : ¬ (1 ≤ k ∧ k ≤ 6)) : VlG w F .nilIface (.mk k 0 [] [] []) := fun Q q0 q1 q2 q3 q4 q5 q6 => q0 k hk
theorem VlG.null {w : World} {F : Nat → Prop}  : VlG w F (.iface 65 (.agg #[])) (.mk 1 0 [] [] []) := fun Q q0 q1 q2 q3 q4 q5 q6 => q1
theorem VlG.bool {w : World} {F : Nat → Prop} (b : Bool) : VlG w F (.iface 66 (.bool b)) (.mk 2 (bif b then 1 else 0) [] [] []) := fun Q q0 q1 q2 q3 q4 q5 q6 => q2 b
theorem VlG.num {w : World} {F : Nat → Prop} (n : Int) (hn : -9223372036854775808 ≤ n ∧ n ≤ 9223372036854775807) : VlG w F (.iface 67 (.int .i64 n)) (.mk 3 n [] [] []) := fun Q q0 q1 q2 q3 q4 q5 q6 => q3 n hn
theorem VlG.str {w : World} {F : Nat → Prop} (s : ByteArray) : VlG w F (.iface 54 (.string s)) (.mk 4 0 (lS s) [] []) := fun Q q0 q1 q2 q3 q4 q5 q6 => q4 s
theorem VlG.list {w : World} {F : Nat → Prop} (a : Sl) (us : List Value) (ds : List Nd) (hv : IsG w a.v us) (hF : a.In F) (hl : us.length = ds.length) (hz : a.n ≤ 1759218604441) (he : ∀ (i : Nat) u d, us[i]? = some u → ds[i]? = some d → VlG w F u d) : VlG w F (.iface 68 a.v) (.mk 5 0 [] [] ds) := fun Q q0 q1 q2 q3 q4 q5 q6 => q5 a us ds hv hF hl hz (fun i u d hz0 hz1 => he i u d hz0 hz1 Q q0 q1 q2 q3 q4 q5 q6)
theorem VlG.obj {w : World} {F : Nat → Prop} (ks a : Sl) (kb : List ByteArray) (us : List Value) (ds : List Nd) (hk : IsG w ks.v (strs kb)) (hkF : ks.In F) (hv : IsG w a.v us) (hF : a.In F) (hl : us.length = ds.length) (hz : ks.n ≤ 8796093022208 ∧ a.n ≤ 1759218604441) (he : ∀ (i : Nat) u d, us[i]? = some u → ds[i]? = some d → VlG w F u d) : VlG w F (.iface 70 (.agg #[ks.v, a.v])) (.mk 6 0 [] (kb.map lS) ds) := fun Q q0 q1 q2 q3 q4 q5 q6 => q6 ks a kb us ds hk hkF hv hF hl hz (fun i u d hz0 hz1 => he i u d hz0 hz1 Q q0 q1 q2 q3 q4 q5 q6)
theorem VlG.rc {w : World} {F : Nat → Prop} {M : ∀ (i1 : Value) (i2 : Nd), VlG w F i1 i2 → Prop} (nil : ∀ (k : Int) (hk : ¬ (1 ≤ k ∧ k ≤ 6)), M .nilIface (.mk k 0 [] [] []) (VlG.nil k hk)) (null : M (.iface 65 (.agg #[])) (.mk 1 0 [] [] []) (VlG.null)) (bool : ∀ (b : Bool), M (.iface 66 (.bool b)) (.mk 2 (bif b then 1 else 0) [] [] []) (VlG.bool b)) (num : ∀ (n : Int) (hn : -9223372036854775808 ≤ n ∧ n ≤ 9223372036854775807), M (.iface 67 (.int .i64 n)) (.mk 3 n [] [] []) (VlG.num n hn)) (str : ∀ (s : ByteArray), M (.iface 54 (.string s)) (.mk 4 0 (lS s) [] []) (VlG.str s)) (list : ∀ (a : Sl) (us : List Value) (ds : List Nd) (hv : IsG w a.v us) (hF : a.In F) (hl : us.length = ds.length) (hz : a.n ≤ 1759218604441) (he : ∀ (i : Nat) u d, us[i]? = some u → ds[i]? = some d → VlG w F u d), (∀ (i : Nat) u d (hz0 : us[i]? = some u) (hz1 : ds[i]? = some d), M u d (he i u d hz0 hz1)) → M (.iface 68 a.v) (.mk 5 0 [] [] ds) (VlG.list a us ds hv hF hl hz he)) (obj : ∀ (ks a : Sl) (kb : List ByteArray) (us : List Value) (ds : List Nd) (hk : IsG w ks.v (strs kb)) (hkF : ks.In F) (hv : IsG w a.v us) (hF : a.In F) (hl : us.length = ds.length) (hz : ks.n ≤ 8796093022208 ∧ a.n ≤ 1759218604441) (he : ∀ (i : Nat) u d, us[i]? = some u → ds[i]? = some d → VlG w F u d), (∀ (i : Nat) u d (hz0 : us[i]? = some u) (hz1 : ds[i]? = some d), M u d (he i u d hz0 hz1)) → M (.iface 70 (.agg #[ks.v, a.v])) (.mk 6 0 [] (kb.map lS) ds) (VlG.obj ks a kb us ds hk hkF hv hF hl hz he)) {i1 : Value} {i2 : Nd} (h : VlG w F i1 i2) : M i1 i2 h :=
  (h (fun i1 i2 => ∃ h9 : VlG w F i1 i2, M i1 i2 h9) (fun k hk => ⟨VlG.nil k hk, nil k hk⟩) (⟨VlG.null, null⟩) (fun b => ⟨VlG.bool b, bool b⟩) (fun n hn => ⟨VlG.num n hn, num n hn⟩) (fun s => ⟨VlG.str s, str s⟩) (fun a us ds hv hF hl hz he => ⟨VlG.list a us ds hv hF hl hz (fun i u d hz0 hz1 => (he i u d hz0 hz1).1), list a us ds hv hF hl hz (fun i u d hz0 hz1 => (he i u d hz0 hz1).1) (fun i u d hz0 hz1 => (he i u d hz0 hz1).2)⟩) (fun ks a kb us ds hk hkF hv hF hl hz he => ⟨VlG.obj ks a kb us ds hk hkF hv hF hl hz (fun i u d hz0 hz1 => (he i u d hz0 hz1).1), obj ks a kb us ds hk hkF hv hF hl hz (fun i u d hz0 hz1 => (he i u d hz0 hz1).1) (fun i u d hz0 hz1 => (he i u d hz0 hz1).2)⟩)).2
theorem VlF.g {w : World} {F : Nat → Prop} {v : Value} {d : Nd} (h : VlF w F v d) : VlG w F v d := by
  induction h using VlF.rc with
  | null => exact .null
  | bool b => exact .bool b
  | num n hn => exact .num n hn
  | str s => exact .str s
  | list a us ds hv hF hl hz he ih => exact .list a us ds hv hF hl hz ih
  | obj ks a kb us ds hk hkF hv hF hl hz he ih => exact .obj ks a kb us ds hk hkF hv hF hl hz ih
theorem VlG.ag {w w1 : World} {F : Nat → Prop} {v : Value} {d : Nd} (h : VlG w F v d) (hb : ∀ b, F b → b < w.heap.size → w1.heap[b]? = w.heap[b]?) : VlG w1 F v d := by
  induction h using VlG.rc with
  | nil k hk => exact .nil k hk
  | null => exact .null
  | bool b => exact .bool b
  | num n hn => exact .num n hn
  | str s => exact .str s
  | list a us ds hv hF hl hz he ih => exact .list a us ds (hv.ag hF hb) hF hl hz ih
  | obj ks a kb us ds hk hkF hv hF hl hz he ih => exact .obj ks a kb us ds (hk.ag hkF hb) hkF (hv.ag hF hb) hF hl hz ih
theorem VlG.kept {w w1 : World} {F : Nat → Prop} {v : Value} {d : Nd} (h : VlG w F v d) (hb : Below w.heap.size w w1) : VlG w1 F v d := h.ag (fun b _ hl => hb.block b hl)
def whlN : Nd → Bool
  | .mk k _ _ _ vs => (vs.map fun d => whlN d).all id && decide (1 ≤ k ∧ k ≤ 6)
def whlL : List Nd → Bool
  | [] => true
  | d :: r => whlN d && whlL r
theorem whlL_mpp : ∀ l : List Nd, (l.map fun d => whlN d).all id = whlL l
  | [] => rfl
  | d :: r => by rw [List.map_cons, List.all_cons, whlL_mpp r, whlL]; rfl
theorem whlN_mk (k n : Int) (s : List UInt8) (ks : List (List UInt8)) (vs : List Nd) : whlN (.mk k n s ks vs) = (whlL vs && decide (1 ≤ k ∧ k ≤ 6)) := by rw [whlN, whlL_mpp]
theorem whlL_at : ∀ (vs : List Nd) (i : Nat) (d : Nd), vs[i]? = some d → whlL vs = true → whlN d = true
  | a :: r, 0, d, h, hw => by
    simp at h; subst h
    rw [whlL, Bool.and_eq_true] at hw; exact hw.1
  | a :: r, i + 1, d, h, hw => by
    rw [whlL, Bool.and_eq_true] at hw
    exact whlL_at r i d (by simpa using h) hw.2
/-- Where there is no nil. -/
theorem VlG.f {w : World} {F : Nat → Prop} {v : Value} {d : Nd} (h : VlG w F v d) : whlN d = true → VlF w F v d := by
  induction h using VlG.rc with
  | nil k hk => intro hw; rw [whlN_mk, Bool.and_eq_true, decide_eq_true_eq] at hw; exact absurd hw.2 hk
  | null => exact fun _ => .null
  | bool b => exact fun _ => .bool b
  | num n hn => exact fun _ => .num n hn
  | str s => exact fun _ => .str s
  | list a us ds hv hF hl hz he ih => intro hw; rw [whlN_mk, Bool.and_eq_true] at hw; exact .list a us ds hv hF hl hz fun i u d h1 h2 => ih i u d h1 h2 (whlL_at ds i d h2 hw.1)
  | obj ks a kb us ds hk hkF hv hF hl hz he ih => intro hw; rw [whlN_mk, Bool.and_eq_true] at hw; exact .obj ks a kb us ds hk hkF hv hF hl hz fun i u d h1 h2 => ih i u d h1 h2 (whlL_at ds i d h2 hw.1)
def FdP (o : Option Nd) (w : World) (e : Ending) (w' : World) : Prop := (∃ v b, e = .returned (.tuple #[v, .bool b]) ∧ (∀ d, o = some d → b = true ∧ ∃ G, VlG w' G v d) ∧ (o = none → b = false ∧ v = .nilIface)) ∧ Below w.heap.size w w'
/-- What json owes; V: what is asked of the library's variables. -/
structure JsOk (V : World → Prop) : Prop where
  keep : ∀ (w W : World), V w → Below w.heap.size w W → V W
  prs : ∀ (l : List UInt8) (x : Option Addr) (L c : Nat) (w : World), l.length = L → L ≤ c → L ≤ 140737488355328 → IsB w (.slice x L c) l → V w → Calls Tryz.prog 11 #[.slice x L c] w fun e w' => JpP (prsA l) w e w'
  own : ∀ (l : List UInt8) (x : Option Addr) (L c : Nat) (w : World), l.length = L → L ≤ c → L ≤ 140737488355328 → IsB w (.slice x L c) l → V w → Calls Tryz.prog 11 #[.slice x L c] w fun e w' => JoP (prsA l) w e w'
  prt : ∀ (d : Nd) (F : Nat → Prop) (v : Value) (w : World), VlG w F v d → szN d ≤ 1099511627776 → depN d ≤ 60000 → V w → Calls Tryz.prog 9 #[v] w fun e w' => PtP d w e w'
  fld : ∀ (d : Nd) (F : Nat → Prop) (v : Value) (s : ByteArray) (w : World), VlG w F v d → depN d ≤ 60000 → V w → Calls Tryz.prog 13 #[v, .string s] w fun e w' => FdP (fldN d (lS s)) w e w'
def kn21 : List UInt8 := [123, 34, 97, 34, 58, 91, 49, 44, 110, 117, 108, 108, 93, 44, 34, 98, 34, 58, 123, 125, 125]
def knD : Nd := .mk 6 0 [] [[97], [98]] [.mk 5 0 [] [] [.mk 3 1 [] [] [], .mk 1 0 [] [] []], .mk 6 0 [] [] []]
set_option maxRecDepth 100000 in
theorem kn15_P : prsA kn21 = (knD, 0, 0) := by kernel_rfl
set_option linter.unusedSimpArgs false in
theorem kn15_S : prtS knD = kn21 := by unfold prtS prtE knD; simp only [frmN_mk, frmL, plnN_mk, plnL, twcN_mk, twcL, depN_mk, depL, txtN_mk, txtL, txtO, szN_mk, szL]; decide +kernel
set_option linter.unusedSimpArgs false in
theorem kn15_E : prtE knD = 0 := by unfold prtE knD; simp only [frmN_mk, frmL, plnN_mk, plnL, twcN_mk, twcL, depN_mk, depL, txtN_mk, txtL, txtO, szN_mk, szL]; decide +kernel
set_option linter.unusedSimpArgs false in
theorem kn15_dp : depN knD ≤ 60000 := by unfold knD; simp only [frmN_mk, frmL, plnN_mk, plnL, twcN_mk, twcL, depN_mk, depL, txtN_mk, txtL, txtO, szN_mk, szL]; decide +kernel
set_option linter.unusedSimpArgs false in
theorem kn15_z : szN knD ≤ 1099511627776 := by unfold knD; simp only [frmN_mk, frmL, plnN_mk, plnL, twcN_mk, twcL, depN_mk, depL, txtN_mk, txtL, txtO, szN_mk, szL]; decide +kernel
set_option maxRecDepth 100000 in
theorem kn15_B : (prsA [91, 49, 44, 93]).2 = (31, 3) := by kernel_rfl
theorem kn15_F : fldN knD [98] = some (.mk 6 0 [] [] []) := rfl
set_option linter.unusedSimpArgs false in
theorem kn15_S2 : prtS (.mk 6 0 [] [] []) = [123, 125] := by unfold prtS prtE; simp only [frmN_mk, frmL, plnN_mk, plnL, twcN_mk, twcL, depN_mk, depL, txtN_mk, txtL, txtO, szN_mk, szL]; decide +kernel
set_option linter.unusedSimpArgs false in
theorem kn15_E2 : prtE (.mk 6 0 [] [] []) = 0 := by unfold prtE; simp only [frmN_mk, frmL, plnN_mk, plnL, twcN_mk, twcL, depN_mk, depL, txtN_mk, txtL, txtO, szN_mk, szL]; decide +kernel
end Go.Proofs.YtddmmmfpdmejbaaGreatDoor
namespace Go.Proofs.YtddmmmfpdmejbaaGreatDoor
open Go.RowKit

/-! assaylaw15.known, read -/
theorem below_mark15 (w : World) (C : Array Value) (t : TypeId) (m : Nat × Nat) : Below w.heap.size w (w.alloc (.cells C t m)) := below_alloc w _
theorem isB_mark15 (w : World) (l : List UInt8) (n : Nat) (m : Nat × Nat) (hn : l.length = n) : IsB (w.alloc (.cells (bytesA l) 5 m)) (.slice (some ⟨w.heap.size, 0, none⟩) n n) l := by
  subst hn
  refine .inr ⟨⟨w.heap.size, 0, none⟩, l.length, rfl, fun i hi => ?_⟩
  rw [addr_add, Nat.zero_add, World.cell?_alloc_mark, bytesA_get l i hi]
set_option linter.unusedSimpArgs false in
set_option maxRecDepth 100000 in
set_option maxHeartbeats 8000000 in
theorem known15_any {V : World → Prop} (O : JsOk V) (w : World) (hV : V w) : Calls Tryz.prog 10 #[] w fun e w' => e = .returned (.bool true) ∧ Below w.heap.size w w' := by
  have hc1 := Joins.run_convert_bytes_const_at (P := Tryz.prog) w 26 5 #[.int .u8 123, .int .u8 34, .int .u8 97, .int .u8 34, .int .u8 58, .int .u8 91, .int .u8 49, .int .u8 44, .int .u8 110, .int .u8 117, .int .u8 108, .int .u8 108, .int .u8 93, .int .u8 44, .int .u8 34, .int .u8 98, .int .u8 34, .int .u8 58, .int .u8 123, .int .u8 125, .int .u8 125] 21 21 w.heap.size rfl (by kernel_rfl) (by kernel_rfl)
  simp only [List.size_toArray, List.length_cons, List.length_nil, Nat.reduceAdd] at hc1
  have b1 := below_mark15 w #[.int .u8 123, .int .u8 34, .int .u8 97, .int .u8 34, .int .u8 58, .int .u8 91, .int .u8 49, .int .u8 44, .int .u8 110, .int .u8 117, .int .u8 108, .int .u8 108, .int .u8 93, .int .u8 44, .int .u8 34, .int .u8 98, .int .u8 34, .int .u8 58, .int .u8 123, .int .u8 125, .int .u8 125] 5 (21, 22)
  have i1 : IsB (w.alloc (.cells #[.int .u8 123, .int .u8 34, .int .u8 97, .int .u8 34, .int .u8 58, .int .u8 91, .int .u8 49, .int .u8 44, .int .u8 110, .int .u8 117, .int .u8 108, .int .u8 108, .int .u8 93, .int .u8 44, .int .u8 34, .int .u8 98, .int .u8 34, .int .u8 58, .int .u8 123, .int .u8 125, .int .u8 125] 5 (21, 22))) (.slice (some ⟨w.heap.size, 0, none⟩) 21 21) kn21 := isB_mark15 w kn21 21 (21, 22) rfl
  generalize w.alloc (.cells #[.int .u8 123, .int .u8 34, .int .u8 97, .int .u8 34, .int .u8 58, .int .u8 91, .int .u8 49, .int .u8 44, .int .u8 110, .int .u8 117, .int .u8 108, .int .u8 108, .int .u8 93, .int .u8 44, .int .u8 34, .int .u8 98, .int .u8 34, .int .u8 58, .int .u8 123, .int .u8 125, .int .u8 125] 5 (21, 22)) = W1 at hc1 b1 i1
  have k1 := O.prs kn21 (some ⟨w.heap.size, 0, none⟩) 21 21 W1 rfl (by omega) (by omega) i1 (O.keep _ _ hV b1)
  rw [kn15_P] at k1
  clear i1
  go_enter Tryz.func10, Tryz.ntmps10
  go_wp2_with fail
  refine k1.mono ?_
  rintro e w1 ⟨v, rfl, hv, -, hb⟩
  have hB1 := b1.trans (hb.mono b1.size)
  replace hv := hv rfl
  clear k1 hc1 b1 hb
  have k2 := O.prt knD _ v w1 hv.g kn15_z kn15_dp (O.keep _ _ hV hB1)
  unfold PtP at k2
  rw [kn15_S, kn15_E] at k2
  go_wp2_with fail
  refine k2.mono ?_
  rintro e w2 ⟨rfl, hb⟩
  have hB2 := hB1.trans (hb.mono hB1.size)
  have hv2 := hv.kept hb
  clear k2 hb hv hB1
  have hc2 := Joins.run_convert_bytes_const_at (P := Tryz.prog) w2 26 5 #[.int .u8 91, .int .u8 49, .int .u8 44, .int .u8 93] 4 4 w2.heap.size rfl (by kernel_rfl) (by kernel_rfl)
  simp only [List.size_toArray, List.length_cons, List.length_nil, Nat.reduceAdd] at hc2
  have b2 := below_mark15 w2 #[.int .u8 91, .int .u8 49, .int .u8 44, .int .u8 93] 5 (4, 5)
  have i2 : IsB (w2.alloc (.cells #[.int .u8 91, .int .u8 49, .int .u8 44, .int .u8 93] 5 (4, 5))) (.slice (some ⟨w2.heap.size, 0, none⟩) 4 4) [91, 49, 44, 93] := isB_mark15 w2 [91, 49, 44, 93] 4 (4, 5) rfl
  generalize w2.alloc (.cells #[.int .u8 91, .int .u8 49, .int .u8 44, .int .u8 93] 5 (4, 5)) = W2 at hc2 b2 i2
  have k3 := O.prs [91, 49, 44, 93] (some ⟨w2.heap.size, 0, none⟩) 4 4 W2 rfl (by omega) (by omega) i2 (O.keep _ _ hV (hB2.trans (b2.mono hB2.size)))
  unfold JpP at k3
  rw [kn15_B] at k3
  clear i2
  go_wp2_with fail
  refine k3.mono ?_
  rintro e w3 ⟨v3, rfl, -, -, hb⟩
  have hB3 := (hB2.trans (b2.mono hB2.size)).trans (hb.mono (Nat.le_trans hB2.size b2.size))
  have hv3 := (hv2.kept b2).kept hb
  clear k3 hb hv2 hB2 hc2 b2
  have k4 := O.fld knD _ v ⟨#[98]⟩ w3 hv3.g kn15_dp (O.keep _ _ hV hB3)
  rw [show lS ⟨#[98]⟩ = [98] from rfl, kn15_F] at k4
  go_wp2_with fail
  refine k4.mono ?_
  rintro e w4 ⟨⟨v4, b4, rfl, hs, -⟩, hb⟩
  obtain ⟨rfl, G4, hv4⟩ := hs _ rfl
  have hB4 := hB3.trans (hb.mono hB3.size)
  clear k4 hb hv3 hs hB3
  have k5 := O.prt _ _ v4 w4 hv4 (by rw [szN_mk]; decide +kernel) (by rw [depN_mk]; decide +kernel) (O.keep _ _ hV hB4)
  unfold PtP at k5
  rw [kn15_S2, kn15_E2] at k5
  go_wp2_with fail
  refine k5.mono ?_
  rintro e w5 ⟨rfl, hb⟩
  have hB5 := hB4.trans (hb.mono hB4.size)
  clear k5 hb hv4 hB4
  simp only [kn21]
  go_wp2
  go_ret
  exact ⟨rfl, hB5⟩
set_option linter.unusedSimpArgs false in
set_option maxRecDepth 100000 in
set_option maxHeartbeats 8000000 in
theorem read15_any {V : World → Prop} (O : JsOk V) (l : List UInt8) (x : Option Addr) (L c : Nat) (w : World) (hL : l.length = L) (hLc : L ≤ c) (h47 : L ≤ 140737488355328) (hl : IsB w (.slice x L c) l) (hV : V w) : Calls Tryz.prog 24 #[.slice x L c] w fun e w' => e = .returned (.bool true) ∧ Below w.heap.size w w' := by
  have k1 := O.prs l x L c w hL hLc h47 hl hV
  obtain ⟨⟨d, E, A⟩, hq⟩ : ∃ q, prsA l = q := ⟨_, rfl⟩
  rw [hq] at k1
  go_enter Tryz.func24, Tryz.ntmps24
  go_wp2_with fail
  refine k1.mono ?_
  rintro e w1 ⟨v, rfl, hv, hno, hb1⟩
  clear k1
  simp only at hv hno
  have k2 := refParse_any l x L c w1 hL (hl.kept hb1) h47
  rw [hq] at k2
  go_wp2_with fail
  refine k2.mono ?_
  rintro e w2 ⟨r2, rfl, hN2, hb2⟩
  clear k2 hl
  simp only at hN2
  have b3 := below_alloc w2 (.cells (rnA r2) 41)
  have rX := RowC.new w2 (rnA r2) 41
  have hNX := hN2.kept b3
  have hB2 := hb1.trans (hb2.mono hb1.size)
  have hBX := hB2.trans (b3.mono hB2.size)
  by_cases hE : E = 0
  · have hvX := ((hv hE).kept hb2).kept b3
    go_upto_region 3 with fail
    obtain ⟨g6, hg6⟩ : ∃ q, w2.heap.size = q := ⟨_, rfl⟩
    rw [hg6] at rX ⊢
    generalize w2.alloc (.cells (rnA r2) 41) = X at rX hNX hBX hvX ⊢
    subst hE
    clear hv hno hN2 b3 hB2 hb1 hb2
    have k3 := plain15_any d X _ v hvX
    go_wp2_with fail
    refine k3.mono ?_
    rintro e w3 ⟨r3, rfl, hN3, hb3⟩
    clear k3 hvX
    have b4 := below_alloc w3 (.cells (rnA r3) 41)
    have r9 := RowC.new w3 (rnA r3) 41
    have r6 := (rX.kept hb3).kept b4
    have hN9 := hN3.kept b4
    have hN6 := (hNX.kept hb3).kept b4
    have hB3 := hBX.trans (hb3.mono hBX.size)
    have hB4 := hB3.trans (b4.mono hB3.size)
    go_upto_region 8 with fail
    obtain ⟨g9, hg9⟩ : ∃ q, w3.heap.size = q := ⟨_, rfl⟩
    rw [hg9] at r9 ⊢
    generalize w3.alloc (.cells (rnA r3) 41) = Z at r9 r6 hN9 hN6 hB4 ⊢
    have k4 := same15_any d Z _ _ r3 r2 hN9 hN6
    obtain ⟨a1, a2⟩ := id r6
    have a3 : (rowAt Z g6).size = 5 := by rw [a2]; rfl
    obtain ⟨d1, d2⟩ := id r9
    have d3 : (rowAt Z g9).size = 5 := by rw [d2]; rfl
    clear hN9 hN6 hN3 hNX hb3 b4 hB3
    go_wp2_with fail
    refine k4.mono ?_
    rintro e w5 ⟨rfl, hb5⟩
    clear k4
    have hB5 := hB4.trans (hb5.mono hB4.size)
    go_wp2
    go_ret
    exact ⟨rfl, hB5⟩
  · obtain rfl := hno hE
    have f0 : (E != 0) = true := bne_iff_ne.2 hE
    go_upto_region 3 with fail
    generalize w2.alloc (.cells (rnA r2) 41) = X at rX hNX hBX ⊢
    clear hv hno hN2 b3 hB2 hb1 hb2 hE hNX
    go_wp2
    go_ret
    exact ⟨rfl, hBX⟩
end Go.Proofs.YtddmmmfpdmejbaaGreatDoor
namespace Go.Proofs.YtddmmmfpdmejbaaGreatDoor
open Go.RowKit

/-! assayref15.digits -/
def DgP (l : List UInt8) (w : World) (e : Ending) (w' : World) : Prop := (∃ S, e = .returned (.string S) ∧ lS S = l) ∧ Below w.heap.size w w'
def DgF (b : Nat) (v : Value) (x : World) : Prop := ∃ y, v = .slice (some ⟨y, 0, none⟩) 1 1 ∧ x.cell? ⟨y, 0, none⟩ = some (.int .u8 (48 + (b : Int)))
theorem DgF.keep {b : Nat} {v : Value} {w w' : World} (h : DgF b v w) (hb : Below w.heap.size w w') : DgF b v w' := by
  obtain ⟨y, e, c⟩ := h
  exact ⟨y, e, cell_later hb c⟩
theorem dg_u8 {n : Nat} (h : n < 256) : ((u8 n).toNat : Int) = (n : Int) := by
  unfold u8
  rw [UInt8.toNat_ofNat']
  omega
/-- A text. -/
def DgS (l : List UInt8) (v : Value) (_ : World) : Prop := ∃ S, v = .string S ∧ lS S = l
theorem DgS.keep {l : List UInt8} {v : Value} {w w' : World} (h : DgS l v w) (_ : Below w.heap.size w w') : DgS l v w' := h
theorem dg_len : ∀ (f m : Nat), (digF f m).length ≤ f
  | 0, m => by simp [digF]
  | f + 1, m => by
    rw [digF]
    split
    · simp
    · have := dg_len f (m / 10)
      rw [List.length_append]; simp; omega
set_option linter.unusedSimpArgs false in
set_option maxRecDepth 100000 in
set_option maxHeartbeats 8000000 in
theorem digits15_any : ∀ (f m : Nat) (w : World), m < 10 ^ f → 0 < f → m ≤ 9223372036854775807 → f ≤ 20 → Calls Tryz.prog 66 #[.int .i64 (m : Int)] w fun e w' => DgP (digF f m) w e w'
  | 0, m, w => fun _ h _ _ => by omega
  | f + 1, m, w => fun h _ h63 hf => by
    rw [digF]
    by_cases h10 : m < 10
    · rw [if_pos h10]
      have i1 : (m : Int) < 10 := by omega
      have w1 : IntKind.i64.wrap (48 + (m : Int)) = 48 + (m : Int) := by rw [IntKind.wrap_i64]; omega
      have w2 : IntKind.u8.wrap (48 + (m : Int)) = 48 + (m : Int) := by rw [IntKind.wrap_u8]; omega
      have e8 : ((u8 (48 + m)).toNat : Int) = 48 + (m : Int) := by rw [dg_u8 (by omega)]; omega
      have hI : IsB (w.alloc (.cells #[.int .u8 (48 + (m : Int))] 5)) (.slice (some ⟨w.heap.size, 0, none⟩) 1 1) [u8 (48 + m)] := .inr ⟨⟨w.heap.size, 0, none⟩, 1, rfl, fun i hi => by
        have : i = 0 := by simp at hi; omega
        subst this
        rw [addr_add, cell_of_row _ _ _ _ _ _ (heap_alloc_last _ _)]
        simp [e8]⟩
      have hcv := hI.str
      have bA := below_alloc w (.cells #[.int .u8 (48 + (m : Int))] 5)
      clear e8 hI h10
      go_enter Tryz.func66, Tryz.ntmps66
      go_wp2
      go_ret
      exact ⟨⟨_, rfl, lS_mk _⟩, bA⟩
    · rw [if_neg h10]
      have hf0 : 0 < f := by
        cases f with
        | zero => simp at h; omega
        | succ f => omega
      have ih := fun W => digits15_any f (m / 10) W (by rw [Nat.pow_succ] at h; omega) hf0 (by omega) (by omega)
      have hln := dg_len f (m / 10)
      obtain ⟨DL, hDL⟩ : ∃ q, digF f (m / 10) = q := ⟨_, rfl⟩
      simp only [hDL] at ih hln ⊢
      have i1 : ¬ (m : Int) < 10 := by omega
      obtain ⟨q, hq⟩ : ∃ q, m / 10 = q := ⟨_, rfl⟩
      obtain ⟨r, hr⟩ : ∃ r, m % 10 = r := ⟨_, rfl⟩
      simp only [hq] at ih
      rw [hr]
      have t1 : (m : Int).tdiv 10 = (q : Int) := by rw [Int.tdiv_eq_ediv_of_nonneg (by omega)]; omega
      have t2 : (m : Int).tmod 10 = (r : Int) := by rw [Int.tmod_eq_emod_of_nonneg (by omega)]; omega
      have w0 : IntKind.i64.wrap (q : Int) = (q : Int) := by rw [IntKind.wrap_i64]; omega
      have w3 : IntKind.i64.wrap (r : Int) = (r : Int) := by rw [IntKind.wrap_i64]; omega
      have w1 : IntKind.i64.wrap (48 + (r : Int)) = 48 + (r : Int) := by rw [IntKind.wrap_i64]; omega
      have w2 : IntKind.u8.wrap (48 + (r : Int)) = 48 + (r : Int) := by rw [IntKind.wrap_u8]; omega
      have e8 : ((u8 (48 + r)).toNat : Int) = 48 + (r : Int) := by rw [dg_u8 (by omega)]; omega
      have hcv := fun (x : World) (y : Nat) (hc : x.cell? ⟨y, 0, none⟩ = some (.int .u8 (48 + (r : Int)))) => (show IsB x (.slice (some ⟨y, 0, none⟩) 1 1) [u8 (48 + r)] from .inr ⟨⟨y, 0, none⟩, 1, rfl, fun i hi => by
        have : i = 0 := by simp at hi; omega
        subst this
        rw [addr_add, Nat.zero_add, hc]
        simp [e8]⟩).str
      obtain ⟨D1, hD1⟩ : ∃ q : ByteArray, ⟨[u8 (48 + r)].toArray⟩ = q := ⟨_, rfl⟩
      simp only [hD1] at hcv
      have HD1 : Hid (lS D1 = [u8 (48 + r)]) := by show _ = _; rw [← hD1]; exact lS_mk _
      have hz1 : D1.size = 1 := by rw [← lS_len, HD1.out]; rfl
      clear e8 hD1 hq hr hDL h10 h hf0
      go_enter Tryz.func66, Tryz.ntmps66
      go_upto_region 3 with fail
      refine wp_relies [Fx (.int .i64 (m : Int)), Fx (.int .i64 (q : Int)), DgS DL, Fx (.int .i64 (m : Int)), Fx (.int .i64 (r : Int)), Fx (.int .i64 (48 + (r : Int))), Fx (.int .u8 (48 + (r : Int))), DgF r, Fx (.string D1), DgS (DL ++ [u8 (48 + r)]), DgS (DL ++ [u8 (48 + r)])] (by kernel_rfl) (by kernel_rfl) ?_ ?_ ?_
      · repeat' (first | exact all_nil | apply all_cons)
        all_goals intro v y y' hv hb
        all_goals first | exact Fx_mono _ _ _ _ hv hb | exact DgS.keep hv hb | exact DgF.keep hv hb
      · refine ⟨?_, ?_, ?_, ?_, ?_, ?_, ?_, ?_, ?_, ?_, ?_, trivial⟩
        all_goals
          intro ρ x hp ρc ρg ρf ho hd
          have o0 : ρ (.tmp 0) = .int .i64 (m : Int) := ho 0 rfl
          clear ho
          simp only [depsR, depR, slotR, Fx, List.getElem?_cons_succ, List.getElem?_cons_zero, Region.binds, forall_const] at hd
          simp only [guardR]
          go_split_ands
        · go_simp
        · go_simp
        · go_simp
          refine (ih x).mono ?_
          rintro e x' ⟨⟨S8, rfl, l8⟩, hb⟩
          exact ⟨_, rfl, ⟨S8, rfl, l8⟩, hb⟩
        · go_simp
        · go_simp
        · go_simp
        · go_simp
        · go_simp
          exact ⟨⟨x.heap.size, rfl, cell_of_row _ _ 0 _ _ _ (heap_alloc_last _ _)⟩, below_alloc _ _⟩
        · obtain ⟨y8, e8, k8⟩ : DgF r (ρ (.tmp 17)) x := by first | exact hd | exact hd.1 | exact hd.2 | assumption
          have hq8 := hcv x y8 k8
          go_simp
        · obtain ⟨S8, e8, l8⟩ : DgS DL (ρ (.tmp 12)) x := by first | exact hd | exact hd.1 | exact hd.2 | assumption
          have hs8 : ¬ 9223372036854775807 < S8.size + 1 := by rw [← lS_len, l8]; omega
          have hq8 : ρ (.tmp 18) = .string D1 := by first | assumption | exact hd.2 | exact hd.1
          go_simp
          exact ⟨S8 ++ D1, rfl, by rw [lS_app, l8, HD1.out]⟩
        · obtain ⟨S8, e8, l8⟩ : DgS (DL ++ [u8 (48 + r)]) (ρ (.tmp 19)) x := by first | exact hd | exact hd.1 | exact hd.2 | assumption
          go_simp
          exact ⟨S8, rfl, l8⟩
      · intro us x1 hp1 hw
        simp only [owed, Fx] at hw
        obtain ⟨e0, e1, e2, e3, e4, e5, e6, e7, e8, e9, ⟨S9, e10, l9⟩, -⟩ := hw
        simp only [List.length_cons, List.length_nil, List.take_succ_cons, List.take_nil, List.drop_succ_cons, List.drop_nil, asg, List.cons_append, List.nil_append, e0, e1, e3, e4, e5, e6, e8, e10]
        clear e0 e1 e3 e4 e5 e6 e8 e10 e2 e7 e9
        have HP : Hid (DgP (DL ++ [u8 (48 + r)]) w (.returned (.string S9)) x1) := ⟨⟨S9, rfl, l9⟩, hp1⟩
        clear l9 hp1
        go_wp2
        go_ret
        exact HP.out
end Go.Proofs.YtddmmmfpdmejbaaGreatDoor
