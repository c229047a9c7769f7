import Derived.Test.YtalnbddkhojjbaaGreatDoorQJop
import Derived.Test.YtalnbddkhojjbaaGreatDoorQJpu
import Derived.Test.YtalnbddkhojjbaaGreatDoorQNum
import Derived.Lib.SmallJoins
namespace Go.Proofs.YtalnbddkhojjbaaGreatDoor
open Go.RowKit

def JpP (q : Nd × Int × Int) (w : World) (e : Ending) (w' : World) : Prop := ∃ v, e = .returned (.tuple #[v, .int .i64 q.2.1, .int .i64 q.2.2]) ∧ (q.2.1 = 0 → VlF w' (w.heap.size ≤ ·) v q.1) ∧ (q.2.1 ≠ 0 → v = .nilIface) ∧ Below w.heap.size w w'
def JoP (q : Nd × Int × Int) (w : World) (e : Ending) (w' : World) : Prop := ∃ v, e = .returned (.tuple #[v, .int .i64 q.2.1, .int .i64 q.2.2]) ∧ (q.2.1 = 0 → ∃ L K, VlO w' w.heap.size v q.1 L K ∧ (blks L K).Nodup) ∧ (q.2.1 ≠ 0 → v = .nilIface) ∧ Below w.heap.size w w'
theorem JoP.jp {q : Nd × Int × Int} {w w' : World} {e : Ending} (h : JoP q w e w') : JpP q w e w' := by
  obtain ⟨v, he, h0, h1, hb⟩ := h
  exact ⟨v, he, fun hq => by obtain ⟨L, K, hv, -⟩ := h0 hq; exact hv.f, h1, hb⟩
def PtP (d : Nd) (w : World) (e : Ending) (w' : World) : Prop := e = .returned (.tuple #[.string ⟨(prtS d).toArray⟩, .int .i64 (prtE d)]) ∧ Below w.heap.size w w'
set_option linter.unusedVariables false
def VlG (w : World) (F : Nat → Prop) (i1 : Value) (i2 : Nd) : Prop := ∀ Q : Value → Nd → Prop, (∀ (k : Int) (hk : ¬ (1 ≤ k ∧ k ≤ 6)), Q .nilIface (.mk k 0 [] [] [])) → (Q (.iface 116 (.agg #[])) (.mk 1 0 [] [] [])) → (∀ (b : Bool), Q (.iface 121 (.bool b)) (.mk 2 (bif b then 1 else 0) [] [] [])) → (∀ (n : Int) (hn : -9223372036854775808 ≤ n ∧ n ≤ 9223372036854775807), Q (.iface 71 (.int .i64 n)) (.mk 3 n [] [] [])) → (∀ (s : ByteArray), Q (.iface 93 (.string s)) (.mk 4 0 (lS s) [] [])) → (∀ (a : Sl) (us : List Value) (ds : List Nd) (hv : IsG w a.v us) (hF : a.In F) (hl : us.length = ds.length) (hz : a.n ≤ 1759218604441) (he : ∀ (i : Nat) u d, us[i]? = some u → ds[i]? = some d → Q u d), Q (.iface 73 a.v) (.mk 5 0 [] [] ds)) → (∀ (ks a : Sl) (kb : List ByteArray) (us : List Value) (ds : List Nd) (hk : IsG w ks.v (strs kb)) (hkF : ks.In F) (hv : IsG w a.v us) (hF : a.In F) (hl : us.length = ds.length) (hz : ks.n ≤ 8796093022208 ∧ a.n ≤ 1759218604441) (he : ∀ (i : Nat) u d, us[i]? = some u → ds[i]? = some d → Q u d), Q (.iface 76 (.agg #[ks.v, a.v])) (.mk 6 0 [] (kb.map lS) ds)) → Q i1 i2
theorem VlG.nil {w : World} {F : Nat → Prop} (k : Int) (hk : ¬ (1 ≤ k ∧ k ≤ 6)) : VlG w F .nilIface (.mk k 0 [] [] []) := fun Q q0 q1 q2 q3 q4 q5 q6 => q0 k hk
theorem VlG.null {w : World} {F : Nat → Prop}  : VlG w F (.iface 116 (.agg #[])) (.mk 1 0 [] [] []) := fun Q q0 q1 q2 q3 q4 q5 q6 => q1
theorem VlG.bool {w : World} {F : Nat → Prop} (b : Bool) : VlG w F (.iface 121 (.bool b)) (.mk 2 (bif b then 1 else 0) [] [] []) := fun Q q0 q1 q2 q3 q4 q5 q6 => q2 b
theorem VlG.num {w : World} {F : Nat → Prop} (n : Int) (hn : -9223372036854775808 ≤ n ∧ n ≤ 9223372036854775807) : VlG w F (.iface 71 (.int .i64 n)) (.mk 3 n [] [] []) := fun Q q0 q1 q2 q3 q4 q5 q6 => q3 n hn
theorem VlG.str {w : World} {F : Nat → Prop} (s : ByteArray) : VlG w F (.iface 93 (.string s)) (.mk 4 0 (lS s) [] []) := fun Q q0 q1 q2 q3 q4 q5 q6 => q4 s
theorem VlG.list {w : World} {F : Nat → Prop} (a : Sl) (us : List Value) (ds : List Nd) (hv : IsG w a.v us) (hF : a.In F) (hl : us.length = ds.length) (hz : a.n ≤ 1759218604441) (he : ∀ (i : Nat) u d, us[i]? = some u → ds[i]? = some d → VlG w F u d) : VlG w F (.iface 73 a.v) (.mk 5 0 [] [] ds) := fun Q q0 q1 q2 q3 q4 q5 q6 => q5 a us ds hv hF hl hz (fun i u d hz0 hz1 => he i u d hz0 hz1 Q q0 q1 q2 q3 q4 q5 q6)
theorem VlG.obj {w : World} {F : Nat → Prop} (ks a : Sl) (kb : List ByteArray) (us : List Value) (ds : List Nd) (hk : IsG w ks.v (strs kb)) (hkF : ks.In F) (hv : IsG w a.v us) (hF : a.In F) (hl : us.length = ds.length) (hz : ks.n ≤ 8796093022208 ∧ a.n ≤ 1759218604441) (he : ∀ (i : Nat) u d, us[i]? = some u → ds[i]? = some d → VlG w F u d) : VlG w F (.iface 76 (.agg #[ks.v, a.v])) (.mk 6 0 [] (kb.map lS) ds) := fun Q q0 q1 q2 q3 q4 q5 q6 => q6 ks a kb us ds hk hkF hv hF hl hz (fun i u d hz0 hz1 => he i u d hz0 hz1 Q q0 q1 q2 q3 q4 q5 q6)
theorem VlG.rc {w : World} {F : Nat → Prop} {M : ∀ (i1 : Value) (i2 : Nd), VlG w F i1 i2 → Prop} (nil : ∀ (k : Int) (hk : ¬ (1 ≤ k ∧ k ≤ 6)), M .nilIface (.mk k 0 [] [] []) (VlG.nil k hk)) (null : M (.iface 116 (.agg #[])) (.mk 1 0 [] [] []) (VlG.null)) (bool : ∀ (b : Bool), M (.iface 121 (.bool b)) (.mk 2 (bif b then 1 else 0) [] [] []) (VlG.bool b)) (num : ∀ (n : Int) (hn : -9223372036854775808 ≤ n ∧ n ≤ 9223372036854775807), M (.iface 71 (.int .i64 n)) (.mk 3 n [] [] []) (VlG.num n hn)) (str : ∀ (s : ByteArray), M (.iface 93 (.string s)) (.mk 4 0 (lS s) [] []) (VlG.str s)) (list : ∀ (a : Sl) (us : List Value) (ds : List Nd) (hv : IsG w a.v us) (hF : a.In F) (hl : us.length = ds.length) (hz : a.n ≤ 1759218604441) (he : ∀ (i : Nat) u d, us[i]? = some u → ds[i]? = some d → VlG w F u d), (∀ (i : Nat) u d (hz0 : us[i]? = some u) (hz1 : ds[i]? = some d), M u d (he i u d hz0 hz1)) → M (.iface 73 a.v) (.mk 5 0 [] [] ds) (VlG.list a us ds hv hF hl hz he)) (obj : ∀ (ks a : Sl) (kb : List ByteArray) (us : List Value) (ds : List Nd) (hk : IsG w ks.v (strs kb)) (hkF : ks.In F) (hv : IsG w a.v us) (hF : a.In F) (hl : us.length = ds.length) (hz : ks.n ≤ 8796093022208 ∧ a.n ≤ 1759218604441) (he : ∀ (i : Nat) u d, us[i]? = some u → ds[i]? = some d → VlG w F u d), (∀ (i : Nat) u d (hz0 : us[i]? = some u) (hz1 : ds[i]? = some d), M u d (he i u d hz0 hz1)) → M (.iface 76 (.agg #[ks.v, a.v])) (.mk 6 0 [] (kb.map lS) ds) (VlG.obj ks a kb us ds hk hkF hv hF hl hz he)) {i1 : Value} {i2 : Nd} (h : VlG w F i1 i2) : M i1 i2 h :=
  (h (fun i1 i2 => ∃ h9 : VlG w F i1 i2, M i1 i2 h9) (fun k hk => ⟨VlG.nil k hk, nil k hk⟩) (⟨VlG.null, null⟩) (fun b => ⟨VlG.bool b, bool b⟩) (fun n hn => ⟨VlG.num n hn, num n hn⟩) (fun s => ⟨VlG.str s, str s⟩) (fun a us ds hv hF hl hz he => ⟨VlG.list a us ds hv hF hl hz (fun i u d hz0 hz1 => (he i u d hz0 hz1).1), list a us ds hv hF hl hz (fun i u d hz0 hz1 => (he i u d hz0 hz1).1) (fun i u d hz0 hz1 => (he i u d hz0 hz1).2)⟩) (fun ks a kb us ds hk hkF hv hF hl hz he => ⟨VlG.obj ks a kb us ds hk hkF hv hF hl hz (fun i u d hz0 hz1 => (he i u d hz0 hz1).1), obj ks a kb us ds hk hkF hv hF hl hz (fun i u d hz0 hz1 => (he i u d hz0 hz1).1) (fun i u d hz0 hz1 => (he i u d hz0 hz1).2)⟩)).2
theorem VlF.g {w : World} {F : Nat → Prop} {v : Value} {d : Nd} (h : VlF w F v d) : VlG w F v d := by
  induction h using VlF.rc with
  | null => exact .null
  | bool b => exact .bool b
  | num n hn => exact .num n hn
  | str s => exact .str s
  | list a us ds hv hF hl hz he ih => exact .list a us ds hv hF hl hz ih
  | obj ks a kb us ds hk hkF hv hF hl hz he ih => exact .obj ks a kb us ds hk hkF hv hF hl hz ih
theorem VlG.ag {w w1 : World} {F : Nat → Prop} {v : Value} {d : Nd} (h : VlG w F v d) (hb : ∀ b, F b → b < w.heap.size → w1.heap[b]? = w.heap[b]?) : VlG w1 F v d := by
  induction h using VlG.rc with
  | nil k hk => exact .nil k hk
  | null => exact .null
  | bool b => exact .bool b
  | num n hn => exact .num n hn
  | str s => exact .str s
  | list a us ds hv hF hl hz he ih => exact .list a us ds (hv.ag hF hb) hF hl hz ih
  | obj ks a kb us ds hk hkF hv hF hl hz he ih => exact .obj ks a kb us ds (hk.ag hkF hb) hkF (hv.ag hF hb) hF hl hz ih
theorem VlG.kept {w w1 : World} {F : Nat → Prop} {v : Value} {d : Nd} (h : VlG w F v d) (hb : Below w.heap.size w w1) : VlG w1 F v d := h.ag (fun b _ hl => hb.block b hl)
def FdP (o : Option Nd) (w : World) (e : Ending) (w' : World) : Prop := (∃ v b, e = .returned (.tuple #[v, .bool b]) ∧ (∀ d, o = some d → b = true ∧ ∃ G, VlG w' G v d) ∧ (o = none → b = false ∧ v = .nilIface)) ∧ Below w.heap.size w w'
structure JsOk (V : World → Prop) : Prop where
  keep : ∀ (w W : World), V w → Below w.heap.size w W → V W
  prs : ∀ (l : List UInt8) (x : Option Addr) (L c : Nat) (w : World), l.length = L → L ≤ c → L ≤ 140737488355328 → IsB w (.slice x L c) l → V w → Calls Tryz.prog 16 #[.slice x L c] w fun e w' => JpP (prsA l) w e w'
  own : ∀ (l : List UInt8) (x : Option Addr) (L c : Nat) (w : World), l.length = L → L ≤ c → L ≤ 140737488355328 → IsB w (.slice x L c) l → V w → Calls Tryz.prog 16 #[.slice x L c] w fun e w' => JoP (prsA l) w e w'
  prt : ∀ (d : Nd) (F : Nat → Prop) (v : Value) (w : World), VlG w F v d → szN d ≤ 1099511627776 → depN d ≤ 60000 → V w → Calls Tryz.prog 14 #[v] w fun e w' => PtP d w e w'
  fld : ∀ (d : Nd) (F : Nat → Prop) (v : Value) (s : ByteArray) (w : World), VlG w F v d → depN d ≤ 60000 → V w → Calls Tryz.prog 38 #[v, .string s] w fun e w' => FdP (fldN d (lS s)) w e w'
end Go.Proofs.YtalnbddkhojjbaaGreatDoor
namespace Go.Proofs.YtalnbddkhojjbaaGreatDoor
open Go.RowKit

theorem dg_len : ∀ (f m : Nat), (digF f m).length ≤ f
  | 0, m => by simp [digF]
  | f + 1, m => by
    rw [digF]
    split
    · simp
    · have := dg_len f (m / 10)
      rw [List.length_append]; simp; omega
end Go.Proofs.YtalnbddkhojjbaaGreatDoor
namespace Go.Proofs.YtalnbddkhojjbaaGreatDoor
open Go.RowKit

theorem quF_len (l : List UInt8) : ∀ f k out R, quF l f k out = some R → k ≤ l.length → R.length ≤ out.length + 6 * (l.length - k) + 1
  | 0, k, out, R, h, _ => by simp [quF] at h
  | f + 1, k, out, R, h, hk => by
    rw [quF] at h
    split at h
    · rename_i hlt
      split at h
      · cases h
      · rename_i hn
        obtain ⟨r1, r2, r3⟩ := rn_range (l.drop k)
        rw [List.length_drop] at r2
        have h9 := quF_len l f _ _ R h (by omega)
        have h8 := quo_len (rn (l.drop k)).1
        rw [List.length_append] at h9
        omega
    · simp at h
      rw [← h]; simp
theorem quS_len15 (l : List UInt8) : (quS l).length ≤ 6 * l.length + 2 := by
  unfold quS
  cases h : quA l with
  | none => simp
  | some R =>
    have := quF_len l _ _ _ R h (Nat.zero_le _)
    simp at this ⊢; omega
theorem txtL_len : ∀ (vs : List Nd) (b : Bool), (∀ d ∈ vs, (txtN d).length + 100 ≤ 6 * szN d) → (txtL vs b).length ≤ 6 * szL vs
  | [], b, _ => by simp [txtL]
  | d :: r, b, h => by
    have h1 := h d (by simp)
    have h2 := txtL_len r false (fun d hd => h d (by simp [hd]))
    rw [txtL, szL]
    cases b <;> simp <;> omega
theorem txtO_len : ∀ (vs : List Nd) (ks : List (List UInt8)) (b : Bool), (∀ d ∈ vs, (txtN d).length + 100 ≤ 6 * szN d) → (txtO ks vs b).length ≤ 6 * ((ks.map (fun t => t.length + 16)).sum + szL vs)
  | [], ks, b, _ => by cases ks <;> simp [txtO]
  | d :: r, ks, b, h => by
    have h1 := h d (by simp)
    have h2 := txtO_len r ks.tail false (fun d hd => h d (by simp [hd]))
    have h3 := quS_len15 (ks.headD [])
    have h4 : (ks.headD []).length + (ks.tail.map (fun t => t.length + 16)).sum ≤ (ks.map (fun t => t.length + 16)).sum := by
      cases ks with
      | nil => simp
      | cons a t => simp
    rw [txtO, szL]
    cases b <;> simp only [List.length_append, cond_true, cond_false, List.length_cons, List.length_nil] <;> omega
theorem txtN_len : ∀ d, (txtN d).length + 100 ≤ 6 * szN d := Nd.ind fun k n s ks vs ih => by
  have h1 := txtL_len vs true ih
  have h2 := txtO_len vs ks true ih
  have h3 := quS_len15 s
  have h4 := dg_len 20 n.toNat
  rw [txtN_mk, szN_mk]
  unfold digN
  split
  · simp; omega
  · split
    · split <;> simp <;> omega
    · split
      · omega
      · split
        · omega
        · split
          · simp; omega
          · simp; omega
theorem txtL_snoc : ∀ (a : List Nd) (d : Nd) (b : Bool), txtL (a ++ [d]) b = txtL a b ++ (bif (a.isEmpty && b) then [] else [44]) ++ txtN d
  | [], d, b => by cases b <;> simp [txtL]
  | x :: a, d, b => by
    rw [List.cons_append, txtL, txtL, txtL_snoc a d false]
    simp
theorem txtO_snoc : ∀ (a : List Nd) (ks : List (List UInt8)) (d : Nd) (b : Bool), txtO ks (a ++ [d]) b = txtO ks a b ++ (bif (a.isEmpty && b) then [] else [44]) ++ quS (ks[a.length]?.getD []) ++ [58] ++ txtN d
  | [], ks, d, b => by cases ks <;> cases b <;> simp [txtO]
  | x :: a, ks, d, b => by
    rw [List.cons_append, txtO, txtO, txtO_snoc a ks.tail d false]
    cases ks <;> simp
theorem frmL_at : ∀ (vs : List Nd) (j : Nat) (d : Nd), vs[j]? = some d → frmL vs = true → frmN d = true
  | [], j, d, h, _ => by simp at h
  | x :: r, 0, d, h, hf => by simp at h; subst h; rw [frmL, Bool.and_eq_true] at hf; exact hf.1
  | x :: r, j + 1, d, h, hf => by
    rw [frmL, Bool.and_eq_true] at hf
    exact frmL_at r j d (by simpa using h) hf.2
theorem szL_at : ∀ (vs : List Nd) (j : Nat) (d : Nd), vs[j]? = some d → szN d ≤ szL vs
  | [], j, d, h => by simp at h
  | x :: r, 0, d, h => by simp at h; subst h; rw [szL]; omega
  | x :: r, j + 1, d, h => by
    have := szL_at r j d (by simpa using h)
    rw [szL]; omega
theorem szL_take : ∀ (vs : List Nd) (j : Nat), szL (vs.take j) ≤ szL vs
  | [], j => by simp
  | x :: r, 0 => by rw [List.take_zero]; simp [szL]
  | x :: r, j + 1 => by
    have := szL_take r j
    rw [List.take_succ_cons, szL, szL]
    omega
end Go.Proofs.YtalnbddkhojjbaaGreatDoor
