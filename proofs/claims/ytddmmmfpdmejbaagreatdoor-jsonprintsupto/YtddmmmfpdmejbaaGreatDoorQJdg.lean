import Derived.Test.YtddmmmfpdmejbaaGreatDoorQJok
namespace Go.Proofs.YtddmmmfpdmejbaaGreatDoor
open Go.RowKit

/-! assayref15.digits -/
def DgP (l : List UInt8) (w : World) (e : Ending) (w' : World) : Prop := (∃ S, e = .returned (.string S) ∧ lS S = l) ∧ Below w.heap.size w w'
def DgF (b : Nat) (v : Value) (x : World) : Prop := ∃ y, v = .slice (some ⟨y, 0, none⟩) 1 1 ∧ x.cell? ⟨y, 0, none⟩ = some (.int .u8 (48 + (b : Int)))
theorem DgF.keep {b : Nat} {v : Value} {w w' : World} (h : DgF b v w) (hb : Below w.heap.size w w') : DgF b v w' := by
  obtain ⟨y, e, c⟩ := h
  exact ⟨y, e, cell_later hb c⟩
theorem dg_u8 {n : Nat} (h : n < 256) : ((u8 n).toNat : Int) = (n : Int) := by
  unfold u8
  rw [UInt8.toNat_ofNat']
  omega
/-- A text. -/
def DgS (l : List UInt8) (v : Value) (_ : World) : Prop := ∃ S, v = .string S ∧ lS S = l
theorem DgS.keep {l : List UInt8} {v : Value} {w w' : World} (h : DgS l v w) (_ : Below w.heap.size w w') : DgS l v w' := h
theorem dg_len : ∀ (f m : Nat), (digF f m).length ≤ f
  | 0, m => by simp [digF]
  | f + 1, m => by
    rw [digF]
    split
    · simp
    · have := dg_len f (m / 10)
      rw [List.length_append]; simp; omega
set_option linter.unusedSimpArgs false in
set_option maxRecDepth 100000 in
set_option maxHeartbeats 8000000 in
theorem digits15_any : ∀ (f m : Nat) (w : World), m < 10 ^ f → 0 < f → m ≤ 9223372036854775807 → f ≤ 20 → Calls Tryz.prog 66 #[.int .i64 (m : Int)] w fun e w' => DgP (digF f m) w e w'
  | 0, m, w => fun _ h _ _ => by omega
  | f + 1, m, w => fun h _ h63 hf => by
    rw [digF]
    by_cases h10 : m < 10
    · rw [if_pos h10]
      have i1 : (m : Int) < 10 := by omega
      have w1 : IntKind.i64.wrap (48 + (m : Int)) = 48 + (m : Int) := by rw [IntKind.wrap_i64]; omega
      have w2 : IntKind.u8.wrap (48 + (m : Int)) = 48 + (m : Int) := by rw [IntKind.wrap_u8]; omega
      have e8 : ((u8 (48 + m)).toNat : Int) = 48 + (m : Int) := by rw [dg_u8 (by omega)]; omega
      have hI : IsB (w.alloc (.cells #[.int .u8 (48 + (m : Int))] 5)) (.slice (some ⟨w.heap.size, 0, none⟩) 1 1) [u8 (48 + m)] := .inr ⟨⟨w.heap.size, 0, none⟩, 1, rfl, fun i hi => by
        have : i = 0 := by simp at hi; omega
        subst this
        rw [addr_add, cell_of_row _ _ _ _ _ _ (heap_alloc_last _ _)]
        simp [e8]⟩
      have hcv := hI.str
      have bA := below_alloc w (.cells #[.int .u8 (48 + (m : Int))] 5)
      clear e8 hI h10
      go_enter Tryz.func66, Tryz.ntmps66
      go_wp2
      go_ret
      exact ⟨⟨_, rfl, lS_mk _⟩, bA⟩
    · rw [if_neg h10]
      have hf0 : 0 < f := by
        cases f with
        | zero => simp at h; omega
        | succ f => omega
      have ih := fun W => digits15_any f (m / 10) W (by rw [Nat.pow_succ] at h; omega) hf0 (by omega) (by omega)
      have hln := dg_len f (m / 10)
      obtain ⟨DL, hDL⟩ : ∃ q, digF f (m / 10) = q := ⟨_, rfl⟩
      simp only [hDL] at ih hln ⊢
      have i1 : ¬ (m : Int) < 10 := by omega
      obtain ⟨q, hq⟩ : ∃ q, m / 10 = q := ⟨_, rfl⟩
      obtain ⟨r, hr⟩ : ∃ r, m % 10 = r := ⟨_, rfl⟩
      simp only [hq] at ih
      rw [hr]
      have t1 : (m : Int).tdiv 10 = (q : Int) := by rw [Int.tdiv_eq_ediv_of_nonneg (by omega)]; omega
      have t2 : (m : Int).tmod 10 = (r : Int) := by rw [Int.tmod_eq_emod_of_nonneg (by omega)]; omega
      have w0 : IntKind.i64.wrap (q : Int) = (q : Int) := by rw [IntKind.wrap_i64]; omega
      have w3 : IntKind.i64.wrap (r : Int) = (r : Int) := by rw [IntKind.wrap_i64]; omega
      have w1 : IntKind.i64.wrap (48 + (r : Int)) = 48 + (r : Int) := by rw [IntKind.wrap_i64]; omega
      have w2 : IntKind.u8.wrap (48 + (r : Int)) = 48 + (r : Int) := by rw [IntKind.wrap_u8]; omega
      have e8 : ((u8 (48 + r)).toNat : Int) = 48 + (r : Int) := by rw [dg_u8 (by omega)]; omega
      have hcv := fun (x : World) (y : Nat) (hc : x.cell? ⟨y, 0, none⟩ = some (.int .u8 (48 + (r : Int)))) => (show IsB x (.slice (some ⟨y, 0, none⟩) 1 1) [u8 (48 + r)] from .inr ⟨⟨y, 0, none⟩, 1, rfl, fun i hi => by
        have : i = 0 := by simp at hi; omega
        subst this
        rw [addr_add, Nat.zero_add, hc]
        simp [e8]⟩).str
      obtain ⟨D1, hD1⟩ : ∃ q : ByteArray, ⟨[u8 (48 + r)].toArray⟩ = q := ⟨_, rfl⟩
      simp only [hD1] at hcv
      have HD1 : Hid (lS D1 = [u8 (48 + r)]) := by show _ = _; rw [← hD1]; exact lS_mk _
      have hz1 : D1.size = 1 := by rw [← lS_len, HD1.out]; rfl
      clear e8 hD1 hq hr hDL h10 h hf0
      go_enter Tryz.func66, Tryz.ntmps66
      go_upto_region 3 with fail
      refine wp_relies [Fx (.int .i64 (m : Int)), Fx (.int .i64 (q : Int)), DgS DL, Fx (.int .i64 (m : Int)), Fx (.int .i64 (r : Int)), Fx (.int .i64 (48 + (r : Int))), Fx (.int .u8 (48 + (r : Int))), DgF r, Fx (.string D1), DgS (DL ++ [u8 (48 + r)]), DgS (DL ++ [u8 (48 + r)])] (by kernel_rfl) (by kernel_rfl) ?_ ?_ ?_
      · repeat' (first | exact all_nil | apply all_cons)
        all_goals intro v y y' hv hb
        all_goals first | exact Fx_mono _ _ _ _ hv hb | exact DgS.keep hv hb | exact DgF.keep hv hb
      · refine ⟨?_, ?_, ?_, ?_, ?_, ?_, ?_, ?_, ?_, ?_, ?_, trivial⟩
        all_goals
          intro ρ x hp ρc ρg ρf ho hd
          have o0 : ρ (.tmp 0) = .int .i64 (m : Int) := ho 0 rfl
          clear ho
          simp only [depsR, depR, slotR, Fx, List.getElem?_cons_succ, List.getElem?_cons_zero, Region.binds, forall_const] at hd
          simp only [guardR]
          go_split_ands
        · go_simp
        · go_simp
        · go_simp
          refine (ih x).mono ?_
          rintro e x' ⟨⟨S8, rfl, l8⟩, hb⟩
          exact ⟨_, rfl, ⟨S8, rfl, l8⟩, hb⟩
        · go_simp
        · go_simp
        · go_simp
        · go_simp
        · go_simp
          exact ⟨⟨x.heap.size, rfl, cell_of_row _ _ 0 _ _ _ (heap_alloc_last _ _)⟩, below_alloc _ _⟩
        · obtain ⟨y8, e8, k8⟩ : DgF r (ρ (.tmp 17)) x := by first | exact hd | exact hd.1 | exact hd.2 | assumption
          have hq8 := hcv x y8 k8
          go_simp
        · obtain ⟨S8, e8, l8⟩ : DgS DL (ρ (.tmp 12)) x := by first | exact hd | exact hd.1 | exact hd.2 | assumption
          have hs8 : ¬ 9223372036854775807 < S8.size + 1 := by rw [← lS_len, l8]; omega
          have hq8 : ρ (.tmp 18) = .string D1 := by first | assumption | exact hd.2 | exact hd.1
          go_simp
          exact ⟨S8 ++ D1, rfl, by rw [lS_app, l8, HD1.out]⟩
        · obtain ⟨S8, e8, l8⟩ : DgS (DL ++ [u8 (48 + r)]) (ρ (.tmp 19)) x := by first | exact hd | exact hd.1 | exact hd.2 | assumption
          go_simp
          exact ⟨S8, rfl, l8⟩
      · intro us x1 hp1 hw
        simp only [owed, Fx] at hw
        obtain ⟨e0, e1, e2, e3, e4, e5, e6, e7, e8, e9, ⟨S9, e10, l9⟩, -⟩ := hw
        simp only [List.length_cons, List.length_nil, List.take_succ_cons, List.take_nil, List.drop_succ_cons, List.drop_nil, asg, List.cons_append, List.nil_append, e0, e1, e3, e4, e5, e6, e8, e10]
        clear e0 e1 e3 e4 e5 e6 e8 e10 e2 e7 e9
        have HP : Hid (DgP (DL ++ [u8 (48 + r)]) w (.returned (.string S9)) x1) := ⟨⟨S9, rfl, l9⟩, hp1⟩
        clear l9 hp1
        go_wp2
        go_ret
        exact HP.out
end Go.Proofs.YtddmmmfpdmejbaaGreatDoor
namespace Go.Proofs.YtddmmmfpdmejbaaGreatDoor
open Go.RowKit

/-! assayref15.Node: text -/
theorem quF_len (l : List UInt8) : ∀ f k out R, quF l f k out = some R → k ≤ l.length → R.length ≤ out.length + 6 * (l.length - k) + 1
  | 0, k, out, R, h, _ => by simp [quF] at h
  | f + 1, k, out, R, h, hk => by
    rw [quF] at h
    split at h
    · rename_i hlt
      split at h
      · cases h
      · rename_i hn
        obtain ⟨r1, r2, r3⟩ := rn_range (l.drop k)
        rw [List.length_drop] at r2
        have h9 := quF_len l f _ _ R h (by omega)
        have h8 := quo_len (rn (l.drop k)).1
        rw [List.length_append] at h9
        omega
    · simp at h
      rw [← h]; simp
theorem quS_len15 (l : List UInt8) : (quS l).length ≤ 6 * l.length + 2 := by
  unfold quS
  cases h : quA l with
  | none => simp
  | some R =>
    have := quF_len l _ _ _ R h (Nat.zero_le _)
    simp at this ⊢; omega
def rgN : Nd → Bool
  | .mk _ n _ _ vs => decide (n ≤ 9223372036854775807) && (vs.map fun d => rgN d).all id
def rgL : List Nd → Bool
  | [] => true
  | d :: r => rgN d && rgL r
theorem rgL_mpp : ∀ l : List Nd, (l.map fun d => rgN d).all id = rgL l
  | [] => rfl
  | d :: r => by rw [List.map_cons, List.all_cons, rgL_mpp r, rgL]; rfl
theorem rgN_mk (k n : Int) (s : List UInt8) (ks : List (List UInt8)) (vs : List Nd) : rgN (.mk k n s ks vs) = (decide (n ≤ 9223372036854775807) && rgL vs) := by rw [rgN, rgL_mpp]
theorem txtL_len : ∀ (vs : List Nd) (b : Bool), (∀ d ∈ vs, (txtN d).length + 100 ≤ 6 * szN d) → (txtL vs b).length ≤ 6 * szL vs
  | [], b, _ => by simp [txtL]
  | d :: r, b, h => by
    have h1 := h d (by simp)
    have h2 := txtL_len r false (fun d hd => h d (by simp [hd]))
    rw [txtL, szL]
    cases b <;> simp <;> omega
theorem txtO_len : ∀ (vs : List Nd) (ks : List (List UInt8)) (b : Bool), (∀ d ∈ vs, (txtN d).length + 100 ≤ 6 * szN d) → (txtO ks vs b).length ≤ 6 * ((ks.map (fun t => t.length + 16)).sum + szL vs)
  | [], ks, b, _ => by cases ks <;> simp [txtO]
  | d :: r, ks, b, h => by
    have h1 := h d (by simp)
    have h2 := txtO_len r ks.tail false (fun d hd => h d (by simp [hd]))
    have h3 := quS_len15 (ks.headD [])
    have h4 : (ks.headD []).length + (ks.tail.map (fun t => t.length + 16)).sum ≤ (ks.map (fun t => t.length + 16)).sum := by
      cases ks with
      | nil => simp
      | cons a t => simp
    rw [txtO, szL]
    cases b <;> simp only [List.length_append, cond_true, cond_false, List.length_cons, List.length_nil] <;> omega
theorem txtN_len : ∀ d, (txtN d).length + 100 ≤ 6 * szN d := Nd.ind fun k n s ks vs ih => by
  have h1 := txtL_len vs true ih
  have h2 := txtO_len vs ks true ih
  have h3 := quS_len15 s
  have h4 := dg_len 20 n.toNat
  rw [txtN_mk, szN_mk]
  unfold digN
  split
  · simp; omega
  · split
    · split <;> simp <;> omega
    · split
      · omega
      · split
        · omega
        · split
          · simp; omega
          · simp; omega
theorem txtL_snoc : ∀ (a : List Nd) (d : Nd) (b : Bool), txtL (a ++ [d]) b = txtL a b ++ (bif (a.isEmpty && b) then [] else [44]) ++ txtN d
  | [], d, b => by cases b <;> simp [txtL]
  | x :: a, d, b => by
    rw [List.cons_append, txtL, txtL, txtL_snoc a d false]
    simp
theorem txtO_snoc : ∀ (a : List Nd) (ks : List (List UInt8)) (d : Nd) (b : Bool), txtO ks (a ++ [d]) b = txtO ks a b ++ (bif (a.isEmpty && b) then [] else [44]) ++ quS (ks[a.length]?.getD []) ++ [58] ++ txtN d
  | [], ks, d, b => by cases ks <;> cases b <;> simp [txtO]
  | x :: a, ks, d, b => by
    rw [List.cons_append, txtO, txtO, txtO_snoc a ks.tail d false]
    cases ks <;> simp
theorem frmL_at : ∀ (vs : List Nd) (j : Nat) (d : Nd), vs[j]? = some d → frmL vs = true → frmN d = true
  | [], j, d, h, _ => by simp at h
  | x :: r, 0, d, h, hf => by simp at h; subst h; rw [frmL, Bool.and_eq_true] at hf; exact hf.1
  | x :: r, j + 1, d, h, hf => by
    rw [frmL, Bool.and_eq_true] at hf
    exact frmL_at r j d (by simpa using h) hf.2
theorem rgL_at : ∀ (vs : List Nd) (j : Nat) (d : Nd), vs[j]? = some d → rgL vs = true → rgN d = true
  | [], j, d, h, _ => by simp at h
  | x :: r, 0, d, h, hf => by simp at h; subst h; rw [rgL, Bool.and_eq_true] at hf; exact hf.1
  | x :: r, j + 1, d, h, hf => by
    rw [rgL, Bool.and_eq_true] at hf
    exact rgL_at r j d (by simpa using h) hf.2
theorem szL_at : ∀ (vs : List Nd) (j : Nat) (d : Nd), vs[j]? = some d → szN d ≤ szL vs
  | [], j, d, h => by simp at h
  | x :: r, 0, d, h => by simp at h; subst h; rw [szL]; omega
  | x :: r, j + 1, d, h => by
    have := szL_at r j d (by simpa using h)
    rw [szL]; omega
theorem szL_take : ∀ (vs : List Nd) (j : Nat), szL (vs.take j) ≤ szL vs
  | [], j => by simp
  | x :: r, 0 => by rw [List.take_zero]; simp [szL]
  | x :: r, j + 1 => by
    have := szL_take r j
    rw [List.take_succ_cons, szL, szL]
    omega
theorem szK_at : ∀ (ks : List (List UInt8)) (j : Nat) (t : List UInt8), ks[j]? = some t → t.length ≤ (ks.map (fun t => t.length + 16)).sum
  | [], j, d, h => by simp at h
  | x :: r, 0, d, h => by simp at h; subst h; simp; omega
  | x :: r, j + 1, d, h => by
    have := szK_at r j d (by simpa using h)
    simp at this ⊢; omega
end Go.Proofs.YtddmmmfpdmejbaaGreatDoor
namespace Go.Proofs.YtddmmmfpdmejbaaGreatDoor
open Go.RowKit

/-! assayref15.Node: text -/
def TxtOk (d : Nd) : Prop := ∀ (w : World) (F : Nat → Prop) (a : Rn), NdF w F a d → frmN d = true → rgN d = true → szN d ≤ 140737488355328 → Calls Tryz.prog 40 #[.agg (rnA a)] w fun e w' => DgP (txtN d) w e w'
set_option linter.unusedSimpArgs false in
set_option maxRecDepth 100000 in
set_option maxHeartbeats 16000000 in
theorem text15_step (k n : Int) (s : List UInt8) (ks : List (List UInt8)) (vs : List Nd) (ih : ∀ d ∈ vs, TxtOk d) : TxtOk (.mk k n s ks vs) := fun w F a ha hfr hrg hsz => by
  obtain ⟨a1, a2, a3, kb, rs, ak, -, akk, av, -, al, ⟨hmk, hmv⟩, ae⟩ := ha.inv
  have na := ak.num
  have va := av.num
  have hst : (strs kb).length = kb.length := by simp [strs]
  rw [hst] at na
  have hTl := txtL_len vs true (fun d _ => txtN_len d)
  have hTo := txtO_len vs ks true (fun d _ => txtN_len d)
  rw [szN_mk] at hsz
  rw [frmN_mk] at hfr
  rw [rgN_mk] at hrg
  simp only [Bool.and_eq_true, decide_eq_true_eq, Bool.not_eq_true', decide_eq_false_iff_not] at hfr hrg
  obtain ⟨⟨⟨hk16, hk3⟩, hk6⟩, hfl⟩ := hfr
  obtain ⟨hn63, hrl⟩ := hrg
  have bY := below_alloc w (.cells (rnA a) 41)
  have rA := RowC.new w (rnA a) 41
  obtain ⟨R, hR⟩ : ∃ q, txtN (.mk k n s ks vs) = q := ⟨_, rfl⟩
  rw [hR]
  rw [txtN_mk] at hR
  obtain ⟨n0, hn0⟩ : ∃ q, w.heap.size = q := ⟨_, rfl⟩
  rw [hn0] at rA
  go_enter Tryz.func40, Tryz.ntmps40
  go_upto_region 1 with fail
  have avY := av.kept bY
  have akY := ak.kept bY
  have HAE : Hid (∀ (i : Nat) u d, rs[i]? = some u → vs[i]? = some d → NdF (w.alloc (.cells (rnA a) 41)) F u d) := fun i u d h1 h2 => (ae i u d h1 h2).kept bY
  generalize w.alloc (.cells (rnA a) 41) = Y at rA bY avY akY HAE ⊢
  obtain ⟨k9, n9, s9, ⟨xk, nk, ck⟩, ⟨xv, nv, cv⟩⟩ := a
  simp only at a1 a2 a3 na va hmk hmv
  subst a1 a2 a3
  have c0 : Y.cell? ⟨n0, 0, none⟩ = some (.int .i64 k9) := rA.cell 0
  have c1 : Y.cell? ⟨n0, 1, none⟩ = some (.int .i64 n9) := rA.cell 1
  have c2 : Y.cell? ⟨n0, 2, none⟩ = some (.string s9) := rA.cell 2
  have c3 : Y.cell? ⟨n0, 3, none⟩ = some (.slice xk nk ck) := rA.cell 3
  have c4 : Y.cell? ⟨n0, 4, none⟩ = some (.slice xv nv cv) := rA.cell 4
  have HV : Hid (nv = rs.length ∧ nv = vs.length) := ⟨va, by omega⟩
  have HK : Hid (nk = kb.length ∧ kb.map lS = ks) := ⟨na, akk⟩
  have HAV : Hid (IsK ndE Y (.slice xv nv cv) rs) := avY
  have HAK : Hid (IsG Y (.slice xk nk ck) (strs kb)) := akY
  have HFL : Hid (frmL vs = true ∧ rgL vs = true) := ⟨hfl, hrl⟩
  have HRR : Hid _ := hR
  have HK6 : Hid (k9 = 6 → ks.length = vs.length) := fun e => Classical.byContradiction fun h9 => hk6 ⟨e, h9⟩
  clear ak av ae akk ha avY akY rA hst al na va hfl hrl hR hk6
  rcases (by omega : k9 = 1 ∨ k9 = 2 ∨ k9 = 3 ∨ k9 = 4 ∨ k9 = 5 ∨ k9 = 6) with rfl | rfl | rfl | rfl | rfl | rfl
  · go_wp2
    go_ret
    exact ⟨⟨_, rfl, by rw [← HRR.out]; rfl⟩, bY⟩
  · by_cases h1 : n9 = 1
    · subst h1
      go_wp2
      go_ret
      exact ⟨⟨_, rfl, by rw [← HRR.out]; rfl⟩, bY⟩
    · have f1 : (n9 == 1) = false := beq_eq_false_iff_ne.2 h1
      have HR2 : Hid (R = [102, 97, 108, 115, 101]) := by show _ = _; rw [← HRR.out]; simp [h1]
      clear h1
      go_wp2
      go_ret
      exact ⟨⟨_, rfl, by rw [HR2.out]; rfl⟩, bY⟩
  · obtain ⟨m, rfl⟩ : ∃ m : Nat, n9 = (m : Int) := ⟨n9.toNat, by omega⟩
    have hD := digits15_any 20 m Y (by omega) (by omega) (by omega) (by omega)
    have HR2 : Hid (R = digF 20 m) := by show _ = _; rw [← HRR.out]; simp [digN]
    rw [← HR2.out] at hD
    go_wp2_with fail
    refine hD.mono ?_
    rintro e w1 ⟨⟨S1, rfl, hl1⟩, hb1⟩
    clear hD
    have hB1 := bY.trans (hb1.mono bY.size)
    go_wp2
    go_ret
    exact ⟨⟨_, rfl, hl1⟩, hB1⟩
  · have hQ := refQuote_any s9 Y (by rw [← lS_len]; omega)
    have HR2 : Hid (R = quS (lS s9)) := by show _ = _; rw [← HRR.out]; simp
    unfold QuP at hQ
    rw [← HR2.out] at hQ
    go_wp2_with fail
    refine hQ.mono ?_
    rintro e w1 ⟨rfl, hb1⟩
    clear hQ
    have hB1 := bY.trans (hb1.mono bY.size)
    go_wp2
    go_ret
    exact ⟨⟨_, rfl, lS_mk _⟩, hB1⟩
  · have HR2 : Hid (R = 91 :: (txtL vs true ++ [93])) := by show _ = _; rw [← HRR.out]; simp
    clear HRR
    go_wp2_with fail
    go_loopw [5, 6] (fun sv iv wr => ∃ (j : Nat) (S : ByteArray), j ≤ nv ∧ sv = .string S ∧ iv = .int .i64 j ∧ Hid (lS S = txtL (vs.take j) true) ∧ Below Y.heap.size Y wr) (fun _ iv _ => nv - (intOf iv).toNat)
    case atStart => exact ⟨0, _, by omega, rfl, rfl, rfl, Below.refl _ _⟩
    case round =>
      obtain ⟨j, S, hj, rfl, rfl, HS, hB⟩ := hrel
      have q0 := cell_later hB c0
      have q4 := cell_later hB c4
      have hSz : S.size ≤ 6 * szL vs := by
        rw [← lS_len, HS.out]
        have := txtL_len (vs.take j) true (fun d _ => txtN_len d)
        have := szL_take vs j
        omega
      by_cases hlt : j < nv
      · have i1 : (j : Int) < (nv : Int) := by omega
        have i0 : (0 : Int) ≤ (j : Int) := by omega
        obtain ⟨va, vc⟩ := HV.out
        obtain ⟨ra, hra⟩ : ∃ q, rs[j]? = some q := ⟨_, List.getElem?_eq_getElem (by omega)⟩
        obtain ⟨dd, hdd⟩ : ∃ q, vs[j]? = some q := ⟨_, List.getElem?_eq_getElem (by omega)⟩
        obtain ⟨ba, oa, rfl, -, ca⟩ := IsK.at HAV.out j ra hra
        have hzd := szL_at vs j dd hdd
        have hC := fun x (hx : Below Y.heap.size Y x) => ih dd (List.mem_of_getElem? hdd) x F ra ((HAE.out j ra dd hra hdd).kept hx) (frmL_at vs j dd hdd HFL.out.1) (rgL_at vs j dd hdd HFL.out.2) (by omega)
        have la := fun x (hx : Below Y.heap.size Y x) => run_load_el (range_later ca hx)
        have hwr : IntKind.i64.wrap ((j : Int) + 1) = (j : Int) + 1 := by rw [IntKind.wrap_i64]; omega
        have l5 : ndE.k = 5 := rfl
        simp only [l5] at la
        have hlt2 := txtN_len dd
        have HT : Hid (txtL (vs.take (j + 1)) true = txtL (vs.take j) true ++ (bif ((vs.take j).isEmpty && true) then [] else [44]) ++ txtN dd) := by show _ = _; rw [List.take_add_one, hdd]; exact txtL_snoc _ _ _
        have HEM : Hid ((vs.take j).isEmpty = decide (j = 0)) := by
          show _ = _
          cases j with
          | zero => simp
          | succ j => cases vs with
            | nil => simp at vc; omega
            | cons a t => simp
        have hcc := hC wr hB
        have lx := la wr hB
        clear ca hra hdd va vc hC la
        by_cases hj0 : 0 < j
        · have i9 : (0 : Int) < (j : Int) := by omega
          have hs9 : ¬ 9223372036854775807 < S.size + 1 := by omega
          have HE9 : Hid (txtL (vs.take (j + 1)) true = lS (S ++ ⟨#[44]⟩) ++ txtN dd) := by
            show _ = _
            rw [HT.out, HEM.out, decide_eq_false (by omega), lS_app, HS.out]; rfl
          have hS2 : (S ++ (⟨#[44]⟩ : ByteArray)).size = S.size + 1 := by rw [ByteArray.size_append]; rfl
          clear HT HEM HS
          go_upto_region 19 with fail
          generalize hS3 : S ++ (⟨#[44]⟩ : ByteArray) = S3 at HE9 hS2 ⊢
          clear hS3
          go_wp2_with fail
          refine hcc.mono ?_
          rintro e w1 ⟨⟨T, rfl, hT⟩, hb1⟩
          clear hcc lx
          have hB1 := hB.trans (hb1.mono hB.size)
          have hs8 : ¬ 9223372036854775807 < S3.size + T.size := by rw [← lS_len T, hT]; omega
          have HN : Hid (lS (S3 ++ T) = txtL (vs.take (j + 1)) true) := by show _ = _; rw [lS_app, hT, HE9.out]
          clear hT hb1 hB hS2
          go_wp2
          go_roundw
          case rel => first | exact ⟨j + 1, _, by omega, rfl, by go_num, HN, hB1⟩ | ((repeat apply Exists.intro); refine ⟨⟨j + 1, _, by omega, rfl, ?_, HN, hB1⟩, rfl⟩; go_num)
          case measure => simp [intOf]; omega
        · have i9 : ¬ (0 : Int) < (j : Int) := by omega
          have HE9 : Hid (txtL (vs.take (j + 1)) true = lS S ++ txtN dd) := by
            show _ = _
            rw [HT.out, HEM.out, decide_eq_true (by omega), HS.out]; simp
          clear HT HEM HS
          go_wp2_with fail
          refine hcc.mono ?_
          rintro e w1 ⟨⟨T, rfl, hT⟩, hb1⟩
          clear hcc lx
          have hB1 := hB.trans (hb1.mono hB.size)
          have hs8 : ¬ 9223372036854775807 < S.size + T.size := by rw [← lS_len T, hT]; omega
          have HN : Hid (lS (S ++ T) = txtL (vs.take (j + 1)) true) := by show _ = _; rw [lS_app, hT, HE9.out]
          clear hT hb1 hB
          go_wp2
          go_roundw
          case rel => first | exact ⟨j + 1, _, by omega, rfl, by go_num, HN, hB1⟩ | ((repeat apply Exists.intro); refine ⟨⟨j + 1, _, by omega, rfl, ?_, HN, hB1⟩, rfl⟩; go_num)
          case measure => simp [intOf]; omega
      · obtain rfl : j = nv := by omega
        have i1 : ¬ (j : Int) < (j : Int) := by omega
        have HS1 : Hid (lS S = txtL vs true) := by
          have h9 : lS S = txtL (vs.take j) true := HS.out
          rw [List.take_of_length_le (by obtain ⟨va, vc⟩ := HV.out; omega)] at h9
          exact h9
        have hs9 : ¬ 9223372036854775807 < 1 + S.size := by omega
        have hs8 : ¬ 9223372036854775807 < 1 + S.size + 1 := by omega
        have hs7 : ((⟨#[91]⟩ : ByteArray) ++ S).size = 1 + S.size := by rw [ByteArray.size_append]; rfl
        have HP : Hid (DgP R w (.returned (.string ((⟨#[91]⟩ : ByteArray) ++ S ++ ⟨#[93]⟩))) wr) := ⟨⟨_, rfl, by rw [HR2.out, lS_app, lS_app, HS1.out]; rfl⟩, bY.trans (hB.mono bY.size)⟩
        clear HS HS1 hB
        go_wp2
        go_ret
        exact HP.out
  · have HR2 : Hid (R = 123 :: (txtO ks vs true ++ [125])) := by show _ = _; rw [← HRR.out]; simp
    have HKL : Hid (ks.length = vs.length) := HK6.out rfl
    clear HRR HK6
    go_wp2_with fail
    go_loopw [5, 6] (fun sv iv wr => ∃ (j : Nat) (S : ByteArray), j ≤ nv ∧ sv = .string S ∧ iv = .int .i64 j ∧ Hid (lS S = txtO ks (vs.take j) true) ∧ Below Y.heap.size Y wr) (fun _ iv _ => nv - (intOf iv).toNat)
    case atStart => exact ⟨0, _, by omega, rfl, rfl, by show _ = _; rw [List.take_zero]; cases ks <;> simp [txtO, lS], Below.refl _ _⟩
    case round =>
      obtain ⟨j, S, hj, rfl, rfl, HS, hB⟩ := hrel
      have q0 := cell_later hB c0
      have q3 := cell_later hB c3
      have q4 := cell_later hB c4
      have hSz : S.size ≤ 6 * ((ks.map (fun t => t.length + 16)).sum + szL vs) := by
        rw [← lS_len, HS.out]
        have := txtO_len (vs.take j) ks true (fun d _ => txtN_len d)
        have := szL_take vs j
        omega
      by_cases hlt : j < nv
      · have i1 : (j : Int) < (nv : Int) := by omega
        have i0 : (0 : Int) ≤ (j : Int) := by omega
        obtain ⟨va, vc⟩ := HV.out
        obtain ⟨ra, hra⟩ : ∃ q, rs[j]? = some q := ⟨_, List.getElem?_eq_getElem (by omega)⟩
        obtain ⟨dd, hdd⟩ : ∃ q, vs[j]? = some q := ⟨_, List.getElem?_eq_getElem (by omega)⟩
        obtain ⟨ba, oa, rfl, -, ca⟩ := IsK.at HAV.out j ra hra
        have hzd := szL_at vs j dd hdd
        have hC := fun x (hx : Below Y.heap.size Y x) => ih dd (List.mem_of_getElem? hdd) x F ra ((HAE.out j ra dd hra hdd).kept hx) (frmL_at vs j dd hdd HFL.out.1) (rgL_at vs j dd hdd HFL.out.2) (by omega)
        have la := fun x (hx : Below Y.heap.size Y x) => run_load_el (range_later ca hx)
        have hwr : IntKind.i64.wrap ((j : Int) + 1) = (j : Int) + 1 := by rw [IntKind.wrap_i64]; omega
        have l5 : ndE.k = 5 := rfl
        simp only [l5] at la
        have hlt2 := txtN_len dd
        obtain ⟨kl, kk⟩ := HK.out
        have hkv : ks.length = vs.length := HKL.out
        have hkb : kb.length = ks.length := by rw [← kk]; simp
        obtain ⟨K, hK0⟩ : ∃ q, kb[j]? = some q := ⟨_, List.getElem?_eq_getElem (by omega)⟩
        have hks : ks[j]? = some (lS K) := by rw [← kk]; simp [hK0]
        obtain ⟨bk, ok, rfl, -, ck9⟩ := IsG.spot HAK.out j (by simp [strs]; omega)
        have q5 := cell_later hB (ck9 j _ (by simp [strs, hK0] : (strs kb)[j]? = some (.string K)))
        have i5 : (j : Int) < (nk : Int) := by omega
        have hzk := szK_at ks j _ hks
        have hq9 := quS_len15 (lS K)
        have hQ := refQuote_any K wr (by rw [← lS_len]; omega)
        have HT : Hid (txtO ks (vs.take (j + 1)) true = txtO ks (vs.take j) true ++ (bif ((vs.take j).isEmpty && true) then [] else [44]) ++ quS (lS K) ++ [58] ++ txtN dd) := by
          have h9 := txtO_snoc (vs.take j) ks dd true
          rw [List.length_take, Nat.min_eq_left (by omega), hks] at h9
          show _ = _
          rw [List.take_add_one, hdd]; exact h9
        have HEM : Hid ((vs.take j).isEmpty = decide (j = 0)) := by
          show _ = _
          cases j with
          | zero => simp
          | succ j => cases vs with
            | nil => simp at vc; omega
            | cons a t => simp
        unfold QuP at hQ
        obtain ⟨Q, hQ0⟩ : ∃ q : ByteArray, ⟨(quS (lS K)).toArray⟩ = q := ⟨_, rfl⟩
        have hQl : lS Q = quS (lS K) := by rw [← hQ0]; exact lS_mk _
        have hQz : Q.size ≤ 6 * (lS K).length + 2 := by rw [← lS_len, hQl]; exact hq9
        rw [hQ0] at hQ
        rw [← hQl] at HT
        clear ca hra hdd va vc kl kk hkv hkb hK0 hks ck9 hQ0 hQl hq9
        by_cases hj0 : 0 < j
        · have i9 : (0 : Int) < (j : Int) := by omega
          have hs9 : ¬ 9223372036854775807 < S.size + 1 := by omega
          have HE9 : Hid (txtO ks (vs.take (j + 1)) true = lS (S ++ ⟨#[44]⟩) ++ lS Q ++ [58] ++ txtN dd) := by
            show _ = _
            rw [HT.out, HEM.out, decide_eq_false (by omega), lS_app, HS.out]; rfl
          have hS2 : (S ++ (⟨#[44]⟩ : ByteArray)).size ≤ S.size + 1 := by rw [ByteArray.size_append]; exact Nat.le_refl _
          clear HT HEM HS
          go_upto_region 19 with fail
          generalize hS3 : S ++ (⟨#[44]⟩ : ByteArray) = S3 at HE9 hS2 ⊢
          clear hS3
          go_wp2_with fail
          refine hQ.mono ?_
          rintro e w1 ⟨rfl, hb1⟩
          clear hQ q5
          have hB1 := hB.trans (hb1.mono hB.size)
          replace q4 := cell_later hb1 q4
          replace q0 := cell_later hb1 q0
          have hs8 : ¬ 9223372036854775807 < S3.size + Q.size := by omega
          have hs7 : (S3 ++ Q).size = S3.size + Q.size := ByteArray.size_append
          have hs6 : ¬ 9223372036854775807 < S3.size + Q.size + 1 := by omega
          have HE8 : Hid (txtO ks (vs.take (j + 1)) true = lS (S3 ++ Q ++ ⟨#[58]⟩) ++ txtN dd) := by
            show _ = _
            rw [HE9.out, lS_app, lS_app]; rfl
          have hS8 : (S3 ++ Q ++ (⟨#[58]⟩ : ByteArray)).size ≤ S3.size + Q.size + 1 := by rw [ByteArray.size_append, ByteArray.size_append]; exact Nat.le_refl _
          have hcc := hC w1 hB1
          have lx := la w1 hB1
          clear HE9 hC la hb1 hB
          go_upto_region 22 with fail
          generalize hS9 : S3 ++ Q ++ (⟨#[58]⟩ : ByteArray) = S9 at HE8 hS8 ⊢
          clear hS9 hs7 hs8 hs6
          go_wp2_with fail
          refine hcc.mono ?_
          rintro e w2 ⟨⟨T, rfl, hT⟩, hb2⟩
          clear hcc lx
          have hB2 := hB1.trans (hb2.mono hB1.size)
          have hs8 : ¬ 9223372036854775807 < S9.size + T.size := by rw [← lS_len T, hT]; omega
          have HN : Hid (lS (S9 ++ T) = txtO ks (vs.take (j + 1)) true) := by show _ = _; rw [lS_app, hT, HE8.out]
          clear hT hb2 hB1 hS8
          go_wp2
          go_roundw
          case rel => first | exact ⟨j + 1, _, by omega, rfl, by go_num, HN, hB2⟩ | ((repeat apply Exists.intro); refine ⟨⟨j + 1, _, by omega, rfl, ?_, HN, hB2⟩, rfl⟩; go_num)
          case measure => simp [intOf]; omega
        · have i9 : ¬ (0 : Int) < (j : Int) := by omega
          have HE9 : Hid (txtO ks (vs.take (j + 1)) true = lS S ++ lS Q ++ [58] ++ txtN dd) := by
            show _ = _
            rw [HT.out, HEM.out, decide_eq_true (by omega), HS.out]; simp
          clear HT HEM HS
          go_upto_region 19 with fail
          have hS2 : S.size ≤ S.size + 1 := by omega
          generalize S = S3 at HE9 hSz ⊢
          clear hS2
          have hS2 : S3.size ≤ S3.size + 1 := by omega
          go_wp2_with fail
          refine hQ.mono ?_
          rintro e w1 ⟨rfl, hb1⟩
          clear hQ q5
          have hB1 := hB.trans (hb1.mono hB.size)
          replace q4 := cell_later hb1 q4
          replace q0 := cell_later hb1 q0
          have hs8 : ¬ 9223372036854775807 < S3.size + Q.size := by omega
          have hs7 : (S3 ++ Q).size = S3.size + Q.size := ByteArray.size_append
          have hs6 : ¬ 9223372036854775807 < S3.size + Q.size + 1 := by omega
          have HE8 : Hid (txtO ks (vs.take (j + 1)) true = lS (S3 ++ Q ++ ⟨#[58]⟩) ++ txtN dd) := by
            show _ = _
            rw [HE9.out, lS_app, lS_app]; rfl
          have hS8 : (S3 ++ Q ++ (⟨#[58]⟩ : ByteArray)).size ≤ S3.size + Q.size + 1 := by rw [ByteArray.size_append, ByteArray.size_append]; exact Nat.le_refl _
          have hcc := hC w1 hB1
          have lx := la w1 hB1
          clear HE9 hC la hb1 hB
          go_upto_region 22 with fail
          generalize hS9 : S3 ++ Q ++ (⟨#[58]⟩ : ByteArray) = S9 at HE8 hS8 ⊢
          clear hS9 hs7 hs8 hs6
          go_wp2_with fail
          refine hcc.mono ?_
          rintro e w2 ⟨⟨T, rfl, hT⟩, hb2⟩
          clear hcc lx
          have hB2 := hB1.trans (hb2.mono hB1.size)
          have hs8 : ¬ 9223372036854775807 < S9.size + T.size := by rw [← lS_len T, hT]; omega
          have HN : Hid (lS (S9 ++ T) = txtO ks (vs.take (j + 1)) true) := by show _ = _; rw [lS_app, hT, HE8.out]
          clear hT hb2 hB1 hS8
          go_wp2
          go_roundw
          case rel => first | exact ⟨j + 1, _, by omega, rfl, by go_num, HN, hB2⟩ | ((repeat apply Exists.intro); refine ⟨⟨j + 1, _, by omega, rfl, ?_, HN, hB2⟩, rfl⟩; go_num)
          case measure => simp [intOf]; omega
      · obtain rfl : j = nv := by omega
        have i1 : ¬ (j : Int) < (j : Int) := by omega
        have HS1 : Hid (lS S = txtO ks vs true) := by
          have h9 : lS S = txtO ks (vs.take j) true := HS.out
          rw [List.take_of_length_le (by obtain ⟨va, vc⟩ := HV.out; omega)] at h9
          exact h9
        have hs9 : ¬ 9223372036854775807 < 1 + S.size := by omega
        have hs8 : ¬ 9223372036854775807 < 1 + S.size + 1 := by omega
        have hs7 : ((⟨#[123]⟩ : ByteArray) ++ S).size = 1 + S.size := by rw [ByteArray.size_append]; rfl
        have HP : Hid (DgP R w (.returned (.string ((⟨#[123]⟩ : ByteArray) ++ S ++ ⟨#[125]⟩))) wr) := ⟨⟨_, rfl, by rw [HR2.out, lS_app, lS_app, HS1.out]; rfl⟩, bY.trans (hB.mono bY.size)⟩
        clear HS HS1 hB
        go_wp2
        go_ret
        exact HP.out
theorem text15_any : ∀ d, TxtOk d := Nd.ind fun k n s ks vs ih => text15_step k n s ks vs ih
end Go.Proofs.YtddmmmfpdmejbaaGreatDoor
