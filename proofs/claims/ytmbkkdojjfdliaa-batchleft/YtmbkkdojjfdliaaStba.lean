
import Derived.Test.YtmbkkdojjfdliaaStb9
import Derived.Test.YtmbkkdojjfdliaaBat3
namespace Go.Proofs.Ytmbkkdojjfdliaa
open Go.RowKit

/-! slices.Clone, slices.CompactFunc, batch's counting -/
@[go_sem] theorem eqNil26 (w : World) (a : Option Addr) (n c : Nat) : (binOp .eql 22 (.slice a n c) (.slice none 0 0)).run Try.prog w = .ok (.bool a.isNone) w := Lib.run_eql_slice_nil w _ _ a n c 0 0 Try.underlying22
set_option linter.unusedSimpArgs false in
theorem clone26 (w : World) (x : Option Addr) (n c : Nat) (ds : List Wr) (hn : ds.length = n) (h : IsK wrE w (.slice x n c) ds) (hl : (n + 1) * 72 ≤ 140737488355328) :
    Calls Try.prog 20 #[.slice x n c] w fun e w' => ∃ y c', e = .returned (.slice y n c') ∧ OwnK wrE w' w.heap.size (.slice y n c') ds ∧ Below w.heap.size w w' := by
  cases x with
  | none =>
    obtain rfl : ds = [] := by
      cases ds with
      | nil => rfl
      | cons d r => obtain ⟨b, o, hx, -⟩ := h.at 0 d rfl; cases hx
    obtain rfl : n = 0 := by simpa using hn.symm
    have HO : Hid _ := OwnK.nil wrE w w.heap.size
    clear h
    go_enter Try.func20, Try.ntmps20
    go_wp2
    go_ret
    exact ⟨none, 0, rfl, HO.out, Below.refl _ _⟩
  | some x =>
    have hb := below_alloc w (.cells #[] 29)
    have hO := OwnK.lit0 wrE w
    have hI := h.kept hb
    rw [← hn] at hI
    obtain ⟨y, c', w1, hr, hO1, hB1⟩ := run_copyK wrE_ok (w.alloc (.cells #[] 29)) _ (some x) c ds w.heap.size 22 hO (by simp) hI (by show ds.length * 72 ≤ _; omega) (by unfold maxLen; omega)
    have hS : wrE.S = 22 := rfl
    rw [hS, hn] at hr
    rw [hn] at hO1
    have HO : Hid _ := hO1
    have HB : Hid (Below w.heap.size w w1) := hb.trans hB1
    clear hO hI hO1 hB1 hb h
    go_enter Try.func20, Try.ntmps20
    go_wp2_with (at_builtin; refine wpL_appT 22 rfl _ _ rfl _ w1 (by exact hr) ?_)
    go_ret
    exact ⟨y, c', rfl, HO.out, HB.out⟩
def cutW1 (x lo : Value) : Sem Next := do pure (.value (← Instr.sliceAt 22 x (some lo) none none))
def cutW0 (x hi : Value) : Sem Next := do pure (.value (← Instr.sliceAt 22 x none (some hi) none))
def cutW3 (x hi mx : Value) : Sem Next := do pure (.value (← Instr.sliceAt 22 x none (some hi) (some mx)))
theorem execOp_cutW1 (ρ : Operand → Value) (dst : Option Tmp) (ty : TypeId) (pos : String) (after : Array Edge) (guard : Option (Nat × Bool)) (x lo : Operand) : execOp ρ { dst, op := .slice 22 x (some lo) none none, type := ty, pos, after, guard } = cutW1 (ρ x) (ρ lo) := rfl
theorem execOp_cutW0 (ρ : Operand → Value) (dst : Option Tmp) (ty : TypeId) (pos : String) (after : Array Edge) (guard : Option (Nat × Bool)) (x hi : Operand) : execOp ρ { dst, op := .slice 22 x none (some hi) none, type := ty, pos, after, guard } = cutW0 (ρ x) (ρ hi) := rfl
theorem execOp_cutW3 (ρ : Operand → Value) (dst : Option Tmp) (ty : TypeId) (pos : String) (after : Array Edge) (guard : Option (Nat × Bool)) (x hi mx : Operand) : execOp ρ { dst, op := .slice 22 x none (some hi) (some mx), type := ty, pos, after, guard } = cutW3 (ρ x) (ρ hi) (ρ mx) := rfl
attribute [local go_sem ↓] execOp_cutW1 execOp_cutW0
theorem run_cutW1 (w : World) (b o n c k r d : Nat) (h1 : k + r = n) (h2 : k + d = c) (h4 : 0 < d) : (cutW1 (.slice (some ⟨b, o, none⟩) n c) (.int .i64 (k : Int))).run Try.prog w = .ok (.value (.slice (some ⟨b, o + k * 65, none⟩) r d)) w := by
  have b1 : ∀ W : World, (Instr.sliceBound (.int .i64 (k : Int)) n BoundsCode.sliceB).run Try.prog W = .ok k W := fun W => by
    have := run_sliceBound (P := Try.prog) W .i64 (k : Int) n BoundsCode.sliceB (by omega) (by omega)
    simpa using this
  have e1 : ¬ c = k := by omega
  have e2 : n - k = r := by omega
  have e3 : c - k = d := by omega
  simp [cutW1, Instr.sliceAt, Instr.slice, run_underlying Try.underlying22, Instr.sliceBounds, b1, e1, e2, e3, addr_add, Try.sizeOf29]
theorem run_cutW0 (w : World) (b o n c k : Nat) (h1 : k ≤ c) : (cutW0 (.slice (some ⟨b, o, none⟩) n c) (.int .i64 (k : Int))).run Try.prog w = .ok (.value (.slice (some ⟨b, o, none⟩) k c)) w := by
  have b1 : ∀ W : World, (Instr.sliceBound (.int .i64 (k : Int)) c BoundsCode.sliceAcap).run Try.prog W = .ok k W := fun W => by
    have := run_sliceBound (P := Try.prog) W .i64 (k : Int) c BoundsCode.sliceAcap (by omega) (by omega)
    simpa using this
  by_cases hc : c = 0
  · subst hc
    simp [cutW0, Instr.sliceAt, Instr.slice, run_underlying Try.underlying22, Instr.sliceBounds, b1, Try.sizeOf29]
  · simp [cutW0, Instr.sliceAt, Instr.slice, run_underlying Try.underlying22, Instr.sliceBounds, b1, Try.sizeOf29]
    intro _
    rw [addr_add, Nat.add_zero]
/-- clear(s[K:]): cells behind the first K are written. -/
theorem own_clear {w : World} {B g n c : Nat} {ms : List Wr} (h : OwnK wrE w B (.slice (some ⟨g, 0, none⟩) n c) ms) (K r d : Nat) (hK : K + r = n) (hr : 0 < r) : ∃ vs, ∀ ty, (Builtin.clear_ #[22] ty #[.slice (some ⟨g, K * 65, none⟩) r d]).run Try.prog w = .ok (.tuple #[]) (w.setCells g (K * 65) vs) := by
  have hzl : ∀ n, (Builtin.zeroCells (wrA wrZ) n).toList.length = n * 65 := fun n => by simp [Builtin.zeroCells, wrA_size]
  have hz1 : ∀ n, ∀ v ∈ (Builtin.zeroCells (wrA wrZ) n).toList, v.oneCell' = true := fun n v hv => by
    simp only [Builtin.zeroCells, Array.toList_map, List.mem_map] at hv
    obtain ⟨i, -, rfl⟩ := hv
    have hi : i % (wrA wrZ).size < (wrA wrZ).size := Nat.mod_lt _ (by rw [wrA_size]; omega)
    rw [getElem!_pos (wrA wrZ) (i % (wrA wrZ).size) hi]
    exact Array.all_eq_true_iff_forall_mem.1 (wrA_one wrZ) _ (Array.getElem_mem hi)
  have ht := h.there (K * 65) (r * 65) (by have : K * 65 + r * 65 = n * 65 := by rw [← hK, Nat.add_mul]
                                           show _ ≤ n * 65
                                           omega)
  refine ⟨(Builtin.zeroCells (wrA wrZ) r).toList, fun ty => ?_⟩
  have hst := run_storeCells_cells (P := Try.prog) g (K * 65) (Builtin.zeroCells (wrA wrZ) r).toList 0 w (fun j hj => by simpa using (ht j (by rw [hzl] at hj; exact hj)).1) (fun j hj => by simpa using (ht j (by rw [hzl] at hj; exact hj)).2) (hz1 r)
  simp only [Nat.add_zero] at hst
  obtain ⟨m, rfl⟩ : ∃ m, r = m + 1 := ⟨r - 1, by omega⟩
  have hc : (Value.agg (wrA wrZ)).cells = wrA wrZ := rfl
  simp only [Builtin.clear_]
  simp [zero_wr26, hc, hst, run_underlying Try.underlying22]
theorem own_past {w : World} {B g n c : Nat} {ms : List Wr} (h : OwnK wrE w B (.slice (some ⟨g, 0, none⟩) n c) ms) (vs : List Value) : OwnK wrE (w.setCells g (n * 65) vs) B (.slice (some ⟨g, 0, none⟩) n c) ms := by
  obtain ⟨cur, hn, hb, hg, hle, hm, hs, ht⟩ := h.heap
  subst hn
  refine ⟨h.1, .inr ⟨g, c, _, rfl, hb, heap_setC g vs _ w cur _ _ hg, hle, hm, by simpa using hs, ?_⟩⟩
  have hs' : cur.size = c * 65 := hs
  have hle' := Nat.mul_le_mul_right 65 hle
  rw [← ht]
  apply List.ext_getElem?
  intro t
  show ((setM cur (ms.length * 65) vs).toList.take (ms.length * 65))[t]? = (cur.toList.take (ms.length * 65))[t]?
  by_cases hj : t < ms.length * 65
  · rw [List.getElem?_take_of_lt hj, List.getElem?_take_of_lt hj, Array.getElem?_toList, Array.getElem?_toList, setM_get _ _ _ t (by omega), if_neg (by omega)]
  · rw [List.getElem?_take_eq_none (by omega), List.getElem?_take_eq_none (by omega)]
theorem gw_rest (rs ts : List Wr) (K i : Nat) (hK : rs.length = K) (hi : K ≤ i) : gw (rs ++ ts.drop K) i = gw ts i := by
  unfold gw
  subst hK
  rw [List.getElem?_append_right hi, List.getElem?_drop, show rs.length + (i - rs.length) = i by omega]
theorem put_rest (rs ts : List Wr) (K : Nat) (x : Wr) (hK : rs.length = K) (hl : K < ts.length) : (rs ++ ts.drop K).set K x = (rs ++ [x]) ++ ts.drop (K + 1) := by
  rw [List.drop_eq_getElem_cons hl, set_mid rs _ _ x K hK]
  simp
set_option linter.unusedSimpArgs false in
theorem compact1 (w : World) (x : Option Addr) (n c : Nat) (ev : Value) (h2 : n < 2) : Calls Try.prog 25 #[.slice x n c, ev] w fun e w' => e = .returned (.slice x n c) ∧ Below w.heap.size w w' := by
  have hi2 : (n : Int) < 2 := by omega
  go_enter Try.func25, Try.ntmps25
  go_wp2
  go_ret
  exact ⟨rfl, Below.refl _ _⟩
def eqV : Value := .func (.func 26) #[] #[]
theorem cmpW_next (ts : List Wr) (k : Nat) (h0 : 0 < k) (hk : k < ts.length) : cmpW (ts.take (k + 1)) = cmpW (ts.take k) ++ (if (gw ts k).1 = (gw ts (k - 1)).1 then [] else [gw ts k]) := by
  obtain ⟨m, rfl⟩ : ∃ m, k = m + 1 := ⟨k - 1, by omega⟩
  exact cmpW_take ts m _ _ (gw_get ts m (by omega)) (gw_get ts (m + 1) hk)
theorem take_next (ts : List Wr) (k : Nat) (hk : k < ts.length) : ts.take (k + 1) = ts.take k ++ [gw ts k] := by
  rw [List.take_add_one, gw_get ts k hk]; rfl
set_option linter.unusedSimpArgs false in
set_option maxHeartbeats 8000000 in
set_option maxRecDepth 100000 in
theorem compact26 (w : World) (B g n c : Nat) (ts : List Wr) (h : OwnK wrE w B (.slice (some ⟨g, 0, none⟩) n c) ts) (hn : n ≤ 140737488355328) (h2 : 2 ≤ n) :
    Calls Try.prog 25 #[.slice (some ⟨g, 0, none⟩) n c, eqV] w fun e w' => ∃ K, e = .returned (.slice (some ⟨g, 0, none⟩) K c) ∧ OwnK wrE w' B (.slice (some ⟨g, 0, none⟩) K c) (cmpW ts) ∧ Keep [g] w w' := by
  have hi2 : ¬ (n : Int) < 2 := by omega
  have hlen := own_len h
  have hnc : n ≤ c := (h.isK wrE_ok).cap.2
  have HL : Hid (ts.length = n) := hlen
  have h1 : cmpW (ts.take 1) = ts.take 1 := by
    cases ts with
    | nil => rfl
    | cons x r => simp [cmpW, goW]
  clear hlen
  go_enter Try.func25, Try.ntmps25
  go_wp2_with fail
  clear hi2
  go_loopw [5] (fun v wr => ∃ k : Nat, 1 ≤ k ∧ k ≤ n ∧ v = .int .i64 (k : Int) ∧ cmpW (ts.take k) = ts.take k ∧ OwnK wrE wr B (.slice (some ⟨g, 0, none⟩) n c) ts ∧ Keep [g] w wr) (fun v _ => n - (intOf v).toNat)
  case atStart => exact ⟨1, by omega, by omega, rfl, h1, h, Keep.refl _ _⟩
  case round =>
    clear h1 h
    obtain ⟨i, hk1, hk, rfl, hU, hO, hK⟩ := hrel
    by_cases hlt : i < n
    · have hc : (i : Int) < (n : Int) := by omega
      obtain ⟨q, hq9⟩ : ∃ q, q + 1 = i := ⟨i - 1, by omega⟩
      have hi : i < n := hlt
      have hq : q < n := by omega
      have wq := wSub1 i q hq9 (by omega)
      have hi0 : (0 : Int) ≤ (i : Int) := by omega
      have hq1 : (q : Int) < (n : Int) := by omega
      have hq0 : (0 : Int) ≤ (q : Int) := by omega
      obtain ⟨x, hx⟩ : ∃ x, gw ts i = x := ⟨_, rfl⟩
      obtain ⟨y, hy⟩ : ∃ y, gw ts q = y := ⟨_, rfl⟩
      have hN := cmpW_next ts i (by omega) (by rw [HL.out]; exact hlt)
      rw [show i - 1 = q by omega, hx, hy, hU] at hN
      obtain ⟨bb, hbb⟩ : ∃ t, decide (x.1 = y.1) = t := ⟨_, rfl⟩
      have HB : Hid (decide (x.1 = y.1) = bb) := hbb
      have HN : Hid (cmpW (ts.take (i + 1)) = ts.take i ++ (if x.1 = y.1 then [] else [x]) ∧ q + 1 = i ∧ 1 ≤ i ∧ i < n ∧ gw ts i = x) := ⟨hN, hq9, hk1, hlt, hx⟩
      have G1 := hx
      have G2 := hy
      clear hx hy hN hU hq9 hk1 hk hlt
      go_upto_region 6 with fail
      refine wp_relies [Fx (.func (.func 26) #[] #[]), Fx (.slice (some ⟨g, 0, none⟩) n c), Fx (.int .i64 ((i : Nat) : Int)), Fx (.pointer (some ⟨g, i * 65, none⟩)), Fx (.agg (wrA x)), Fx (.slice (some ⟨g, 0, none⟩) n c), Fx (.int .i64 ((i : Nat) : Int)), Fx (.int .i64 ((q : Nat) : Int)), Fx (.pointer (some ⟨g, q * 65, none⟩)), Fx (.agg (wrA y)), Fx (.bool bb)] (by kernel_rfl) (by kernel_rfl) ?_ ?_ ?_
      · repeat' (first | exact all_nil | apply all_cons)
        all_goals intro v y y' hv hb
        all_goals first | exact Fx_mono _ _ _ _ hv hb
      · refine ⟨?_, ?_, ?_, ?_, ?_, ?_, ?_, ?_, ?_, ?_, ?_, trivial⟩
        all_goals
          intro ρ y9 hp ρc ρg ρf ho hd
          have o0 : ρ (.tmp 0) = .slice (some ⟨g, 0, none⟩) n c := ho 0 rfl
          have o1 : ρ (.tmp 1) = .func (.func 26) #[] #[] := ho 1 rfl
          have o5 : ρ (.tmp 5) = .int .i64 ((i : Nat) : Int) := ho 5 rfl
          clear ho
          simp only [depsR, depR, slotR, Fx, List.getElem?_cons_succ, List.getElem?_cons_zero, Region.binds, forall_const] at hd
          simp only [guardR]
          go_split_ands
        · go_simp
        · go_simp
        · go_simp
        · go_simp
        · have hh := own_rg (hO.keep hp) i hi
          go_simp
        · go_simp
        · go_simp
        · have hw9 := wq
          go_simp
        · go_simp
        · have hh := own_rg (hO.keep hp) q hq
          go_simp
        · go_simp
          refine (eq26 _ _ _).mono ?_
          rintro e w' ⟨rfl, hw⟩
          exact ⟨_, rfl, by rw [HB.out]; rfl, hw⟩
      · intro us xa hp1 hw
        simp only [owed, Fx] at hw
        obtain ⟨e0, e1, e2, e3, e4, e5, e6, e7, e8, e9, e10, -⟩ := hw
        simp only [List.length_cons, List.length_nil, List.take_succ_cons, List.take_nil, List.drop_succ_cons, List.drop_nil, asg, List.cons_append, List.nil_append, e0, e1, e2, e3, e4, e5, e6, e7, e8, e9, e10]
        clear e0 e1 e2 e3 e4 e5 e6 e7 e8 e9 e10
        have hO1 := hO.keep hp1
        have hK1 : Keep [g] w xa := hK.trans (Keep.of_below hp1)
        clear hO hK hp1 G1 G2
        cases bb with
        | true =>
          have hxy : x.1 = y.1 := of_decide_eq_true HB.out
          have hN := HN.out.1
          rw [if_pos hxy, List.append_nil] at hN
          have HS : Hid (cmpW (ts.take (i + 1)) = ts.take i) := hN
          clear hN
          obtain ⟨r, hr⟩ : ∃ r, i + r = n := ⟨n - i, by omega⟩
          obtain ⟨d, hd⟩ : ∃ d, i + d = c := ⟨c - i, by omega⟩
          obtain ⟨o2, ho2⟩ : ∃ o, i * 65 = o := ⟨_, rfl⟩
          have hcut : ∀ W, (cutW1 (.slice (some ⟨g, 0, none⟩) n c) (.int .i64 (i : Int))).run Try.prog W = .ok (.value (.slice (some ⟨g, o2, none⟩) r d)) W := fun W => by
            have := run_cutW1 W g 0 n c i r d hr hd (by omega)
            rwa [Nat.zero_add, ho2] at this
          have HR : Hid (i + r = n ∧ i * 65 = o2 ∧ r ≤ n ∧ i ≤ n) := ⟨hr, ho2, by omega, by omega⟩
          have hO2 : OwnK wrE xa B (.slice (some ⟨g, 0, none⟩) n c) (ts.take i ++ ts.drop i) := by rw [List.take_append_drop]; exact hO1
          have hlk : (ts.take i).length = i := by rw [List.length_take, HL.out]; omega
          clear hr hd ho2 hO1
          go_wp2_with fail
          clear hcut
          go_loopw [5, 7] (fun vK v2 wq => ∃ (K k2 : Nat) (rs : List Wr), 1 ≤ k2 ∧ k2 ≤ r ∧ K < i + k2 ∧ vK = .int .i64 (K : Int) ∧ v2 = .int .i64 (k2 : Int) ∧ rs.length = K ∧ cmpW (ts.take (i + k2)) = rs ∧ OwnK wrE wq B (.slice (some ⟨g, 0, none⟩) n c) (rs ++ ts.drop K) ∧ Keep [g] w wq) (fun _ v2 _ => r - (intOf v2).toNat)
          case atStart => exact ⟨i, 1, ts.take i, by omega, by have := HR.out; omega, by omega, rfl, rfl, hlk, HS.out, hO2, hK1⟩
          case round =>
            clear hO2 hK1 HS hlk
            obtain ⟨K, k2, rs, hk21, hk2, hKk, rfl, rfl, hrl, hS, hO, hK⟩ := hrel
            obtain ⟨r1, r2, r3, r4⟩ := HR.out
            by_cases hlt2 : k2 < r
            · obtain ⟨j, hj9⟩ : ∃ j, j + 1 = k2 := ⟨k2 - 1, by omega⟩
              obtain ⟨x2, hx2⟩ : ∃ x, gw ts (i + k2) = x := ⟨_, rfl⟩
              obtain ⟨y2, hy2⟩ : ∃ x, gw ts (i + k2 - 1) = x := ⟨_, rfl⟩
              have hF : ∀ W, OwnK wrE W B (.slice (some ⟨g, 0, none⟩) n c) (rs ++ ts.drop K) → (rgOk W g (o2 + k2 * 65) 65 = true ∧ rg W g (o2 + k2 * 65) 65 = wrA x2) ∧ (rgOk W g (o2 + j * 65) 65 = true ∧ rg W g (o2 + j * 65) 65 = wrA y2) := fun W hW => by
                have f1 := own_rg hW (i + k2) (by omega)
                have f2 := own_rg hW (i + k2 - 1) (by omega)
                rw [show (i + k2) * 65 = o2 + k2 * 65 by omega, gw_rest rs ts K _ hrl (by omega), hx2] at f1
                rw [show (i + k2 - 1) * 65 = o2 + j * 65 by omega, gw_rest rs ts K _ hrl (by omega), hy2] at f2
                exact ⟨f1, f2⟩
              have hN := cmpW_next ts (i + k2) (by omega) (by rw [HL.out]; omega)
              rw [hx2, hy2, hS] at hN
              have hc2 : (k2 : Int) < (r : Int) := by omega
              have hk0 : (0 : Int) ≤ (k2 : Int) := by omega
              have hj1 : (j : Int) < (r : Int) := by omega
              have hj0 : (0 : Int) ≤ (j : Int) := by omega
              have wj := wSub1 k2 j hj9 (by omega)
              have wk2 := wAdd1 k2 (k2 + 1) rfl (by omega)
              obtain ⟨b2, hb2⟩ : ∃ t, decide (x2.1 = y2.1) = t := ⟨_, rfl⟩
              have HB2 : Hid (decide (x2.1 = y2.1) = b2) := hb2
              have HK2 : Hid (1 ≤ k2 ∧ k2 < r ∧ K < i + k2 ∧ rs.length = K ∧ K < n ∧ i + r = n) := ⟨hk21, hlt2, hKk, hrl, by omega, r1⟩
              have HN2 : Hid (cmpW (ts.take (i + k2 + 1)) = rs ++ (if x2.1 = y2.1 then [] else [x2])) := hN
              clear hx2 hy2 hN hS hj9 hk21 hk2 hKk hrl hlt2 r1 r2 r3 r4
              go_upto_region 11 with fail
              refine wp_relies [Fx (.func (.func 26) #[] #[]), Fx (.slice (some ⟨g, o2, none⟩) r d), Fx (.int .i64 ((k2 : Nat) : Int)), Fx (.pointer (some ⟨g, o2 + k2 * 65, none⟩)), Fx (.agg (wrA x2)), Fx (.slice (some ⟨g, o2, none⟩) r d), Fx (.int .i64 ((k2 : Nat) : Int)), Fx (.int .i64 ((j : Nat) : Int)), Fx (.pointer (some ⟨g, o2 + j * 65, none⟩)), Fx (.agg (wrA y2)), Fx (.bool b2), Fx (.bool (!b2))] (by kernel_rfl) (by kernel_rfl) ?_ ?_ ?_
              · repeat' (first | exact all_nil | apply all_cons)
                all_goals intro v y y' hv hb
                all_goals first | exact Fx_mono _ _ _ _ hv hb
              · refine ⟨?_, ?_, ?_, ?_, ?_, ?_, ?_, ?_, ?_, ?_, ?_, ?_, trivial⟩
                all_goals
                  intro ρ y9 hp ρc ρg ρf ho hd
                  have o1 : ρ (.tmp 1) = .func (.func 26) #[] #[] := ho 1 rfl
                  have o6 : ρ (.tmp 6) = .slice (some ⟨g, o2, none⟩) r d := ho 6 rfl
                  have o7 : ρ (.tmp 7) = .int .i64 ((k2 : Nat) : Int) := ho 7 rfl
                  clear ho
                  simp only [depsR, depR, slotR, Fx, List.getElem?_cons_succ, List.getElem?_cons_zero, Region.binds, forall_const] at hd
                  simp only [guardR]
                  go_split_ands
                · go_simp
                · go_simp
                · go_simp
                · go_simp
                · have hh := (hF _ (hO.keep hp)).1
                  go_simp
                · go_simp
                · go_simp
                · have hw9 := wj
                  go_simp
                · go_simp
                · have hh := (hF _ (hO.keep hp)).2
                  go_simp
                · go_simp
                  refine (eq26 _ _ _).mono ?_
                  rintro e w' ⟨rfl, hw⟩
                  exact ⟨_, rfl, by rw [HB2.out]; rfl, hw⟩
                · go_simp
              · intro us xb hp1 hw
                simp only [owed, Fx] at hw
                obtain ⟨e0, e1, e2, e3, e4, e5, e6, e7, e8, e9, e10, e11, -⟩ := hw
                simp only [List.length_cons, List.length_nil, List.take_succ_cons, List.take_nil, List.drop_succ_cons, List.drop_nil, asg, List.cons_append, List.nil_append, e0, e1, e2, e3, e4, e5, e6, e7, e8, e9, e10, e11]
                clear e0 e1 e2 e3 e4 e5 e6 e7 e8 e9 e10 e11
                have hO1 := hO.keep hp1
                have hK1 : Keep [g] w xb := hK.trans (Keep.of_below hp1)
                clear hO hK hp1
                cases b2 with
                | true =>
                  simp only [Bool.not_true]
                  have HS : Hid (cmpW (ts.take (i + (k2 + 1))) = rs) := by
                    have := HN2.out
                    rw [if_pos (of_decide_eq_true HB2.out), List.append_nil] at this
                    exact this
                  have HO : Hid _ := hO1
                  have HKe : Hid _ := hK1
                  clear hO1 hK1 hF
                  go_wp2
                  go_roundw
                  case rel =>
                    obtain ⟨q1, q2, q3, q4, q5, q6⟩ := HK2.out
                    exact ⟨K, k2 + 1, rs, by omega, by omega, by omega, rfl, by go_num, q4, HS.out, HO.out, HKe.out⟩
                  case measure => have := HK2.out; simp [intOf]; omega
                | false =>
                  simp only [Bool.not_false]
                  obtain ⟨q1, q2, q3, q4, q5, q6⟩ := HK2.out
                  have HS : Hid (cmpW (ts.take (i + (k2 + 1))) = rs ++ [x2]) := by
                    have := HN2.out
                    rw [if_neg (of_decide_eq_false HB2.out)] at this
                    exact this
                  have hst := own_st hO1 K q5 x2
                  have HO : Hid (OwnK wrE (xb.setCells g (K * 65) (wrE.enc x2)) B (.slice (some ⟨g, 0, none⟩) n c) ((rs ++ [x2]) ++ ts.drop (K + 1))) := by
                    have := own_put hO1 K q5 x2
                    rw [put_rest rs ts K x2 q4 (by rw [HL.out]; exact q5)] at this
                    exact this
                  have HKe : Hid (Keep [g] w _) := hK1.trans (keep_st xb g (K * 65) (wrE.enc x2))
                  have f1 := (hF xb hO1).1
                  have hK0 : (0 : Int) ≤ (K : Int) := by omega
                  have hKn : (K : Int) < (n : Int) := by omega
                  have wK := wAdd1 K (K + 1) rfl (by omega)
                  clear hO1 hK1 hF q1 q2 q3 q4 q5 q6
                  go_wp2
                  go_roundw
                  case rel =>
                    obtain ⟨q1, q2, q3, q4, q5, q6⟩ := HK2.out
                    exact ⟨K + 1, k2 + 1, rs ++ [x2], by omega, by omega, by omega, by go_num, by go_num, by simp; omega, HS.out, HO.out, HKe.out⟩
                  case measure => have := HK2.out; simp [intOf]; omega
            · obtain rfl : k2 = r := by omega
              have hc2 : ¬ (k2 : Int) < (k2 : Int) := by omega
              rw [r1, List.take_of_length_le (by rw [HL.out]; omega)] at hS
              obtain ⟨r9, hr9⟩ : ∃ r, K + r = n := ⟨n - K, by omega⟩
              obtain ⟨d9, hd9⟩ : ∃ d, K + d = c := ⟨c - K, by omega⟩
              have hcut : ∀ W, (cutW1 (.slice (some ⟨g, 0, none⟩) n c) (.int .i64 (K : Int))).run Try.prog W = .ok (.value (.slice (some ⟨g, K * 65, none⟩) r9 d9)) W := fun W => by
                have := run_cutW1 W g 0 n c K r9 d9 hr9 hd9 (by omega)
                rwa [Nat.zero_add] at this
              have hcut0 : ∀ W, (cutW0 (.slice (some ⟨g, 0, none⟩) n c) (.int .i64 (K : Int))).run Try.prog W = .ok (.value (.slice (some ⟨g, 0, none⟩) K c)) W := fun W => run_cutW0 W g 0 n c K (by omega)
              obtain ⟨vs, hcl⟩ := own_clear hO K r9 d9 hr9 (by omega)
              have HO : Hid (OwnK wrE (wr.setCells g (K * 65) vs) B (.slice (some ⟨g, 0, none⟩) K c) rs) := by
                have h9 := own_past (hO.cut wrE_ok K (by omega)) vs
                rw [List.take_left' hrl] at h9
                exact h9
              have HKe : Hid (Keep [g] w _) := hK.trans (keep_st wr g (K * 65) vs)
              have HS : Hid (cmpW ts = rs) := hS
              clear hS hO hK hKk hr9 hd9 hk21 hk2 hrl hlt2 r1 r2 r3 r4
              go_wp2
              go_ret
              exact ⟨K, rfl, by rw [HS.out]; exact HO.out, HKe.out⟩
        | false =>
          have hxy : ¬ x.1 = y.1 := of_decide_eq_false HB.out
          have HS : Hid (cmpW (ts.take (i + 1)) = ts.take (i + 1)) := by
            have hN := HN.out
            rw [if_neg hxy] at hN
            rw [hN.1, take_next ts i (by rw [HL.out]; exact hN.2.2.2.1), hN.2.2.2.2]
            exact rfl
          have HO : Hid _ := hO1
          have HKe : Hid _ := hK1
          have wi := wAdd1 i (i + 1) rfl (by omega)
          clear hO1 hK1
          go_wp2
          go_roundw
          case rel =>
            obtain ⟨q1, q2, q3, q4, q5⟩ := HN.out
            exact ⟨i + 1, by omega, by omega, by go_num, HS.out, HO.out, HKe.out⟩
          case measure => have := HN.out.2.2.2.1; simp [intOf]; omega
    · obtain rfl : i = n := by omega
      have hc : ¬ (i : Int) < (i : Int) := by omega
      have hT : ts.take i = ts := List.take_of_length_le (by rw [HL.out]; omega)
      rw [hT] at hU
      have HU : Hid _ := hU
      have HO : Hid _ := hO
      clear hU hT hO hk1 hk hlt
      go_wp2
      go_ret
      exact ⟨i, rfl, by rw [HU.out]; exact HO.out, hK⟩
end Go.Proofs.Ytmbkkdojjfdliaa
