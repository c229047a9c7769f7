import Derived.Test.YtalnbddkhojjbaaGreatDoorQMzf
import Derived.Test.YtalnbddkhojjbaaGreatDoorQMan8
namespace Go.Proofs.YtalnbddkhojjbaaGreatDoor
set_option linter.unusedSimpArgs false
open Go.RowKit

set_option maxRecDepth 100000 in
theorem outsized16_any (r : Dc) (w : World) : Calls Tryz.prog 27 #[.agg (dcA r)] w fun e w' => e = .returned (.bool (!dcOk r)) ∧ Below w.heap.size w w' := by
  have bA := below_alloc w (.cells (dcA r) 35)
  have cz : (w.alloc (.cells (dcA r) 35)).cell? ⟨w.heap.size, 32, none⟩ = some (.int .i64 r.size) := by rw [(RowC.new w (dcA r) 35).cell 32]; exact dcA_32 r
  have hS := isSize16_any r.size (w.alloc (.cells (dcA r) 35))
  rw [show szB r.size = dcOk r from rfl] at hS
  obtain ⟨R, hR⟩ : ∃ q, dcOk r = q := ⟨_, rfl⟩
  rw [hR] at hS ⊢
  clear hR
  go_enter Tryz.func27, Tryz.ntmps27
  go_wp2_with fail
  refine hS.mono ?_
  rintro e w2 ⟨rfl, rfl⟩
  clear hS cz
  go_wp2
  go_ret
  exact ⟨rfl, bA⟩
theorem entersO16 : ∀ args w, (callFunc 27 args).run Tryz.prog w = .ok (.enter 27 args) w := enters_of Tryz.func27 (by kernel_rfl) rfl
theorem all_take16 {l : List Dc} {j : Nat} {d : Dc} (hd : l[j]? = some d) : (l.take (j + 1)).all dcOk = ((l.take j).all dcOk && dcOk d) := by
  rw [List.take_add_one, hd]
  simp
def IxQ (l : List Dc) (w : World) (e : Ending) (w' : World) : Prop := ∃ r : Int, e = .returned (.int .i64 r) ∧ decide (0 ≤ r) = (!l.all dcOk) ∧ Below w.heap.size w w'
set_option maxRecDepth 100000 in
set_option maxHeartbeats 4000000 in
theorem index16_any (x : Option Addr) (n c : Nat) (l : List Dc) (w : World) (hn : l.length = n) (h : IsK dcE w (.slice x n c) l) (hz : n ≤ 32) :
    Calls Tryz.prog 49 #[.slice x n c, .func (.func 27) #[] #[]] w fun e w' => IxQ l w e w' := by
  have HG : Hid (IsK dcE w (.slice x n c) l ∧ l.length = n) := ⟨h, hn⟩
  clear h hn
  have hS := entersO16
  go_enter Tryz.func49, Tryz.ntmps49
  go_wp2_with fail
  go_loopw [8] (fun iv wr => ∃ j : Nat, j ≤ n ∧ iv = .int .i64 j ∧ Below w.heap.size w wr ∧ Hid ((l.take j).all dcOk = true)) (fun iv _ => n - (intOf iv).toNat)
  case atStart => exact ⟨0, Nat.zero_le _, rfl, Below.refl _ _, rfl⟩
  case round =>
    obtain ⟨j, hj, rfl, hB, HA⟩ := hrel
    by_cases hlt : j < n
    · have i1 : (j : Int) < (n : Int) := by omega
      have i0 : (0 : Int) ≤ (j : Int) := by omega
      obtain ⟨hG, hnum⟩ := HG.out
      obtain ⟨u, hu⟩ : ∃ q, l[j]? = some q := ⟨_, List.getElem?_eq_getElem (by omega)⟩
      obtain ⟨g, o, rfl, hg, hr1, hr2, -, -, -⟩ := dcCells (hG.kept hB) j u hu
      have hC := outsized16_any u wr
      have hwr : IntKind.i64.wrap ((j : Int) + 1) = (j : Int) + 1 := by rw [IntKind.wrap_i64]; omega
      obtain ⟨r9, hr9⟩ : ∃ q, dcOk u = q := ⟨_, rfl⟩
      have HAt : Hid ((l.take (j + 1)).all dcOk = r9) := by show _ = _; rw [all_take16 hu, HA.out, hr9]; rfl
      have HT : Hid (r9 = false → l.all dcOk = false) := fun h9 => by
        rw [← Bool.not_eq_true, List.all_eq_true]
        intro h8
        have := h8 u (List.mem_of_getElem? hu)
        rw [hr9, h9] at this
        cases this
      rw [hr9] at hC
      clear hu hG hnum hr9 HA hg
      go_wp2_with fail
      refine hC.mono ?_
      rintro e w2 ⟨rfl, hb2⟩
      have hB2 := hB.trans (hb2.mono hB.size)
      clear hC hB hr1 hr2
      cases r9 with
      | false =>
        have H9 := HT.out rfl
        go_wp2
        go_ret
        exact ⟨(j : Int), rfl, by rw [H9]; exact decide_eq_true (by omega), hB2⟩
      | true =>
        go_wp2
        go_roundw
        case rel => first | exact ⟨j + 1, by omega, by go_num, hB2, HAt⟩ | ((repeat apply Exists.intro); refine ⟨⟨j + 1, by omega, ?_, hB2, HAt⟩, rfl⟩; go_num)
        case measure => simp [intOf]; omega
    · obtain rfl : j = n := by omega
      have i1 : ¬ (j : Int) < (j : Int) := by omega
      have HF : Hid (l.all dcOk = true) := by
        have h9 := HA.out
        rw [List.take_of_length_le (by have := HG.out.2; omega)] at h9
        exact h9
      go_wp2
      go_ret
      exact ⟨-1, rfl, by rw [HF.out]; rfl, hB⟩
set_option maxRecDepth 100000 in
theorem contains16_any (x : Option Addr) (n c : Nat) (l : List Dc) (w : World) (hn : l.length = n) (h : IsK dcE w (.slice x n c) l) (hz : n ≤ 32) :
    Calls Tryz.prog 26 #[.slice x n c, .func (.func 27) #[] #[]] w fun e w' => e = .returned (.bool (!l.all dcOk)) ∧ Below w.heap.size w w' := by
  have hI := index16_any x n c l w hn h hz
  unfold IxQ at hI
  obtain ⟨R, hR⟩ : ∃ q, (!l.all dcOk) = q := ⟨_, rfl⟩
  rw [hR] at hI ⊢
  clear hR
  go_enter Tryz.func26, Tryz.ntmps26
  go_wp2_with fail
  refine hI.mono ?_
  rintro e w1 ⟨r, rfl, hr, hb1⟩
  clear hI
  have HR9 : Hid (decide (0 ≤ r) = R) := hr
  clear hr
  go_wp2
  go_ret
  exact ⟨congrArg (fun q => Ending.returned (.bool q)) HR9.out, hb1⟩
set_option maxRecDepth 100000 in
set_option maxHeartbeats 8000000 in
theorem fault16_any (k : Int) (x : Option Addr) (n c : Nat) (l : List Dc) (w : World) (hn : l.length = n) (h : IsK dcE w (.slice x n c) l) :
    Calls Tryz.prog 13 #[.int .i64 k, .slice x n c] w fun e w' => e = .returned (.int .i64 (mwE k l)) ∧ Below w.heap.size w w' := by
  obtain ⟨E, hE⟩ : ∃ q, mwE k l = q := ⟨_, rfl⟩
  have HE : Hid (mwE k l = E) := hE
  rw [hE]
  clear hE
  have h0 : l = [] ↔ n = 0 := by rw [← hn]; exact List.length_eq_zero_iff.symm
  have body : ∀ k, (k = 2 ∨ (k = 1 ∧ n ≠ 0)) → mwE k l = E → Calls Tryz.prog 13 #[.int .i64 k, .slice x n c] w fun e w' => e = .returned (.int .i64 E) ∧ Below w.heap.size w w' := by
    intro k hk hE
    have hno : ¬ ((k ≠ 1 ∧ k ≠ 2) ∨ (k = 1 ∧ l = [])) := by
      rintro (⟨a, b⟩ | ⟨a, b⟩)
      · rcases hk with rfl | ⟨rfl, -⟩
        · exact b rfl
        · exact a rfl
      · rcases hk with rfl | ⟨-, h9⟩
        · cases a
        · exact h9 (h0.1 b)
    unfold mwE at hE
    rw [if_neg hno, hn] at hE
    by_cases h32 : 32 < n
    · rw [if_pos h32] at hE
      subst hE
      have i32 : (32 : Int) < (n : Int) := by omega
      rcases hk with rfl | ⟨rfl, h9⟩
      · go_enter Tryz.func13, Tryz.ntmps13
        go_wp2
        go_ret
        exact ⟨rfl, Below.refl _ _⟩
      · have f0 : ((n : Int) == 0) = false := beq_eq_false_iff_ne.2 (by omega)
        go_enter Tryz.func13, Tryz.ntmps13
        go_wp2
        go_ret
        exact ⟨rfl, Below.refl _ _⟩
    · rw [if_neg h32] at hE
      have i32 : ¬ (32 : Int) < (n : Int) := by omega
      have hC := contains16_any x n c l w hn h (by omega)
      obtain ⟨A, hA⟩ : ∃ q, l.all dcOk = q := ⟨_, rfl⟩
      rw [hA] at hC hE
      clear hA
      rcases hk with rfl | ⟨rfl, h9⟩
      · go_enter Tryz.func13, Tryz.ntmps13
        go_wp2_with fail
        refine hC.mono ?_
        rintro e w1 ⟨rfl, hb1⟩
        clear hC
        cases A with
        | false =>
          have hE9 : 13 = E := hE
          subst hE9
          go_wp2
          go_ret
          exact ⟨rfl, hb1⟩
        | true =>
          have hE9 : 0 = E := hE
          subst hE9
          go_wp2
          go_ret
          exact ⟨rfl, hb1⟩
      · have f0 : ((n : Int) == 0) = false := beq_eq_false_iff_ne.2 (by omega)
        go_enter Tryz.func13, Tryz.ntmps13
        go_wp2_with fail
        refine hC.mono ?_
        rintro e w1 ⟨rfl, hb1⟩
        clear hC
        cases A with
        | false =>
          have hE9 : 13 = E := hE
          subst hE9
          go_wp2
          go_ret
          exact ⟨rfl, hb1⟩
        | true =>
          have hE9 : 0 = E := hE
          subst hE9
          go_wp2
          go_ret
          exact ⟨rfl, hb1⟩
  by_cases h1 : k = 1
  · subst h1
    by_cases hn0 : n = 0
    · have hE9 : E = 1 := by rw [← HE.out]; unfold mwE; rw [if_pos (.inr ⟨rfl, h0.2 hn0⟩)]
      subst hE9
      subst hn0
      clear body HE h0
      go_enter Tryz.func13, Tryz.ntmps13
      go_wp2
      go_ret
      exact ⟨rfl, Below.refl _ _⟩
    · exact body 1 (.inr ⟨rfl, hn0⟩) HE.out
  · by_cases h2 : k = 2
    · subst h2
      exact body 2 (.inl rfl) HE.out
    · have hE9 : E = 1 := by rw [← HE.out]; unfold mwE; rw [if_pos (.inl ⟨h1, h2⟩)]
      subst hE9
      have f1 : (k != 1) = true := by rw [bne_iff_ne]; exact h1
      have f2 : (k != 2) = true := by rw [bne_iff_ne]; exact h2
      have f1' : (k == 1) = false := beq_eq_false_iff_ne.2 h1
      have f2' : (k == 2) = false := beq_eq_false_iff_ne.2 h2
      clear body HE h0 h1 h2
      go_enter Tryz.func13, Tryz.ntmps13
      go_wp2
      go_ret
      exact ⟨rfl, Below.refl _ _⟩
theorem szL_dc : ∀ (l : List Dc), szL (l.map dcNd) ≤ 1000 * l.length
  | [] => by simp [szL]
  | d :: r => by
    have := szL_dc r
    have h1 : szN (dcNd d) ≤ 1000 := by
      unfold dcNd
      have := textL_len d.key
      simp [szN_mk, szL, kD, kS]
      omega
    rw [List.map_cons, szL, List.length_cons]
    omega
theorem sz_m (k : Int) (l : List Dc) (h : l.length ≤ 32) : szN (mNd k l) ≤ 1099511627776 := by
  unfold mNd
  split
  · have := szL_dc l
    simp [szN_mk, szL, kV, kM]
    omega
  · have h1 := szL_dc (l.take 1)
    have h2 := szL_dc (l.drop 1)
    rw [List.length_take] at h1
    rw [List.length_drop] at h2
    have h3 : szN (((l.take 1).map dcNd).headD (.mk 1 0 [] [] [])) ≤ 2000 := by
      cases l with
      | nil => simp [szN_mk, szL]
      | cons d r =>
        simp only [List.take_succ_cons, List.take_zero, List.map_cons, List.map_nil, List.headD_cons, szL] at h1 ⊢
        omega
    generalize (l.drop 1).map dcNd = A at h2 ⊢
    generalize ((l.take 1).map dcNd).headD (.mk 1 0 [] [] []) = H at h3 ⊢
    simp [szN_mk, szL, kV, kC, kL16]
    omega
set_option maxRecDepth 100000 in
set_option maxHeartbeats 8000000 in
theorem write16_any {V : World → Prop} (O : JsOk V) (hT : TextOk) (k : Int) (l : List Dc) (x : Option Addr) (n c : Nat) (w : World) (hn : l.length = n) (h : IsK dcE w (.slice x n c) l) (hV : V w) : Calls Tryz.prog 7 #[.int .i64 k, .slice x n c] w fun e w' => WrP16 k l w e w' := by
  have hF := fault16_any k x n c l w hn h
  obtain ⟨E, hE⟩ : ∃ q, mwE k l = q := ⟨_, rfl⟩
  have HE : Hid (mwE k l = E) := hE
  rw [hE] at hF
  clear hE
  go_enter Tryz.func7, Tryz.ntmps7
  go_wp2_with fail
  refine hF.mono ?_
  rintro e w1 ⟨rfl, hb1⟩
  clear hF
  by_cases h0 : E = 0
  · subst h0
    obtain ⟨hms, hgd, hdep, hlen⟩ := mw_all k l HE.out
    have hok : (k = 2 ∨ k = 1 ∧ l ≠ []) ∧ l.length ≤ 32 ∧ l.all dcOk = true := by
      have h9 := HE.out
      unfold mwE at h9
      split at h9
      · cases h9
      · rename_i h1
        split at h9
        · cases h9
        · rename_i h2
          split at h9
          · rename_i h3
            refine ⟨?_, by omega, h3⟩
            by_cases hk2 : k = 2
            · exact .inl hk2
            · have hk1 : k = 1 := Classical.byContradiction fun h8 => h1 (.inl ⟨h8, hk2⟩)
              exact .inr ⟨hk1, fun h8 => h1 (.inr ⟨hk1, h8⟩)⟩
          · cases h9
    obtain ⟨hk, hl32, hall⟩ := hok
    have hrg : ∀ d ∈ l, -9223372036854775808 ≤ d.size ∧ d.size ≤ 9223372036854775807 := fun d hd => by
      have h9 := List.all_eq_true.1 hall d hd
      unfold dcOk at h9
      rw [Bool.and_eq_true, decide_eq_true_eq, decide_eq_true_eq] at h9
      omega
    have hD : Calls Tryz.prog 15 #[.int .i64 k, .slice x n c] w1 fun e w' => DoQ k l w1 e w' := by
      rcases hk with rfl | ⟨rfl, hne⟩
      · exact docI16_any hT l x n c w1 hn (h.kept hb1) (by omega) hrg
      · obtain ⟨d0, L, rfl⟩ := List.exists_cons_of_ne_nil hne
        exact docM16_any hT d0 L x n c w1 hn (h.kept hb1) (by omega) hrg
    unfold DoQ at hD
    obtain ⟨pe, ps⟩ := gd_prt (mNd k l) hgd hdep
    have hszm := sz_m k l hl32
    clear hk hall hrg h hn
    go_wp2_with fail
    refine hD.mono ?_
    rintro e w2 ⟨p, rfl, hv2, hb2⟩
    clear hD
    have hBw : Below w.heap.size w w2 := hb1.trans (hb2.mono hb1.size)
    have hP := O.prt (mNd k l) _ _ w2 hv2 hszm (by omega) (O.keep _ _ hV hBw)
    unfold PtP at hP
    obtain ⟨TT, hTT⟩ : ∃ q : ByteArray, ⟨(prtS (mNd k l)).toArray⟩ = q := ⟨_, rfl⟩
    have HTT : Hid (lS TT = mwS k l) := by show _ = _; rw [← hTT, lS_mk, ps, hms]
    rw [hTT, pe] at hP
    clear hTT ps pe hgd hdep hszm hv2
    go_wp2_with fail
    refine hP.mono ?_
    rintro e w3 ⟨rfl, hb3⟩
    clear hP
    have hBw3 : Below w.heap.size w w3 := hBw.trans (hb3.mono hBw.size)
    have hTs : TT.size ≤ 4094 := by rw [← lS_len, HTT.out]; exact hlen
    obtain ⟨C, W, hcv, hbW, hO⟩ := OwM.conv w3 TT (by omega)
    have HQ : Hid (WrP16 k l w (.returned (.tuple #[.slice (some ⟨w3.heap.size, 0, none⟩) TT.size C, .int .i64 0])) W) := by
      unfold Hid WrP16
      rw [HE.out]
      obtain ⟨x9, c9, e9, l9⟩ := hO.form
      simp only [Value.slice.injEq] at e9
      refine ⟨⟨_, _, _, rfl, by rw [← HTT.out, lS_len], ?_, ?_⟩, hBw3.trans (hbW.mono hBw3.size)⟩
      · rw [e9.2.2, ← lS_len]; exact l9
      · rw [HTT.out] at hO; exact hO.le hBw3.size
    clear hO hbW hBw hBw3 hb1 hb2 hb3 hTs hlen hms
    go_wp2
    go_ret2
    exact HQ.out
  · have f0 : (E == 0) = false := beq_eq_false_iff_ne.2 h0
    have f0' : (E != 0) = true := by rw [bne_iff_ne]; exact h0
    have HQ : Hid (WrP16 k l w (.returned (.tuple #[.slice none 0 0, .int .i64 E])) w1) := by
      unfold Hid WrP16
      have h9 : mwS k l = [] := by unfold mwS; rw [if_neg (by rw [HE.out]; exact h0)]
      rw [HE.out, h9]
      exact ⟨⟨none, 0, 0, rfl, rfl, Nat.le_refl _, OwM.nil _ _⟩, hb1⟩
    clear h0
    go_wp2
    go_ret2
    exact HQ.out
theorem manOk_any {V : World → Prop} (O : JsOk V) (hF : FldOk) (hT : TextOk) (hP : ParseOk) : ManOk V where
  keep := O.keep
  rd := fun l x n c w h1 h2 h3 h4 h5 => read16_any O hF hP l x n c w h1 h2 h3 h4 h5
  wr := fun k l x n c w _ _ h3 _ h5 h6 => write16_any O hT k l x n c w h3 h5 h6
end Go.Proofs.YtalnbddkhojjbaaGreatDoor
