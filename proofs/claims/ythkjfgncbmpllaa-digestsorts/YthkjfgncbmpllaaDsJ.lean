
import Derived.Test.YthkjfgncbmpllaaDsH
namespace Go.Proofs.Ythkjfgncbmpllaa
open Go.RowKit Go.Sort

/-! slices.Compact of digests of the call's own, in order -/
def cutD (x lo : Value) : Sem Next := do pure (.value (← Instr.sliceAt 31 x (some lo) none none))
def cutD0 (x hi : Value) : Sem Next := do pure (.value (← Instr.sliceAt 31 x none (some hi) none))
@[go_sem ↓] theorem execOp_cutD (ρ : Operand → Value) (dst : Option Tmp) (ty : TypeId) (pos : String) (after : Array Edge) (guard : Option (Nat × Bool)) (x lo : Operand) : execOp ρ { dst, op := .slice 31 x (some lo) none none, type := ty, pos, after, guard } = cutD (ρ x) (ρ lo) := rfl
@[go_sem ↓] theorem execOp_cutD0 (ρ : Operand → Value) (dst : Option Tmp) (ty : TypeId) (pos : String) (after : Array Edge) (guard : Option (Nat × Bool)) (x hi : Operand) : execOp ρ { dst, op := .slice 31 x none (some hi) none, type := ty, pos, after, guard } = cutD0 (ρ x) (ρ hi) := rfl
theorem sizeDg (w : World) : (Go.sizeOf 23).run Try.prog w = .ok 32 w := Try.sizeOf23 w
theorem run_cutD (w : World) (b o n c k r d : Nat) (h1 : k + r = n) (h2 : k + d = c) (h4 : 0 < d) : (cutD (.slice (some ⟨b, o, none⟩) n c) (.int .i64 (k : Int))).run Try.prog w = .ok (.value (.slice (some ⟨b, o + k * 32, none⟩) r d)) w := by
  have b1 : ∀ W : World, (Instr.sliceBound (.int .i64 (k : Int)) n BoundsCode.sliceB).run Try.prog W = .ok k W := fun W => by
    have := run_sliceBound (P := Try.prog) W .i64 (k : Int) n BoundsCode.sliceB (by omega) (by omega)
    simpa using this
  have e1 : ¬ c = k := by omega
  have e2 : n - k = r := by omega
  have e3 : c - k = d := by omega
  simp [cutD, Instr.sliceAt, Instr.slice, run_underlying Try.underlying31, Instr.sliceBounds, b1, e1, e2, e3, addr_add]
theorem run_cutD0 (w : World) (b o n c k : Nat) (h1 : k ≤ c) : (cutD0 (.slice (some ⟨b, o, none⟩) n c) (.int .i64 (k : Int))).run Try.prog w = .ok (.value (.slice (some ⟨b, o, none⟩) k c)) w := by
  have b1 : ∀ W : World, (Instr.sliceBound (.int .i64 (k : Int)) c BoundsCode.sliceAcap).run Try.prog W = .ok k W := fun W => by
    have := run_sliceBound (P := Try.prog) W .i64 (k : Int) c BoundsCode.sliceAcap (by omega) (by omega)
    simpa using this
  by_cases hc : c = 0
  · subst hc
    simp [cutD0, Instr.sliceAt, Instr.slice, run_underlying Try.underlying31, Instr.sliceBounds, b1]
  · simp [cutD0, Instr.sliceAt, Instr.slice, run_underlying Try.underlying31, Instr.sliceBounds, b1]
    intro _
    rw [addr_add, Nat.add_zero]
theorem OwnDs.rng {w : World} {B g n c : Nat} {ms : List Dg} (h : OwnDs w B (.slice (some ⟨g, 0, none⟩) n c) ms) (i : Nat) (d : Dg) (hi : ms[i]? = some d) : rngOk w g (i * 32) = true ∧ rng w g (i * 32) = dg_secA d := by
  obtain ⟨b, o, he, -, h1, h2⟩ := h.isDs.at i d hi
  simp only [Option.some.injEq, Addr.mk.injEq, and_true] at he
  obtain ⟨rfl, rfl⟩ := he
  rw [Nat.zero_add] at h1 h2
  exact ⟨h1, h2⟩
theorem get_rest (rs ts : List Dg) (K i : Nat) (hK : rs.length = K) (hi : K ≤ i) : (rs ++ ts.drop K)[i]? = ts[i]? := by
  subst hK
  rw [List.getElem?_append_right hi, List.getElem?_drop, show rs.length + (i - rs.length) = i by omega]
theorem sec_ne (a b : Dg) (h : ¬ dN a = dN b) : dg_secEq a b = false := by rw [secEq_num]; simp [h]
theorem sec_eq (a b : Dg) (h : dN a = dN b) : dg_secEq a b = true := by rw [secEq_num]; simp [h]
set_option linter.unusedSimpArgs false in
set_option maxHeartbeats 800000 in
theorem compact_any (g c B n : Nat) (ts : List Dg) (w : World) (h : OwnDs w B (.slice (some ⟨g, 0, none⟩) n c) ts) (hs : (nums ts).Pairwise (· ≤ ·)) (hlen : n ≤ 140737488355328) :
    Calls Try.prog 24 #[.slice (some ⟨g, 0, none⟩) n c] w fun e w' =>
      ∃ K rs, e = .returned (.slice (some ⟨g, 0, none⟩) K c) ∧ OwnDs w' B (.slice (some ⟨g, 0, none⟩) K c) rs ∧ SortedTo ts rs ∧ w.grownBy w' (some g) := by
  obtain ⟨cur, hn, -, -, hnc, -⟩ := h.heap
  clear cur
  replace hn := hn.symm
  by_cases h2 : n < 2
  · have hi2 : (n : Int) < 2 := by omega
    have hp : (nums ts).Pairwise (· < ·) := by
      rw [List.pairwise_iff_getElem]
      intro i j hi hj hij
      rw [nums_len] at hj
      omega
    go_enter Try.func24, Try.ntmps24
    go_wp2
    go_ret
    exact ⟨n, ts, rfl, h, SortedTo.self hp, grown_drewN w 0 _⟩
  · have hi2 : ¬ (n : Int) < 2 := by omega
    have hp1 : (nums (ts.take 1)).Pairwise (· < ·) := by
      rw [List.pairwise_iff_getElem]
      intro i j hi hj hij
      rw [nums_len, List.length_take] at hj
      omega
    go_enter Try.func24, Try.ntmps24
    go_wp2_with fail
    clear hi2
    go_loopw [3] (fun v wr => ∃ k : Nat, 1 ≤ k ∧ k ≤ n ∧ v = .int .i64 k ∧ (nums (ts.take k)).Pairwise (· < ·) ∧ OwnDs wr B (.slice (some ⟨g, 0, none⟩) n c) ts ∧ w.grownBy wr (some g)) (fun v _ => n - (intOf v).toNat)
    case atStart => exact ⟨1, by omega, by omega, rfl, hp1, h, grown_drewN w 0 _⟩
    case round =>
      clear hp1 h
      obtain ⟨k, hk1, hk, rfl, hU, hO, hG⟩ := hrel
      by_cases hlt : k < n
      · obtain ⟨m, hm⟩ : ∃ m, k = m + 1 := ⟨k - 1, by omega⟩
        obtain ⟨x, hx⟩ : ∃ d, ts[k]? = some d := ⟨ts[k]'(by omega), List.getElem?_eq_getElem (by omega)⟩
        obtain ⟨y, hy⟩ : ∃ d, ts[m]? = some d := ⟨ts[m]'(by omega), List.getElem?_eq_getElem (by omega)⟩
        have hy' : ts[k - 1]? = some y := by rw [hm]; exact hy
        obtain ⟨ok1, rg1⟩ := hO.rng k x hx
        obtain ⟨ok2, rg2⟩ := hO.rng m y hy
        have hk0 : (0 : Int) ≤ (k : Int) := by omega
        have hkn : (k : Int) < (n : Int) := by omega
        have hm0 : (0 : Int) ≤ (m : Int) := by omega
        have hmn : (m : Int) < (n : Int) := by omega
        have hkm : (k : Int) - 1 = (m : Int) := by omega
        have hwm : IntKind.i64.wrap (m : Int) = (m : Int) := by rw [IntKind.wrap_i64]; omega
        clear hm
        by_cases he : dN x = dN y
        · have heq := sec_eq x y he
          have hS0 : SortedTo (ts.take (k + 1)) (ts.take k) := (SortedTo.self hU).same (by omega) hx hy' he
          have HS0 : Hid _ := hS0
          obtain ⟨r, hr⟩ : ∃ r, k + r = n := ⟨n - k, by omega⟩
          obtain ⟨d, hd⟩ : ∃ d, k + d = c := ⟨c - k, by omega⟩
          have hcut : ∀ W, (cutD (.slice (some ⟨g, 0, none⟩) n c) (.int .i64 (k : Int))).run Try.prog W = .ok (.value (.slice (some ⟨g, k * 32, none⟩) r d)) W := fun W => by
            have := run_cutD W g 0 n c k r d hr hd (by omega)
            rwa [Nat.zero_add] at this
          have HG : Hid (∀ q, w.grownBy (wr.drewN q) (some g)) := fun q => grown_trans hG (grown_drewN wr q _)
          have HO : Hid (∀ q, OwnDs (wr.drewN q) B (.slice (some ⟨g, 0, none⟩) n c) (ts.take k ++ ts.drop k)) := fun q => by rw [List.take_append_drop]; exact hO
          have hlk : (ts.take k).length = k := by rw [List.length_take]; omega
          clear hU hO hG hS0 he
          go_upto_region 6 with fail
          go_quiet (fail)
          go_wp2_with fail
          clear hcut ok1 ok2 rg1 rg2 heq hkm hwm
          obtain ⟨o2, ho2⟩ : ∃ o, k * 32 = o := ⟨_, rfl⟩
          rw [ho2]
          have hG2 := HG.out nq
          have hO2 := HO.out nq
          generalize wr.drewN nq = X at hG2 hO2 ⊢
          clear HG HO hx hy hy'
          go_loopw [3, 5] (fun vK v2 wq => ∃ K k2 : Nat, ∃ rs : List Dg, 1 ≤ k2 ∧ k2 ≤ r ∧ K < k + k2 ∧ vK = .int .i64 K ∧ v2 = .int .i64 k2 ∧ rs.length = K ∧ SortedTo (ts.take (k + k2)) rs ∧ OwnDs wq B (.slice (some ⟨g, 0, none⟩) n c) (rs ++ ts.drop K) ∧ w.grownBy wq (some g)) (fun _ v2 _ => r - (intOf v2).toNat)
          case atStart => exact ⟨k, 1, ts.take k, by omega, by omega, by omega, rfl, rfl, hlk, HS0.out, hO2, hG2⟩
          case round =>
            clear hO2 hG2 HS0
            obtain ⟨K, k2, rs, hk21, hk2, hKk, rfl, rfl, hrl, hS, hO, hG⟩ := hrel
            by_cases hlt2 : k2 < r
            · obtain ⟨j2, hj2⟩ : ∃ j, k2 = j + 1 := ⟨k2 - 1, by omega⟩
              obtain ⟨x2, hx⟩ : ∃ d, ts[k + k2]? = some d := ⟨ts[k + k2]'(by omega), List.getElem?_eq_getElem (by omega)⟩
              obtain ⟨y2, hy⟩ : ∃ d, ts[k + k2 - 1]? = some d := ⟨ts[k + k2 - 1]'(by omega), List.getElem?_eq_getElem (by omega)⟩
              have f1 := hO.rng (k + k2) x2 (by rw [get_rest rs ts K _ hrl (by omega)]; exact hx)
              have f2 := hO.rng (k + k2 - 1) y2 (by rw [get_rest rs ts K _ hrl (by omega)]; exact hy)
              rw [show (k + k2) * 32 = o2 + k2 * 32 by omega] at f1
              rw [show (k + k2 - 1) * 32 = o2 + j2 * 32 by omega] at f2
              obtain ⟨ok1, rg1⟩ := f1
              obtain ⟨ok2, rg2⟩ := f2
              have hk0' : (0 : Int) ≤ (k2 : Int) := by omega
              have hkn' : (k2 : Int) < (r : Int) := by omega
              have hm0' : (0 : Int) ≤ (j2 : Int) := by omega
              have hmn' : (j2 : Int) < (r : Int) := by omega
              have hkm' : (k2 : Int) - 1 = (j2 : Int) := by omega
              have hwm' : IntKind.i64.wrap (j2 : Int) = (j2 : Int) := by rw [IntKind.wrap_i64]; omega
              clear hj2
              by_cases he : dN x2 = dN y2
              · have heq := sec_eq x2 y2 he
                have HS : Hid (SortedTo (ts.take (k + (k2 + 1))) rs) := hS.same (by omega) hx hy he
                have HG : Hid (∀ q, w.grownBy (wr.drewN q) (some g)) := fun q => grown_trans hG (grown_drewN wr q _)
                have HO : Hid (∀ q, OwnDs (wr.drewN q) B (.slice (some ⟨g, 0, none⟩) n c) (rs ++ ts.drop K)) := fun q => hO
                clear hS hO hG he hx hy
                go_upto_region 11 with fail
                go_quiet (fail)
                go_wp2
                go_roundw
                case rel => exact ⟨K, k2 + 1, rs, by omega, by omega, by omega, rfl, by go_num, hrl, HS.out, HO.out _, HG.out _⟩
                case measure => simp [intOf]; omega
              · have heq := sec_ne x2 y2 he
                have HS : Hid (SortedTo (ts.take (k + (k2 + 1))) (rs ++ [x2])) := hS.more hs (by omega) hx hy he
                have HG : Hid (∀ q, w.grownBy ((wr.drewN q).setCells g (K * 32) (dg_secA x2).toList) (some g)) := fun q => grown_trans (grown_trans hG (grown_drewN wr q _)) (grown_setCells _ _ _ _)
                have HO : Hid (∀ q, OwnDs ((wr.drewN q).setCells g (K * 32) (dg_secA x2).toList) B (.slice (some ⟨g, 0, none⟩) n c) ((rs ++ [x2]) ++ ts.drop (K + 1))) := fun q => by
                  have h9 : OwnDs (wr.drewN q) B (.slice (some ⟨g, 0, none⟩) n c) (rs ++ ts.drop K) := hO
                  have := h9.put K x2 (by omega)
                  rwa [put_mid rs ts K x2 hrl (by omega)] at this
                have hst : ∀ q, (dg_secStore (.pointer (some ⟨g, K * 32, none⟩)) (.agg (dg_secA x2))).run Try.prog (wr.drewN q) = .ok .skip ((wr.drewN q).setCells g (K * 32) (dg_secA x2).toList) := fun q => by
                  have h9 : OwnDs (wr.drewN q) B (.slice (some ⟨g, 0, none⟩) n c) (rs ++ ts.drop K) := hO
                  exact h9.store K x2 (by omega)
                have hK0 : (0 : Int) ≤ (K : Int) := by omega
                have hKn : (K : Int) < (n : Int) := by omega
                have hrl2 : (rs ++ [x2]).length = K + 1 := by rw [List.length_append, hrl]; rfl
                clear hS hO hG he hx hy hrl
                go_upto_region 11 with fail
                go_quiet (fail)
                go_wp2
                go_roundw
                case rel => exact ⟨K + 1, k2 + 1, rs ++ [x2], by omega, by omega, by omega, by go_num, by go_num, hrl2, HS.out, HO.out _, HG.out _⟩
                case measure => simp [intOf]; omega
            · obtain rfl : k2 = r := by omega
              rw [hr] at hS hKk
              rw [List.take_of_length_le (by omega)] at hS
              obtain ⟨r9, hr9⟩ : ∃ r, K + r = n := ⟨n - K, by omega⟩
              obtain ⟨d9, hd9⟩ : ∃ d, K + d = c := ⟨c - K, by omega⟩
              have hcut : ∀ W, (cutD (.slice (some ⟨g, 0, none⟩) n c) (.int .i64 (K : Int))).run Try.prog W = .ok (.value (.slice (some ⟨g, K * 32, none⟩) r9 d9)) W := fun W => by
                have := run_cutD W g 0 n c K r9 d9 hr9 hd9 (by omega)
                rwa [Nat.zero_add] at this
              have hcut0 : ∀ W, (cutD0 (.slice (some ⟨g, 0, none⟩) n c) (.int .i64 (K : Int))).run Try.prog W = .ok (.value (.slice (some ⟨g, 0, none⟩) K c)) W := fun W => run_cutD0 W g 0 n c K (by omega)
              obtain ⟨vs, hcl⟩ := hO.clear K r9 d9 hr9 (by omega)
              have HO : Hid (OwnDs (wr.setCells g (K * 32) vs) B (.slice (some ⟨g, 0, none⟩) K c) rs) := by
                have h9 := (hO.cut K (by omega)).past vs
                rwa [List.take_left' hrl] at h9
              have HG : Hid (w.grownBy (wr.setCells g (K * 32) vs) (some g)) := grown_trans hG (grown_setCells _ _ _ _)
              have HS : Hid _ := hS
              clear hS hO hG hKk hr9 hd9
              go_wp2
              go_ret
              exact ⟨K, rs, rfl, HO.out, HS.out, HG.out⟩
        · have heq := sec_ne x y he
          have HN : Hid ((nums (ts.take (k + 1))).Pairwise (· < ·)) := by
            have := ((SortedTo.self hU).more hs (by omega) hx hy' he).1
            show List.Pairwise _ _
            rw [take_snoc ts k x hx]; exact this
          have HG : Hid (∀ q, w.grownBy (wr.drewN q) (some g)) := fun q => grown_trans hG (grown_drewN wr q _)
          have HO : Hid (∀ q, OwnDs (wr.drewN q) B (.slice (some ⟨g, 0, none⟩) n c) ts) := fun q => hO
          clear hU hO hG he
          go_upto_region 6 with fail
          go_quiet (fail)
          go_wp2
          go_roundw
          case rel => exact ⟨k + 1, by omega, by omega, by go_num, HN.out, HO.out _, HG.out _⟩
          case measure => simp [intOf]; omega
      · obtain rfl : k = n := by omega
        have hT : ts.take k = ts := List.take_of_length_le (by omega)
        rw [hT] at hU
        have HU : Hid _ := hU
        clear hU
        go_wp2
        go_ret
        exact ⟨k, ts, rfl, hO, SortedTo.self HU.out, hG⟩
end Go.Proofs.Ythkjfgncbmpllaa
