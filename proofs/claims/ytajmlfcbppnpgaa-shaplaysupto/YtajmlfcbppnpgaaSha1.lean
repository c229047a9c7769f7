
import Derived.Test.YtajmlfcbppnpgaaBig
namespace Go.Proofs.Ytajmlfcbppnpgaa
open Go.RowKit

/-! The inner functions of sha: rotated, constants, firstState, highestFirst, closing -/
set_option maxHeartbeats 400000 in
theorem shaRot_any (x : Wd) (n : Nat) (w : World) (hn0 : 0 < n) (hn : n < 32) :
    Calls Try.prog 23 #[.int .u32 (x.toNat : Nat), .int .i64 (n : Nat)] w fun e w' => e = .returned (.int .u32 ((rotr x n).toNat : Nat)) ∧ Below w.heap.size w w' := by
  have h1 := wd_lt x
  have h2 := shr_wd x n
  have h3 := shl_wd x (32 - n)
  have h4 := or_wd (x >>> n) (x <<< (32 - n))
  have HR : Hid (rotr x n = (x >>> n) ||| (x <<< (32 - n))) := rfl
  generalize (x >>> n) ||| (x <<< (32 - n)) = r at h4 HR
  generalize x >>> n = a at h2 h4
  generalize x <<< (32 - n) = b at h3 h4
  rw [HR.out]
  have hn1 : (n : Int) < 32 := by omega
  have hn2 : (0 : Int) ≤ (n : Int) := by omega
  go_enter Try.func23, Try.ntmps23
  go_wp2
  go_quiet (fail)
  go_wp2
  go_ret
  exact ⟨rfl, below_drewN (Below.refl _ _) _⟩
theorem wpL_build {ops : Array Oper} {rest : List Oper} {o : Oper} {a : Act} {w : World} {Q : Exit → Act → World → Prop} (hg : o.guard = none) (t : TypeId) (parts : Array (Nat × Operand)) (ho : o.op = .build t parts) (cells : Array Value)
    (hf : Try.prog.built t (parts.map fun (i, x) => (i, a.eval x)).toList = some cells)
    (h : wpList Try.prog ops Q rest (a.put o.dst (.agg cells)) w) : wpList Try.prog ops Q (o :: rest) a w :=
  wpList_build hg t parts ho (by rw [hf]; rfl) (by rw [hf]; exact h)
set_option maxRecDepth 100000 in
set_option maxHeartbeats 400000 in
theorem shaConsts_any (w : World) : Calls Try.prog 21 #[] w fun e w' => e = .returned (.agg (wdA kL)) ∧ Below w.heap.size w w' := by
  have hk : kL.length = 64 := rfl
  go_enter Try.func21, Try.ntmps21
  go_upto_region 1 with fail
  refine wp_region_lit ?_
  refine wpL_build rfl 55 _ rfl (wdA kL) (by kernel_rfl) ?_
  generalize hK : kL = K at hk ⊢
  go_wp2
  refine results_bigRow 55 _ 64 Try.underlying55 rfl sizeT_w64 rfl w.heap.size rfl rfl _ (RowC.new w (wdA K) _) (by rw [wdA_size, hk]) ⟨by rw [hK], below_alloc _ _⟩
set_option maxHeartbeats 400000 in
theorem shaFirst_any (w : World) : Calls Try.prog 15 #[] w fun e w' => e = .returned (.agg (wdA init8.toL)) ∧ Below w.heap.size w w' := by
  have hk : init8.toL.length = 8 := rfl
  go_enter Try.func15, Try.ntmps15
  go_upto_region 1 with fail
  refine wp_region_lit ?_
  refine wpL_build rfl 44 _ rfl (wdA init8.toL) (by kernel_rfl) ?_
  generalize hK : init8.toL = K at hk ⊢
  go_wp2
  refine results_bigRow 44 _ 8 Try.underlying44 rfl sizeT_w8 rfl w.heap.size rfl rfl _ (RowC.new w (wdA K) _) (by rw [wdA_size, hk]) ⟨by rw [hK], below_alloc _ _⟩
def cloL (n : Nat) : List UInt8 := [0x80] ++ List.replicate (padZ n) 0 ++ be8 (8 * n)
theorem padL_clo (l : List UInt8) : padL l = l ++ cloL l.length := by simp [padL, cloL]
theorem cloL_eq (n : Nat) : cloL n = padUp [] (padZ n) ++ beN (8 * n) 8 := by rw [beN_all]; rfl
theorem cloL_len (n : Nat) : (cloL n).length ≤ 72 := by
  have : padZ n < 64 := by unfold padZ; omega
  simp [cloL, be8]; omega
set_option linter.unusedSimpArgs false in
set_option maxHeartbeats 800000 in
theorem shaClosing_any (n : Nat) (w : World) (hn : n ≤ 140737488355328) :
    Calls Try.prog 17 #[.int .i64 (n : Int)] w fun e w' => ∃ u, e = .returned u ∧ OwnB w' w.heap.size u (cloL n) ∧ Below w.heap.size w w' := by
  go_enter Try.func17, Try.ntmps17
  go_wp2_with fail
  have hO : OwnB (w.alloc (.cells #[Value.int .u8 128] 5)) w.heap.size (.slice (some ⟨w.heap.size, 0, none⟩) 1 1) (padUp [] 0) := OwnG.lit 5 w [Value.int .u8 128] (by unfold maxLen; simp)
  have hB : Below w.heap.size w (w.alloc (.cells #[Value.int .u8 128] 5)) := below_alloc _ _
  go_loopw [3] (fun v wr => ∃ j : Nat, j ≤ padZ n ∧ OwnB wr w.heap.size v (padUp [] j) ∧ Below w.heap.size w wr) (fun v _ => 1 + padZ n - vlen v)
  case atStart => exact ⟨0, Nat.zero_le _, hO, hB⟩
  case round =>
    clear hO hB
    obtain ⟨j, hj, hO, hB⟩ := hrel
    have hsz := hB.size
    obtain ⟨g, c2, rfl, hg, -, -⟩ := hO.form (by unfold padUp; simp)
    have hz : padZ n < 64 := by unfold padZ; omega
    have hpl : (padUp [] j).length = 1 + j := by rw [padUp_len]; simp
    rw [hpl] at hO ⊢
    by_cases hlt : j < padZ n
    · obtain ⟨v', w', hr, hO', hB', hs'⟩ := run_app1 (wr.alloc (.cells #[Value.int .u8 0] 5)) w.heap.size wr.heap.size 1 (.slice (some ⟨g, 0, none⟩) (1 + j) c2) (padUp [] j) 0 22 (hO.keep (below_alloc _ _)) (by go_simp) (by omega) (by simp; omega)
      obtain ⟨g3, c3, rfl, -⟩ := hO'.form (by simp)
      have HO : Hid (OwnB w' w.heap.size (.slice (some ⟨g3, 0, none⟩) (1 + (j + 1)) c3) (padUp [] (j + 1))) := by show OwnB _ _ _ _; rw [padUp_succ]; simpa [hpl, Nat.add_assoc] using hO'
      have HB : Hid (Below w.heap.size w w') := (hB.alloc hsz _).trans hB'
      have hlen : (padUp [] j ++ [0]).length = 1 + (j + 1) := by rw [List.length_append, hpl]; rfl
      rw [hlen] at hr
      obtain ⟨m, hm⟩ : ∃ m, 1 + j = m := ⟨_, rfl⟩
      have hrem : ((n : Int) + (m : Int) + 8) % 64 ≠ 0 := by unfold padZ at hlt; omega
      have hm64 : m ≤ 64 := by omega
      have HM : Hid (1 + padZ n - (1 + (j + 1)) < 1 + padZ n - m) := by show _ < _; omega
      rw [hm] at hr ⊢
      clear hO hB hO' hB' hlen hpl hm
      generalize 1 + (j + 1) = m' at *
      go_wp2_with (at_builtin; refine wpL_app rfl _ _ rfl _ w' (by exact hr) ?_)
      go_roundw
      case rel => exact ⟨j + 1, by omega, HO.out, HB.out⟩
      case measure => simpa [vlen] using HM.out
    · obtain rfl : j = padZ n := by omega
      obtain ⟨m, hm⟩ : ∃ m, 1 + padZ n = m := ⟨_, rfl⟩
      have hrem : ((n : Int) + (m : Int) + 8) % 64 = 0 := by unfold padZ at hm; omega
      have hm64 : m ≤ 64 := by omega
      have HP : Hid (cloL n = padUp [] (padZ n) ++ beN (8 * n) 8) := cloL_eq n
      rw [hm] at hO hpl ⊢
      generalize padUp [] (padZ n) = Q at hO HP hpl
      clear hm
      go_wp2_with fail
      clear hrem
      go_loopw [3, 20] (fun v i wr => ∃ j : Nat, j ≤ 8 ∧ i = .int .i64 (j : Nat) ∧ OwnB wr w.heap.size v (Q ++ beN (8 * n) j) ∧ Below w.heap.size w wr) (fun _ i _ => 8 - (intOf i).toNat)
      case atStart => exact ⟨0, by omega, rfl, by rw [show beN (8 * n) 0 = [] from rfl, List.append_nil]; exact hO, hB⟩
      case round =>
        clear hO hB
        obtain ⟨j, hj, rfl, hO, hB⟩ := hrel
        have hsz := hB.size
        by_cases hlt : j < 8
        · obtain ⟨p, hp⟩ : ∃ p : Nat, 56 - 8 * j = p := ⟨_, rfl⟩
          have hp2 : (56 : Int) - 8 * (j : Int) = (p : Int) := by omega
          obtain ⟨b, hb⟩ : ∃ b, UInt8.ofNat (8 * n / 256 ^ (7 - j)) = b := ⟨_, rfl⟩
          have hbv : 8 * (n : Int) / (2 : Int) ^ p % 256 = (b.toNat : Int) := by
            rw [← hb, UInt8.toNat_ofNat', show (256 : Nat) = 2 ^ 8 from rfl, ← Nat.pow_mul, show 8 * (7 - j) = p by omega]
            simp
          have hlQ : (Q ++ beN (8 * n) j).length = m + j := by rw [List.length_append, hpl, beN_len _ _ hj]
          obtain ⟨v', w', hr, hO', hB', hs'⟩ := run_app1 (wr.alloc (.cells #[Value.int .u8 (b.toNat : Int)] 5)) w.heap.size wr.heap.size 1 u3 (Q ++ beN (8 * n) j) b 22 (hO.keep (below_alloc _ _)) (by go_simp) (by omega) (by simp; omega)
          have HO : Hid (OwnB w' w.heap.size v' (Q ++ beN (8 * n) (j + 1))) := by show OwnB _ _ _ _; rw [beN_succ _ _ hlt, hb, ← List.append_assoc]; exact hO'
          have HB : Hid (Below w.heap.size w w') := (hB.alloc hsz _).trans hB'
          have hp0 : (p : Int) ≤ 56 := by omega
          have hp1 : (0 : Int) ≤ (p : Int) := by omega
          have hj0 : (0 : Int) ≤ (j : Int) := by omega
          have hj8 : (j : Int) < 8 := by omega
          clear hO hB hO' hB' hb hp hlQ
          go_wp2_with (at_builtin; refine wpL_app rfl _ _ rfl v' w' (by exact hr) ?_)
          go_roundw
          case rel => first | exact ⟨j + 1, by omega, by go_num, HO.out, HB.out⟩ | ((repeat apply Exists.intro); refine ⟨⟨j + 1, by omega, ?_, HO.out, HB.out⟩, rfl⟩; go_num)
          case measure => simp [intOf]; omega
        · obtain rfl : j = 8 := by omega
          rw [← HP.out] at hO
          go_wp2
          go_ret
          exact ⟨_, rfl, hO, hB⟩
end Go.Proofs.Ytajmlfcbppnpgaa
