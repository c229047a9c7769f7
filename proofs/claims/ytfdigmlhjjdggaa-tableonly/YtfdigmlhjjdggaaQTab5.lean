import Derived.Test.YtfdigmlhjjdggaaQTab4
namespace Go.Proofs.Ytfdigmlhjjdggaa
open Go.RowKit

/-! assayref17: GetCounts -/
theorem elt17 : Elt 31 26 4 := ⟨Try.underlying31, by
  have h : (Try.prog.info? 26).map (fun i => (i.zero, i.size, i.bytes)) = some (some (.int .u32 0), 1, 4) := by kernel_rfl
  obtain ⟨i, hi, hzz⟩ := Option.map_eq_some_iff.1 h
  simp only [Prod.mk.injEq] at hzz
  exact ⟨i, _, hi, hzz.1, hzz.2.1, hzz.2.2, rfl⟩⟩
def GcP (s : Sc) (n : Int) (w : World) (e : Ending) (w' : World) : Prop := (∃ v, e = .returned (.tuple #[v, .bool (gcB s n)]) ∧ OwnG 26 w' w.heap.size v (uV (gcL s n))) ∧ Below w.heap.size w w'
theorem cnN_min (n : Int) : (if 15 < (if n < 0 then 0 else n) then 15 else (if n < 0 then 0 else n)) = ((cnN n : Nat) : Int) := by
  unfold cnN
  by_cases h1 : n < 0
  · rw [if_pos h1, if_pos h1, if_neg (by omega)]; rfl
  · rw [if_neg h1, if_neg h1]
    by_cases h2 : 15 < n
    · rw [if_pos h2, if_pos h2]; rfl
    · rw [if_neg h2, if_neg h2]; omega
set_option linter.unusedSimpArgs false in
set_option maxRecDepth 100000 in
set_option maxHeartbeats 1600000 in
theorem rGetCounts_any (s : Sc) (n : Int) (w : World) :
    Calls Try.prog 22 #[.agg (secA s), .int .i64 n] w fun e w' => GcP s n w e w' := by
  have hB := below_alloc w (.cells (secA s) 35)
  have hR : ScR (w.alloc (.cells (secA s) 35)) w.heap.size s := ScR.new _ _ _
  go_enter Try.func22, Try.ntmps22
  go_upto_region 1 with fail
  obtain ⟨g2, hg2⟩ : ∃ g, w.heap.size = g := ⟨_, rfl⟩
  rw [hg2] at hR
  simp only [hg2]
  generalize w.alloc (.cells (secA s) 35) = X at hB hR ⊢
  go_upto_region 2 with fail
  rw [cnN_min n]
  have hm15 := cnN_le n
  have HGC : Hid (gcB s n = secEq (cnS (cnL s (cnN n))) s ∧ gcL s n = bif gcB s n then cnL s (cnN n) else []) := ⟨rfl, rfl⟩
  obtain ⟨m, hm⟩ : ∃ q, cnN n = q := ⟨_, rfl⟩
  rw [hm] at HGC hm15 ⊢
  generalize (if n < 0 then (0 : Int) else n) = mx
  have HX : Hid (Below w.heap.size w X) := hB
  clear hm
  have HW : Hid (w.heap.size = g2) := hg2
  go_wp2_with fail
  go_loopw [6, 7] (fun vl iv wr => ∃ i : Nat, i ≤ m ∧ iv = .int .i64 i ∧ OwnG 26 wr X.heap.size vl (uV (cnL s i)) ∧ Below X.heap.size X wr) (fun _ iv _ => m - (intOf iv).toNat)
  case atStart => exact ⟨0, by omega, rfl, OwnG.nil _ _ _, Below.refl _ _⟩
  case round =>
    obtain ⟨i, hi, rfl, hO, hBX⟩ := hrel
    have hRr := hR.kept hBX
    by_cases hlt : i < m
    · have i0 : (i : Int) < (m : Int) := by omega
      have i9 : (i : Int) < 15 := by omega
      obtain ⟨i4, hi4⟩ : ∃ q, 4 * i = q := ⟨_, rfl⟩
      have F4 : (4 : Int) * (i : Int) = (i4 : Int) := by omega
      have F5 : IntKind.i64.wrap (i4 : Int) = (i4 : Int) := by rw [IntKind.wrap_i64]; omega
      have F6 : (i4 : Int) < 60 := by omega
      have kG := fun W => get17_any s i4 W (by omega)
      have hcs := cnL_succ s i
      rw [hi4] at hcs
      have hvl := numN_lt s i4 4
      generalize numN s i4 4 = v at kG hcs hvl
      have HI : Hid (i < m) := hlt
      obtain ⟨r2, q2⟩ := hRr
      clear hi4 hlt hi
      go_wp2_with fail
      refine (kG _).mono ?_
      rintro e w1 ⟨rfl, hb⟩
      have hO1 := hO.keep hb
      have hB1 := hBX.trans (hb.mono hBX.size)
      have bC := below_alloc w1 (.cells #[Value.int .u32 (v : Int)] 26)
      have hcl : (w1.alloc (.cells #[Value.int .u32 (v : Int)] 26)).cell? ⟨w1.heap.size, 0, none⟩ = some (.int .u32 (v : Int)) := cell_of_row _ _ 0 _ _ _ (heap_alloc_last _ _)
      obtain ⟨v', w', hr, hO2, hg, hB2⟩ := run_app1G elt17 _ X.heap.size w1.heap.size 1 u6 (uV (cnL s i)) (.int .u32 (v : Int)) 31 (hO1.keep bC) hcl rfl (by rw [uV_len, cnL_len]; have := HI.out; omega) (by rw [uV_len, cnL_len]; unfold maxLen; have := HI.out; omega) (Nat.le_trans hB1.size bC.size)
      have e9 : uV (cnL s i) ++ [.int .u32 (v : Int)] = uV (cnL s (i + 1)) := by rw [hcs, uV_app]; rfl
      rw [e9] at hO2
      have HO : Hid _ := hO2
      have HB : Hid _ := (hB1.trans (bC.mono hB1.size)).trans hB2
      clear hO hO1 hBX hB1 bC hcl hg hB2 hO2 e9 hcs kG hb r2 q2 hR hB hg2
      go_wp2_with (at_builtin; refine wpL_appG 31 rfl _ _ rfl v' w' (by exact hr) ?_)
      go_roundw
      case rel => exact ⟨i + 1, by have := HI.out; omega, by go_num, HO.out, HB.out⟩
      case measure => have := HI.out; simp [intOf]; omega
    · obtain rfl : m = i := by omega
      have i0 : ¬ (m : Int) < (m : Int) := by omega
      have hx := hO.isG
      obtain ⟨xl, cl, rfl⟩ := hx.len
      rw [uV_len, cnL_len] at hx hO ⊢
      have kP := rPutCounts_any (cnL s m) xl m cl
      have kP' := fun W (hb : Below wr.heap.size wr W) => kP W (cnL_len s m) (by omega) (fun i v hv => by
        have hi9 := (List.getElem?_eq_some_iff.1 hv).1
        rw [cnL_len] at hi9
        rw [cnL_get s m i hi9] at hv
        rw [← Option.some.inj hv]
        have := numN_lt s (4 * i) 4
        omega) (hx.kept hb)
      have ep : pcS (cnL s m) = cnS (cnL s m) := by unfold pcS; rw [decide_eq_true (by rw [cnL_len]; exact hm15)]; rfl
      rw [ep] at kP'
      obtain ⟨C, hC⟩ : ∃ q, cnS (cnL s m) = q := ⟨_, rfl⟩
      rw [hC] at HGC kP'
      generalize pcE (cnL s m) = E9 at kP'
      clear kP ep hC
      go_wp2_with fail
      refine (kP' _ (Below.refl _ _)).mono ?_
      rintro e w1 ⟨rfl, hb⟩
      have hB1 := hBX.trans (hb.mono hBX.size)
      have hO1 := hO.keep hb
      have bC := below_alloc w1 (.cells (secA C) 35)
      have hC9 : ScR (w1.alloc (.cells (secA C) 35)) w1.heap.size C := ScR.new _ _ _
      have hR9 := (hRr.kept hb).kept bC
      have HO9 : Hid (OwnG 26 (w1.alloc (.cells (secA C) 35)) X.heap.size (.slice xl m cl) (uV (cnL s m))) := hO1.keep bC
      have HB9 : Hid _ := hB1.trans (bC.mono hB1.size)
      clear kP' hb hBX hO hx hRr hR hB hB1 hO1 bC
      go_upto_region 8 with fail
      generalize w1.alloc (.cells (secA C) 35) = Z at hC9 hR9 HO9 HB9 ⊢
      generalize w1.heap.size = g8 at hC9 ⊢
      obtain ⟨r8, q8⟩ := hC9
      obtain ⟨r2, q2⟩ := hR9
      have HF : Hid (Below w.heap.size w Z) := by
        show Below _ _ _
        have h9 : Below w.heap.size w X := HX.out
        exact h9.trans (HB9.out.mono h9.size)
      have HS : Hid (w.heap.size ≤ X.heap.size) := HX.out.size
      cases hq : secEq C s
      · go_wp2
        go_ret2
        refine ⟨⟨.slice none 0 0, ?_, ?_⟩, HF.out⟩
        · rw [HGC.out.1, hq]; rfl
        · rw [HGC.out.2, HGC.out.1, hq]; exact OwnG.nil _ _ _
      · go_wp2
        go_ret2
        refine ⟨⟨.slice xl m cl, ?_, ?_⟩, HF.out⟩
        · rw [HGC.out.1, hq]; rfl
        · rw [HGC.out.2, HGC.out.1, hq]; exact OwnG.le HO9.out HS.out
end Go.Proofs.Ytfdigmlhjjdggaa
