import Derived.Test.YtfdigmlhjjdggaaQTab7
import Derived.Test.YtfdigmlhjjdggaaQGenC
namespace Go.Proofs.Ytfdigmlhjjdggaa
open Go.RowKit

/-! TablePuts -/
theorem secEq_r17 (s : Sc) : secEq s s = true := secEq_iff17.2 rfl
theorem IsG.cut17 {w : World} {a : Addr} {n c m : Nat} {xs : List Value} (h : IsG w (.slice (some a) n c) xs) (hm : m ≤ n) : IsG w (.slice (some a) m c) (xs.take m) := by
  rcases h with ⟨h, -⟩ | ⟨x, d, he, hc⟩
  · cases h
  · simp only [Value.slice.injEq, Option.some.injEq] at he
    obtain ⟨rfl, rfl, rfl⟩ := he
    refine .inr ⟨_, c, by rw [List.length_take, Nat.min_eq_left hm], fun i hi => ?_⟩
    rw [List.length_take] at hi
    rw [hc i (by omega), List.getElem_take]
theorem uV_one (l : List Nat) : ∀ u ∈ uV l, u.oneCell' = true := fun u hu => by
  simp only [uV, List.mem_map] at hu
  obtain ⟨v, -, rfl⟩ := hu
  rfl
set_option linter.unusedSimpArgs false in
set_option maxRecDepth 100000 in
set_option maxHeartbeats 3200000 in
theorem lawTablePuts_any (O : TabOk) (nm : ByteArray) (key : Nat → UInt8) (a b : Nat) (ly : Nat → UInt8) (l : List Nat) (x : Option Addr) (n c : Nat) (w : World) (hnm : nm.size ≤ 9223372036854775807) (ha : a < 4294967296) (hb4 : b < 4294967296) (hn : l.length = n) (hn47 : n * 4 ≤ 140737488351232) (hv4 : ∀ (i : Nat) (v : Nat), l[i]? = some v → v < 4294967296) (hl : IsG w (.slice x n c) (uV l)) :
    Calls Try.prog 6 #[.agg (tgA ⟨nm, key⟩), .agg (snA ⟨(a : Int), (b : Int), ly⟩), .slice x n c] w fun e w' => e = .returned (.bool true) ∧ Below w.heap.size w w' := by
  have kK := known17_any O
  have k1 := fun W => O.pt nm key W hnm
  have k2 := fun W => rPutTag_any nm key W (by omega)
  have k3 := fun W => O.ps a b ly W ha hb4
  have k4 := fun W => rPutSnap_any a b ly W ha hb4
  have e1 := secEq_r17 (ptS (lS nm) key)
  have e2 := secEq_r17 (psS a b ly)
  generalize ptS (lS nm) key = P1 at k1 k2 e1
  generalize psS a b ly = P2 at k3 k4 e2
  generalize ptE (lS nm) = E1 at k1 k2
  generalize psE a = E2 at k3 k4
  obtain ⟨A1, hA1⟩ : ∃ q, tgA ⟨nm, key⟩ = q := ⟨_, rfl⟩
  obtain ⟨A2, hA2⟩ : ∃ q, snA ⟨(a : Int), (b : Int), ly⟩ = q := ⟨_, rfl⟩
  have z1 : A1.size = 33 := by rw [← hA1, tgA_size]
  have z2 : A2.size = 34 := by rw [← hA2, snA_size]
  simp only [hA1] at k1 k2
  simp only [hA2] at k3 k4
  rw [hA1, hA2]
  clear hA1 hA2
  have hB : Below w.heap.size w ((w.alloc (.cells A1 25)).alloc (.cells A2 28)) := (below_alloc w _).alloc (by simp) _
  have hR3 : RowC ((w.alloc (.cells A1 25)).alloc (.cells A2 28)) w.heap.size A1 := (RowC.new w A1 _).kept (below_alloc _ _)
  have hR4 : RowC ((w.alloc (.cells A1 25)).alloc (.cells A2 28)) (w.heap.size + 1) A2 := by
    have := RowC.new (w.alloc (.cells A1 25)) A2 28
    rw [World.size_alloc] at this
    exact this
  go_enter Try.func6, Try.ntmps6
  go_upto_region 1 with fail
  obtain ⟨g4, hg4⟩ : ∃ g, w.heap.size + 1 = g := ⟨_, rfl⟩
  obtain ⟨g3, hg3⟩ : ∃ g, w.heap.size = g := ⟨_, rfl⟩
  rw [hg4] at hR4
  rw [hg3] at hR3
  simp only [hg4]
  simp only [hg3]
  generalize (w.alloc (.cells A1 25)).alloc (.cells A2 28) = X at hB hR3 hR4 ⊢
  clear hg3 hg4
  go_wp2_with fail
  refine (kK _).mono ?_
  rintro e w1 ⟨rfl, hb⟩
  replace hR3 := hR3.kept hb
  replace hR4 := hR4.kept hb
  replace hB := hB.trans (hb.mono hB.size)
  clear kK hb
  have hR3' := hR3
  obtain ⟨r3, q3⟩ := hR3'
  go_wp2_with fail
  refine (k1 _).mono ?_
  rintro e w2 ⟨rfl, hb⟩
  replace hR3 := (hR3.kept hb).kept (below_alloc w2 (.cells (secA P1) 35))
  replace hR4 := (hR4.kept hb).kept (below_alloc w2 (.cells (secA P1) 35))
  replace hB := (hB.trans (hb.mono hB.size))
  replace hB := hB.alloc hB.size (.cells (secA P1) 35)
  have h7 : ScR (w2.alloc (.cells (secA P1) 35)) w2.heap.size P1 := ScR.new _ _ _
  clear k1 hb r3 q3
  go_upto_region 4 with fail
  generalize w2.alloc (.cells (secA P1) 35) = X1 at hR3 hR4 hB h7 ⊢
  generalize w2.heap.size = g7 at h7 ⊢
  obtain ⟨r3, q3⟩ := hR3
  go_wp2_with fail
  refine (k2 _).mono ?_
  rintro e w3 ⟨rfl, hb⟩
  replace hR4 := (hR4.kept hb).kept (below_alloc w3 (.cells (secA P1) 35))
  replace h7 := (h7.kept hb).kept (below_alloc w3 (.cells (secA P1) 35))
  replace hB := (hB.trans (hb.mono hB.size))
  replace hB := hB.alloc hB.size (.cells (secA P1) 35)
  have h9 : ScR (w3.alloc (.cells (secA P1) 35)) w3.heap.size P1 := ScR.new _ _ _
  clear k2 hb r3 q3
  go_upto_region 5 with fail
  generalize w3.alloc (.cells (secA P1) 35) = X2 at hR4 hB h7 h9 ⊢
  generalize w3.heap.size = g9 at h9 ⊢
  have hR4' := hR4
  obtain ⟨r4, q4⟩ := hR4'
  go_wp2_with fail
  refine (k3 _).mono ?_
  rintro e w4 ⟨rfl, hb⟩
  replace hR4 := (hR4.kept hb).kept (below_alloc w4 (.cells (secA P2) 35))
  replace h7 := (h7.kept hb).kept (below_alloc w4 (.cells (secA P2) 35))
  replace h9 := (h9.kept hb).kept (below_alloc w4 (.cells (secA P2) 35))
  replace hB := (hB.trans (hb.mono hB.size))
  replace hB := hB.alloc hB.size (.cells (secA P2) 35)
  have h11 : ScR (w4.alloc (.cells (secA P2) 35)) w4.heap.size P2 := ScR.new _ _ _
  clear k3 hb r4 q4
  go_upto_region 6 with fail
  generalize w4.alloc (.cells (secA P2) 35) = X3 at hR4 hB h7 h9 h11 ⊢
  generalize w4.heap.size = g11 at h11 ⊢
  obtain ⟨r4, q4⟩ := hR4
  go_wp2_with fail
  refine (k4 _).mono ?_
  rintro e w5 ⟨rfl, hb⟩
  replace h7 := (h7.kept hb).kept (below_alloc w5 (.cells (secA P2) 35))
  replace h9 := (h9.kept hb).kept (below_alloc w5 (.cells (secA P2) 35))
  replace h11 := (h11.kept hb).kept (below_alloc w5 (.cells (secA P2) 35))
  replace hB := (hB.trans (hb.mono hB.size))
  replace hB := hB.alloc hB.size (.cells (secA P2) 35)
  have h13 : ScR (w5.alloc (.cells (secA P2) 35)) w5.heap.size P2 := ScR.new _ _ _
  clear k4 hb r4 q4
  go_upto_region 7 with fail
  generalize w5.alloc (.cells (secA P2) 35) = X4 at hB h7 h9 h11 h13 ⊢
  generalize w5.heap.size = g13 at h13 ⊢
  obtain ⟨r7, q7⟩ := h7
  obtain ⟨r9, q9⟩ := h9
  obtain ⟨r11, q11⟩ := h11
  obtain ⟨r13, q13⟩ := h13
  go_upto_region 9 with fail
  clear r7 q7 r9 q9 r11 q11 r13 q13
  have hlX := hl.kept hB
  have bA := below_alloc X4 (.cells #[] 26)
  have hO0 : OwnG 26 (X4.alloc (.cells #[] 26)) X4.heap.size (.slice (some ⟨X4.heap.size, 0, none⟩) 0 0) [] := OwnG.lit _ X4 [] (by show 0 ≤ maxLen; decide)
  have hlen : (uV l).length = n := by rw [uV_len, hn]
  obtain ⟨v1, w6, hr1, hO1, hb1⟩ := run_copyG elt17 _ X4.heap.size _ x n c (uV l) 31 hO0 bA.size hlen (hlX.kept bA) (uV_one l) (by omega) (by unfold maxLen; omega)
  have hB6 : Below X4.heap.size X4 w6 := bA.trans hb1
  have bC := below_alloc w6 (.cells #[Value.int .u32 42405] 26)
  have hcl : (w6.alloc (.cells #[Value.int .u32 42405] 26)).cell? ⟨w6.heap.size, 0, none⟩ = some (.int .u32 42405) := cell_of_row _ _ 0 _ _ _ (heap_alloc_last _ _)
  obtain ⟨v2, w7, hr2, hO2, -, hb2⟩ := run_app1G elt17 _ X4.heap.size w6.heap.size 1 v1 (uV l) (.int .u32 42405) 31 (hO1.keep bC) hcl rfl (by rw [hlen]; omega) (by rw [hlen]; unfold maxLen; omega) (Nat.le_trans hB6.size bC.size)
  have hB7 : Below X4.heap.size X4 w7 := (hB6.trans (bC.mono hB6.size)).trans hb2
  obtain ⟨gf, cf, rfl, -, -, hcf, -⟩ := hO2.form (by simp)
  have hM : (uV l ++ [Value.int .u32 42405]).length = n + 1 := by rw [List.length_append, hlen]; rfl
  rw [hM] at hr2 hO2 hcf
  obtain ⟨M, hMv⟩ : ∃ q, n + 1 = q := ⟨_, rfl⟩
  rw [hMv] at hr2 hO2 hcf hM
  have hBw := hB.trans (hB7.mono hB.size)
  have hfr : IsG w7 (.slice (some ⟨gf, 0, none⟩) n cf) (uV l) := by
    have h9 := hO2.isG.cut17 (m := n) (by omega)
    rw [← hlen, List.take_left, hlen] at h9; exact h9
  have c42 := hO2.cell n (.int .u32 42405) (by rw [List.getElem?_append_right (by omega), hlen, Nat.sub_self]; rfl)
  have hlw := hlX.kept hB7
  have kP := fun W (hb : Below w7.heap.size w7 W) => O.pc l (some ⟨gf, 0, none⟩) n cf W hn (by omega) (by omega) hv4 (hfr.kept hb)
  have kR := fun W (hb : Below w7.heap.size w7 W) => rPutCounts_any l x n c W hn (by omega) hv4 (hlw.kept hb)
  have kS := fun W (hb : Below w7.heap.size w7 W) => same17_any l (some ⟨gf, 0, none⟩) x n cf c W hn (hfr.kept hb) (hlw.kept hb) (by omega)
  have e3 := secEq_r17 (pcS l)
  generalize pcS l = P3 at kP kR e3
  generalize pcE l = E3 at kP kR
  clear bA hO0 hlX hO1 hb1 hB6 bC hcl hb2 hB7 hB hM e1 e2
  go_wp2_with (at_builtin; first | (refine wpL_appG 31 rfl _ _ rfl v1 w6 (by exact hr1) ?_; clear hr1) | refine wpL_appG 31 rfl _ _ rfl _ w7 (by exact hr2) ?_)
  clear hr2
  have y1 : (0 : Int) ≤ (n : Int) := by omega
  have y2 : (n : Int) ≤ (cf : Int) := by omega
  have y3 : (n : Int) < (M : Int) := by omega
  refine (kP _ (Below.refl _ _)).mono ?_
  rintro e w8 ⟨rfl, hb⟩
  have b8 := hb.alloc hb.size (.cells (secA P3) 35)
  have h16 : ScR (w8.alloc (.cells (secA P3) 35)) w8.heap.size P3 := ScR.new _ _ _
  clear kP hb
  go_upto_region 11 with fail
  generalize w8.alloc (.cells (secA P3) 35) = X5 at b8 h16 ⊢
  generalize w8.heap.size = g16 at h16 ⊢
  go_wp2_with fail
  refine (kR _ b8).mono ?_
  rintro e w9 ⟨rfl, hb⟩
  replace h16 := (h16.kept hb).kept (below_alloc w9 (.cells (secA P3) 35))
  replace b8 := b8.trans (hb.mono b8.size)
  replace b8 := b8.alloc b8.size (.cells (secA P3) 35)
  have h18 : ScR (w9.alloc (.cells (secA P3) 35)) w9.heap.size P3 := ScR.new _ _ _
  clear kR hb
  go_upto_region 12 with fail
  generalize w9.alloc (.cells (secA P3) 35) = X6 at b8 h16 h18 ⊢
  generalize w9.heap.size = g18 at h18 ⊢
  have c9 := cell_later b8 c42
  obtain ⟨r16, q16⟩ := h16
  obtain ⟨r18, q18⟩ := h18
  go_wp2_with fail
  refine (kS _ b8).mono ?_
  rintro e wz ⟨rfl, hb⟩
  have c8 := cell_later hb c9
  have hfin := hBw.trans ((b8.trans (hb.mono b8.size)).mono hBw.size)
  clear kS hb r16 q16 r18 q18 b8
  go_wp2
  go_ret
  exact ⟨rfl, hfin⟩
end Go.Proofs.Ytfdigmlhjjdggaa
