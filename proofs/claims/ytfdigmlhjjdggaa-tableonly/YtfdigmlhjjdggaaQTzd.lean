import Derived.Test.YtfdigmlhjjdggaaQTzc
namespace Go.Proofs.Ytfdigmlhjjdggaa
open Go.RowKit

/-! table: countsCodec.lay, PutTag, PutSnap, PutCounts -/
set_option linter.unusedSimpArgs false in
set_option maxRecDepth 100000 in
set_option maxHeartbeats 3200000 in
theorem layCounts_no (x : Option Addr) (n c : Nat) (g : Nat) (s T : Sc) (w : World) (hn : 15 < n) (hn63 : n ≤ 9223372036854775807) (hs : ScR w g s) :
    Calls Try.prog 26 #[.pointer (some ⟨g, 0, none⟩), .slice x n c] w fun e w' => LyQ g T 2 w e w' := by
  have i0 : (15 : Int) < (n : Int) := by omega
  have HS : Hid _ := hs
  clear hs hn hn63
  go_enter Try.func26, Try.ntmps26
  go_wp2
  go_ret
  exact ⟨rfl, ⟨s, HS.out, fun h => by cases h⟩, Keep.refl _ _⟩
set_option linter.unusedSimpArgs false in
set_option maxRecDepth 100000 in
set_option maxHeartbeats 3200000 in
theorem layCounts_yes (l : List Nat) (x : Option Addr) (n c : Nat) (g : Nat) (w : World) (hn : l.length = n) (hn15 : n ≤ 15) (hv4 : ∀ (i : Nat) (v : Nat), l[i]? = some v → v < 4294967296) (hI : ∀ w', Keep [g] w w' → IsG w' (.slice x n c) (uV l)) (hs : ScR w g secZ) (T : Sc) (hT : cn1 l n = T) :
    Calls Try.prog 26 #[.pointer (some ⟨g, 0, none⟩), .slice x n c] w fun e w' => LyQ g T 0 w e w' := by
  have i0 : ¬ (15 : Int) < (n : Int) := by omega
  have HT : Hid (cn1 l n = T) := hT
  clear hT
  go_enter Try.func26, Try.ntmps26
  go_wp2_with fail
  clear i0
  go_loopw [12] (fun iv wr => ∃ i : Nat, i ≤ n ∧ iv = .int .i64 i ∧ ScR wr g (cn1 l i) ∧ Keep [g] w wr) (fun iv _ => n - (intOf iv).toNat)
  case atStart => exact ⟨0, by omega, rfl, by rw [cn1_zero]; exact hs, Keep.refl _ _⟩
  case round =>
    clear hs
    obtain ⟨i, hi, rfl, h4, hK⟩ := hrel
    by_cases hlt : i < n
    · obtain ⟨v, hv⟩ : ∃ v, l[i]? = some v := ⟨_, List.getElem?_eq_getElem (by omega)⟩
      have hvl := hv4 i v hv
      have hS := cn1_succ l i
      rw [hv] at hS
      simp only [Option.getD_some] at hS
      obtain ⟨gb, ob, rfl, hgb, hc9⟩ := (hI _ hK).spot i (by rw [uV_len]; omega)
      have hc := hc9 i _ (uV_get l i v hv)
      clear hc9
      obtain ⟨i4, hi4⟩ : ∃ q, 4 * i = q := ⟨_, rfl⟩
      rw [hi4] at hS
      have kN := putNumber17 (cn1 l i) g i4 v (by omega) hvl wr h4
      obtain ⟨S2, hS2⟩ : ∃ q, cn1 l (i + 1) = q := ⟨_, rfl⟩
      rw [hS, hS2] at kN
      have q1 : (4 : Int) * (i : Int) = (i4 : Int) := by omega
      have q2 : IntKind.i64.wrap (i4 : Int) = (i4 : Int) := by rw [IntKind.wrap_i64]; omega
      have HI : Hid (i < n ∧ cn1 l (i + 1) = S2) := ⟨hlt, hS2⟩
      have i0 : (i : Int) < (n : Int) := by omega
      have i1 : (0 : Int) ≤ (i : Int) := by omega
      have HK : Hid _ := hK
      clear hS hi4 hS2 hv hvl hi hlt h4 hK
      go_wp2_with fail
      refine kN.mono ?_
      clear kN q1 q2 hc
      rintro e w2 ⟨rfl, hS3, k3⟩
      have HR : Hid _ := hS3
      have HK2 : Hid _ := HK.out.trans k3
      clear HK hS3 k3
      go_wp2
      go_roundw
      case rel => exact ⟨i + 1, by have := HI.out.1; omega, by go_num, by rw [HI.out.2]; exact HR.out, HK2.out⟩
      case measure => have := HI.out.1; simp [intOf]; omega
    · obtain rfl : n = i := by omega
      have i0 : ¬ (n : Int) < (n : Int) := by omega
      have HR : Hid _ := h4
      have HK : Hid _ := hK
      clear h4 hK hlt hi
      go_wp2
      go_ret
      exact ⟨rfl, ⟨T, by rw [← HT.out]; exact HR.out, fun _ => rfl⟩, HK.out⟩
set_option linter.unusedSimpArgs false in
set_option maxRecDepth 100000 in
set_option maxHeartbeats 3200000 in
theorem putTag_yes (nm : ByteArray) (key : Nat → UInt8) (w : World) (T : Sc) (kL : ∀ (g : Nat) (W : World), ScR W g secZ → Calls Try.prog 23 #[.pointer (some ⟨g, 0, none⟩), .agg (tgA ⟨nm, key⟩)] W fun e w' => LyQ g T 0 W e w') :
    Calls Try.prog 9 #[.agg (tgA ⟨nm, key⟩)] w fun r w' => r = .returned (.tuple #[.agg (secA (sealS T)), .int .i64 0]) ∧ Below w.heap.size w w' := by
  have hR : RowC ((w.alloc (.cells (tgA ⟨nm, key⟩) 25)).alloc (.cells (secA secZ) 35)) w.heap.size (tgA ⟨nm, key⟩) := (RowC.new w (tgA ⟨nm, key⟩) _).kept (below_alloc _ _)
  have h2 : ScR ((w.alloc (.cells (tgA ⟨nm, key⟩) 25)).alloc (.cells (secA secZ) 35)) (w.heap.size + 1) secZ := by
    have := ScR.new (w.alloc (.cells (tgA ⟨nm, key⟩) 25)) secZ 35
    rw [World.size_alloc] at this
    exact this
  have hB : Below w.heap.size w ((w.alloc (.cells (tgA ⟨nm, key⟩) 25)).alloc (.cells (secA secZ) 35)) := (below_alloc w _).alloc (by simp) _
  go_enter Try.func9, Try.ntmps9
  go_upto_region 1 with fail
  obtain ⟨g2, hg2⟩ : ∃ g, w.heap.size + 1 = g := ⟨_, rfl⟩
  have hl2 : w.heap.size ≤ g2 := by omega
  rw [hg2] at h2
  simp only [hg2]
  obtain ⟨g1, hg1⟩ : ∃ g, w.heap.size = g := ⟨_, rfl⟩
  rw [hg1] at hR
  simp only [hg1]
  generalize ((w.alloc (.cells (tgA ⟨nm, key⟩) 25)).alloc (.cells (secA secZ) 35)) = X at hB hR h2 ⊢
  clear hg2 hg1
  have bX := below_alloc X (.cells (secA secZ) 63)
  have h4 := ScR.new X secZ 63
  have hn24 : g2 ≠ X.heap.size := by have := h2.lt; omega
  have hl4 := hB.size
  have h2' := h2.kept bX
  have hR1 := hR.kept bX
  have hB' := hB.alloc hB.size (.cells (secA secZ) 63)
  clear h2 hB bX hR
  go_upto_region 2 with fail
  obtain ⟨g4, hg4⟩ : ∃ q, X.heap.size = q := ⟨_, rfl⟩
  rw [hg4] at h4 hn24 hl4
  simp only [hg4]
  clear hg4
  generalize X.alloc (.cells (secA secZ) 63) = Y at hB' h2' h4 hR1 ⊢
  obtain ⟨r1, q1⟩ := hR1
  have z1 : (rowAt Y g1).size = 33 := by rw [q1]; exact tgA_size _
  have kl := kL g4 Y h4
  clear kL
  go_wp2_with fail
  refine kl.mono ?_
  clear kl
  rintro e w1 ⟨rfl, ⟨U, hU, hUT⟩, k1⟩
  have hB1 := hB'.trans (k1.below (B := w.heap.size) (by simpa using hl4) hB'.size)
  have h21 := h2'.keep k1 hn24
  clear hB' h2' h4 k1 r1 q1 z1
  obtain rfl := hUT rfl
  clear hUT
  obtain ⟨V, hV⟩ : ∃ q, sealS U = q := ⟨_, rfl⟩
  have ks := sealed17 U
  rw [hV] at ks
  have HV : Hid (sealS U = V) := hV
  clear hV
  obtain ⟨r4, q4⟩ := hU
  go_wp2_with fail
  refine (ks _).mono ?_
  rintro e w2 ⟨rfl, hb⟩
  have hB2 := hB1.trans (hb.mono hB1.size)
  have h22 := h21.kept hb
  have HB : Hid _ := below_row hB2 hl2 (secA V)
  have HR : Hid _ := h22.rsame V
  obtain ⟨r2, q2⟩ := h22
  clear hB1 hB2 h21 hb ks r4 q4
  go_wp2
  exact sec_bodyPost2 2 3 g2 V rfl rfl rfl HR.out ⟨by rw [HV.out]; rfl, HB.out⟩
set_option linter.unusedSimpArgs false in
set_option maxRecDepth 100000 in
set_option maxHeartbeats 3200000 in
theorem putTag_no (nm : ByteArray) (key : Nat → UInt8) (w : World) (T : Sc) (kL : ∀ (g : Nat) (W : World), ScR W g secZ → Calls Try.prog 23 #[.pointer (some ⟨g, 0, none⟩), .agg (tgA ⟨nm, key⟩)] W fun e w' => LyQ g T 36 W e w') :
    Calls Try.prog 9 #[.agg (tgA ⟨nm, key⟩)] w fun r w' => r = .returned (.tuple #[.agg (secA secZ), .int .i64 36]) ∧ Below w.heap.size w w' := by
  have hR : RowC ((w.alloc (.cells (tgA ⟨nm, key⟩) 25)).alloc (.cells (secA secZ) 35)) w.heap.size (tgA ⟨nm, key⟩) := (RowC.new w (tgA ⟨nm, key⟩) _).kept (below_alloc _ _)
  have h2 : ScR ((w.alloc (.cells (tgA ⟨nm, key⟩) 25)).alloc (.cells (secA secZ) 35)) (w.heap.size + 1) secZ := by
    have := ScR.new (w.alloc (.cells (tgA ⟨nm, key⟩) 25)) secZ 35
    rw [World.size_alloc] at this
    exact this
  have hB : Below w.heap.size w ((w.alloc (.cells (tgA ⟨nm, key⟩) 25)).alloc (.cells (secA secZ) 35)) := (below_alloc w _).alloc (by simp) _
  go_enter Try.func9, Try.ntmps9
  go_upto_region 1 with fail
  obtain ⟨g2, hg2⟩ : ∃ g, w.heap.size + 1 = g := ⟨_, rfl⟩
  have hl2 : w.heap.size ≤ g2 := by omega
  rw [hg2] at h2
  simp only [hg2]
  obtain ⟨g1, hg1⟩ : ∃ g, w.heap.size = g := ⟨_, rfl⟩
  rw [hg1] at hR
  simp only [hg1]
  generalize ((w.alloc (.cells (tgA ⟨nm, key⟩) 25)).alloc (.cells (secA secZ) 35)) = X at hB hR h2 ⊢
  clear hg2 hg1
  have bX := below_alloc X (.cells (secA secZ) 63)
  have h4 := ScR.new X secZ 63
  have hn24 : g2 ≠ X.heap.size := by have := h2.lt; omega
  have hl4 := hB.size
  have h2' := h2.kept bX
  have hR1 := hR.kept bX
  have hB' := hB.alloc hB.size (.cells (secA secZ) 63)
  clear h2 hB bX hR
  go_upto_region 2 with fail
  obtain ⟨g4, hg4⟩ : ∃ q, X.heap.size = q := ⟨_, rfl⟩
  rw [hg4] at h4 hn24 hl4
  simp only [hg4]
  clear hg4
  generalize X.alloc (.cells (secA secZ) 63) = Y at hB' h2' h4 hR1 ⊢
  obtain ⟨r1, q1⟩ := hR1
  have z1 : (rowAt Y g1).size = 33 := by rw [q1]; exact tgA_size _
  have kl := kL g4 Y h4
  clear kL
  go_wp2_with fail
  refine kl.mono ?_
  clear kl
  rintro e w1 ⟨rfl, ⟨U, hU, hUT⟩, k1⟩
  have hB1 := hB'.trans (k1.below (B := w.heap.size) (by simpa using hl4) hB'.size)
  have h21 := h2'.keep k1 hn24
  clear hB' h2' h4 k1 r1 q1 z1
  have HB : Hid _ := below_row hB1 hl2 (secA secZ)
  have HR : Hid _ := h21.rsame secZ
  obtain ⟨r2, q2⟩ := h21
  clear hB1 hU hUT
  go_wp2
  exact sec_bodyPost2 2 3 g2 secZ rfl rfl rfl HR.out ⟨rfl, HB.out⟩
set_option linter.unusedSimpArgs false in
set_option maxRecDepth 100000 in
set_option maxHeartbeats 3200000 in
theorem putSnap_yes (a b : Int) (key : Nat → UInt8) (w : World) (T : Sc) (kL : ∀ (g : Nat) (W : World), ScR W g secZ → Calls Try.prog 25 #[.pointer (some ⟨g, 0, none⟩), .agg (snA ⟨a, b, key⟩)] W fun e w' => LyQ g T 0 W e w') :
    Calls Try.prog 10 #[.agg (snA ⟨a, b, key⟩)] w fun r w' => r = .returned (.tuple #[.agg (secA (sealS T)), .int .i64 0]) ∧ Below w.heap.size w w' := by
  have hR : RowC ((w.alloc (.cells (snA ⟨a, b, key⟩) 28)).alloc (.cells (secA secZ) 35)) w.heap.size (snA ⟨a, b, key⟩) := (RowC.new w (snA ⟨a, b, key⟩) _).kept (below_alloc _ _)
  have h2 : ScR ((w.alloc (.cells (snA ⟨a, b, key⟩) 28)).alloc (.cells (secA secZ) 35)) (w.heap.size + 1) secZ := by
    have := ScR.new (w.alloc (.cells (snA ⟨a, b, key⟩) 28)) secZ 35
    rw [World.size_alloc] at this
    exact this
  have hB : Below w.heap.size w ((w.alloc (.cells (snA ⟨a, b, key⟩) 28)).alloc (.cells (secA secZ) 35)) := (below_alloc w _).alloc (by simp) _
  go_enter Try.func10, Try.ntmps10
  go_upto_region 1 with fail
  obtain ⟨g2, hg2⟩ : ∃ g, w.heap.size + 1 = g := ⟨_, rfl⟩
  have hl2 : w.heap.size ≤ g2 := by omega
  rw [hg2] at h2
  simp only [hg2]
  obtain ⟨g1, hg1⟩ : ∃ g, w.heap.size = g := ⟨_, rfl⟩
  rw [hg1] at hR
  simp only [hg1]
  generalize ((w.alloc (.cells (snA ⟨a, b, key⟩) 28)).alloc (.cells (secA secZ) 35)) = X at hB hR h2 ⊢
  clear hg2 hg1
  have bX := below_alloc X (.cells (secA secZ) 66)
  have h4 := ScR.new X secZ 66
  have hn24 : g2 ≠ X.heap.size := by have := h2.lt; omega
  have hl4 := hB.size
  have h2' := h2.kept bX
  have hR1 := hR.kept bX
  have hB' := hB.alloc hB.size (.cells (secA secZ) 66)
  clear h2 hB bX hR
  go_upto_region 2 with fail
  obtain ⟨g4, hg4⟩ : ∃ q, X.heap.size = q := ⟨_, rfl⟩
  rw [hg4] at h4 hn24 hl4
  simp only [hg4]
  clear hg4
  generalize X.alloc (.cells (secA secZ) 66) = Y at hB' h2' h4 hR1 ⊢
  obtain ⟨r1, q1⟩ := hR1
  have z1 : (rowAt Y g1).size = 34 := by rw [q1]; exact snA_size _
  have kl := kL g4 Y h4
  clear kL
  go_wp2_with fail
  refine kl.mono ?_
  clear kl
  rintro e w1 ⟨rfl, ⟨U, hU, hUT⟩, k1⟩
  have hB1 := hB'.trans (k1.below (B := w.heap.size) (by simpa using hl4) hB'.size)
  have h21 := h2'.keep k1 hn24
  clear hB' h2' h4 k1 r1 q1 z1
  obtain rfl := hUT rfl
  clear hUT
  obtain ⟨V, hV⟩ : ∃ q, sealS U = q := ⟨_, rfl⟩
  have ks := sealed17 U
  rw [hV] at ks
  have HV : Hid (sealS U = V) := hV
  clear hV
  obtain ⟨r4, q4⟩ := hU
  go_wp2_with fail
  refine (ks _).mono ?_
  rintro e w2 ⟨rfl, hb⟩
  have hB2 := hB1.trans (hb.mono hB1.size)
  have h22 := h21.kept hb
  have HB : Hid _ := below_row hB2 hl2 (secA V)
  have HR : Hid _ := h22.rsame V
  obtain ⟨r2, q2⟩ := h22
  clear hB1 hB2 h21 hb ks r4 q4
  go_wp2
  exact sec_bodyPost2 2 3 g2 V rfl rfl rfl HR.out ⟨by rw [HV.out]; rfl, HB.out⟩
set_option linter.unusedSimpArgs false in
set_option maxRecDepth 100000 in
set_option maxHeartbeats 3200000 in
theorem putSnap_no (a b : Int) (key : Nat → UInt8) (w : World) (T : Sc) (kL : ∀ (g : Nat) (W : World), ScR W g secZ → Calls Try.prog 25 #[.pointer (some ⟨g, 0, none⟩), .agg (snA ⟨a, b, key⟩)] W fun e w' => LyQ g T 1 W e w') :
    Calls Try.prog 10 #[.agg (snA ⟨a, b, key⟩)] w fun r w' => r = .returned (.tuple #[.agg (secA secZ), .int .i64 1]) ∧ Below w.heap.size w w' := by
  have hR : RowC ((w.alloc (.cells (snA ⟨a, b, key⟩) 28)).alloc (.cells (secA secZ) 35)) w.heap.size (snA ⟨a, b, key⟩) := (RowC.new w (snA ⟨a, b, key⟩) _).kept (below_alloc _ _)
  have h2 : ScR ((w.alloc (.cells (snA ⟨a, b, key⟩) 28)).alloc (.cells (secA secZ) 35)) (w.heap.size + 1) secZ := by
    have := ScR.new (w.alloc (.cells (snA ⟨a, b, key⟩) 28)) secZ 35
    rw [World.size_alloc] at this
    exact this
  have hB : Below w.heap.size w ((w.alloc (.cells (snA ⟨a, b, key⟩) 28)).alloc (.cells (secA secZ) 35)) := (below_alloc w _).alloc (by simp) _
  go_enter Try.func10, Try.ntmps10
  go_upto_region 1 with fail
  obtain ⟨g2, hg2⟩ : ∃ g, w.heap.size + 1 = g := ⟨_, rfl⟩
  have hl2 : w.heap.size ≤ g2 := by omega
  rw [hg2] at h2
  simp only [hg2]
  obtain ⟨g1, hg1⟩ : ∃ g, w.heap.size = g := ⟨_, rfl⟩
  rw [hg1] at hR
  simp only [hg1]
  generalize ((w.alloc (.cells (snA ⟨a, b, key⟩) 28)).alloc (.cells (secA secZ) 35)) = X at hB hR h2 ⊢
  clear hg2 hg1
  have bX := below_alloc X (.cells (secA secZ) 66)
  have h4 := ScR.new X secZ 66
  have hn24 : g2 ≠ X.heap.size := by have := h2.lt; omega
  have hl4 := hB.size
  have h2' := h2.kept bX
  have hR1 := hR.kept bX
  have hB' := hB.alloc hB.size (.cells (secA secZ) 66)
  clear h2 hB bX hR
  go_upto_region 2 with fail
  obtain ⟨g4, hg4⟩ : ∃ q, X.heap.size = q := ⟨_, rfl⟩
  rw [hg4] at h4 hn24 hl4
  simp only [hg4]
  clear hg4
  generalize X.alloc (.cells (secA secZ) 66) = Y at hB' h2' h4 hR1 ⊢
  obtain ⟨r1, q1⟩ := hR1
  have z1 : (rowAt Y g1).size = 34 := by rw [q1]; exact snA_size _
  have kl := kL g4 Y h4
  clear kL
  go_wp2_with fail
  refine kl.mono ?_
  clear kl
  rintro e w1 ⟨rfl, ⟨U, hU, hUT⟩, k1⟩
  have hB1 := hB'.trans (k1.below (B := w.heap.size) (by simpa using hl4) hB'.size)
  have h21 := h2'.keep k1 hn24
  clear hB' h2' h4 k1 r1 q1 z1
  have HB : Hid _ := below_row hB1 hl2 (secA secZ)
  have HR : Hid _ := h21.rsame secZ
  obtain ⟨r2, q2⟩ := h21
  clear hB1 hU hUT
  go_wp2
  exact sec_bodyPost2 2 3 g2 secZ rfl rfl rfl HR.out ⟨rfl, HB.out⟩
set_option linter.unusedSimpArgs false in
set_option maxRecDepth 100000 in
set_option maxHeartbeats 3200000 in
theorem putCounts_yes (x : Option Addr) (n c : Nat) (w : World) (T : Sc) (kL : ∀ (g : Nat) (W : World), Below w.heap.size w W → w.heap.size ≤ g → ScR W g secZ → Calls Try.prog 26 #[.pointer (some ⟨g, 0, none⟩), .slice x n c] W fun e w' => LyQ g T 0 W e w') :
    Calls Try.prog 11 #[.slice x n c] w fun r w' => r = .returned (.tuple #[.agg (secA (sealS T)), .int .i64 0]) ∧ Below w.heap.size w w' := by
  have h2 : ScR (w.alloc (.cells (secA secZ) 35)) (w.heap.size) secZ := by
    have := ScR.new w secZ 35

    exact this
  have hB : Below w.heap.size w (w.alloc (.cells (secA secZ) 35)) := below_alloc w _
  go_enter Try.func11, Try.ntmps11
  go_upto_region 1 with fail
  obtain ⟨g2, hg2⟩ : ∃ g, w.heap.size = g := ⟨_, rfl⟩
  have hl2 : w.heap.size ≤ g2 := by omega
  rw [hg2] at h2
  simp only [hg2]
  generalize (w.alloc (.cells (secA secZ) 35)) = X at hB h2 ⊢
  clear hg2
  have bX := below_alloc X (.cells (secA secZ) 68)
  have h4 := ScR.new X secZ 68
  have hn24 : g2 ≠ X.heap.size := by have := h2.lt; omega
  have hl4 := hB.size
  have h2' := h2.kept bX

  have hB' := hB.alloc hB.size (.cells (secA secZ) 68)
  clear h2 hB bX
  go_upto_region 2 with fail
  obtain ⟨g4, hg4⟩ : ∃ q, X.heap.size = q := ⟨_, rfl⟩
  rw [hg4] at h4 hn24 hl4
  simp only [hg4]
  clear hg4
  generalize X.alloc (.cells (secA secZ) 68) = Y at hB' h2' h4 ⊢
  have kl := kL g4 Y hB' hl4 h4
  clear kL
  go_wp2_with fail
  refine kl.mono ?_
  clear kl
  rintro e w1 ⟨rfl, ⟨U, hU, hUT⟩, k1⟩
  have hB1 := hB'.trans (k1.below (B := w.heap.size) (by simpa using hl4) hB'.size)
  have h21 := h2'.keep k1 hn24
  clear hB' h2' h4 k1
  obtain rfl := hUT rfl
  clear hUT
  obtain ⟨V, hV⟩ : ∃ q, sealS U = q := ⟨_, rfl⟩
  have ks := sealed17 U
  rw [hV] at ks
  have HV : Hid (sealS U = V) := hV
  clear hV
  obtain ⟨r4, q4⟩ := hU
  go_wp2_with fail
  refine (ks _).mono ?_
  rintro e w2 ⟨rfl, hb⟩
  have hB2 := hB1.trans (hb.mono hB1.size)
  have h22 := h21.kept hb
  have HB : Hid _ := below_row hB2 hl2 (secA V)
  have HR : Hid _ := h22.rsame V
  obtain ⟨r2, q2⟩ := h22
  clear hB1 hB2 h21 hb ks r4 q4
  go_wp2
  exact sec_bodyPost2 2 3 g2 V rfl rfl rfl HR.out ⟨by rw [HV.out]; rfl, HB.out⟩
set_option linter.unusedSimpArgs false in
set_option maxRecDepth 100000 in
set_option maxHeartbeats 3200000 in
theorem putCounts_no (x : Option Addr) (n c : Nat) (w : World) (T : Sc) (kL : ∀ (g : Nat) (W : World), Below w.heap.size w W → w.heap.size ≤ g → ScR W g secZ → Calls Try.prog 26 #[.pointer (some ⟨g, 0, none⟩), .slice x n c] W fun e w' => LyQ g T 2 W e w') :
    Calls Try.prog 11 #[.slice x n c] w fun r w' => r = .returned (.tuple #[.agg (secA secZ), .int .i64 2]) ∧ Below w.heap.size w w' := by
  have h2 : ScR (w.alloc (.cells (secA secZ) 35)) (w.heap.size) secZ := by
    have := ScR.new w secZ 35

    exact this
  have hB : Below w.heap.size w (w.alloc (.cells (secA secZ) 35)) := below_alloc w _
  go_enter Try.func11, Try.ntmps11
  go_upto_region 1 with fail
  obtain ⟨g2, hg2⟩ : ∃ g, w.heap.size = g := ⟨_, rfl⟩
  have hl2 : w.heap.size ≤ g2 := by omega
  rw [hg2] at h2
  simp only [hg2]
  generalize (w.alloc (.cells (secA secZ) 35)) = X at hB h2 ⊢
  clear hg2
  have bX := below_alloc X (.cells (secA secZ) 68)
  have h4 := ScR.new X secZ 68
  have hn24 : g2 ≠ X.heap.size := by have := h2.lt; omega
  have hl4 := hB.size
  have h2' := h2.kept bX

  have hB' := hB.alloc hB.size (.cells (secA secZ) 68)
  clear h2 hB bX
  go_upto_region 2 with fail
  obtain ⟨g4, hg4⟩ : ∃ q, X.heap.size = q := ⟨_, rfl⟩
  rw [hg4] at h4 hn24 hl4
  simp only [hg4]
  clear hg4
  generalize X.alloc (.cells (secA secZ) 68) = Y at hB' h2' h4 ⊢
  have kl := kL g4 Y hB' hl4 h4
  clear kL
  go_wp2_with fail
  refine kl.mono ?_
  clear kl
  rintro e w1 ⟨rfl, ⟨U, hU, hUT⟩, k1⟩
  have hB1 := hB'.trans (k1.below (B := w.heap.size) (by simpa using hl4) hB'.size)
  have h21 := h2'.keep k1 hn24
  clear hB' h2' h4 k1
  have HB : Hid _ := below_row hB1 hl2 (secA secZ)
  have HR : Hid _ := h21.rsame secZ
  obtain ⟨r2, q2⟩ := h21
  clear hB1 hU hUT
  go_wp2
  exact sec_bodyPost2 2 3 g2 secZ rfl rfl rfl HR.out ⟨rfl, HB.out⟩
/-! What PutTag, PutSnap, PutCounts owe -/
theorem putTag17 (nm : ByteArray) (key : Nat → UInt8) (w : World) (h63 : nm.size ≤ 9223372036854775807) : Calls Try.prog 9 #[.agg (tgA ⟨nm, key⟩)] w fun r w' => r = .returned (.tuple #[.agg (secA (ptS (lS nm) key)), .int .i64 (ptE (lS nm))]) ∧ Below w.heap.size w w' := by
  unfold ptS ptE
  cases hN : isN (lS nm)
  · exact putTag_no nm key w secZ fun g W hs => layTag_no nm key g secZ secZ W h63 hN hs
  · exact putTag_yes nm key w (tagB (lS nm) key) fun g W hs => layTag_yes nm key g W (lS nm) rfl (isN_len hN).2 hN hs _ rfl
theorem putSnap17 (a b : Nat) (key : Nat → UInt8) (w : World) (ha : a < 4294967296) (hb : b < 4294967296) : Calls Try.prog 10 #[.agg (snA ⟨(a : Int), (b : Int), key⟩)] w fun r w' => r = .returned (.tuple #[.agg (secA (psS a b key)), .int .i64 (psE a)]) ∧ Below w.heap.size w w' := by
  unfold psS psE
  by_cases h0 : a = 0
  · subst h0
    exact putSnap_no 0 b key w secZ fun g W hs => laySnap_no b key g secZ secZ W hs
  · rw [beq_eq_false_iff_ne.2 h0]
    exact putSnap_yes a b key w (snB a b key) fun g W hs => laySnap_yes a b key g W h0 ha hb hs _ rfl
theorem putCounts17 (l : List Nat) (x : Option Addr) (n c : Nat) (w : World) (hn : l.length = n) (hn47 : n ≤ 140737488355328) (hv4 : ∀ (i : Nat) (v : Nat), l[i]? = some v → v < 4294967296) (hl : IsG w (.slice x n c) (uV l)) : Calls Try.prog 11 #[.slice x n c] w fun r w' => r = .returned (.tuple #[.agg (secA (pcS l)), .int .i64 (pcE l)]) ∧ Below w.heap.size w w' := by
  unfold pcS pcE
  rw [hn]
  by_cases h15 : n ≤ 15
  · rw [decide_eq_true h15]
    refine putCounts_yes x n c w (cnB l) fun g W hb hg hs => ?_
    exact layCounts_yes l x n c g W hn h15 hv4 (fun w' hk => hl.kept (hb.trans (hk.below (by simpa using hg) hb.size))) hs _ (by rw [← hn]; exact cn1_full l (by omega))
  · rw [decide_eq_false h15]
    exact putCounts_no x n c w secZ fun g W hb hg hs => layCounts_no x n c g secZ secZ W (by omega) (by omega) hs
end Go.Proofs.Ytfdigmlhjjdggaa
