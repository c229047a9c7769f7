import Derived.Test.YtddmmmfpdmejbaaGreatDoorQJzu
namespace Go.Proofs.YtddmmmfpdmejbaaGreatDoor
open Go.RowKit

/-! write, Print -/
theorem formatBool15_any (b : Bool) (w : World) : Calls Tryz.prog 50 #[.bool b] w fun e w' => e = .returned (.string ⟨(bif b then [116, 114, 117, 101] else [102, 97, 108, 115, 101]).toArray⟩) ∧ w' = w := by
  refine (Any.strconv_FormatBool layFb b w).mono ?_
  rintro e w' ⟨rfl, rfl⟩
  refine ⟨?_, rfl⟩
  cases b <;> rfl
set_option linter.unusedSimpArgs false in
set_option maxRecDepth 100000 in
set_option maxHeartbeats 8000000 in
theorem write15_any : ∀ d, WrOk d := Nd.ind fun k n ss kk vs ih => by
  intro B b acc w v hI hB hv hfr hsz hal hV
  have hV0 := hV w (Below.refl _ _)
  cases hv using VlG.rc with
  | nil k hk => rw [frmN_mk] at hfr; rw [decide_eq_false hk] at hfr; simp at hfr
  | null =>
    have hW : ∀ x, Bd B b acc x → B ≤ x.heap.size → Calls Tryz.prog 49 #[.pointer (some ⟨b, 0, none⟩), .string ⟨#[110, 117, 108, 108]⟩] x fun e w' => e = .returned (.tuple #[.int .i64 4, .nilIface]) ∧ BdP B b (acc ++ [110, 117, 108, 108]) x w' := fun x hx hxB => bdWS B b acc [110, 117, 108, 108] ⟨#[110, 117, 108, 108]⟩ rfl x hx (by show acc.length + 4 ≤ _; omega) hxB
    have e1 : acc ++ txtN (.mk 1 0 [] [] []) = acc ++ [110, 117, 108, 108] := by rw [txtN_mk]; rfl
    rw [e1]
    go_enter Tryz.func27, Tryz.ntmps27
    have bA := below_alloc w (.cells #[] 65)
    have hW1 := hW _ (hI.later bA) (Nat.le_trans hB bA.size)
    clear hW
    go_wp2_with fail
    refine hW1.mono ?_
    rintro e w1 ⟨rfl, h1⟩
    clear hW1
    have hP := BdP.of_later bA hB h1
    clear h1
    go_wp2
    go_end0
    exact ⟨rfl, hP⟩
  | bool q =>
    have hf := formatBool15_any q w
    obtain ⟨m, hm⟩ : ∃ z : List UInt8, (bif q then [116, 114, 117, 101] else [102, 97, 108, 115, 101]) = z := ⟨_, rfl⟩
    rw [hm] at hf
    have hml : m.length ≤ 5 := by rw [← hm]; cases q <;> decide
    have e1 : acc ++ txtN (.mk 2 (bif q then 1 else 0) [] [] []) = acc ++ m := by
      rw [← hm, txtN_mk]
      cases q <;> rfl
    rw [e1]
    clear e1 hm
    have hW := bdWS B b acc m ⟨m.toArray⟩ (lS_mk m) w hI (by omega) hB
    obtain ⟨qn, hqn⟩ : ∃ z, (m.length : Int) = z := ⟨_, rfl⟩
    rw [hqn] at hW
    clear hqn
    go_enter Tryz.func27, Tryz.ntmps27
    go_wp2_with fail
    refine hf.mono ?_
    rintro e w0 ⟨rfl, rfl⟩
    clear hf
    go_wp2_with fail
    refine hW.mono ?_
    rintro e w1 ⟨rfl, h1⟩
    clear hW
    go_wp2
    go_end0
    exact ⟨rfl, h1⟩
  | num n hn =>
    have h0 : 0 ≤ n := by
      rw [frmN_mk] at hfr
      apply Classical.byContradiction
      intro h9
      rw [show decide ((3 : Int) = 3 ∧ n < 0) = true from decide_eq_true ⟨rfl, by omega⟩] at hfr
      simp at hfr
    have hf := itoa15_any n w h0 hn.2 hV0
    have e1 : acc ++ txtN (.mk 3 n [] [] []) = acc ++ digN n := by rw [txtN_mk]; rfl
    have hlen : (digN n).length ≤ 480 := by
      have h9 := txtN_len (.mk 3 n [] [] [])
      rw [show txtN (.mk 3 n [] [] []) = digN n by rw [txtN_mk]; rfl, szN_mk] at h9
      simp [szL] at h9
      omega
    rw [e1]
    generalize digN n = m at *
    clear e1
    obtain ⟨qn, hqn⟩ : ∃ z, (m.length : Int) = z := ⟨_, rfl⟩
    have HQN : Hid ((m.length : Int) = qn) := hqn
    clear hqn
    go_enter Tryz.func27, Tryz.ntmps27
    go_wp2_with fail
    refine hf.mono ?_
    rintro e w0 ⟨rfl, hb0⟩
    clear hf
    have hW := bdWS B b acc m ⟨m.toArray⟩ (lS_mk m) w0 (hI.later hb0) (by omega) (Nat.le_trans hB hb0.size)
    rw [HQN.out] at hW
    go_wp2_with fail
    refine hW.mono ?_
    rintro e w1 ⟨rfl, h1⟩
    clear hW
    have hP := BdP.of_later hb0 hB h1
    clear h1
    go_wp2
    go_end0
    exact ⟨rfl, hP⟩
  | str s =>
    have e1 : acc ++ txtN (.mk 4 0 (lS s) [] []) = acc ++ quS (lS s) := by rw [txtN_mk]; rfl
    have hz : s.size ≤ szN (.mk 4 0 (lS s) [] []) := by rw [szN_mk, lS_len]; omega
    have hW := writeText15_any B b acc s w hI hB (by omega) (by omega)
    rw [e1]
    clear e1 hz
    go_enter Tryz.func27, Tryz.ntmps27
    go_wp2_with fail
    refine hW.mono ?_
    rintro e w1 ⟨rfl, h1⟩
    clear hW
    go_wp2
    go_end0
    exact ⟨rfl, h1⟩
  | list a us ds hv hF hl hz he r9 =>
    clear r9
    have hsz2 : szL vs + 80 ≤ szN (.mk 5 0 [] [] vs) := by rw [szN_mk]; omega
    have hfr2 : frmL vs = true := by rw [frmN_mk, Bool.and_eq_true] at hfr; exact hfr.2
    have hW := writeList15_any vs ih B b acc w a us hI hB hv hF hl hz he hfr2 (by omega) (by omega) hV
    have e1 : acc ++ txtN (.mk 5 0 [] [] vs) = acc ++ 91 :: (txtL vs true ++ [93]) := by rw [txtN_mk]; rfl
    rw [e1]
    obtain ⟨ax, an, ac⟩ := a
    simp only [Sl.v] at hW ⊢
    clear e1 hsz2 hfr2 hv hF hl hz he hV0 hV
    go_enter Tryz.func27, Tryz.ntmps27
    go_wp2_with fail
    refine hW.mono ?_
    rintro e w1 ⟨rfl, h1⟩
    clear hW
    go_wp2
    go_end0
    exact ⟨rfl, h1⟩
  | obj ks a kb us ds hk hkF hv hF hl hz he r9 =>
    clear r9
    have hsz2 : ((kb.map lS).map (fun t => t.length + 16)).sum + szL vs + 80 ≤ szN (.mk 6 0 [] (kb.map lS) vs) := by rw [szN_mk]; simp
    have hfr2 : frmL vs = true := by rw [frmN_mk, Bool.and_eq_true] at hfr; exact hfr.2
    have hkl : kb.length = vs.length := by
      rw [frmN_mk] at hfr
      apply Classical.byContradiction
      intro h9
      rw [show decide ((6 : Int) = 6 ∧ (kb.map lS).length ≠ vs.length) = true from decide_eq_true ⟨rfl, by rw [List.length_map]; exact h9⟩] at hfr
      simp at hfr
    have bA := below_alloc w (.cells #[ks.v, a.v] 70)
    have hW := writeObj15_any vs ih B b acc (w.alloc (.cells #[ks.v, a.v] 70)) ks a kb us (hI.later bA) (Nat.le_trans hB bA.size) (isG_kept15 hk bA) hkF (isG_kept15 hv bA) hF hl hkl hz.1 (fun i u d h1 h2 => (he i u d h1 h2).kept bA) hfr2 (by omega) (by omega) (fun x hx => hV x ((bA.mono hB).trans hx))
    have e1 : acc ++ txtN (.mk 6 0 [] (kb.map lS) vs) = acc ++ 123 :: (txtO (kb.map lS) vs true ++ [125]) := by rw [txtN_mk]; rfl
    rw [e1]
    obtain ⟨ax, an, ac⟩ := a
    obtain ⟨kx, kn, kc⟩ := ks
    simp only [Sl.v] at hW bA ⊢
    have rA := RowC.new w #[.slice kx kn kc, .slice ax an ac] 70
    obtain ⟨g0, hg0⟩ : ∃ q, w.heap.size = q := ⟨_, rfl⟩
    rw [hg0] at rA
    have c0 : (w.alloc (.cells #[.slice kx kn kc, .slice ax an ac] 70)).cell? ⟨g0, 0, none⟩ = some (.slice kx kn kc) := rA.cell 0
    have c1 : (w.alloc (.cells #[.slice kx kn kc, .slice ax an ac] 70)).cell? ⟨g0, 1, none⟩ = some (.slice ax an ac) := rA.cell 1
    clear e1 hsz2 hfr2 hv hF hl hz he hV0 hV hk hkF rA
    go_enter Tryz.func27, Tryz.ntmps27
    go_upto_region 18 with fail
    clear hg0
    generalize w.alloc (.cells #[.slice kx kn kc, .slice ax an ac] 70) = Y at *
    go_wp2_with fail
    refine hW.mono ?_
    rintro e w1 ⟨rfl, h1⟩
    clear hW
    have hP := BdP.of_later bA hB h1
    clear h1
    go_wp2
    go_end0
    exact ⟨rfl, hP⟩
set_option linter.unusedSimpArgs false in
set_option maxRecDepth 100000 in
set_option maxHeartbeats 8000000 in
theorem print15_any (d : Nd) (F : Nat → Prop) (v : Value) (w : World) (hv : VlG w F v d) (hsz : szN d ≤ 1099511627776) (hd : depN d ≤ 60000) (hV : VJ w) : Calls Tryz.prog 9 #[v] w fun e w' => PtP d w e w' := by
  have hf := fault15_any d F v w hv hsz hd
  unfold PtP
  obtain ⟨E, hE⟩ : ∃ q, prtE d = q := ⟨_, rfl⟩
  obtain ⟨S, hS⟩ : ∃ q, prtS d = q := ⟨_, rfl⟩
  have HES : Hid (prtE d = E ∧ prtS d = S) := ⟨hE, hS⟩
  rw [hE] at hf
  rw [hE, hS]
  clear hE hS
  go_enter Tryz.func9, Tryz.ntmps9
  go_wp2_with fail
  refine hf.mono ?_
  rintro e w1 ⟨rfl, hb1⟩
  clear hf
  by_cases h0 : E = 0
  · subst h0
    have hfr : frmN d = true := by
      have h9 := HES.out.1
      unfold prtE at h9
      cases hq : frmN d with
      | true => rfl
      | false => rw [if_pos hq] at h9; exact absurd h9 (by decide)
    obtain ⟨B, hB⟩ : ∃ q, w1.heap.size = q := ⟨_, rfl⟩
    have bA := below_alloc w1 (.cells #[.pointer none, .slice none 0 0] 74)
    have hI := Bd.fresh w1
    have hv1 := ((hv.kept hb1).low).kept bA
    rw [hB] at hI hv1
    have hV1 := hV.keep hb1
    have hbAB : Below B w1 (w1.alloc (.cells #[.pointer none, .slice none 0 0] 74)) := by rw [← hB]; exact bA
    have hW := write15_any d B B [] (w1.alloc (.cells #[.pointer none, .slice none 0 0] 74)) v hI (by have := bA.size; omega) hv1 hfr hsz (by simp; omega) (fun x hx => hV1.keep (by rw [hB]; exact hbAB.trans hx))
    rw [List.nil_append] at hW
    have HBB : Hid (Below B w1 (w1.alloc (.cells #[.pointer none, .slice none 0 0] 74)) ∧ B ≤ (w1.alloc (.cells #[.pointer none, .slice none 0 0] 74)).heap.size ∧ w1.heap.size = B) := ⟨hbAB, by have := bA.size; omega, hB⟩
    have hST : txtN d = S := by rw [← HES.out.2]; unfold prtS; rw [if_pos HES.out.1]
    rw [hST] at hW
    clear hST hI hv1 hV1 hfr bA hbAB
    go_upto_region 5 with fail
    clear hB
    generalize w1.alloc (.cells #[.pointer none, .slice none 0 0] 74) = Y at *
    go_wp2_with fail
    refine hW.mono ?_
    rintro e w2 ⟨rfl, h2⟩
    clear hW
    have hT := bdST B B S w2 h2.1 (Nat.le_trans HBB.out.2.1 h2.2.1.size)
    go_wp2_with fail
    refine hT.mono ?_
    rintro e w3 ⟨rfl, h3⟩
    clear hT
    have hBl : Below w.heap.size w w3 := hb1.trans (((HBB.out.1.trans h2.2.1).trans h3.2.1).mono (by rw [← HBB.out.2.2]; exact hb1.size))
    clear h2 h3
    go_wp2
    go_ret2
    exact ⟨rfl, hBl⟩
  · have f0 : (E == 0) = false := beq_eq_false_iff_ne.2 h0
    have hS : S = [] := by rw [← HES.out.2]; unfold prtS; rw [if_neg (by rw [HES.out.1]; exact h0)]
    subst hS
    clear h0
    go_wp2
    go_ret2
    exact ⟨rfl, hb1⟩
end Go.Proofs.YtddmmmfpdmejbaaGreatDoor
