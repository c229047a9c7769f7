import Derived.Test.YtalnbddkhojjbaaGreatDoorQJpu
import Derived.Test.YtalnbddkhojjbaaGreatDoorQNum
import Derived.Test.YtalnbddkhojjbaaGreatDoorQJop
import Derived.Lib.SmallJoins
namespace Go.Proofs.YtalnbddkhojjbaaGreatDoor
open Go.RowKit

theorem fldK_ne (key : List UInt8) : ∀ (ks : List (List UInt8)) (vs : List Nd) (j : Nat) (K : List UInt8), ks[j]? = some K → K ≠ key → fldK key (ks.drop j) (vs.drop j) = fldK key (ks.drop (j + 1)) (vs.drop (j + 1))
  | [], vs, j, K, h, _ => by simp at h
  | a :: r, [], j, K, h, _ => by
    rw [List.drop_nil, List.drop_nil]
    cases (a :: r).drop j <;> cases (a :: r).drop (j + 1) <;> rfl
  | a :: r, v :: t, 0, K, h, hk => by
    simp at h
    subst h
    simp [fldK, hk]
  | a :: r, v :: t, j + 1, K, h, hk => by
    simpa using fldK_ne key r t j K (by simpa using h) hk
theorem fldK_eq (key : List UInt8) : ∀ (ks : List (List UInt8)) (vs : List Nd) (j : Nat), ks[j]? = some key → fldK key (ks.drop j) (vs.drop j) = vs[j]?
  | [], vs, j, h => by simp at h
  | a :: r, [], j, h => by
    rw [List.drop_nil]
    cases (a :: r).drop j <;> simp [fldK]
  | a :: r, v :: t, 0, h => by
    simp at h
    subst h
    simp [fldK]
  | a :: r, v :: t, j + 1, h => by
    simpa using fldK_eq key r t j (by simpa using h)
def FrP (F : Nat → Prop) (o : Option Nd) (w : World) (e : Ending) (w' : World) : Prop := (∃ r b, e = .returned (.tuple #[.agg (rnA r), .bool b]) ∧ (∀ d, o = some d → b = true ∧ NdF w' F r d) ∧ (o = none → b = false)) ∧ Below w.heap.size w w'
theorem fr_no {F : Nat → Prop} {o : Option Nd} {w x : World} {n0 g4 : Nat} (ho : o = none) (hb : Below n0 w x) (hn : w.heap.size = n0) (hg : n0 ≤ g4) : FrP F o w (.returned (.tuple #[.agg (rnA ⟨0, 0, ⟨#[]⟩, slZ, slZ⟩), .bool false])) (x.setRow g4 (rnA ⟨0, 0, ⟨#[]⟩, slZ, slZ⟩)) :=
  ⟨⟨_, _, rfl, fun d h => absurd (ho.symm.trans h) (by simp), fun _ => rfl⟩, by rw [hn]; exact below_row14 hb hg _⟩
set_option linter.unusedSimpArgs false in
set_option maxRecDepth 100000 in
set_option maxHeartbeats 16000000 in
theorem refField_any (d : Nd) (key : ByteArray) (w : World) (F : Nat → Prop) (a : Rn) (ha : NdF w F a d) : Calls Tryz.prog 23 #[.agg (rnA a), .string key] w fun e w' => FrP F (fldN d (lS key)) w e w' := by
  obtain ⟨k, n, s, ks, vs⟩ := d
  obtain ⟨a1, -, -, kb, rs, ak, -, akk, av, -, al, ⟨hmk, hmv⟩, ae⟩ := ha.inv
  have na := ak.num
  have va := av.num
  have hst : (strs kb).length = kb.length := by simp [strs]
  rw [hst] at na
  obtain ⟨R, hR⟩ : ∃ q, fldN (.mk k n s ks vs) (lS key) = q := ⟨_, rfl⟩
  rw [hR]
  rw [fldN] at hR
  obtain ⟨n0, hn0⟩ : ∃ q, w.heap.size = q := ⟨_, rfl⟩
  have bA := below_alloc w (.cells (rnA a) 55)
  have bB := below_alloc (w.alloc (.cells (rnA a) 55)) (.cells (rnA rnZ) 55)
  have rA := (RowC.new w (rnA a) 55).kept bB
  have rB := RowC.new (w.alloc (.cells (rnA a) 55)) (rnA rnZ) 55
  have bY := bA.trans (bB.mono bA.size)
  have hsz1 : (w.alloc (.cells (rnA a) 55)).heap.size = n0 + 1 := by rw [alloc_sz15, hn0]
  rw [hsz1] at rB
  rw [hn0] at rA
  go_enter Tryz.func23, Tryz.ntmps23
  go_upto_region 1 with fail
  have avY := av.kept bY
  have akY := ak.kept bY
  have HAE : Hid (∀ (i : Nat) u d, rs[i]? = some u → vs[i]? = some d → NdF ((w.alloc (.cells (rnA a) 55)).alloc (.cells (rnA rnZ) 55)) F u d) := fun i u d h1 h2 => (ae i u d h1 h2).kept bY
  have HFN : Hid (NdF ((w.alloc (.cells (rnA a) 55)).alloc (.cells (rnA rnZ) 55)) F a (.mk k n s ks vs)) := ha.kept bY
  have HAL : Hid (∀ (i : Nat) u d, rs[i]? = some u → vs[i]? = some d → NdF w F u d) := ae
  rw [hn0] at bY
  generalize (w.alloc (.cells (rnA a) 55)).alloc (.cells (rnA rnZ) 55) = Y at rA rB bY avY akY HAE HFN ⊢
  obtain ⟨k9, n9, s9, ⟨xk, nk, ck⟩, ⟨xv, nv, cv⟩⟩ := a
  simp only at a1 na va hmk hmv
  subst a1
  obtain ⟨g4, hg4⟩ : ∃ q, n0 + 1 = q := ⟨_, rfl⟩
  rw [hg4] at rB ⊢
  have c0 : Y.cell? ⟨n0, 0, none⟩ = some (.int .i64 k9) := rA.cell 0
  have c3 : Y.cell? ⟨n0, 3, none⟩ = some (.slice xk nk ck) := rA.cell 3
  have c4 : Y.cell? ⟨n0, 4, none⟩ = some (.slice xv nv cv) := rA.cell 4
  have HV : Hid (nv = rs.length ∧ nv = vs.length) := ⟨va, by omega⟩
  have HK : Hid (nk = kb.length ∧ kb.map lS = ks) := ⟨na, akk⟩
  have HAV : Hid (IsK ndE Y (.slice xv nv cv) rs) := avY
  have HAK : Hid (IsG Y (.slice xk nk ck) (strs kb)) := akY
  have HR : Hid ((if k9 = 6 then fldK (lS key) ks vs else none) = R) := hR
  have HRB : Hid (RowC Y g4 (rnA rnZ)) := rB
  have HBY : Hid (Below n0 w Y) := bY
  have hg4n : n0 ≤ g4 := by omega
  clear ak av ae akk ha avY akY rA rB bY hst al na va hR bA bB hsz1 hg4 HFN
  by_cases h6 : k9 = 6
  · have f6 : (k9 == 6) = true := beq_iff_eq.2 h6
    have HR1 : Hid (fldK (lS key) ks vs = R) := by
      have h9 := HR.out
      rw [if_pos h6] at h9
      exact h9
    clear HR h6
    go_wp2_with fail
    go_loopw [6] (fun iv wr => ∃ j : Nat, j ≤ nk ∧ iv = .int .i64 j ∧ Hid (fldK (lS key) (ks.drop j) (vs.drop j) = R) ∧ Below Y.heap.size Y wr) (fun iv _ => nk - (intOf iv).toNat)
    case atStart => exact ⟨0, by omega, rfl, HR1, Below.refl _ _⟩
    case round =>
      obtain ⟨j, hj, rfl, HJ, hB⟩ := hrel
      have q0 := cell_later hB c0
      have q3 := cell_later hB c3
      have q4 := cell_later hB c4
      have r4 : RowC wr g4 (rnA rnZ) := RowC.kept HRB.out hB
      obtain ⟨p1, p2⟩ := id r4
      have p3 : (rowAt wr g4).size = 5 := by rw [p2]; rfl
      have hBf : Below n0 w wr := HBY.out.trans (hB.mono (by have := HBY.out.size; omega))
      by_cases hlt : j < nk
      · have i1 : (j : Int) < (nk : Int) := by omega
        have i0 : (0 : Int) ≤ (j : Int) := by omega
        have hwr : IntKind.i64.wrap ((j : Int) + 1) = (j : Int) + 1 := by rw [IntKind.wrap_i64]; omega
        obtain ⟨kl, kk⟩ := HK.out
        obtain ⟨K, hK0⟩ : ∃ q, kb[j]? = some q := ⟨_, List.getElem?_eq_getElem (by omega)⟩
        have hks : ks[j]? = some (lS K) := by rw [← kk]; simp [hK0]
        obtain ⟨bk, ok, rfl, -, ck9⟩ := IsG.spot HAK.out j (by simp [strs]; omega)
        have q5 := cell_later hB (ck9 j _ (by simp [strs, hK0] : (strs kb)[j]? = some (.string K)))
        clear ck9 kl kk hK0
        by_cases hq : lS K = lS key
        · have hqe : (K.toList == key.toList) = true := sEq14 hq
          have HR2 : Hid (vs[j]? = R) := by
            rw [hq] at hks
            have h9 := fldK_eq (lS key) ks vs j hks
            show _ = _
            rw [← h9]; exact HJ.out
          by_cases hv : j < nv
          · have i2 : (j : Int) < (nv : Int) := by omega
            obtain ⟨va, vc⟩ := HV.out
            obtain ⟨ra, hra⟩ : ∃ q, rs[j]? = some q := ⟨_, List.getElem?_eq_getElem (by omega)⟩
            obtain ⟨dd, hdd⟩ : ∃ q, vs[j]? = some q := ⟨_, List.getElem?_eq_getElem (by omega)⟩
            obtain ⟨ba, oa, rfl, -, ca⟩ := IsK.at HAV.out j ra hra
            have la := run_load_el (range_later ca hB)
            have l5 : ndE.k = 5 := rfl
            rw [l5] at la
            have HP : Hid (FrP F R w (.returned (.tuple #[.agg (rnA ra), .bool true])) (wr.setRow g4 (rnA ra))) := by
              have hbb : Below w.heap.size w (wr.setRow g4 (rnA ra)) := by rw [hn0]; exact below_row14 hBf hg4n _
              refine ⟨⟨ra, true, rfl, fun d h9 => ⟨rfl, ?_⟩, fun h9 => ?_⟩, hbb⟩
              · rw [← HR2.out, hdd] at h9
                cases h9
                exact (HAL.out j ra dd hra hdd).kept hbb
              · rw [← HR2.out, hdd] at h9; cases h9
            clear ca hra hdd va vc HR2 hks hq HJ
            go_wp2
            exact nd_bodyPost2 4 5 g4 (rnA ra) rfl rfl rfl (RowC.setRow r4 _) rfl (by exact HP.out)
          · have i2 : ¬ (j : Int) < (nv : Int) := by omega
            have hRn : R = none := by
              obtain ⟨va, vc⟩ := HV.out
              rw [← HR2.out]; exact List.getElem?_eq_none (by omega)
            have HP : Hid _ := fr_no (F := F) hRn hBf hn0 hg4n
            clear hRn HR2 hks hq HJ
            go_wp2
            exact nd_bodyPost2 4 5 g4 (rnA ⟨0, 0, ⟨#[]⟩, slZ, slZ⟩) rfl rfl rfl (RowC.setRow r4 _) rfl (by exact HP.out)
        · have hqe : (K.toList == key.toList) = false := sNe14 hq
          have HJ1 : Hid (fldK (lS key) (ks.drop (j + 1)) (vs.drop (j + 1)) = R) := by
            show _ = _
            rw [← fldK_ne (lS key) ks vs j _ hks hq]; exact HJ.out
          clear hks hq HJ hBf
          go_wp2
          go_roundw
          case rel => first | exact ⟨j + 1, by omega, by go_num, HJ1, hB⟩ | ((repeat apply Exists.intro); refine ⟨⟨j + 1, by omega, ?_, HJ1, hB⟩, rfl⟩; go_num)
          case measure => simp [intOf]; omega
      · obtain rfl : j = nk := by omega
        have i1 : ¬ (j : Int) < (j : Int) := by omega
        have hRn : R = none := by
          obtain ⟨kl, kk⟩ := HK.out
          rw [← HJ.out, List.drop_of_length_le (by rw [← kk]; simp; omega)]
          cases vs.drop j <;> rfl
        have HP : Hid _ := fr_no (F := F) hRn hBf hn0 hg4n
        clear hRn HJ
        go_wp2
        exact nd_bodyPost2 4 5 g4 (rnA ⟨0, 0, ⟨#[]⟩, slZ, slZ⟩) rfl rfl rfl (RowC.setRow r4 _) rfl (by exact HP.out)
  · have f6 : (k9 == 6) = false := beq_eq_false_iff_ne.2 h6
    have hRn : R = none := by
      have h9 := HR.out
      rw [if_neg h6] at h9
      exact h9.symm
    have r4 : RowC Y g4 (rnA rnZ) := HRB.out
    obtain ⟨p1, p2⟩ := id r4
    have p3 : (rowAt Y g4).size = 5 := by rw [p2]; rfl
    have HP : Hid _ := fr_no (F := F) hRn HBY.out hn0 hg4n
    clear hRn h6
    go_wp2_with fail
    go_loopw [6] (fun iv wr => iv = .int .i64 0 ∧ wr = Y) (fun iv _ => 0)
    case atStart => exact ⟨rfl, rfl⟩
    case round =>
      obtain ⟨rfl, rfl⟩ := hrel
      go_wp2
      exact nd_bodyPost2 4 5 g4 (rnA ⟨0, 0, ⟨#[]⟩, slZ, slZ⟩) rfl rfl rfl (RowC.setRow r4 _) rfl (by exact HP.out)
end Go.Proofs.YtalnbddkhojjbaaGreatDoor
