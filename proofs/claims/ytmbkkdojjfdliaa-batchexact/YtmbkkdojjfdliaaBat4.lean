
import Derived.Test.YtmbkkdojjfdliaaBat3
import Derived.Test.YtmbkkdojjfdliaaGenA
namespace Go.Proofs.Ytmbkkdojjfdliaa
open Go.RowKit

/-! Lists of lists of writes; assaylaw26's all -/
def IsLL (w : World) (v : Value) (C : List (List Wr)) : Prop := ∃ us : List Value, IsG w v us ∧ us.length = C.length ∧ ∀ (i : Nat) (ds : List Wr), C[i]? = some ds → ∃ x c, us[i]? = some (.slice x ds.length c) ∧ IsK wrE w (.slice x ds.length c) ds
theorem IsLL.kept {w w1 : World} {v : Value} {C : List (List Wr)} (h : IsLL w v C) (hb : Below w.heap.size w w1) : IsLL w1 v C := by
  obtain ⟨us, h1, h2, h3⟩ := h
  refine ⟨us, h1.kept hb, h2, fun i ds hi => ?_⟩
  obtain ⟨x, c, k1, k2⟩ := h3 i ds hi
  exact ⟨x, c, k1, k2.kept hb⟩
theorem IsLL.nil (w : World) : IsLL w (.slice none 0 0) [] := ⟨[], .inl ⟨rfl, rfl⟩, rfl, fun i ds hi => by simp at hi⟩
theorem IsLL.form {w : World} {v : Value} {C : List (List Wr)} (h : IsLL w v C) : ∃ x c, v = .slice x C.length c := by
  obtain ⟨us, h1, h2, -⟩ := h
  obtain ⟨x, c, rfl⟩ := h1.len
  exact ⟨x, c, by rw [h2]⟩
theorem IsLL.at {w : World} {x : Option Addr} {n c : Nat} {C : List (List Wr)} (h : IsLL w (.slice x n c) C) (i : Nat) (ds : List Wr) (hi : C[i]? = some ds) : ∃ b o y d, x = some ⟨b, o, none⟩ ∧ b < w.heap.size ∧ w.cell? ⟨b, o + i, none⟩ = some (.slice y ds.length d) ∧ IsK wrE w (.slice y ds.length d) ds := by
  obtain ⟨us, h1, h2, h3⟩ := h
  obtain ⟨y, d, k1, k2⟩ := h3 i ds hi
  obtain ⟨b, o, rfl, hb, hc⟩ := h1.spot i (by have := (List.getElem?_eq_some_iff.1 hi).1; omega)
  exact ⟨b, o, y, d, rfl, hb, hc i _ k1, k2⟩
def mW (C : List (List Wr)) : List (List (Int × List UInt8)) := C.map fun d => d.map kW
theorem mW_get (C : List (List Wr)) (i : Nat) (d : List Wr) (h : C[i]? = some d) : (mW C)[i]? = some (d.map kW) := by unfold mW; rw [List.getElem?_map, h]; rfl
set_option linter.unusedSimpArgs false in
set_option maxRecDepth 100000 in
set_option maxHeartbeats 8000000 in
theorem all26_any (A B : List (List Wr)) (xa xb : Option Addr) (na nb ca cb : Nat) (w : World) (hna : A.length = na) (hnb : B.length = nb) (hA : IsLL w (.slice xa na ca) A) (hB : IsLL w (.slice xb nb cb) B) (h63 : na ≤ 140737488355328) (hl : ∀ d ∈ A, d.length ≤ 140737488355328) :
    Calls Try.prog 11 #[.slice xa na ca, .slice xb nb cb] w fun e w' => e = .returned (.bool (decide (mW A = mW B))) ∧ Below w.heap.size w w' := by
  obtain ⟨SS, hSS⟩ : ∃ q, decide (mW A = mW B) = q := ⟨_, rfl⟩
  have HS0 : Hid (decide (mW A = mW B) = SS) := hSS
  rw [hSS]
  clear hSS
  by_cases hne : na = nb
  · subst hne
    have HH : Hid (A.length = na ∧ B.length = na ∧ IsLL w (.slice xa na ca) A ∧ IsLL w (.slice xb na cb) B ∧ ∀ d ∈ A, d.length ≤ 140737488355328) := ⟨hna, hnb, hA, hB, hl⟩
    obtain ⟨n, rfl⟩ : ∃ q, q = na := ⟨_, rfl⟩
    clear hna hnb hA hB hl
    go_enter Try.func11, Try.ntmps11
    go_wp2_with fail
    go_loopw [5] (fun iv wr => ∃ k : Nat, k ≤ n ∧ iv = .int .i64 (k : Int) ∧ Hid (∀ (j : Nat), j < k → (mW A)[j]? = (mW B)[j]?) ∧ Below w.heap.size w wr) (fun iv _ => n - (intOf iv).toNat)
    case atStart => exact ⟨0, by omega, rfl, fun j hj => by omega, Below.refl _ _⟩
    case round =>
      obtain ⟨k, hk, rfl, HS, hBw⟩ := hrel
      by_cases hlt : k < n
      · have i0 : (0 : Int) ≤ (k : Int) := by omega
        have i1 : (k : Int) < (n : Int) := by omega
        obtain ⟨da, hda⟩ : ∃ q, A[k]? = some q := ⟨_, List.getElem?_eq_getElem (by have := HH.out.1; omega)⟩
        obtain ⟨db, hdb⟩ : ∃ q, B[k]? = some q := ⟨_, List.getElem?_eq_getElem (by have := HH.out.2.1; omega)⟩
        obtain ⟨ga, oa, xs, cs, rfl, hga, q1, a2⟩ := (HH.out.2.2.1.kept hBw).at k da hda
        obtain ⟨gb, ob, xt, ct, rfl, hgb, q2, b2⟩ := (HH.out.2.2.2.1.kept hBw).at k db hdb
        obtain ⟨ms, hms⟩ : ∃ q, da.length = q := ⟨_, rfl⟩
        obtain ⟨mt, hmt⟩ : ∃ q, db.length = q := ⟨_, rfl⟩
        rw [hms] at q1 a2
        rw [hmt] at q2 b2
        have HL : Hid (da.length = ms ∧ db.length = mt ∧ ms ≤ 140737488355328) := ⟨hms, hmt, by rw [← hms]; exact HH.out.2.2.2.2 da (List.mem_of_getElem? hda)⟩
        have HKA : Hid (IsK wrE wr (.slice xs ms cs) da) := a2
        have HKB : Hid (IsK wrE wr (.slice xt mt ct) db) := b2
        obtain ⟨r9, hr9⟩ : ∃ q, decide (da.map kW = db.map kW) = q := ⟨_, rfl⟩
        have HR9 : Hid (decide (da.map kW = db.map kW) = r9) := hr9
        have FK : Hid ((0 : Int) ≤ (k : Int) ∧ (k : Int) < (n : Int)) := ⟨i0, i1⟩
        have ea := mW_get A k da hda
        have eb := mW_get B k db hdb
        have HE : Hid ((mW A)[k]? = some (da.map kW) ∧ (mW B)[k]? = some (db.map kW)) := ⟨ea, eb⟩
        clear a2 b2 hda hdb hms hmt hr9 ea eb
        go_upto_region 6 with fail
        refine wp_relies [Fx (.slice (some ⟨ga, oa, none⟩) n ca), Fx (.int .i64 (k : Int)), Fx (.pointer (some ⟨ga, oa + k, none⟩)), Fx (.slice xs ms cs), Fx (.slice (some ⟨gb, ob, none⟩) n cb), Fx (.int .i64 (k : Int)), Fx (.pointer (some ⟨gb, ob + k, none⟩)), Fx (.slice xt mt ct), Fx (.bool r9), Fx (.bool (!r9))] (by kernel_rfl) (by kernel_rfl) ?_ ?_ ?_
        · repeat' (first | exact all_nil | apply all_cons)
          all_goals intro v y y' hv hb
          all_goals first | exact Fx_mono _ _ _ _ hv hb
        · refine ⟨?_, ?_, ?_, ?_, ?_, ?_, ?_, ?_, ?_, ?_, trivial⟩
          all_goals
            intro ρ y9 hp ρc ρg ρf ho hd
            have o0 : ρ (.tmp 0) = .slice (some ⟨ga, oa, none⟩) n ca := ho 0 rfl
            have o1 : ρ (.tmp 1) = .slice (some ⟨gb, ob, none⟩) n cb := ho 1 rfl
            have o5 : ρ (.tmp 5) = .int .i64 (k : Int) := ho 5 rfl
            clear ho
            replace q1 := cell_later hp q1
            replace q2 := cell_later hp q2
            simp only [depsR, depR, slotR, Fx, List.getElem?_cons_succ, List.getElem?_cons_zero, Region.binds, forall_const] at hd
            simp only [guardR]
            go_split_ands
          · go_simp
          · go_simp
          · obtain ⟨z1, z2⟩ := FK.out
            go_simp
          · go_simp
          · go_simp
          · go_simp
          · obtain ⟨z1, z2⟩ := FK.out
            go_simp
          · go_simp
          · go_simp
            refine (same26_any xs xt cs ct ms mt da db y9 HL.out.1 HL.out.2.1 (HKA.out.kept hp) (HKB.out.kept hp) HL.out.2.2).mono ?_
            rintro e x' ⟨rfl, hb⟩
            exact ⟨_, rfl, by rw [HR9.out]; rfl, hb⟩
          · go_simp
        · intro us x1 hp1 hw
          simp only [owed, Fx] at hw
          obtain ⟨e0, e1, e2, e3, e4, e5, e6, e7, e8, e9, -⟩ := hw
          simp only [List.length_cons, List.length_nil, List.take_succ_cons, List.take_nil, List.drop_succ_cons, List.drop_nil, asg, List.cons_append, List.nil_append, e0, e1, e2, e3, e4, e5, e6, e7, e8, e9]
          clear e0 e1 e2 e3 e4 e5 e6 e7 e8 e9
          have HB : Hid (Below w.heap.size w x1) := hBw.trans (hp1.mono hBw.size)
          clear hp1 hBw HKA HKB HL q1 q2
          cases r9 with
          | false =>
            have HF : Hid (SS = false) := by
              show _ = _
              rw [← HS0.out, decide_eq_false_iff_not]
              intro h9
              have h8 := of_decide_eq_false HR9.out
              rw [h9] at HE
              exact h8 (Option.some.inj (HE.out.1.symm.trans HE.out.2))
            go_wp2
            go_ret
            rw [HF.out]
            exact ⟨rfl, HB.out⟩
          | true =>
            have HS3 : Hid (∀ (j : Nat), j < k + 1 → (mW A)[j]? = (mW B)[j]?) := fun j hj => by
              by_cases h9 : j < k
              · exact HS.out j h9
              · obtain rfl : j = k := by omega
                rw [HE.out.1, HE.out.2, of_decide_eq_true HR9.out]
            clear HS HE
            go_wp2
            go_roundw
            case rel => exact ⟨k + 1, by omega, by go_num, HS3, HB.out⟩
            case measure => simp [intOf]; omega
      · obtain rfl : k = n := by omega
        have i1 : ¬ (k : Int) < (k : Int) := by omega
        have HF : Hid (SS = true) := by
          show _ = _
          rw [← HS0.out, decide_eq_true_iff]
          apply List.ext_getElem?
          intro j
          by_cases hj : j < k
          · exact HS.out j hj
          · have h1 := HH.out.1
            have h2 := HH.out.2.1
            rw [List.getElem?_eq_none (by unfold mW; rw [List.length_map]; omega), List.getElem?_eq_none (by unfold mW; rw [List.length_map]; omega)]
        clear HS
        go_wp2
        go_ret
        rw [HF.out]
        exact ⟨rfl, hBw⟩
  · have hl1 : ¬ (na : Int) = (nb : Int) := by omega
    have hl2 : ((na : Int) != (nb : Int)) = true := by simp; omega
    have HV : Hid (SS = false) := by
      show _ = _
      rw [← HS0.out, decide_eq_false_iff_not]
      intro h9
      have := congrArg List.length h9
      simp only [mW, List.length_map] at this
      omega
    clear hA hB
    go_enter Try.func11, Try.ntmps11
    go_wp2
    go_ret
    exact ⟨by rw [HV.out]; rfl, Below.refl _ _⟩
end Go.Proofs.Ytmbkkdojjfdliaa
