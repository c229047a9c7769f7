
import Derived.Test.YtligjfofnafjeaaFor8
namespace Go.Proofs.Ytligjfofnafjeaa
open Go.RowKit

/-! assaylaw21: up, ForestIs -/
def frS (l : List Sn) : Fr := frO (l.map mkR)
theorem frS_get {l : List Sn} {i : Nat} {s : Sn} (h : l[i]? = some s) : (l.map mkR)[i]? = some (mkR s) := by rw [List.getElem?_map, h]; rfl
theorem frS_n (l : List Sn) : (frS l).n = l.length := List.length_map ..
theorem frS_id {l : List Sn} {i : Nat} {s : Sn} (h : l[i]? = some s) : (frS l).id i = s.id.toNat := frO_id (frS_get h)
theorem frS_pa {l : List Sn} {i : Nat} {s : Sn} (h : l[i]? = some s) : (frS l).pa i = s.pa.toNat := frO_pa (frS_get h)
theorem frS_ok {l : List Sn} {i : Nat} {s : Sn} (h : l[i]? = some s) : (frS l).ok i = !(s.id == 0) := by unfold frS; rw [frO_ok (frS_get h)]; rfl
theorem frS_la {l : List Sn} {i : Nat} {s : Sn} (h : l[i]? = some s) : (frS l).la i = true := by unfold frS; rw [frO_la (frS_get h)]; rfl
/-- The last number below n of which p holds; -1: none. -/
def lst (p : Nat → Bool) : Nat → Int
  | 0 => -1
  | n + 1 => if p n then (n : Int) else lst p n
theorem lst_fnd (p : Nat → Bool) : ∀ (n : Nat), (∀ i j, i < n → j < n → p i = true → p j = true → i = j) → lst p n = fnd p n
  | 0, _ => rfl
  | n + 1, h => by
    have ih := lst_fnd p n (fun i j hi hj => h i j (by omega) (by omega))
    unfold lst
    cases hp : p n
    · simp only [Bool.false_eq_true, if_false]
      rw [ih, show fnd p (n + 1) = if 0 ≤ fnd p n then fnd p n else if p n then (n : Int) else -1 from rfl, hp]
      rcases fnd_spec p n with ⟨h1, -⟩ | ⟨i, h1, -⟩
      · rw [h1, if_neg (by omega)]; rfl
      · rw [h1, if_pos (by omega)]
    · simp only [if_true]
      rw [fnd_at p n hp (n + 1) (by omega) (fun k hk => by
        cases hk' : p k
        · rfl
        · have := h k n (by omega) (by omega) hk' hp; omega)]
theorem lst_rng (p : Nat → Bool) : ∀ n, -1 ≤ lst p n ∧ lst p n < (n : Int)
  | 0 => by unfold lst; omega
  | n + 1 => by
    have := lst_rng p n
    unfold lst
    split <;> omega
set_option linter.unusedSimpArgs false in
set_option maxRecDepth 100000 in
set_option maxHeartbeats 8000000 in
theorem up21 (l : List Sn) (x : Option Addr) (n c i : Nat) (w : World) (hn : l.length = n) (h41 : n ≤ 4611686018427387904) (hi : i < n) (hs : ∀ s ∈ l, s.ok) (hl : IsK snE w (.slice x n c) l) (hK : ∀ k, k < n → (frS l).kp k = true) :
    Calls Try.prog 11 #[.slice x n c, .int .i64 (i : Int)] w fun e w' => e = .returned (.bool ((frS l).up (n + 1) i)) ∧ Below w.heap.size w w' := by
  have hfn : (frS l).n = n := by rw [frS_n]; exact hn
  obtain ⟨U, hU⟩ : ∃ q, (frS l).up (n + 1) i = q := ⟨_, rfl⟩
  rw [hU]
  go_enter Try.func11, Try.ntmps11
  go_wp2_with fail
  go_loopw [1, 5] (fun av jv wr => ∃ j a : Nat, j ≤ n + 1 ∧ jv = .int .i64 j ∧ av = .int .i64 a ∧ a < n ∧ (frS l).up (n + 1 - j) a = U ∧ Below w.heap.size w wr) (fun _ jv _ => n + 1 - (intOf jv).toNat)
  case atStart => exact ⟨0, i, by omega, rfl, rfl, hi, hU, Below.refl _ _⟩
  case round =>
    obtain ⟨j, a, hj, rfl, rfl, ha, hup, hB⟩ := hrel
    by_cases hlt : j ≤ n
    · obtain ⟨s, hsa⟩ : ∃ s, l[a]? = some s := ⟨_, List.getElem?_eq_getElem (by omega)⟩
      have hrs := hs s (List.mem_of_getElem? hsa)
      unfold Sn.ok at hrs
      obtain ⟨A, hA⟩ : ∃ q : Nat, s.pa = (q : Int) := ⟨s.pa.toNat, by omega⟩
      have hpa := frS_pa hsa
      rw [hA, Int.toNat_natCast] at hpa
      obtain ⟨f, hf⟩ : ∃ f, n + 1 - j = f + 1 := ⟨n - j, by omega⟩
      have HJ : Hid (j ≤ n ∧ n - j = f) := ⟨hlt, by omega⟩
      rw [hf] at hup
      unfold Fr.up at hup
      rw [hpa] at hup
      obtain ⟨g, o, e9, -, -, c1, -, -⟩ := snE_cells (hl.kept hB) a s hsa
      subst e9
      rw [hA] at c1
      have i0 : (j : Int) ≤ (n : Int) := by omega
      have i1 : (0 : Int) ≤ (a : Int) := by omega
      have i2 : (a : Int) < (n : Int) := by omega
      by_cases h0 : A = 0
      · subst h0
        rw [if_pos rfl] at hup
        have HU : Hid (true = U) := hup
        have HB : Hid _ := hB
        have c1' : wr.cell? ⟨g, o + a * 34 + 1, none⟩ = some (.int .u32 0) := c1
        clear hup hB c1 hpa hA hrs hsa
        go_wp2
        go_ret
        exact ⟨by rw [← HU.out]; rfl, HB.out⟩
      · rw [if_neg h0] at hup
        have hz : ((A : Int) == 0) = false := beq_eq_false_iff_ne.2 (by omega)
        obtain ⟨p, hp9⟩ : ∃ p : Nat → Bool, p = fun k => (frS l).id k == A := ⟨_, rfl⟩
        have hnx : (frS l).nx a = lst p n := by
          unfold Fr.nx Fr.at_
          rw [hpa, hfn, lst_fnd p n (fun i j hi hj h1 h2 => by
            rw [hp9] at h1 h2
            simp at h1 h2
            exact Fr.kp_one (hK i hi) (hK j hj) (h1.trans h2.symm))]
          exact fnd_eq fun k hk => by rw [hK k hk, Bool.true_and, hp9]
        rw [hnx] at hup
        have HUP : Hid _ := hup
        have HP9 : Hid (p = fun k => (frS l).id k == A) := hp9
        have HS : Hid (l[a]? = some s ∧ s.pa = (A : Int) ∧ a < n) := ⟨hsa, hA, ha⟩
        obtain ⟨wo, hwo⟩ : ∃ wo, wo = wr := ⟨_, rfl⟩
        rw [← hwo] at hB c1 ⊢
        clear hwo hup hnx hp9 hpa hA hrs hsa h0 ha hj hlt hf
        go_wp2_with fail
        clear c1
        go_loopw [6, 7] (fun nv kv wr => ∃ k : Nat, k ≤ n ∧ kv = .int .i64 k ∧ nv = .int .i64 (lst p k) ∧ Below w.heap.size w wr) (fun _ kv _ => n - (intOf kv).toNat)
        case atStart => exact ⟨0, by omega, rfl, rfl, hB⟩
        case round =>
          clear hB
          obtain ⟨k, hk, rfl, rfl, hB⟩ := hrel
          by_cases hkn : k < n
          · obtain ⟨s2, hs2⟩ : ∃ s, l[k]? = some s := ⟨_, List.getElem?_eq_getElem (by omega)⟩
            have hrs := hs s2 (List.mem_of_getElem? hs2)
            unfold Sn.ok at hrs
            obtain ⟨D, hD⟩ : ∃ q : Nat, s2.id = (q : Int) := ⟨s2.id.toNat, by omega⟩
            have hid := frS_id hs2
            rw [hD, Int.toNat_natCast] at hid
            obtain ⟨g9, o9, e9, -, c0, -, -, -⟩ := snE_cells (hl.kept hB) k s2 hs2
            cases e9
            obtain ⟨g9, o9, e9, -, -, c1, -, -⟩ := snE_cells (hl.kept hB) a s HS.out.1
            cases e9
            rw [hD] at c0
            rw [HS.out.2.1] at c1
            have k0 : (k : Int) < (n : Int) := by omega
            have FK : Hid ((0 : Int) ≤ (k : Int) ∧ (k : Int) < (n : Int) ∧ (0 : Int) ≤ (a : Int) ∧ (a : Int) < (n : Int)) := ⟨by omega, k0, i1, i2⟩
            have HKN : Hid (k < n) := hkn
            clear hs2 hrs hD hkn hk
            by_cases heq : D = A
            · have HEQ : Hid (((D : Int) == (A : Int)) = true) := by show _ = _; rw [heq]; simp
              have HL : Hid (lst p (k + 1) = (k : Int)) := by
                show _ = _
                unfold lst
                have : p k = true := by rw [HP9.out]; simp [hid, heq]
                rw [this]; rfl
              clear hid heq
              go_upto_region 10 with fail
              refine wp_relies [Fx (.slice (some ⟨g, o, none⟩) n c), Fx (.int .i64 (k : Int)), Fx (.pointer (some ⟨g, o + k * 34, none⟩)), Fx (.pointer (some ⟨g, o + k * 34, none⟩)), Fx (.int .u32 (D : Int)), Fx (.slice (some ⟨g, o, none⟩) n c), Fx (.int .i64 (a : Int)), Fx (.pointer (some ⟨g, o + a * 34, none⟩)), Fx (.pointer (some ⟨g, o + a * 34 + 1, none⟩)), Fx (.int .u32 (A : Int)), Fx (.bool true)] (by kernel_rfl) (by kernel_rfl) ?_ ?_ ?_
              · repeat' (first | exact all_nil | apply all_cons)
                all_goals intro v y y' hv hb
                all_goals first | exact Fx_mono _ _ _ _ hv hb
              · refine ⟨?_, ?_, ?_, ?_, ?_, ?_, ?_, ?_, ?_, ?_, ?_, trivial⟩
                all_goals
                  intro ρ x_1 hp ρc ρg ρf ho hd
                  have o0 : ρ (.tmp 0) = .slice (some ⟨g, o, none⟩) n c := ho 0 rfl
                  have o1 : ρ (.tmp 1) = .int .i64 (a : Int) := ho 1 rfl
                  have o7 : ρ (.tmp 7) = .int .i64 (k : Int) := ho 7 rfl
                  clear ho
                  have y0 := cell_later hp c0
                  have y1 := cell_later hp c1
                  simp only [depsR, depR, slotR, Fx, List.getElem?_cons_succ, List.getElem?_cons_zero, Region.binds, forall_const] at hd
                  simp only [guardR]
                  go_split_ands
                · go_simp
                · go_simp
                · obtain ⟨z1, z2, z3, z4⟩ := FK.out
                  go_simp
                · go_simp
                · go_simp
                · go_simp
                · go_simp
                · obtain ⟨z1, z2, z3, z4⟩ := FK.out
                  go_simp
                · go_simp
                · go_simp
                · have z := HEQ.out
                  go_simp
              · intro vs x1 hp hw
                simp only [owed, Fx] at hw
                obtain ⟨e0, e1, e2, e3, e4, e5, e6, e7, e8, e9, e10, -⟩ := hw
                simp only [List.length_cons, List.length_nil, List.take_succ_cons, List.take_nil, List.drop_succ_cons, List.drop_nil, asg, List.cons_append, List.nil_append, e0, e1, e2, e3, e4, e5, e6, e7, e8, e9, e10]
                clear e0 e1 e2 e3 e4 e5 e6 e7 e8 e9 e10
                have HB : Hid _ := hB.trans (hp.mono hB.size)
                clear hp hB c0 c1
                go_wp2
                go_roundw
                case rel => first | exact ⟨k + 1, by have := HKN.out; omega, by go_num, by rw [HL.out], HB.out⟩ | ((repeat apply Exists.intro); refine ⟨⟨k + 1, by have := HKN.out; omega, ?_, by rw [HL.out], HB.out⟩, rfl⟩; go_num)
                case measure => have := HKN.out; simp [intOf]; omega
            · have HEQ : Hid (((D : Int) == (A : Int)) = false) := beq_eq_false_iff_ne.2 (by omega)
              have HL : Hid (lst p (k + 1) = lst p k) := by
                show _ = _
                conv => lhs; unfold lst
                have : p k = false := by rw [HP9.out]; simp [hid, heq]
                rw [this]; rfl
              clear hid heq
              go_upto_region 10 with fail
              refine wp_relies [Fx (.slice (some ⟨g, o, none⟩) n c), Fx (.int .i64 (k : Int)), Fx (.pointer (some ⟨g, o + k * 34, none⟩)), Fx (.pointer (some ⟨g, o + k * 34, none⟩)), Fx (.int .u32 (D : Int)), Fx (.slice (some ⟨g, o, none⟩) n c), Fx (.int .i64 (a : Int)), Fx (.pointer (some ⟨g, o + a * 34, none⟩)), Fx (.pointer (some ⟨g, o + a * 34 + 1, none⟩)), Fx (.int .u32 (A : Int)), Fx (.bool false)] (by kernel_rfl) (by kernel_rfl) ?_ ?_ ?_
              · repeat' (first | exact all_nil | apply all_cons)
                all_goals intro v y y' hv hb
                all_goals first | exact Fx_mono _ _ _ _ hv hb
              · refine ⟨?_, ?_, ?_, ?_, ?_, ?_, ?_, ?_, ?_, ?_, ?_, trivial⟩
                all_goals
                  intro ρ x_1 hp ρc ρg ρf ho hd
                  have o0 : ρ (.tmp 0) = .slice (some ⟨g, o, none⟩) n c := ho 0 rfl
                  have o1 : ρ (.tmp 1) = .int .i64 (a : Int) := ho 1 rfl
                  have o7 : ρ (.tmp 7) = .int .i64 (k : Int) := ho 7 rfl
                  clear ho
                  have y0 := cell_later hp c0
                  have y1 := cell_later hp c1
                  simp only [depsR, depR, slotR, Fx, List.getElem?_cons_succ, List.getElem?_cons_zero, Region.binds, forall_const] at hd
                  simp only [guardR]
                  go_split_ands
                · go_simp
                · go_simp
                · obtain ⟨z1, z2, z3, z4⟩ := FK.out
                  go_simp
                · go_simp
                · go_simp
                · go_simp
                · go_simp
                · obtain ⟨z1, z2, z3, z4⟩ := FK.out
                  go_simp
                · go_simp
                · go_simp
                · have z := HEQ.out
                  go_simp
              · intro vs x1 hp hw
                simp only [owed, Fx] at hw
                obtain ⟨e0, e1, e2, e3, e4, e5, e6, e7, e8, e9, e10, -⟩ := hw
                simp only [List.length_cons, List.length_nil, List.take_succ_cons, List.take_nil, List.drop_succ_cons, List.drop_nil, asg, List.cons_append, List.nil_append, e0, e1, e2, e3, e4, e5, e6, e7, e8, e9, e10]
                clear e0 e1 e2 e3 e4 e5 e6 e7 e8 e9 e10
                have HB : Hid _ := hB.trans (hp.mono hB.size)
                clear hp hB c0 c1
                go_wp2
                go_roundw
                case rel => first | exact ⟨k + 1, by have := HKN.out; omega, by go_num, by rw [HL.out], HB.out⟩ | ((repeat apply Exists.intro); refine ⟨⟨k + 1, by have := HKN.out; omega, ?_, by rw [HL.out], HB.out⟩, rfl⟩; go_num)
                case measure => have := HKN.out; simp [intOf]; omega
          · obtain rfl : n = k := by omega
            have k0 : ¬ (n : Int) < (n : Int) := by omega
            have hrg := lst_rng p n
            have HB : Hid _ := hB
            have hup := HUP.out
            clear hB hkn hk
            by_cases hneg : lst p n < 0
            · rw [if_pos hneg] at hup
              have HU : Hid (false = U) := hup
              clear hup hrg
              go_wp2
              go_ret
              exact ⟨by rw [← HU.out]; rfl, HB.out⟩
            · rw [if_neg hneg] at hup
              obtain ⟨b, hb⟩ : ∃ b : Nat, lst p n = (b : Int) := ⟨(lst p n).toNat, by omega⟩
              rw [hb] at hup hrg hneg ⊢
              rw [Int.toNat_natCast] at hup
              have HU : Hid ((frS l).up f b = U) := hup
              have HBN : Hid (b < n) := by show _ < _; omega
              clear hup hrg hb
              go_wp2
              go_roundw
              case rel => first | exact ⟨j + 1, b, by have := HJ.out; omega, by go_num, rfl, HBN.out, by have := HJ.out; rw [show n + 1 - (j + 1) = f by omega]; exact HU.out, HB.out⟩ | ((repeat apply Exists.intro); refine ⟨⟨j + 1, b, by have := HJ.out; omega, ?_, rfl, HBN.out, by have := HJ.out; rw [show n + 1 - (j + 1) = f by omega]; exact HU.out, HB.out⟩, rfl⟩; go_num)
              case measure => have := HJ.out; simp [intOf]; omega
    · obtain rfl : j = n + 1 := by omega
      have i0 : ¬ ((n : Int) + 1) ≤ (n : Int) := by omega
      rw [Nat.sub_self] at hup
      have HU : Hid (false = U) := hup
      have HB : Hid _ := hB
      clear hup hB hlt hj
      go_wp2
      go_ret
      exact ⟨by rw [← HU.out]; rfl, HB.out⟩
/-! Ids that are not 0 and stand once -/
namespace Fr
variable (F : Fr)
def inr (i : Nat) : Nat → Bool
  | 0 => true
  | k + 1 => inr i k && !(F.id k == F.id i)
def wnt : Nat → Bool
  | 0 => true
  | i + 1 => (wnt i && !(F.id i == 0)) && F.inr i i
variable {F : Fr}
theorem inr_iff {i : Nat} : ∀ {k : Nat}, F.inr i k = true ↔ ∀ j, j < k → F.id j ≠ F.id i
  | 0 => by simp [inr]
  | k + 1 => by
    unfold inr
    rw [Bool.and_eq_true, inr_iff]
    simp
    constructor
    · rintro ⟨h1, h2⟩ j hj
      by_cases e : j = k
      · rw [e]; exact h2
      · exact h1 j (by omega)
    · intro h
      exact ⟨fun j hj => h j (by omega), h k (by omega)⟩
theorem wnt_iff : ∀ {n : Nat}, F.wnt n = true ↔ ∀ i, i < n → F.id i ≠ 0 ∧ ∀ j, j < i → F.id j ≠ F.id i
  | 0 => by simp [wnt]
  | n + 1 => by
    unfold wnt
    rw [Bool.and_eq_true, Bool.and_eq_true, wnt_iff, inr_iff]
    simp
    constructor
    · rintro ⟨⟨h1, h2⟩, h3⟩ i hi
      by_cases e : i = n
      · subst e; exact ⟨h2, h3⟩
      · exact h1 i (by omega)
    · intro h
      exact ⟨⟨fun i hi => h i (by omega), (h n (by omega)).1⟩, (h n (by omega)).2⟩
end Fr
theorem isS_wnt (l : List Sn) (hs : ∀ s ∈ l, s.ok) : isS l = ((frS l).wnt l.length && (List.range l.length).all ((frS l).up (l.length + 1))) := by
  have hfn := frS_n l
  have hG : (frS l).Good := frO_good (map_ok hs)
  have hid : ∀ i s, l[i]? = some s → ((frS l).id i = 0 ↔ s.id = 0) := fun i s h => by
    rw [frS_id h]
    have := hs s (List.mem_of_getElem? h)
    unfold Sn.ok at this
    omega
  rw [Bool.eq_iff_iff]
  have hE : isS l = true ↔ (∀ s ∈ l, s.id ≠ 0) ∧ (∀ i, i < l.length → (frS l).twice i = false) ∧ (∀ i, i < l.length → (frS l).noPa i = false) ∧ ∀ i, i < l.length → (frS l).cyc i = false := by
    unfold isS
    rw [Bool.and_eq_true, List.all_eq_true, decide_eq_true_iff]
    show _ ∧ (Fr.sel (frS l).twice l.length).length + (Fr.sel (frS l).noPa l.length).length + (Fr.sel (frS l).cyc l.length).length = 0 ↔ _
    rw [← sel_nil, ← sel_nil, ← sel_nil, ← List.length_eq_zero_iff, ← List.length_eq_zero_iff, ← List.length_eq_zero_iff]
    constructor
    · rintro ⟨h1, h2⟩
      exact ⟨fun s h => by simpa using h1 s h, by omega, by omega, by omega⟩
    · rintro ⟨h1, h2, h3, h4⟩
      exact ⟨fun s h => by simpa using h1 s h, by omega⟩
  rw [hE, Bool.and_eq_true, Fr.wnt_iff, List.all_eq_true]
  have hcd : (∀ s ∈ l, s.id ≠ 0) → ∀ i, i < l.length → (frS l).cd i = true := fun h i hi => by
    have hg := List.getElem?_eq_getElem hi
    unfold Fr.cd
    rw [frS_ok hg, frS_la hg, Bool.and_true]
    simpa using h _ (List.mem_of_getElem? hg)
  have hkp : (∀ s ∈ l, s.id ≠ 0) → (∀ i, i < l.length → (frS l).twice i = false) → ∀ i, i < (frS l).n → (frS l).kp i = true := fun h1 h2 i hi => by
    rw [hfn] at hi
    have a := hcd h1 i hi
    have b := h2 i hi
    unfold Fr.twice at b
    rw [a, Bool.true_and] at b
    unfold Fr.kp
    rw [a, b]; rfl
  constructor
  · rintro ⟨h1, h2, h3, h4⟩
    refine ⟨fun i hi => ⟨fun h0 => ?_, fun j hj e => ?_⟩, fun i hi => ?_⟩
    · have hg := List.getElem?_eq_getElem hi
      exact h1 _ (List.mem_of_getElem? hg) ((hid i _ hg).1 h0)
    · have b := h2 i hi
      unfold Fr.twice at b
      rw [hcd h1 i hi, Bool.true_and] at b
      have c := Fr.lower_iff.2 ⟨j, hj, hcd h1 j (by omega), e⟩
      rw [b] at c; cases c
    · have := (Fr.up_iff hG (hkp h1 h2)).2 ⟨fun i hi => h3 i (by rw [← hfn]; exact hi), fun i hi => h4 i (by rw [← hfn]; exact hi)⟩ i (by rw [hfn]; simpa using hi)
      rw [hfn] at this; exact this
  · rintro ⟨h1, h2⟩
    have z1 : ∀ s ∈ l, s.id ≠ 0 := fun s hsl h0 => by
      obtain ⟨i, hi, e⟩ := List.mem_iff_getElem.1 hsl
      exact (h1 i hi).1 ((hid i s (by rw [List.getElem?_eq_getElem hi, e])).2 h0)
    have z2 : ∀ i, i < l.length → (frS l).twice i = false := fun i hi => by
      unfold Fr.twice
      cases hl : (frS l).lower i
      · rw [Bool.and_false]
      · exfalso
        obtain ⟨j, j1, -, j3⟩ := Fr.lower_iff.1 hl
        exact (h1 i hi).2 j j1 j3
    have z3 := (Fr.up_iff hG (hkp z1 z2)).1 (fun i hi => by
      have := h2 i (by rw [hfn] at hi; simpa using hi)
      rw [hfn]; exact this)
    exact ⟨z1, z2, fun i hi => z3.1 i (by rw [hfn]; exact hi), fun i hi => z3.2 i (by rw [hfn]; exact hi)⟩
theorem wnt_kp (l : List Sn) (h : (frS l).wnt l.length = true) : ∀ k, k < l.length → (frS l).kp k = true := fun k hk => by
  rw [Fr.wnt_iff] at h
  have hg := List.getElem?_eq_getElem hk
  have h1 := h k hk
  unfold Fr.kp Fr.cd
  rw [frS_ok hg, frS_la hg, Bool.and_true]
  have e1 : (!(l[k].id == 0)) = true := by
    have := h1.1
    rw [frS_id hg] at this
    simp
    intro h0; rw [h0] at this; simp at this
  rw [e1]
  cases hl : (frS l).lower k
  · rfl
  · obtain ⟨j, j1, -, j3⟩ := Fr.lower_iff.1 hl
    exact absurd j3 (h1.2 j j1)
set_option linter.unusedSimpArgs false in
set_option maxRecDepth 100000 in
set_option maxHeartbeats 8000000 in
theorem lawForestIs_any (O : ForOk) (l : List Sn) (x : Option Addr) (n c : Nat) (w : World) (hn : l.length = n) (h41 : n ≤ 3518437208780) (hs : ∀ s ∈ l, s.ok) (hl : IsK snE w (.slice x n c) l) :
    Calls Try.prog 5 #[.slice x n c] w fun e w' => e = .returned (.bool true) ∧ Below w.heap.size w w' := by
  have kK := fun W => known21 O W
  have HIS : Hid (isS l = ((frS l).wnt n && (List.range n).all ((frS l).up (n + 1)))) := by rw [← hn]; exact isS_wnt l hs
  go_enter Try.func5, Try.ntmps5
  go_wp2_with fail
  refine (kK _).mono ?_
  rintro e X ⟨rfl, hBX⟩
  clear kK
  go_wp2_with fail
  go_loopw [3, 4] (fun wv iv wr => ∃ i : Nat, i ≤ n ∧ iv = .int .i64 i ∧ wv = .bool ((frS l).wnt i) ∧ Below w.heap.size w wr) (fun _ iv _ => n - (intOf iv).toNat)
  case atStart => exact ⟨0, by omega, rfl, rfl, hBX⟩
  case round =>
    clear hBX
    obtain ⟨i, hi, rfl, rfl, hB⟩ := hrel
    by_cases hlt : i < n
    · obtain ⟨s, hsa⟩ : ∃ s, l[i]? = some s := ⟨_, List.getElem?_eq_getElem (by omega)⟩
      have hrs := hs s (List.mem_of_getElem? hsa)
      unfold Sn.ok at hrs
      obtain ⟨D, hD⟩ : ∃ q : Nat, s.id = (q : Int) := ⟨s.id.toNat, by omega⟩
      have hid := frS_id hsa
      rw [hD, Int.toNat_natCast] at hid
      obtain ⟨g, o, e9, -, c0, -, -, -⟩ := snE_cells (hl.kept hB) i s hsa
      subst e9
      rw [hD] at c0
      have i0 : (i : Int) < (n : Int) := by omega
      have i1 : (0 : Int) ≤ (i : Int) := by omega
      have FK : Hid ((0 : Int) ≤ (i : Int) ∧ (i : Int) < (n : Int)) := ⟨i1, i0⟩
      have HI : Hid (i < n) := hlt
      have HS : Hid (l[i]? = some s ∧ s.id = (D : Int)) := ⟨hsa, hD⟩
      obtain ⟨b, hb⟩ : ∃ q, (frS l).wnt i = q := ⟨_, rfl⟩
      obtain ⟨nz, hnz⟩ : ∃ q, (!((D : Int) == 0)) = q := ⟨_, rfl⟩
      have HNZ : Hid (((D : Int) != 0) = nz) := hnz
      have HB0 : Hid (((frS l).wnt i && !((frS l).id i == 0)) = (b && nz)) := by
        show _ = _
        rw [hb, hid, ← hnz]
        congr 2
        by_cases h0 : D = 0
        · subst h0; rfl
        · rw [beq_eq_false_iff_ne.2 h0, beq_eq_false_iff_ne.2 (show (D : Int) ≠ 0 by omega)]
      rw [hb]
      have HID : Hid ((frS l).id i = D) := hid
      clear hsa hrs hD hid hnz hb hi hlt
      go_upto_region 7 with fail
      refine wp_plainsT [Fx (.bool b), Fx (.bool b), Fx (bif b then .slice (some ⟨g, o, none⟩) n c else undef), Fx (bif b then .int .i64 (i : Int) else undef), Fx (bif b then .pointer (some ⟨g, o + i * 34, none⟩) else undef), Fx (bif b then .pointer (some ⟨g, o + i * 34, none⟩) else undef), Fx (bif b then .int .u32 (D : Int) else undef), Fx (bif b then .bool nz else undef), Fx (.bool (b && nz))] (by kernel_rfl) (by kernel_rfl) ?_ ?_ ?_
      · repeat' (first | exact all_nil | apply all_cons)
        all_goals intro v y y' hv hb
        all_goals first | exact Fx_mono _ _ _ _ hv hb
      · refine ⟨?_, ?_, ?_, ?_, ?_, ?_, ?_, ?_, ?_, trivial⟩
        all_goals
          intro ρ x_1 hp ρc ρg ρf ho hd
          have o0 : ρ (.tmp 0) = .slice (some ⟨g, o, none⟩) n c := ho 0 rfl
          have o3 : ρ (.tmp 3) = .bool b := ho 3 rfl
          have o4 : ρ (.tmp 4) = .int .i64 (i : Int) := ho 4 rfl
          clear ho
          have y0 := cell_later hp c0
          simp only [depsR, depR, slotR, Fx, List.getElem?_cons_succ, List.getElem?_cons_zero, Region.binds, forall_const] at hd
          simp only [guardR]
          go_split_ands
        · go_simp
        · go_simp
        · refine ⟨fun hy => ?_, fun hy => ?_⟩
          · obtain rfl : b = true := by cases b <;> first | rfl | (exfalso; simp [yieldR, slotR, undef, *] at hy)
            go_simp
          · obtain rfl : b = false := by cases b <;> first | rfl | (exfalso; simp [yieldR, slotR, undef, *] at hy)
            rfl
        · refine ⟨fun hy => ?_, fun hy => ?_⟩
          · obtain rfl : b = true := by cases b <;> first | rfl | (exfalso; simp [yieldR, slotR, undef, *] at hy)
            go_simp
          · obtain rfl : b = false := by cases b <;> first | rfl | (exfalso; simp [yieldR, slotR, undef, *] at hy)
            rfl
        · refine ⟨fun hy => ?_, fun hy => ?_⟩
          · obtain rfl : b = true := by cases b <;> first | rfl | (exfalso; simp [yieldR, slotR, undef, *] at hy)
            obtain ⟨z1, z2⟩ := FK.out
            go_simp
          · obtain rfl : b = false := by cases b <;> first | rfl | (exfalso; simp [yieldR, slotR, undef, *] at hy)
            rfl
        · refine ⟨fun hy => ?_, fun hy => ?_⟩
          · obtain rfl : b = true := by cases b <;> first | rfl | (exfalso; simp [yieldR, slotR, undef, *] at hy)
            go_simp
          · obtain rfl : b = false := by cases b <;> first | rfl | (exfalso; simp [yieldR, slotR, undef, *] at hy)
            rfl
        · refine ⟨fun hy => ?_, fun hy => ?_⟩
          · obtain rfl : b = true := by cases b <;> first | rfl | (exfalso; simp [yieldR, slotR, undef, *] at hy)
            go_simp
          · obtain rfl : b = false := by cases b <;> first | rfl | (exfalso; simp [yieldR, slotR, undef, *] at hy)
            rfl
        · refine ⟨fun hy => ?_, fun hy => ?_⟩
          · obtain rfl : b = true := by cases b <;> first | rfl | (exfalso; simp [yieldR, slotR, undef, *] at hy)
            have z := HNZ.out
            go_simp
          · obtain rfl : b = false := by cases b <;> first | rfl | (exfalso; simp [yieldR, slotR, undef, *] at hy)
            rfl
        · cases b <;> go_simp
      · intro vs x1 hp hw
        simp only [owed, Fx] at hw
        obtain ⟨e0, e1, e2, e3, e4, e5, e6, e7, e8, -⟩ := hw
        simp only [List.length_cons, List.length_nil, List.take_succ_cons, List.take_zero, List.drop_succ_cons, List.drop_zero, asg, List.cons_append, List.nil_append, e0, e1, e2, e3, e4, e5, e6, e7, e8]
        clear e0 e1 e2 e3 e4 e5 e6 e7 e8

        have hB1 := hB.trans (hp.mono hB.size)
        clear hp hB c0
        go_wp2_with fail
        go_loopw [3, 5] (fun wv kv wr => ∃ k : Nat, k ≤ i ∧ kv = .int .i64 k ∧ wv = .bool ((b && nz) && (frS l).inr i k) ∧ Below w.heap.size w wr) (fun _ kv _ => i - (intOf kv).toNat)
        case atStart => exact ⟨0, by omega, rfl, by simp [Fr.inr], hB1⟩
        case round =>
          clear hB1
          obtain ⟨k, hk, rfl, rfl, hB⟩ := hrel
          by_cases hki : k < i
          · have hin := HI.out
            obtain ⟨s2, hs2⟩ : ∃ s, l[k]? = some s := ⟨_, List.getElem?_eq_getElem (by omega)⟩
            have hrs := hs s2 (List.mem_of_getElem? hs2)
            unfold Sn.ok at hrs
            obtain ⟨D2, hD2⟩ : ∃ q : Nat, s2.id = (q : Int) := ⟨s2.id.toNat, by omega⟩
            have hid2 := frS_id hs2
            rw [hD2, Int.toNat_natCast] at hid2
            obtain ⟨g9, o9, e9, -, d0, -, -, -⟩ := snE_cells (hl.kept hB) k s2 hs2
            cases e9
            obtain ⟨g9, o9, e9, -, c0, -, -, -⟩ := snE_cells (hl.kept hB) i s HS.out.1
            cases e9
            rw [hD2] at d0
            rw [HS.out.2] at c0
            have k0 : (k : Int) < (i : Int) := by omega
            have FK2 : Hid ((0 : Int) ≤ (k : Int) ∧ (k : Int) < (n : Int) ∧ (0 : Int) ≤ (i : Int) ∧ (i : Int) < (n : Int)) := ⟨by omega, by omega, FK.out.1, FK.out.2⟩
            obtain ⟨b2, hb2⟩ : ∃ q, ((b && nz) && (frS l).inr i k) = q := ⟨_, rfl⟩
            obtain ⟨nz2, hnz2⟩ : ∃ q, (!((D2 : Int) == (D : Int))) = q := ⟨_, rfl⟩
            have HNZ2 : Hid (((D2 : Int) != (D : Int)) = nz2) := hnz2
            have HN2 : Hid ((b2 && nz2) = ((b && nz) && (frS l).inr i (k + 1))) := by
              show _ = _
              rw [← hb2, ← hnz2]
              conv => rhs; unfold Fr.inr
              rw [← Bool.and_assoc, hid2, HID.out]
              congr 2
              by_cases h0 : D2 = D
              · rw [h0]; simp
              · rw [beq_eq_false_iff_ne.2 h0, beq_eq_false_iff_ne.2 (show (D2 : Int) ≠ (D : Int) by omega)]
            have HKI : Hid (k < i) := hki
            rw [hb2]
            clear hs2 hrs hD2 hid2 hb2 hnz2 hki hk hin
            go_upto_region 11 with fail
            refine wp_reliesT [Fx (.bool b2), Fx (.bool b2), Fx (bif b2 then .slice (some ⟨g, o, none⟩) n c else undef), Fx (bif b2 then .int .i64 (k : Int) else undef), Fx (bif b2 then .pointer (some ⟨g, o + k * 34, none⟩) else undef), Fx (bif b2 then .pointer (some ⟨g, o + k * 34, none⟩) else undef), Fx (bif b2 then .int .u32 (D2 : Int) else undef), Fx (bif b2 then .slice (some ⟨g, o, none⟩) n c else undef), Fx (bif b2 then .int .i64 (i : Int) else undef), Fx (bif b2 then .pointer (some ⟨g, o + i * 34, none⟩) else undef), Fx (bif b2 then .pointer (some ⟨g, o + i * 34, none⟩) else undef), Fx (bif b2 then .int .u32 (D : Int) else undef), Fx (bif b2 then .bool nz2 else undef), Fx (.bool (b2 && nz2))] (by kernel_rfl) (by kernel_rfl) ?_ ?_ ?_
            · repeat' (first | exact all_nil | apply all_cons)
              all_goals intro v y y' hv hb
              all_goals first | exact Fx_mono _ _ _ _ hv hb
            · refine ⟨?_, ?_, ?_, ?_, ?_, ?_, ?_, ?_, ?_, ?_, ?_, ?_, ?_, ?_, trivial⟩
              all_goals
                intro ρ x_1 hp ρc ρg ρf ho hd
                have o0 : ρ (.tmp 0) = .slice (some ⟨g, o, none⟩) n c := ho 0 rfl
                have o3 : ρ (.tmp 3) = .bool b2 := ho 3 rfl
                have o4 : ρ (.tmp 4) = .int .i64 (i : Int) := ho 4 rfl
                have o5 : ρ (.tmp 5) = .int .i64 (k : Int) := ho 5 rfl
                clear ho
                have y0 := cell_later hp c0
                have y1 := cell_later hp d0
                simp only [depsR, depR, slotR, Fx, List.getElem?_cons_succ, List.getElem?_cons_zero, Region.binds, forall_const] at hd
                simp only [guardR]
                go_split_ands
              · go_simp
              · go_simp
              · refine ⟨fun hy => ?_, fun hy => ?_⟩
                · obtain rfl : b2 = true := by cases b2 <;> first | rfl | (exfalso; simp [yieldR, slotR, undef, *] at hy)
                  go_simp
                · obtain rfl : b2 = false := by cases b2 <;> first | rfl | (exfalso; simp [yieldR, slotR, undef, *] at hy)
                  rfl
              · refine ⟨fun hy => ?_, fun hy => ?_⟩
                · obtain rfl : b2 = true := by cases b2 <;> first | rfl | (exfalso; simp [yieldR, slotR, undef, *] at hy)
                  go_simp
                · obtain rfl : b2 = false := by cases b2 <;> first | rfl | (exfalso; simp [yieldR, slotR, undef, *] at hy)
                  rfl
              · refine ⟨fun hy => ?_, fun hy => ?_⟩
                · obtain rfl : b2 = true := by cases b2 <;> first | rfl | (exfalso; simp [yieldR, slotR, undef, *] at hy)
                  obtain ⟨z1, z2, z3, z4⟩ := FK2.out
                  go_simp
                · obtain rfl : b2 = false := by cases b2 <;> first | rfl | (exfalso; simp [yieldR, slotR, undef, *] at hy)
                  rfl
              · refine ⟨fun hy => ?_, fun hy => ?_⟩
                · obtain rfl : b2 = true := by cases b2 <;> first | rfl | (exfalso; simp [yieldR, slotR, undef, *] at hy)
                  go_simp
                · obtain rfl : b2 = false := by cases b2 <;> first | rfl | (exfalso; simp [yieldR, slotR, undef, *] at hy)
                  rfl
              · refine ⟨fun hy => ?_, fun hy => ?_⟩
                · obtain rfl : b2 = true := by cases b2 <;> first | rfl | (exfalso; simp [yieldR, slotR, undef, *] at hy)
                  go_simp
                · obtain rfl : b2 = false := by cases b2 <;> first | rfl | (exfalso; simp [yieldR, slotR, undef, *] at hy)
                  rfl
              · refine ⟨fun hy => ?_, fun hy => ?_⟩
                · obtain rfl : b2 = true := by cases b2 <;> first | rfl | (exfalso; simp [yieldR, slotR, undef, *] at hy)
                  go_simp
                · obtain rfl : b2 = false := by cases b2 <;> first | rfl | (exfalso; simp [yieldR, slotR, undef, *] at hy)
                  rfl
              · refine ⟨fun hy => ?_, fun hy => ?_⟩
                · obtain rfl : b2 = true := by cases b2 <;> first | rfl | (exfalso; simp [yieldR, slotR, undef, *] at hy)
                  go_simp
                · obtain rfl : b2 = false := by cases b2 <;> first | rfl | (exfalso; simp [yieldR, slotR, undef, *] at hy)
                  rfl
              · refine ⟨fun hy => ?_, fun hy => ?_⟩
                · obtain rfl : b2 = true := by cases b2 <;> first | rfl | (exfalso; simp [yieldR, slotR, undef, *] at hy)
                  obtain ⟨z1, z2, z3, z4⟩ := FK2.out
                  go_simp
                · obtain rfl : b2 = false := by cases b2 <;> first | rfl | (exfalso; simp [yieldR, slotR, undef, *] at hy)
                  rfl
              · refine ⟨fun hy => ?_, fun hy => ?_⟩
                · obtain rfl : b2 = true := by cases b2 <;> first | rfl | (exfalso; simp [yieldR, slotR, undef, *] at hy)
                  go_simp
                · obtain rfl : b2 = false := by cases b2 <;> first | rfl | (exfalso; simp [yieldR, slotR, undef, *] at hy)
                  rfl
              · refine ⟨fun hy => ?_, fun hy => ?_⟩
                · obtain rfl : b2 = true := by cases b2 <;> first | rfl | (exfalso; simp [yieldR, slotR, undef, *] at hy)
                  go_simp
                · obtain rfl : b2 = false := by cases b2 <;> first | rfl | (exfalso; simp [yieldR, slotR, undef, *] at hy)
                  rfl
              · refine ⟨fun hy => ?_, fun hy => ?_⟩
                · obtain rfl : b2 = true := by cases b2 <;> first | rfl | (exfalso; simp [yieldR, slotR, undef, *] at hy)
                  have z := HNZ2.out
                  go_simp
                · obtain rfl : b2 = false := by cases b2 <;> first | rfl | (exfalso; simp [yieldR, slotR, undef, *] at hy)
                  rfl
              · cases b2 <;> go_simp
            · intro vs x2 hp hw
              simp only [owed, Fx] at hw
              obtain ⟨e0, e1, e2, e3, e4, e5, e6, e7, e8, e9, e10, e11, e12, e13, -⟩ := hw
              simp only [List.length_cons, List.length_nil, List.take_succ_cons, List.take_zero, List.drop_succ_cons, List.drop_zero, asg, List.cons_append, List.nil_append, e0, e1, e2, e3, e4, e5, e6, e7, e8, e9, e10, e11, e12, e13]
              clear e0 e1 e2 e3 e4 e5 e6 e7 e8 e9 e10 e11 e12 e13
              have HB : Hid _ := hB.trans (hp.mono hB.size)
              have i0' : (i : Int) < (n : Int) := FK.out.2
              clear hp hB c0 d0
              go_wp2
              go_roundw
              case rel => first | exact ⟨k + 1, by have := HKI.out; omega, by go_num, by rw [← HN2.out], HB.out⟩ | ((repeat apply Exists.intro); refine ⟨⟨k + 1, by have := HKI.out; omega, ?_, by rw [← HN2.out], HB.out⟩, rfl⟩; go_num)
              case measure => have := HKI.out; simp [intOf]; omega
          · obtain rfl : i = k := by omega
            have k0 : ¬ (i : Int) < (i : Int) := by omega
            have HW : Hid (((b && nz) && (frS l).inr i i) = (frS l).wnt (i + 1)) := by
              show _ = _
              rw [← HB0.out]; rfl
            have HB : Hid _ := hB
            have i0' : (i : Int) < (n : Int) := FK.out.2
            clear hB hki hk
            go_wp2
            go_roundw
            case rel => first | exact ⟨i + 1, by have := HI.out; omega, by go_num, by rw [HW.out], HB.out⟩ | ((repeat apply Exists.intro); refine ⟨⟨i + 1, by have := HI.out; omega, ?_, by rw [HW.out], HB.out⟩, rfl⟩; go_num)
            case measure => have := HI.out; simp [intOf]; omega
    · obtain rfl : n = i := by omega
      have i0 : ¬ (n : Int) < (n : Int) := by omega
      clear hlt hi
      obtain ⟨wo, hwo⟩ : ∃ wo, wo = wr := ⟨_, rfl⟩
      rw [← hwo] at hB ⊢
      clear hwo
      obtain ⟨W9, hW9⟩ : ∃ q, (frS l).wnt n = q := ⟨_, rfl⟩
      rw [hW9]
      go_wp2_with fail
      clear i0
      go_loopw [3, 6] (fun wv iv wr => ∃ i : Nat, i ≤ n ∧ iv = .int .i64 i ∧ wv = .bool (W9 && (List.range i).all ((frS l).up (n + 1))) ∧ Below w.heap.size w wr) (fun _ iv _ => n - (intOf iv).toNat)
      case atStart => exact ⟨0, by omega, rfl, by simp, hB⟩
      case round =>
        clear hB
        obtain ⟨i, hi, rfl, rfl, hB⟩ := hrel
        obtain ⟨b, hb⟩ : ∃ q, (W9 && (List.range i).all ((frS l).up (n + 1))) = q := ⟨_, rfl⟩
        have hfin : (i = n ∨ b = false) → isS l = b := fun h => by
          rw [HIS.out, hW9]
          rcases h with h | h
          · rw [h] at hb; exact hb
          · rw [← hb]
            rw [h] at hb
            rw [hb]
            cases hW : W9
            · rfl
            · rw [hW, Bool.true_and] at hb
              rw [Bool.true_and]
              rw [List.all_eq_false] at hb ⊢
              obtain ⟨a, a1, a2⟩ := hb
              exact ⟨a, by simp at a1 ⊢; omega, a2⟩
        have kIs := fun W (hbW : Below w.heap.size w W) => O.is l x n c W hn (by omega) hs (hl.kept hbW)
        have hfinal : (i = n ∨ b = false) → Hid (isS l = b) := hfin
        rw [hb]
        by_cases hlt : i < n
        · have i0 : (i : Int) < (n : Int) := by omega
          have HI : Hid (i < n) := hlt
          cases hbb : b
          · have HE := hfinal (.inr hbb)
            rw [hbb] at HE
            clear hfin hfinal hbb hlt hi
            go_wp2_with fail
            refine (kIs _ hB).mono ?_
            rintro e w5 ⟨rfl, hb5⟩
            have HB : Hid _ := hB.trans (hb5.mono hB.size)
            rw [HE.out]
            clear kIs hB hb5 hb
            go_wp2
            go_ret
            exact ⟨rfl, HB.out⟩
          · have hWt : W9 = true := by rw [hbb] at hb; cases W9; · cases hb
                                       rfl
            have kU := up21 l x n c i wr hn (by omega) hlt hs (hl.kept hB) (fun k hk => by
              rw [← hn] at hk
              exact wnt_kp l (by rw [hn, hW9, hWt]) k hk)
            have hnext : (W9 && (List.range (i + 1)).all ((frS l).up (n + 1))) = (frS l).up (n + 1) i := by
              rw [List.range_succ, List.all_append, ← Bool.and_assoc, hb, hbb]
              simp
            have HN : Hid _ := hnext
            clear hfin hfinal hbb hlt hi kIs hb hnext
            go_wp2_with fail
            refine kU.mono ?_
            rintro e w5 ⟨rfl, hb5⟩
            have HB : Hid _ := hB.trans (hb5.mono hB.size)
            clear kU hB hb5
            go_wp2
            go_roundw
            case rel => first | exact ⟨i + 1, by have := HI.out; omega, by go_num, by rw [HN.out], HB.out⟩ | ((repeat apply Exists.intro); refine ⟨⟨i + 1, by have := HI.out; omega, ?_, by rw [HN.out], HB.out⟩, rfl⟩; go_num)
            case measure => have := HI.out; simp [intOf]; omega
        · obtain rfl : n = i := by omega
          have i0 : ¬ (n : Int) < (n : Int) := by omega
          have HE := hfinal (.inl rfl)
          clear hfin hfinal hlt hi
          go_wp2_with fail
          refine (kIs _ hB).mono ?_
          rintro e w5 ⟨rfl, hb5⟩
          have HB : Hid _ := hB.trans (hb5.mono hB.size)
          rw [HE.out]
          clear kIs hB hb5 hb
          go_wp2
          go_ret
          exact ⟨by cases b <;> rfl, HB.out⟩
end Go.Proofs.Ytligjfofnafjeaa
