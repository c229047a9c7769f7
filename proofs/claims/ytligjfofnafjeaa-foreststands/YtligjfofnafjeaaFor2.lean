
import Derived.Test.YtligjfofnafjeaaFor1
namespace Go.Proofs.Ytligjfofnafjeaa
open Go.RowKit

/-! assayref21.ring -/
theorem eltI21 : Elt 26 3 8 := ⟨Try.underlying26, by
  have h : (Try.prog.info? 3).map (fun i => (i.zero, i.size, i.bytes)) = some (some (.int .i64 0), 1, 8) := by kernel_rfl
  obtain ⟨i, hi, hzz⟩ := Option.map_eq_some_iff.1 h
  simp only [Prod.mk.injEq] at hzz
  exact ⟨i, _, hi, hzz.1, hzz.2.1, hzz.2.2, rfl⟩⟩
theorem at_eq (F : Fr) (K : Nat → Bool) (hK : ∀ k, k < F.n → K k = F.kp k) (x : Nat) : fnd (fun k => K k && F.id k == x) F.n = F.at_ x := by
  unfold Fr.at_
  exact fnd_eq fun k hk => by rw [hK k hk]
set_option linter.unusedSimpArgs false in
set_option maxRecDepth 100000 in
set_option maxHeartbeats 3200000 in
theorem refRing21 (l : List Rw) (x y : Option Addr) (n c d i : Nat) (K : Nat → Bool) (w : World) (hn : l.length = n) (h41 : n ≤ 3298534883328) (hi : i < n) (hs : ∀ r ∈ l, r.sn.ok) (hl : IsK rwE w (.slice x n c) l) (hk : IsG w (.slice y n d) (bF K n)) (hK : ∀ k, k < n → K k = (frO l).kp k) :
    Calls Try.prog 25 #[.slice x n c, .slice y n d, .int .i64 (i : Int)] w fun e w' => (∃ v, e = .returned v ∧ OwnG 3 w' w.heap.size v (iF ((frO l).ring i))) ∧ Below w.heap.size w w' := by
  have hfn : (frO l).n = n := hn
  have HA : Hid (∀ v, fnd (fun k => K k && (frO l).id k == v) n = (frO l).at_ v) := fun v => by
    have := at_eq (frO l) K (by rw [hfn]; exact hK) v
    rw [hfn] at this; exact this
  obtain ⟨R, hR⟩ : ∃ q, (frO l).ring i = q := ⟨_, rfl⟩
  have HR : Hid ((frO l).rg (n + 1) i i [] = R) := by rw [← hfn]; exact hR
  rw [hR]
  clear hR hK
  go_enter Try.func25, Try.ntmps25
  go_wp2_with fail
  go_loopw [7, 8, 9] (fun ov av jv wr => ∃ (j a : Nat) (out : List Nat), j ≤ n + 1 ∧ jv = .int .i64 j ∧ av = .int .i64 a ∧ a < n ∧ out.length = j ∧ OwnG 3 wr w.heap.size ov (iF out) ∧ (frO l).rg (n + 1 - j) i a out = R ∧ Below w.heap.size w wr) (fun _ _ jv _ => n + 1 - (intOf jv).toNat)
  case atStart => exact ⟨0, i, [], by omega, rfl, rfl, hi, rfl, OwnG.nil _ _ _, HR.out, Below.refl _ _⟩
  case round =>
    obtain ⟨j, a, out, hj, rfl, rfl, ha, hol, hO, hrg, hB⟩ := hrel
    by_cases hlt : j ≤ n
    · obtain ⟨r, hr⟩ : ∃ r, l[a]? = some r := ⟨_, List.getElem?_eq_getElem (by omega)⟩
      have hlk := hl.kept hB
      have hrs := hs r (List.mem_of_getElem? hr)
      unfold Sn.ok at hrs
      obtain ⟨V, hV⟩ : ∃ q : Nat, r.sn.pa = (q : Int) := ⟨r.sn.pa.toNat, by omega⟩
      have hpa := frO_pa hr
      rw [hV, Int.toNat_natCast] at hpa
      obtain ⟨f, hf⟩ : ∃ f, n + 1 - j = f + 1 := ⟨n - j, by omega⟩
      have HJ : Hid (j ≤ n ∧ out.length = j ∧ n - j = f) := ⟨hlt, hol, by omega⟩
      rw [hf] at hrg
      have hnx : (frO l).nx a = (frO l).at_ V := by unfold Fr.nx; rw [hpa]
      unfold Fr.rg at hrg
      rw [hnx] at hrg
      have hsp := Fr.at_spec (F := frO l) V
      rw [hfn] at hsp
      have i0 : (j : Int) ≤ (n : Int) := by omega
      have bC := below_alloc wr (.cells #[Value.int .i64 (a : Int)] 3)
      have hcl : (wr.alloc (.cells #[Value.int .i64 (a : Int)] 3)).cell? ⟨wr.heap.size, 0, none⟩ = some (.int .i64 (a : Int)) := cell_of_row _ _ 0 _ _ _ (heap_alloc_last _ _)
      obtain ⟨v', w', hra, hO2, hg, hB2⟩ := run_app1G eltI21 _ w.heap.size wr.heap.size 1 u7 (iF out) (.int .i64 (a : Int)) 26 (hO.keep bC) hcl rfl (by rw [iF_len]; omega) (by rw [iF_len]; unfold maxLen; omega) (Nat.le_trans hB.size bC.size)
      have e9 : iF out ++ [.int .i64 (a : Int)] = iF (out ++ [a]) := by rw [iF_app]; rfl
      rw [e9] at hO2
      have hB3 := (hB.trans (bC.mono hB.size)).trans hB2
      have hl3 := hl.kept hB3
      have hk3 := hk.kept hB3
      obtain ⟨g, o, rfl, -, -, -, -, c3⟩ := rwE_cells hl3 a r hr
      rw [hV] at c3
      have hF := refFind21 l (some ⟨g, o, none⟩) y n c d V K w' hn (by omega) hs hl3 hk3
      rw [HA.out V] at hF
      have i1 : (0 : Int) ≤ (a : Int) := by omega
      have i2 : (a : Int) < (n : Int) := by omega
      have HO : Hid _ := hO2
      have HB : Hid _ := hB3
      clear hO hB hlk bC hcl hg hB2 hO2 e9 hB3 hl3 hk3 hr hrs hV hpa hnx hj ha hol hlt hf
      go_wp2_with (at_builtin; refine wpL_appG 26 rfl _ _ rfl v' w' (by exact hra) ?_)
      refine hF.mono ?_
      rintro e w2 ⟨rfl, rfl⟩
      clear hF hra c3
      rcases hsp with ⟨h1, -⟩ | ⟨b, h1, h2, -, -⟩
      · rw [h1] at hrg ⊢
        have HRG : Hid ([] = R) := by rw [if_pos (by omega)] at hrg; exact hrg
        clear hrg h1
        go_wp2
        go_ret
        exact ⟨⟨_, rfl, by rw [← HRG.out]; exact OwnG.nil _ _ _⟩, HB.out⟩
      · rw [h1] at hrg ⊢
        rw [if_neg (by omega)] at hrg
        have n0 : ¬ (b : Int) < 0 := by omega
        by_cases hbi : b = i
        · subst hbi
          rw [if_pos rfl] at hrg
          have HRG : Hid (out ++ [a] = R) := hrg
          have hb : ((b : Int) == (b : Int)) = true := by simp
          clear hrg h1
          go_wp2
          go_ret
          exact ⟨⟨_, rfl, by rw [← HRG.out]; exact HO.out⟩, HB.out⟩
        · rw [if_neg (by omega), Int.toNat_natCast] at hrg
          have HRG : Hid ((frO l).rg f i b (out ++ [a]) = R) := hrg
          have hb : ((b : Int) == (i : Int)) = false := beq_eq_false_iff_ne.2 (by omega)
          have HBN : Hid (b < n) := h2
          clear hrg h1 hbi h2
          go_wp2
          go_roundw
          case rel => exact ⟨j + 1, b, out ++ [a], by have := HJ.out; omega, by go_num, rfl, HBN.out, by have := HJ.out; simp; omega, HO.out, by have := HJ.out; rw [show n + 1 - (j + 1) = f by omega]; exact HRG.out, HB.out⟩
          case measure => have := HJ.out; simp [intOf]; omega
    · obtain rfl : j = n + 1 := by omega
      have i0 : ¬ ((n : Int) + 1) ≤ (n : Int) := by omega
      rw [Nat.sub_self] at hrg
      have HRG : Hid ([] = R) := hrg
      have HB : Hid _ := hB
      clear hrg hB hO hlt hj hol
      go_wp2
      go_ret
      exact ⟨⟨_, rfl, by rw [← HRG.out]; exact OwnG.nil _ _ _⟩, HB.out⟩
end Go.Proofs.Ytligjfofnafjeaa
