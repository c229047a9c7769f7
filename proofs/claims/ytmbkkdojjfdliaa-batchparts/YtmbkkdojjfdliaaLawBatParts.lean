
import Derived.Test.YtmbkkdojjfdliaaBat8
namespace Go.Proofs.Ytmbkkdojjfdliaa
open Go.RowKit

/-! BatchParts -/
theorem cutW_part (S : List Wr) (i : Nat) (d : List Wr) (h : (cutW S)[i]? = some d) : 1 ≤ d.length ∧ d.length ≤ 8 ∧ (i + 1 < nbW S.length → d.length = 8) := by
  have hi : i < nbW S.length := by
    have := (List.getElem?_eq_some_iff.1 h).1
    rwa [cutW_len] at this
  rw [cutW_get S i hi] at h
  cases h
  unfold nbW at hi ⊢
  rw [List.length_take, List.length_drop]
  refine ⟨?_, ?_, fun h9 => ?_⟩ <;> omega
def lastW (l : List Wr) (a : Int) : Nat → Int
  | 0 => -1
  | k + 1 => if (l[k]?.map fun y => y.1) = some a then (k : Int) else lastW l a k
theorem lastW_yes (l : List Wr) (a : Int) (k : Nat) (y : Wr) (h : l[k]? = some y) (e : y.1 = a) : lastW l a (k + 1) = (k : Int) := by
  unfold lastW
  rw [h, if_pos (by rw [← e]; rfl)]
theorem lastW_no (l : List Wr) (a : Int) (k : Nat) (y : Wr) (h : l[k]? = some y) (e : ¬ y.1 = a) : lastW l a (k + 1) = lastW l a k := by
  show (if (l[k]?.map fun y => y.1) = some a then (k : Int) else lastW l a k) = _
  simp [h, e]
theorem lastW_at (l : List Wr) (x : Wr) (k0 : Nat) (h : l[k0]? = some x) (hn : ∀ (j : Nat) (e : Wr), k0 < j → l[j]? = some e → e.1 ≠ x.1) : ∀ k, k0 < k → k ≤ l.length → lastW l x.1 k = (k0 : Int)
  | 0, h0, _ => by omega
  | k + 1, h0, hl => by
    obtain ⟨y, hy⟩ : ∃ y, l[k]? = some y := ⟨_, List.getElem?_eq_getElem (by omega)⟩
    by_cases e : k = k0
    · subst e
      exact lastW_yes l x.1 k x h rfl
    · rw [lastW_no l x.1 k y hy (hn k y (by omega) hy)]
      exact lastW_at l x k0 h hn k (by omega) (by omega)
def anyW (S : List Wr) (a : Int) (j : Nat) : Bool := (S.take j).any fun y => y.1 == a
theorem anyW_next (S : List Wr) (a : Int) (j : Nat) (y : Wr) (h : S[j]? = some y) : anyW S a (j + 1) = (anyW S a j || (y.1 == a)) := by
  unfold anyW
  rw [List.take_add_one, h, List.any_append]
  simp
theorem anyW_end (l : List Wr) (k : Nat) (x : Wr) (h : l[k]? = some x) : anyW (srtW l) x.1 (srtW l).length = true := by
  obtain ⟨d, h1, h2⟩ := srtW_at l k x h
  unfold anyW
  rw [List.take_length, List.any_eq_true]
  exact ⟨d, h1, by simp [h2]⟩
set_option linter.unusedSimpArgs false in
set_option maxRecDepth 100000 in
set_option maxHeartbeats 40000000 in
theorem lawBatParts (H : BatOk) (l : List Wr) (x0 : Option Addr) (n c : Nat) (w : World) (hn : l.length = n) (hl : IsK wrE w (.slice x0 n c) l) (hn47 : (n + 1) * 72 ≤ 140737488355328) :
    Calls Try.prog 3 #[.slice x0 n c] w fun e w' => e = .returned (.bool true) ∧ Below w.heap.size w w' := by
  have hKn := known26_any H w
  have hsl := srtW_len l
  obtain ⟨S, hS⟩ : ∃ q, srtW l = q := ⟨_, rfl⟩
  have HS : Hid (srtW l = S) := hS
  rw [hS] at hsl
  clear hS
  go_enter Try.func3, Try.ntmps3
  go_wp2_with fail
  refine hKn.mono ?_
  rintro e w1 ⟨rfl, b1⟩
  clear hKn
  have hC := H.cut l x0 n c w1 hn (hl.kept b1) hn47
  go_wp2_with fail
  refine hC.mono ?_
  rintro e w2 ⟨yc, k, cc, ps, rfl, hk, hP, b2⟩
  clear hC
  rw [HS.out] at hk hP
  have HF : Hid (BatOk ∧ l.length = n ∧ IsK wrE w (.slice x0 n c) l ∧ (n + 1) * 72 ≤ 140737488355328) := ⟨H, hn, hl, hn47⟩
  have HB : Hid (Below w.heap.size w w2) := b1.trans (b2.mono b1.size)
  have HI : Hid (IsLL w2 (.slice yc k cc) (cutW S)) := hP.isLL
  have HKk : Hid (nbW S.length = k ∧ S.length ≤ n ∧ k ≤ n ∧ (cutW S).length = k) := ⟨hk, by omega, by unfold nbW at hk; omega, by rw [cutW_len]; exact hk⟩
  clear hl hn hn47 b1 b2 hP hk hsl
  go_wp2_with fail
  go_loopw [4, 5] (fun v iv wr => ∃ (i : Nat) (yr : Option Addr) (m cr : Nat), i ≤ k ∧ iv = .int .i64 i ∧ v = .slice yr m cr ∧ ((cutW S).take i).flatten.length = m ∧ OwnK wrE wr w2.heap.size (.slice yr m cr) ((cutW S).take i).flatten ∧ Below w2.heap.size w2 wr) (fun _ iv _ => k - (intOf iv).toNat)
  case atStart => exact ⟨0, none, 0, 0, Nat.zero_le _, rfl, rfl, rfl, OwnK.nil _ _ _, Below.refl _ _⟩
  case round =>
    obtain ⟨i, yr, m, cr, hik, rfl, rfl, hm, oR, hBr⟩ := hrel
    have hz9 := HKk.out.2.2.1
    have hz8 := HF.out.2.2.2
    by_cases hlt : i < k
    · have i0 : (0 : Int) ≤ (i : Int) := by omega
      have i1 : (i : Int) < (k : Int) := by omega
      have hz7 : (i : Int) + 1 ≤ 1954687338267 := by omega
      obtain ⟨d, hd⟩ : ∃ q, (cutW S)[i]? = some q := ⟨_, List.getElem?_eq_getElem (by have := HKk.out.2.2.2; omega)⟩
      obtain ⟨b9, o9, yd, dd, rfl, hb9, q1, kd⟩ := (HI.out.kept hBr).at i d hd
      obtain ⟨nd, hnd⟩ : ∃ q, d.length = q := ⟨_, rfl⟩
      obtain ⟨p1, p2, p3⟩ := cutW_part S i d hd
      rw [HKk.out.1] at p3
      rw [hnd] at q1 kd p1 p2 p3
      have hfn := flat_next (cutW S) 0 i d (Nat.zero_le _) hd
      have hfl := flat_len S 0 (i + 1)
      rw [List.drop_zero, List.drop_zero] at hfn
      rw [List.drop_zero, hfn, List.length_append, hm, hnd] at hfl
      have hsn := HKk.out.2.1
      obtain ⟨v3, c3, w3, hr, o3, b3, -, -⟩ := run_appAll wrE_ok wr w2.heap.size yr m cr _ d yd nd dd (m + nd) 22 oR kd hm hnd rfl (by show (m + nd) * 72 ≤ _; omega) (by unfold maxLen; omega) hBr.size
      have HO : Hid (OwnK wrE w3 w2.heap.size (.slice v3 (m + nd) c3) ((cutW S).take (i + 1)).flatten) := by show OwnK _ _ _ _ _; rw [hfn]; exact o3
      have HL : Hid (((cutW S).take (i + 1)).flatten.length = m + nd) := by show _ = _; rw [hfn, List.length_append, hm, hnd]
      have HB3 : Hid (Below w2.heap.size w2 w3) := hBr.trans b3
      replace hr : (Builtin.append_ #[22, 22] 22 #[.slice yr m cr, .slice yd nd dd]).run Try.prog wr = .ok (.slice v3 (m + nd) c3) w3 := hr
      clear hfn hfl hsn o3 b3 oR hm hBr kd hnd hd
      have n1 : ¬ (nd : Int) < 1 := by omega
      have n2 : ¬ nd = 0 := by omega
      have n3 : ¬ (nd : Int) > 8 := by omega
      have n4 : ¬ 8 < nd := by omega
      by_cases hl9 : i + 1 < k
      · obtain rfl : nd = 8 := p3 hl9
        have k1 : (i : Int) < (k : Int) - 1 := by omega
        clear p1 p2 p3 n1 n2 n3 n4 hl9
        go_wp2_with (at_builtin; refine wpL_appT 22 rfl _ _ rfl _ w3 (by exact hr) ?_)
        go_roundw
        case rel => exact ⟨i + 1, _, _, _, by omega, by go_num, rfl, HL.out, HO.out, HB3.out⟩
        case measure => simp [intOf]; omega
      · have k1 : ¬ (i : Int) < (k : Int) - 1 := by omega
        clear p3 hl9
        go_wp2_with (at_builtin; refine wpL_appT 22 rfl _ _ rfl _ w3 (by exact hr) ?_)
        go_roundw
        case rel => exact ⟨i + 1, _, _, _, by omega, by go_num, rfl, HL.out, HO.out, HB3.out⟩
        case measure => simp [intOf]; omega
    · obtain rfl : i = k := by omega
      have i1 : ¬ (i : Int) < (i : Int) := by omega
      rw [List.take_of_length_le (by rw [HKk.out.2.2.2]; omega), cutW_all] at hm oR
      have HR : Hid (S.length = m ∧ IsK wrE wr (.slice yr m cr) S ∧ m ≤ n) := ⟨hm, oR.isK wrE_ok, by have := HKk.out.2.1; omega⟩
      obtain ⟨k, rfl⟩ : ∃ q, q = i := ⟨_, rfl⟩
      obtain ⟨wa, rfl⟩ : ∃ q, q = wr := ⟨_, rfl⟩
      have HBA : Hid (Below w2.heap.size w2 wa) := hBr
      clear hm oR hBr hik hlt
      go_wp2_with fail
      clear i1
      go_loopw [6] (fun iv wr => ∃ i : Nat, i ≤ m ∧ iv = .int .i64 i ∧ Below wa.heap.size wa wr) (fun iv _ => m - (intOf iv).toNat)
      case atStart => exact ⟨0, Nat.zero_le _, rfl, Below.refl _ _⟩
      case round =>
        obtain ⟨i, him, rfl, hB3⟩ := hrel
        have hz7 := HR.out.2.2
        by_cases hlt : i < m
        · have i0 : (0 : Int) ≤ (i : Int) := by omega
          have i1 : (i : Int) < (m : Int) := by omega
          obtain ⟨x, hx⟩ : ∃ q, S[i]? = some q := ⟨_, List.getElem?_eq_getElem (by have := HR.out.1; omega)⟩
          obtain ⟨gf, of, rfl, hgf, hrf⟩ := HR.out.2.1.at i x hx
          obtain ⟨k0, hk0, hkn⟩ := (srtW_mem l x).1 (by rw [HS.out]; exact List.mem_of_getElem? hx)
          have hBl : Below w.heap.size w wa := HB.out.trans (HBA.out.mono HB.out.size)
          obtain ⟨gl, ol, rfl, hgl, hrl⟩ := (HF.out.2.2.1.kept hBl).at k0 x hk0
          have hk0n : k0 < n := by have := (List.getElem?_eq_some_iff.1 hk0).1; have := HF.out.2.1; omega
          have HX : Hid (S[i]? = some x ∧ l[k0]? = some x ∧ k0 < n ∧ (∀ (j : Nat) (e : Wr), k0 < j → l[j]? = some e → e.1 ≠ x.1)) := ⟨hx, hk0, hk0n, hkn⟩
          have HRG : Hid (wa.rangeAt gf (of + i * 65) (wrE.enc x) ∧ wa.rangeAt gl (ol + k0 * 65) (wrE.enc x)) := ⟨hrf, hrl⟩
          obtain ⟨wb, rfl⟩ : ∃ q, q = wr := ⟨_, rfl⟩
          have HBB : Hid (Below wa.heap.size wa wb) := hB3
          clear hx hk0 hkn hrf hrl hB3 hBl
          go_wp2_with fail
          go_loopw [7, 8] (fun lv kv wr => ∃ q : Nat, q ≤ n ∧ kv = .int .i64 q ∧ lv = .int .i64 (lastW l x.1 q) ∧ Below wb.heap.size wb wr) (fun _ kv _ => n - (intOf kv).toNat)
          case atStart => exact ⟨0, Nat.zero_le _, rfl, rfl, Below.refl _ _⟩
          case round =>
            obtain ⟨q, hqn, rfl, rfl, hB4⟩ := hrel
            have hBw : Below wa.heap.size wa wr := HBB.out.trans (hB4.mono HBB.out.size)
            by_cases hqt : q < n
            · have j0 : (0 : Int) ≤ (q : Int) := by omega
              have j1 : (q : Int) < (n : Int) := by omega
              have j2 : (q : Int) + 1 ≤ 1954687338267 := by omega
              obtain ⟨y, hy⟩ : ∃ d, l[q]? = some d := ⟨_, List.getElem?_eq_getElem (by have := HF.out.2.1; omega)⟩
              obtain ⟨g3, o3, he3, hg3, hr3⟩ := (HF.out.2.2.1.kept (HB.out.trans ((HBA.out.trans (hBw.mono HBA.out.size)).mono HB.out.size))).at q y hy
              simp only [Option.some.injEq, Addr.mk.injEq, and_true] at he3
              obtain ⟨rfl, rfl⟩ := he3
              have q1 : wr.cell? ⟨gl, ol + q * 65, none⟩ = some (.int .i64 y.1) := wr_at26 hr3
              have q2 := wr_at26 (range_later HRG.out.1 hBw)
              have HB4 : Hid (Below wb.heap.size wb wr) := hB4
              obtain ⟨r9, hr9⟩ : ∃ t, (y.1 == x.1) = t := ⟨_, rfl⟩
              have HR9 : Hid ((y.1 == x.1) = r9) := hr9
              have FI : Hid ((0 : Int) ≤ (i : Int) ∧ (i : Int) < (m : Int)) := ⟨i0, i1⟩
              have FQ : Hid ((0 : Int) ≤ (q : Int) ∧ (q : Int) < (n : Int)) := ⟨j0, j1⟩
              have HY : Hid (l[q]? = some y) := hy
              clear hr3 hBw hB4 hr9 hy
              go_upto_region 18 with fail
              refine wp_relies [Fx (.slice (some ⟨gl, ol, none⟩) n c), Fx (.int .i64 (q : Int)), Fx (.pointer (some ⟨gl, ol + q * 65, none⟩)), Fx (.pointer (some ⟨gl, ol + q * 65, none⟩)), Fx (.int .i64 y.1), Fx (.slice (some ⟨gf, of, none⟩) m cr), Fx (.int .i64 (i : Int)), Fx (.pointer (some ⟨gf, of + i * 65, none⟩)), Fx (.pointer (some ⟨gf, of + i * 65, none⟩)), Fx (.int .i64 x.1), Fx (.bool r9)] (by kernel_rfl) (by kernel_rfl) ?_ ?_ ?_
              · repeat' (first | exact all_nil | apply all_cons)
                all_goals intro v y y' hv hb
                all_goals first | exact Fx_mono _ _ _ _ hv hb
              · refine ⟨?_, ?_, ?_, ?_, ?_, ?_, ?_, ?_, ?_, ?_, ?_, trivial⟩
                all_goals
                  intro ρ y9 hp ρc ρg ρf ho hd
                  have o0 : ρ (.tmp 0) = .slice (some ⟨gl, ol, none⟩) n c := ho 0 rfl
                  have o4 : ρ (.tmp 4) = .slice (some ⟨gf, of, none⟩) m cr := ho 4 rfl
                  have o6 : ρ (.tmp 6) = .int .i64 (i : Int) := ho 6 rfl
                  have o8 : ρ (.tmp 8) = .int .i64 (q : Int) := ho 8 rfl
                  clear ho
                  replace q1 := cell_later hp q1
                  replace q2 := cell_later hp q2
                  simp only [depsR, depR, slotR, Fx, List.getElem?_cons_succ, List.getElem?_cons_zero, Region.binds, forall_const] at hd
                  simp only [guardR]
                  go_split_ands
                · go_simp
                · go_simp
                · obtain ⟨z1, z2⟩ := FQ.out
                  go_simp
                · go_simp
                · go_simp
                · go_simp
                · go_simp
                · obtain ⟨z1, z2⟩ := FI.out
                  go_simp
                · go_simp
                · go_simp
                · have z9 := HR9.out
                  go_simp
              · intro us x1 hp1 hw
                simp only [owed, Fx] at hw
                obtain ⟨e0, e1, e2, e3, e4, e5, e6, e7, e8, e9, e10, -⟩ := hw
                simp only [List.length_cons, List.length_nil, List.take_succ_cons, List.take_nil, List.drop_succ_cons, List.drop_nil, asg, List.cons_append, List.nil_append, e0, e1, e2, e3, e4, e5, e6, e7, e8, e9, e10]
                clear e0 e1 e2 e3 e4 e5 e6 e7 e8 e9 e10
                have HB5 : Hid (Below wb.heap.size wb x1) := HB4.out.trans (hp1.mono HB4.out.size)
                clear hp1 q1 q2
                cases r9 with
                | true =>
                  have HL : Hid (lastW l x.1 (q + 1) = (q : Int)) := lastW_yes l x.1 q y HY.out (by simpa using HR9.out)
                  go_wp2
                  go_roundw
                  case rel => exact ⟨q + 1, by omega, by go_num, by rw [HL.out], HB5.out⟩
                  case measure => simp [intOf]; omega
                | false =>
                  have HL : Hid (lastW l x.1 (q + 1) = lastW l x.1 q) := lastW_no l x.1 q y HY.out (by simpa using HR9.out)
                  go_wp2
                  go_roundw
                  case rel => exact ⟨q + 1, by omega, by go_num, by rw [HL.out], HB5.out⟩
                  case measure => simp [intOf]; omega
            · obtain rfl : q = n := by omega
              have j1 : ¬ (q : Int) < (q : Int) := by omega
              rw [lastW_at l x k0 HX.out.2.1 HX.out.2.2.2 q HX.out.2.2.1 (by have := HF.out.2.1; omega)]
              have q1 := range_later HRG.out.2 hBw
              have q2 := range_later HRG.out.1 hBw
              have HE : Hid (wrEq x x = true) := by show _ = _; rw [wrEq_dec]; simp
              have FI : Hid ((0 : Int) ≤ (i : Int) ∧ (i : Int) < (m : Int)) := ⟨i0, i1⟩
              have FD : Hid (decide ((k0 : Int) < 0) = false) := decide_eq_false (by omega)
              have FK0 : Hid ((0 : Int) ≤ (k0 : Int) ∧ (k0 : Int) < (q : Int)) := ⟨by omega, by have := HX.out.2.2.1; omega⟩
              have HB4 : Hid (Below wa.heap.size wa wr) := hBw
              obtain ⟨n, rfl⟩ : ∃ t, t = q := ⟨_, rfl⟩
              rcases Nat.eq_zero_or_pos i with rfl | hpos
              · clear hBw hB4
                rw [Nat.zero_mul, Nat.add_zero] at q2
                go_upto_region 20 with fail
                refine wp_relies [Fx (.int .i64 (k0 : Int)), Fx (.bool false), Fx (.bool false), Fx (.slice (some ⟨gl, ol, none⟩) n c), Fx (.int .i64 (k0 : Int)), Fx (.pointer (some ⟨gl, ol + k0 * 65, none⟩)), Fx (.agg (wrA x)), Fx (.slice (some ⟨gf, of, none⟩) m cr), Fx (.int .i64 0), Fx (.pointer (some ⟨gf, of, none⟩)), Fx (.agg (wrA x)), Fx (.bool false), Fx (.bool false), Fx (.bool false), Fx (.int .i64 0), Fx (.bool false), Fx (.bool false), Fx (undef), Fx (undef), Fx (undef), Fx (undef), Fx (undef), Fx (undef), Fx (undef), Fx (undef), Fx (undef), Fx (undef), Fx (undef), Fx (undef), Fx (.bool false), Fx (.bool false)] (by kernel_rfl) (by kernel_rfl) ?_ ?_ ?_
                · repeat' (first | exact all_nil | apply all_cons)
                  all_goals intro v y y' hv hb
                  all_goals first | exact Fx_mono _ _ _ _ hv hb
                · refine ⟨?_, ?_, ?_, ?_, ?_, ?_, ?_, ?_, ?_, ?_, ?_, ?_, ?_, ?_, ?_, ?_, ?_, ?_, ?_, ?_, ?_, ?_, ?_, ?_, ?_, ?_, ?_, ?_, ?_, ?_, ?_, trivial⟩
                  all_goals
                    intro ρ y9 hp ρc ρg ρf ho hd
                    have o0 : ρ (.tmp 0) = .slice (some ⟨gl, ol, none⟩) n c := ho 0 rfl
                    have o4 : ρ (.tmp 4) = .slice (some ⟨gf, of, none⟩) m cr := ho 4 rfl
                    have o6 : ρ (.tmp 6) = .int .i64 0 := ho 6 rfl
                    have o7 : ρ (.tmp 7) = .int .i64 (k0 : Int) := ho 7 rfl
                    clear ho
                    replace q1 := range_later q1 hp
                    replace q2 := range_later q2 hp
                    obtain ⟨rg1, rg2⟩ := wr_rg26 q1
                    obtain ⟨rg3, rg4⟩ := wr_rg26 q2
                    clear q1 q2
                    simp only [depsR, depR, slotR, Fx, List.getElem?_cons_succ, List.getElem?_cons_zero, Region.binds, forall_const] at hd
                    simp only [guardR]
                    go_split_ands
                  · go_simp
                  · have z9 := FD.out
                    go_simp
                  · go_simp
                  · refine ⟨fun _ => ?_, fun hy => absurd (by simp [yieldR, slotR, *]) hy⟩
                    go_simp
                  · refine ⟨fun _ => ?_, fun hy => absurd (by simp [yieldR, slotR, *]) hy⟩
                    go_simp
                  · refine ⟨fun _ => ?_, fun hy => absurd (by simp [yieldR, slotR, *]) hy⟩
                    obtain ⟨z1, z2⟩ := FK0.out
                    go_simp
                  · refine ⟨fun _ => ?_, fun hy => absurd (by simp [yieldR, slotR, *]) hy⟩
                    go_simp
                  · refine ⟨fun _ => ?_, fun hy => absurd (by simp [yieldR, slotR, *]) hy⟩
                    go_simp
                  · refine ⟨fun _ => ?_, fun hy => absurd (by simp [yieldR, slotR, *]) hy⟩
                    go_simp
                  · refine ⟨fun _ => ?_, fun hy => absurd (by simp [yieldR, slotR, *]) hy⟩
                    obtain ⟨z1, z2⟩ := FI.out
                    go_simp
                  · refine ⟨fun _ => ?_, fun hy => absurd (by simp [yieldR, slotR, *]) hy⟩
                    go_simp
                  · refine ⟨fun _ => ?_, fun hy => absurd (by simp [yieldR, slotR, *]) hy⟩
                    have z9 := HE.out
                    go_simp
                  · go_simp
                  · go_simp
                  · refine ⟨fun _ => ?_, fun hy => absurd (by simp [yieldR, slotR, *]) hy⟩
                    go_simp
                  · refine ⟨fun _ => ?_, fun hy => absurd (by simp [yieldR, slotR, *]) hy⟩
                    go_simp
                  · refine ⟨fun _ => ?_, fun hy => absurd (by simp [yieldR, slotR, *]) hy⟩
                    go_simp
                  · refine ⟨fun hy => ?_, fun _ => rfl⟩
                    exfalso; simp [yieldR, slotR, undef, *] at hy
                  · refine ⟨fun hy => ?_, fun _ => rfl⟩
                    exfalso; simp [yieldR, slotR, undef, *] at hy
                  · refine ⟨fun hy => ?_, fun _ => rfl⟩
                    exfalso; simp [yieldR, slotR, undef, *] at hy
                  · refine ⟨fun hy => ?_, fun _ => rfl⟩
                    exfalso; simp [yieldR, slotR, undef, *] at hy
                  · refine ⟨fun hy => ?_, fun _ => rfl⟩
                    exfalso; simp [yieldR, slotR, undef, *] at hy
                  · refine ⟨fun hy => ?_, fun _ => rfl⟩
                    exfalso; simp [yieldR, slotR, undef, *] at hy
                  · refine ⟨fun hy => ?_, fun _ => rfl⟩
                    exfalso; simp [yieldR, slotR, undef, *] at hy
                  · refine ⟨fun hy => ?_, fun _ => rfl⟩
                    exfalso; simp [yieldR, slotR, undef, *] at hy
                  · refine ⟨fun hy => ?_, fun _ => rfl⟩
                    exfalso; simp [yieldR, slotR, undef, *] at hy
                  · refine ⟨fun hy => ?_, fun _ => rfl⟩
                    exfalso; simp [yieldR, slotR, undef, *] at hy
                  · refine ⟨fun hy => ?_, fun _ => rfl⟩
                    exfalso; simp [yieldR, slotR, undef, *] at hy
                  · refine ⟨fun hy => ?_, fun _ => rfl⟩
                    exfalso; simp [yieldR, slotR, undef, *] at hy
                  · refine ⟨fun _ => ?_, fun hy => absurd (by simp [yieldR, slotR, *]) hy⟩
                    go_simp
                  · go_simp
                · intro us x1 hp1 hw
                  simp only [owed, Fx] at hw
                  obtain ⟨e0, e1, e2, e3, e4, e5, e6, e7, e8, e9, e10, e11, e12, e13, e14, e15, e16, e17, e18, e19, e20, e21, e22, e23, e24, e25, e26, e27, e28, e29, e30, -⟩ := hw
                  simp only [List.length_cons, List.length_nil, List.take_succ_cons, List.take_nil, List.drop_succ_cons, List.drop_nil, asg, List.cons_append, List.nil_append, e0, e1, e2, e3, e4, e5, e6, e7, e8, e9, e10, e11, e12, e13, e14, e15, e16, e17, e18, e19, e20, e21, e22, e23, e24, e25, e26, e27, e28, e29, e30]
                  clear e0 e1 e2 e3 e4 e5 e6 e7 e8 e9 e10 e11 e12 e13 e14 e15 e16 e17 e18 e19 e20 e21 e22 e23 e24 e25 e26 e27 e28 e29 e30
                  have HB5 : Hid (Below wa.heap.size wa x1) := HB4.out.trans (hp1.mono HB4.out.size)
                  clear hp1 q1 q2
                  go_wp2
                  go_roundw
                  case rel => exact ⟨1, by omega, by go_num, HB5.out⟩
                  case measure => simp [intOf]; omega
              · obtain ⟨x9, hx9⟩ : ∃ t, S[i - 1]? = some t := ⟨_, List.getElem?_eq_getElem (by have := HR.out.1; omega)⟩
                have hlx : x9.1 < x.1 := by
                  have h9 := srtW_rise l
                  rw [HS.out] at h9
                  have h8 := List.pairwise_iff_getElem.1 h9 (i - 1) i (by have := HR.out.1; omega) (by have := HR.out.1; omega) (by omega)
                  rw [List.getElem?_eq_some_iff] at hx9
                  obtain ⟨_, e9⟩ := hx9
                  obtain ⟨_, e8⟩ := List.getElem?_eq_some_iff.1 HX.out.1
                  rwa [e9, e8] at h8
                obtain ⟨g3, o3, he3, hg3, hr3⟩ := (HR.out.2.1.kept hBw).at (i - 1) x9 hx9
                simp only [Option.some.injEq, Addr.mk.injEq, and_true] at he3
                obtain ⟨rfl, rfl⟩ := he3
                have q3 : wr.cell? ⟨gf, of + (i - 1) * 65, none⟩ = some (.int .i64 x9.1) := wr_at26 hr3
                have q4 := wr_at26 q2
                have HLT : Hid ((x9.1 ≥ x.1) = False ∧ ¬ x.1 ≤ x9.1) := ⟨by simp; omega, by omega⟩
                have FP : Hid (0 < i ∧ (0 : Int) < (i : Int)) := ⟨hpos, by omega⟩
                have FP3 : Hid (IntKind.i64.wrap ((i : Int) - 1) = (i : Int) - 1 ∧ True) := ⟨by simp [IntKind.wrap, IntKind.bits, IntKind.signed]; omega, trivial⟩
                have FP2 : Hid ((0 : Int) ≤ (i : Int) - 1 ∧ (i : Int) - 1 < (m : Int) ∧ ((i : Int) - 1).toNat = i - 1 ∧ (1 : Int) ≤ (i : Int)) := ⟨by omega, by omega, by omega, by omega⟩
                clear hBw hB4 hx9 hlx hr3
                go_upto_region 20 with fail
                refine wp_relies [Fx (.int .i64 (k0 : Int)), Fx (.bool false), Fx (.bool false), Fx (.slice (some ⟨gl, ol, none⟩) n c), Fx (.int .i64 (k0 : Int)), Fx (.pointer (some ⟨gl, ol + k0 * 65, none⟩)), Fx (.agg (wrA x)), Fx (.slice (some ⟨gf, of, none⟩) m cr), Fx (.int .i64 (i : Int)), Fx (.pointer (some ⟨gf, of + i * 65, none⟩)), Fx (.agg (wrA x)), Fx (.bool false), Fx (.bool false), Fx (.bool false), Fx (.int .i64 (i : Int)), Fx (.bool true), Fx (.bool true), Fx (.slice (some ⟨gf, of, none⟩) m cr), Fx (.int .i64 (i : Int)), Fx (.int .i64 ((i : Int) - 1)), Fx (.pointer (some ⟨gf, of + (i - 1) * 65, none⟩)), Fx (.pointer (some ⟨gf, of + (i - 1) * 65, none⟩)), Fx (.int .i64 x9.1), Fx (.slice (some ⟨gf, of, none⟩) m cr), Fx (.int .i64 (i : Int)), Fx (.pointer (some ⟨gf, of + i * 65, none⟩)), Fx (.pointer (some ⟨gf, of + i * 65, none⟩)), Fx (.int .i64 x.1), Fx (.bool false), Fx (.bool false), Fx (.bool false)] (by kernel_rfl) (by kernel_rfl) ?_ ?_ ?_
                · repeat' (first | exact all_nil | apply all_cons)
                  all_goals intro v y y' hv hb
                  all_goals first | exact Fx_mono _ _ _ _ hv hb
                · refine ⟨?_, ?_, ?_, ?_, ?_, ?_, ?_, ?_, ?_, ?_, ?_, ?_, ?_, ?_, ?_, ?_, ?_, ?_, ?_, ?_, ?_, ?_, ?_, ?_, ?_, ?_, ?_, ?_, ?_, ?_, ?_, trivial⟩
                  all_goals
                    intro ρ y9 hp ρc ρg ρf ho hd
                    have o0 : ρ (.tmp 0) = .slice (some ⟨gl, ol, none⟩) n c := ho 0 rfl
                    have o4 : ρ (.tmp 4) = .slice (some ⟨gf, of, none⟩) m cr := ho 4 rfl
                    have o6 : ρ (.tmp 6) = .int .i64 (i : Int) := ho 6 rfl
                    have o7 : ρ (.tmp 7) = .int .i64 (k0 : Int) := ho 7 rfl
                    clear ho
                    replace q3 := cell_later hp q3
                    replace q4 := cell_later hp q4
                    replace q1 := range_later q1 hp
                    replace q2 := range_later q2 hp
                    obtain ⟨rg1, rg2⟩ := wr_rg26 q1
                    obtain ⟨rg3, rg4⟩ := wr_rg26 q2
                    clear q1 q2
                    simp only [depsR, depR, slotR, Fx, List.getElem?_cons_succ, List.getElem?_cons_zero, Region.binds, forall_const] at hd
                    simp only [guardR]
                    go_split_ands
                  · go_simp
                  · have z9 := FD.out
                    go_simp
                  · go_simp
                  · refine ⟨fun _ => ?_, fun hy => absurd (by simp [yieldR, slotR, *]) hy⟩
                    go_simp
                  · refine ⟨fun _ => ?_, fun hy => absurd (by simp [yieldR, slotR, *]) hy⟩
                    go_simp
                  · refine ⟨fun _ => ?_, fun hy => absurd (by simp [yieldR, slotR, *]) hy⟩
                    obtain ⟨z1, z2⟩ := FK0.out
                    go_simp
                  · refine ⟨fun _ => ?_, fun hy => absurd (by simp [yieldR, slotR, *]) hy⟩
                    go_simp
                  · refine ⟨fun _ => ?_, fun hy => absurd (by simp [yieldR, slotR, *]) hy⟩
                    go_simp
                  · refine ⟨fun _ => ?_, fun hy => absurd (by simp [yieldR, slotR, *]) hy⟩
                    go_simp
                  · refine ⟨fun _ => ?_, fun hy => absurd (by simp [yieldR, slotR, *]) hy⟩
                    obtain ⟨z1, z2⟩ := FI.out
                    go_simp
                  · refine ⟨fun _ => ?_, fun hy => absurd (by simp [yieldR, slotR, *]) hy⟩
                    go_simp
                  · refine ⟨fun _ => ?_, fun hy => absurd (by simp [yieldR, slotR, *]) hy⟩
                    have z9 := HE.out
                    go_simp
                  · go_simp
                  · go_simp
                  · refine ⟨fun _ => ?_, fun hy => absurd (by simp [yieldR, slotR, *]) hy⟩
                    go_simp
                  · refine ⟨fun _ => ?_, fun hy => absurd (by simp [yieldR, slotR, *]) hy⟩
                    obtain ⟨z1, z2⟩ := FP.out
                    go_simp
                  · refine ⟨fun _ => ?_, fun hy => absurd (by simp [yieldR, slotR, *]) hy⟩
                    go_simp
                  · refine ⟨fun _ => ?_, fun hy => absurd (by simp [yieldR, slotR, *]) hy⟩
                    go_simp
                  · refine ⟨fun _ => ?_, fun hy => absurd (by simp [yieldR, slotR, *]) hy⟩
                    go_simp
                  · refine ⟨fun _ => ?_, fun hy => absurd (by simp [yieldR, slotR, *]) hy⟩
                    obtain ⟨z1, z2⟩ := FP3.out
                    go_simp
                  · refine ⟨fun _ => ?_, fun hy => absurd (by simp [yieldR, slotR, *]) hy⟩
                    obtain ⟨z1, z2, z3, z4⟩ := FP2.out
                    go_simp
                  · refine ⟨fun _ => ?_, fun hy => absurd (by simp [yieldR, slotR, *]) hy⟩
                    go_simp
                  · refine ⟨fun _ => ?_, fun hy => absurd (by simp [yieldR, slotR, *]) hy⟩
                    go_simp
                  · refine ⟨fun _ => ?_, fun hy => absurd (by simp [yieldR, slotR, *]) hy⟩
                    go_simp
                  · refine ⟨fun _ => ?_, fun hy => absurd (by simp [yieldR, slotR, *]) hy⟩
                    go_simp
                  · refine ⟨fun _ => ?_, fun hy => absurd (by simp [yieldR, slotR, *]) hy⟩
                    obtain ⟨z1, z2⟩ := FI.out
                    go_simp
                  · refine ⟨fun _ => ?_, fun hy => absurd (by simp [yieldR, slotR, *]) hy⟩
                    go_simp
                  · refine ⟨fun _ => ?_, fun hy => absurd (by simp [yieldR, slotR, *]) hy⟩
                    go_simp
                  · refine ⟨fun _ => ?_, fun hy => absurd (by simp [yieldR, slotR, *]) hy⟩
                    have z9 := HLT.out
                    go_simp
                  · refine ⟨fun _ => ?_, fun hy => absurd (by simp [yieldR, slotR, *]) hy⟩
                    go_simp
                  · go_simp
                · intro us x1 hp1 hw
                  simp only [owed, Fx] at hw
                  obtain ⟨e0, e1, e2, e3, e4, e5, e6, e7, e8, e9, e10, e11, e12, e13, e14, e15, e16, e17, e18, e19, e20, e21, e22, e23, e24, e25, e26, e27, e28, e29, e30, -⟩ := hw
                  simp only [List.length_cons, List.length_nil, List.take_succ_cons, List.take_nil, List.drop_succ_cons, List.drop_nil, asg, List.cons_append, List.nil_append, e0, e1, e2, e3, e4, e5, e6, e7, e8, e9, e10, e11, e12, e13, e14, e15, e16, e17, e18, e19, e20, e21, e22, e23, e24, e25, e26, e27, e28, e29, e30]
                  clear e0 e1 e2 e3 e4 e5 e6 e7 e8 e9 e10 e11 e12 e13 e14 e15 e16 e17 e18 e19 e20 e21 e22 e23 e24 e25 e26 e27 e28 e29 e30
                  have HB5 : Hid (Below wa.heap.size wa x1) := HB4.out.trans (hp1.mono HB4.out.size)
                  clear hp1 q1 q2 q3 q4
                  go_wp2
                  go_roundw
                  case rel => exact ⟨i + 1, by omega, by go_num, HB5.out⟩
                  case measure => simp [intOf]; omega
        · obtain rfl : i = m := by omega
          have i1 : ¬ (i : Int) < (i : Int) := by omega
          obtain ⟨m, rfl⟩ : ∃ q, q = i := ⟨_, rfl⟩
          obtain ⟨wb, rfl⟩ : ∃ q, q = wr := ⟨_, rfl⟩
          have HBB : Hid (Below wa.heap.size wa wb) := hB3
          clear hB3 him hlt
          go_wp2_with fail
          clear i1
          go_loopw [9] (fun kv wr => ∃ q : Nat, q ≤ n ∧ kv = .int .i64 q ∧ Below wb.heap.size wb wr) (fun kv _ => n - (intOf kv).toNat)
          case atStart => exact ⟨0, Nat.zero_le _, rfl, Below.refl _ _⟩
          case round =>
            obtain ⟨q, hqn, rfl, hB3⟩ := hrel
            by_cases hqt : q < n
            · have j0 : (0 : Int) ≤ (q : Int) := by omega
              have j1 : (q : Int) < (n : Int) := by omega
              have hz6 : (q : Int) + 1 ≤ 1954687338267 := by omega
              obtain ⟨y, hy⟩ : ∃ d, l[q]? = some d := ⟨_, List.getElem?_eq_getElem (by have := HF.out.2.1; omega)⟩
              have hBl : Below w.heap.size w wr := HB.out.trans ((HBA.out.trans ((HBB.out.trans (hB3.mono HBB.out.size)).mono HBA.out.size)).mono HB.out.size)
              obtain ⟨gl, ol, rfl, hgl, hrl⟩ := (HF.out.2.2.1.kept hBl).at q y hy
              obtain ⟨wd, rfl⟩ : ∃ t, t = wr := ⟨_, rfl⟩
              have HQ : Hid (l[q]? = some y ∧ wd.rangeAt gl (ol + q * 65) (wrE.enc y) ∧ Below wb.heap.size wb wd) := ⟨hy, hrl, hB3⟩
              have FQ : Hid ((0 : Int) ≤ (q : Int) ∧ (q : Int) < (n : Int)) := ⟨j0, j1⟩
              clear hy hrl hB3 hBl
              go_wp2_with fail
              go_loopw [10, 11] (fun bv jv wr => ∃ j : Nat, j ≤ m ∧ jv = .int .i64 j ∧ bv = .bool (anyW S y.1 j) ∧ Below wd.heap.size wd wr) (fun _ jv _ => m - (intOf jv).toNat)
              case atStart => exact ⟨0, Nat.zero_le _, rfl, rfl, Below.refl _ _⟩
              case round =>
                obtain ⟨j, hjm, rfl, rfl, hB4⟩ := hrel
                by_cases hjt : j < m
                · have k0 : (0 : Int) ≤ (j : Int) := by omega
                  have k1 : (j : Int) < (m : Int) := by omega
                  have hz5 : (j : Int) + 1 ≤ 1954687338267 := by omega
                  obtain ⟨x, hx⟩ : ∃ d, S[j]? = some d := ⟨_, List.getElem?_eq_getElem (by have := HR.out.1; omega)⟩
                  obtain ⟨gf, of, rfl, hgf, hrf⟩ := (HR.out.2.1.kept (HBB.out.trans ((HQ.out.2.2.trans (hB4.mono HQ.out.2.2.size)).mono HBB.out.size))).at j x hx
                  have q1 : wr.cell? ⟨gf, of + j * 65, none⟩ = some (.int .i64 x.1) := wr_at26 hrf
                  have q2 := wr_at26 (range_later HQ.out.2.1 hB4)
                  obtain ⟨r9, hr9⟩ : ∃ t, (x.1 == y.1) = t := ⟨_, rfl⟩
                  have HR9 : Hid ((x.1 == y.1) = r9) := hr9
                  have hA := anyW_next S y.1 j x hx
                  rw [hr9] at hA
                  have HA : Hid _ := hA
                  have FJ : Hid ((0 : Int) ≤ (j : Int) ∧ (j : Int) < (m : Int)) := ⟨k0, k1⟩
                  have HB4 : Hid (Below wd.heap.size wd wr) := hB4
                  clear hx hrf hr9 hA hB4
                  cases hb : anyW S y.1 j with
                  | false =>
                    have HA2 : Hid (anyW S y.1 (j + 1) = r9) := by show _ = _; rw [HA.out, hb]; rfl
                    clear HA hb
                    go_upto_region 29 with fail
                    refine wp_reliesT [Fx (.bool false), Fx (.bool false), Fx (.slice (some ⟨gf, of, none⟩) m cr), Fx (.int .i64 (j : Int)), Fx (.pointer (some ⟨gf, of + j * 65, none⟩)), Fx (.pointer (some ⟨gf, of + j * 65, none⟩)), Fx (.int .i64 x.1), Fx (.slice (some ⟨gl, ol, none⟩) n c), Fx (.int .i64 (q : Int)), Fx (.pointer (some ⟨gl, ol + q * 65, none⟩)), Fx (.pointer (some ⟨gl, ol + q * 65, none⟩)), Fx (.int .i64 y.1), Fx (.bool r9), Fx (.bool r9)] (by kernel_rfl) (by kernel_rfl) ?_ ?_ ?_
                    · repeat' (first | exact all_nil | apply all_cons)
                      all_goals intro v y y' hv hb
                      all_goals first | exact Fx_mono _ _ _ _ hv hb
                    · refine ⟨?_, ?_, ?_, ?_, ?_, ?_, ?_, ?_, ?_, ?_, ?_, ?_, ?_, ?_, trivial⟩
                      all_goals
                        intro ρ y9 hp ρc ρg ρf ho hd
                        have o0 : ρ (.tmp 0) = .slice (some ⟨gl, ol, none⟩) n c := ho 0 rfl
                        have o4 : ρ (.tmp 4) = .slice (some ⟨gf, of, none⟩) m cr := ho 4 rfl
                        have o9 : ρ (.tmp 9) = .int .i64 (q : Int) := ho 9 rfl
                        have o10 : ρ (.tmp 10) = .bool false := ho 10 rfl
                        have o11 : ρ (.tmp 11) = .int .i64 (j : Int) := ho 11 rfl
                        clear ho
                        replace q1 := cell_later hp q1
                        replace q2 := cell_later hp q2
                        simp only [depsR, depR, slotR, Fx, List.getElem?_cons_succ, List.getElem?_cons_zero, Region.binds, forall_const] at hd
                        simp only [guardR]
                        go_split_ands
                      · go_simp
                      · go_simp
                      · refine ⟨fun _ => ?_, fun hy => absurd (by simp [yieldR, slotR, *]) hy⟩
                        go_simp
                      · refine ⟨fun _ => ?_, fun hy => absurd (by simp [yieldR, slotR, *]) hy⟩
                        go_simp
                      · refine ⟨fun _ => ?_, fun hy => absurd (by simp [yieldR, slotR, *]) hy⟩
                        obtain ⟨z1, z2⟩ := FJ.out
                        go_simp
                      · refine ⟨fun _ => ?_, fun hy => absurd (by simp [yieldR, slotR, *]) hy⟩
                        go_simp
                      · refine ⟨fun _ => ?_, fun hy => absurd (by simp [yieldR, slotR, *]) hy⟩
                        go_simp
                      · refine ⟨fun _ => ?_, fun hy => absurd (by simp [yieldR, slotR, *]) hy⟩
                        go_simp
                      · refine ⟨fun _ => ?_, fun hy => absurd (by simp [yieldR, slotR, *]) hy⟩
                        go_simp
                      · refine ⟨fun _ => ?_, fun hy => absurd (by simp [yieldR, slotR, *]) hy⟩
                        obtain ⟨z1, z2⟩ := FQ.out
                        go_simp
                      · refine ⟨fun _ => ?_, fun hy => absurd (by simp [yieldR, slotR, *]) hy⟩
                        go_simp
                      · refine ⟨fun _ => ?_, fun hy => absurd (by simp [yieldR, slotR, *]) hy⟩
                        go_simp
                      · refine ⟨fun _ => ?_, fun hy => absurd (by simp [yieldR, slotR, *]) hy⟩
                        have z9 := HR9.out
                        go_simp
                      · go_simp
                    · intro us x1 hp1 hw
                      simp only [owed, Fx] at hw
                      obtain ⟨e0, e1, e2, e3, e4, e5, e6, e7, e8, e9, e10, e11, e12, e13, -⟩ := hw
                      simp only [List.length_cons, List.length_nil, List.take_succ_cons, List.take_zero, List.drop_succ_cons, List.drop_zero, asg, List.cons_append, List.nil_append, e0, e1, e2, e3, e4, e5, e6, e7, e8, e9, e10, e11, e12, e13]
                      clear e0 e1 e2 e3 e4 e5 e6 e7 e8 e9 e10 e11 e12 e13
                      have HB5 : Hid (Below wd.heap.size wd x1) := HB4.out.trans (hp1.mono HB4.out.size)
                      clear hp1 q1 q2
                      go_wp2
                      go_roundw
                      case rel => exact ⟨j + 1, by omega, by go_num, by rw [HA2.out], HB5.out⟩
                      case measure => simp [intOf]; omega
                  | true =>
                    have HA2 : Hid (anyW S y.1 (j + 1) = true) := by show _ = _; rw [HA.out, hb]; rfl
                    clear HA hb
                    go_upto_region 29 with fail
                    refine wp_reliesT [Fx (.bool true), Fx (.bool true), Fx (undef), Fx (undef), Fx (undef), Fx (undef), Fx (undef), Fx (undef), Fx (undef), Fx (undef), Fx (undef), Fx (undef), Fx (undef), Fx (.bool true)] (by kernel_rfl) (by kernel_rfl) ?_ ?_ ?_
                    · repeat' (first | exact all_nil | apply all_cons)
                      all_goals intro v y y' hv hb
                      all_goals first | exact Fx_mono _ _ _ _ hv hb
                    · refine ⟨?_, ?_, ?_, ?_, ?_, ?_, ?_, ?_, ?_, ?_, ?_, ?_, ?_, ?_, trivial⟩
                      all_goals
                        intro ρ y9 hp ρc ρg ρf ho hd
                        have o10 : ρ (.tmp 10) = .bool true := ho 10 rfl
                        clear ho
                        replace q1 := cell_later hp q1
                        replace q2 := cell_later hp q2
                        simp only [depsR, depR, slotR, Fx, List.getElem?_cons_succ, List.getElem?_cons_zero, Region.binds, forall_const] at hd
                        simp only [guardR]
                        go_split_ands
                      · go_simp
                      · go_simp
                      · refine ⟨fun hy => ?_, fun _ => rfl⟩
                        exfalso; simp [yieldR, slotR, undef, *] at hy
                      · refine ⟨fun hy => ?_, fun _ => rfl⟩
                        exfalso; simp [yieldR, slotR, undef, *] at hy
                      · refine ⟨fun hy => ?_, fun _ => rfl⟩
                        exfalso; simp [yieldR, slotR, undef, *] at hy
                      · refine ⟨fun hy => ?_, fun _ => rfl⟩
                        exfalso; simp [yieldR, slotR, undef, *] at hy
                      · refine ⟨fun hy => ?_, fun _ => rfl⟩
                        exfalso; simp [yieldR, slotR, undef, *] at hy
                      · refine ⟨fun hy => ?_, fun _ => rfl⟩
                        exfalso; simp [yieldR, slotR, undef, *] at hy
                      · refine ⟨fun hy => ?_, fun _ => rfl⟩
                        exfalso; simp [yieldR, slotR, undef, *] at hy
                      · refine ⟨fun hy => ?_, fun _ => rfl⟩
                        exfalso; simp [yieldR, slotR, undef, *] at hy
                      · refine ⟨fun hy => ?_, fun _ => rfl⟩
                        exfalso; simp [yieldR, slotR, undef, *] at hy
                      · refine ⟨fun hy => ?_, fun _ => rfl⟩
                        exfalso; simp [yieldR, slotR, undef, *] at hy
                      · refine ⟨fun hy => ?_, fun _ => rfl⟩
                        exfalso; simp [yieldR, slotR, undef, *] at hy
                      · go_simp
                    · intro us x1 hp1 hw
                      simp only [owed, Fx] at hw
                      obtain ⟨e0, e1, e2, e3, e4, e5, e6, e7, e8, e9, e10, e11, e12, e13, -⟩ := hw
                      simp only [List.length_cons, List.length_nil, List.take_succ_cons, List.take_zero, List.drop_succ_cons, List.drop_zero, asg, List.cons_append, List.nil_append, e0, e1, e2, e3, e4, e5, e6, e7, e8, e9, e10, e11, e12, e13]
                      clear e0 e1 e2 e3 e4 e5 e6 e7 e8 e9 e10 e11 e12 e13
                      have HB5 : Hid (Below wd.heap.size wd x1) := HB4.out.trans (hp1.mono HB4.out.size)
                      clear hp1 q1 q2
                      go_wp2
                      go_roundw
                      case rel => exact ⟨j + 1, by omega, by go_num, by rw [HA2.out], HB5.out⟩
                      case measure => simp [intOf]; omega
                · obtain rfl : j = m := by omega
                  have k1 : ¬ (j : Int) < (j : Int) := by omega
                  have hE := anyW_end l q y HQ.out.1
                  rw [HS.out, HR.out.1] at hE
                  rw [hE]
                  have HB5 : Hid (Below wb.heap.size wb wr) := HQ.out.2.2.trans (hB4.mono HQ.out.2.2.size)
                  clear hE hB4
                  go_wp2
                  go_roundw
                  case rel => exact ⟨q + 1, by omega, by go_num, HB5.out⟩
                  case measure => simp [intOf]; omega
            · obtain rfl : q = n := by omega
              have j1 : ¬ (q : Int) < (q : Int) := by omega
              have hB5 : Below w2.heap.size w2 wr := HBA.out.trans ((HBB.out.trans (hB3.mono HBB.out.size)).mono HBA.out.size)
              have hBl : Below w.heap.size w wr := HB.out.trans (hB5.mono HB.out.size)
              have hFK : IsK wrE wr (.slice yr m cr) S := HR.out.2.1.kept (HBB.out.trans (hB3.mono HBB.out.size))
              have hL1 := HF.out.1.left l x0 q c (cutW S) yc k cc wr HF.out.2.1 (HF.out.2.2.1.kept hBl) HF.out.2.2.2 HKk.out.2.2.2 (HI.out.kept hB5) (by omega) (fun e he => by have := cutW_mem S e he; omega)
              rw [HS.out, leftW_cut S (by rw [← HS.out]; exact srtW_rise l)] at hL1
              go_wp2_with fail
              refine hL1.mono ?_
              rintro e wx ⟨y4, k4, c4, rfl, hk4, -, hbx⟩
              clear hL1
              cases hk4
              have hBx := hBl.trans (hbx.mono hBl.size)
              have hL2 := HF.out.1.left l x0 q c [] none 0 0 wx HF.out.2.1 (HF.out.2.2.1.kept hBx) HF.out.2.2.2 rfl (IsLL.nil wx) (by omega) (fun e he => by cases he)
              rw [HS.out, leftW_nil] at hL2
              have HZ : Hid (IsK wrE wx (.slice yr m cr) S ∧ Below w.heap.size w wx) := ⟨hFK.kept hbx, hBx⟩
              clear hBl hB5 hB3 hFK hbx hBx
              go_wp2_with fail
              refine hL2.mono ?_
              rintro e wy ⟨y5, k5, c5, rfl, hk5, o5, hby⟩
              clear hL2
              have hSa := same26_any y5 yr c5 cr k5 m S S wy hk5 HR.out.1 (o5.isK wrE_ok) (HZ.out.1.kept hby) (by have := HR.out.1; omega)
              have HZ2 : Hid (Below w.heap.size w wy) := HZ.out.2.trans (hby.mono HZ.out.2.size)
              simp only [decide_true] at hSa
              clear o5 hby
              go_wp2_with fail
              refine hSa.mono ?_
              rintro e wz ⟨rfl, hbz⟩
              clear hSa
              have HZ3 : Hid (Below w.heap.size w wz) := HZ2.out.trans (hbz.mono HZ2.out.size)
              clear hbz
              go_wp2
              go_ret
              exact ⟨rfl, HZ3.out⟩
end Go.Proofs.Ytmbkkdojjfdliaa
