import Derived.Test.YtadnfiikfhdphaaQStn
namespace Go.Proofs.Ytadnfiikfhdphaa
open Go.RowKit

/-! assaylaw05's stay -/
theorem row_cells {W : World} {B : Nat} {T : Nat → Option Th} {g : Nat} {b : Bk} (h : Ga W B T) (hk : T 16 = some (thRow g (bkA b))) : W.cell? ⟨g, 0, none⟩ = some b.S.v ∧ W.cell? ⟨g, 1, none⟩ = some b.WS.v ∧ W.cell? ⟨g, 2, none⟩ = some b.P.v ∧ W.cell? ⟨g, 3, none⟩ = some b.WP.v := by
  have hR := h.isRow hk
  exact ⟨by rw [hR.cell 0]; rfl, by rw [hR.cell 1]; rfl, by rw [hR.cell 2]; rfl, by rw [hR.cell 3]; rfl⟩
theorem fx_u8 (i : Int) (x : World) : Fx (.int .u8 (i % 256)) (.int .u8 (IntKind.u8.wrap i)) x := by
  unfold Fx IntKind.wrap
  simp [IntKind.bits, IntKind.signed]
theorem rg_on {w x : World} {b o k : Nat} {a : Array Value} (hp : Below w.heap.size w x) (hl : b < w.heap.size) (h1 : rgOk w b o k = true) (h2 : rg w b o k = a) : rgOk x b o k = true ∧ rg x b o k = a := by
  obtain ⟨e1, e2⟩ := rg_later hp hl o k
  exact ⟨by rw [e1]; exact h1, by rw [e2]; exact h2⟩
theorem map2_at {α : Type} {l m : List (Slc × List α)} (h : l.map (·.2) = m.map (·.2)) {i : Nat} {x y : Slc × List α} (hx : l[i]? = some x) (hy : m[i]? = some y) : x.2 = y.2 := by
  have h1 := congrArg (fun q => q[i]?) h
  simp only [List.getElem?_map, hx, hy, Option.map_some] at h1
  exact Option.some.inj h1
set_option linter.unusedSimpArgs false in
set_option maxRecDepth 100000 in
set_option maxHeartbeats 16000000 in
theorem stay5_any {W : World} {B : Nat} {T : Nat → Option Th} {ps : List Pr5} {b : Bk} {n : Nat} (h : G5 W B T ps b (bkA b)) (hb : BkOk n b) (hn : n ≤ 4194304) :
    Calls Try.prog 13 #[.pointer (some ⟨b.g, 0, none⟩)] W fun e w' => e = .returned (.bool true) ∧ Below B W w' := by
  obtain ⟨gk, hgk⟩ : ∃ q, b.g = q := ⟨_, rfl⟩
  have hszB : B ≤ W.heap.size := h.ga.size
  obtain ⟨nS, hnS⟩ : ∃ q, b.sS.length = q := ⟨_, rfl⟩
  obtain ⟨nP, hnP⟩ : ∃ q, b.sP.length = q := ⟨_, rfl⟩
  have hnW : b.sW.length = nS := by have := congrArg List.length hb.eS; simp at this; omega
  have hnV : b.sV.length = nP := by have := congrArg List.length hb.eP; simp at this; omega
  obtain ⟨⟨yS, n1, cS⟩, hbS⟩ : ∃ q, b.S = q := ⟨_, rfl⟩
  obtain rfl : n1 = nS := by have := h.nS.1; rw [hbS] at this; simp only at this; omega
  obtain ⟨⟨yW, n2, cW⟩, hbW⟩ : ∃ q, b.WS = q := ⟨_, rfl⟩
  obtain rfl : n2 = n1 := by have := h.nW.1; rw [hbW] at this; simp only at this; omega
  obtain ⟨⟨yP, n3, cP⟩, hbP⟩ : ∃ q, b.P = q := ⟨_, rfl⟩
  obtain rfl : n3 = nP := by have := h.nP.1; rw [hbP] at this; simp only at this; omega
  obtain ⟨⟨yV, n4, cV⟩, hbV⟩ : ∃ q, b.WP = q := ⟨_, rfl⟩
  obtain rfl : n4 = n3 := by have := h.nV.1; rw [hbV] at this; simp only at this; omega
  have hc1 := hb.cS
  have hc2 := hb.cP
  have HG : Hid (G5 W B T ps b (bkA b)) := h
  have Hb : Hid (BkOk n b) := hb
  have hcell : ∀ (wr : World) (T : Nat → Option Th), Ga wr B T → T 16 = some (thRow b.g (bkA b)) → wr.cell? ⟨gk, 0, none⟩ = some (.slice yS n2 cS) ∧ wr.cell? ⟨gk, 1, none⟩ = some (.slice yW n2 cW) ∧ wr.cell? ⟨gk, 2, none⟩ = some (.slice yP n4 cP) ∧ wr.cell? ⟨gk, 3, none⟩ = some (.slice yV n4 cV) := fun wr T h1 h2 => by
    obtain ⟨k0, k1, k2, k3⟩ := row_cells h1 h2
    rw [hgk] at k0 k1 k2 k3
    rw [hbS] at k0
    rw [hbW] at k1
    rw [hbP] at k2
    rw [hbV] at k3
    exact ⟨k0, k1, k2, k3⟩
  have hfS := h.nS.2
  have hfP := h.nP.2
  have hfW := h.nW.2
  have hfV := h.nV.2
  rw [hgk]
  have HC : Hid _ := hcell
  clear h hb hcell
  go_enter Try.func13, Try.ntmps13
  go_wp2
  go_loopw [3] (fun iv wr => ∃ i : Nat, i ≤ n2 ∧ iv = .int .i64 i ∧ Below W.heap.size W wr) (fun iv _ => n2 - (intOf iv).toNat)
  case atStart => exact ⟨0, by omega, rfl, Below.refl _ _⟩
  case round =>
    obtain ⟨i, hi, rfl, hbw⟩ := hrel
    have hG := HG.out.later hbw
    obtain ⟨ca0, ca1, ca2, ca3⟩ := HC.out _ _ hG.ga hG.book
    by_cases hlt : i < n2
    · have hlt' : (i : Int) < (n2 : Int) := by omega
      obtain ⟨⟨⟨x1y, x1n, x1c⟩, LL⟩, hx1⟩ : ∃ q, b.sS[i]? = some q := ⟨_, List.getElem?_eq_getElem (by omega)⟩
      obtain ⟨⟨⟨x2y, x2n, x2c⟩, L2⟩, hx2⟩ : ∃ q, b.sW[i]? = some q := ⟨_, List.getElem?_eq_getElem (by omega)⟩
      obtain rfl : LL = L2 := map2_at Hb.out.eS hx1 hx2
      have hO1 := hG.ga.isK (hG.lS i _ hx1)
      have hO2 := hG.ga.isKr (hG.lW i _ hx2)
      have hl1 := hfS _ (List.mem_of_getElem? hx1)
      have hl2 := hfW _ (List.mem_of_getElem? hx2)
      have hln := Hb.out.bS _ (List.mem_of_getElem? hx1)
      have hr1 := hG.ga.isG hG.S
      have hr2 := hG.ga.isG hG.WS
      rw [hbS] at hr1
      rw [hbW] at hr2
      simp only [Slc.v] at hr1 hr2 hO1 hO2
      obtain ⟨g1, rfl⟩ : ∃ g, yS = some ⟨g, 0, none⟩ := by
        obtain ⟨g, c8, eg, -⟩ := OwnG.form hr1 (List.ne_nil_of_length_pos (by rw [List.length_map]; omega))
        exact ⟨g, (Value.slice.inj eg).1⟩
      obtain ⟨g2, rfl⟩ : ∃ g, yW = some ⟨g, 0, none⟩ := by
        obtain ⟨g, c8, eg, -⟩ := OwnG.form hr2 (List.ne_nil_of_length_pos (by rw [List.length_map]; omega))
        exact ⟨g, (Value.slice.inj eg).1⟩
      have d1 : wr.cell? ⟨g1, i, none⟩ = some (.slice x1y x1n x1c) := hr1.cell i _ (by rw [List.getElem?_map, hx1]; rfl)
      have d2 : wr.cell? ⟨g2, i, none⟩ = some (.slice x2y x2n x2c) := hr2.cell i _ (by rw [List.getElem?_map, hx2]; rfl)
      have HI : Hid (IsK secE wr (.slice x1y x1n x1c) LL ∧ IsK secE wr (.slice x2y x2n x2c) LL ∧ LL.length = x1n ∧ LL.length = x2n ∧ LL.length ≤ 8388608) := ⟨hO1.isK secE_ok, hO2.isK secE_ok, hl1, hl2, by simp only at hln; omega⟩
      have FK : Hid ((i : Int) < (n2 : Int)) := hlt'
      have HBW : Hid _ := hbw
      have ca := ca0
      have cb := ca1
      clear hG hbw hO1 hO2 hr1 hr2 ca0 ca1 ca2 ca3 hl1 hl2 hln hx1 hx2
      go_upto_region 4 with fail
      clear hlt'
      refine wp_relies [Fx (.pointer (some ⟨gk, 0, none⟩)), Fx (.pointer (some ⟨gk, 0, none⟩)), Fx (.pointer (some ⟨gk, 0, none⟩)), Fx (.slice (some ⟨g1, 0, none⟩) n2 cS), Fx (.int .i64 ((i : Int))), Fx (.pointer (some ⟨g1, i, none⟩)), Fx (.slice x1y x1n x1c), Fx (.pointer (some ⟨gk, 0, none⟩)), Fx (.pointer (some ⟨gk, 0, none⟩)), Fx (.pointer (some ⟨gk, 1, none⟩)), Fx (.slice (some ⟨g2, 0, none⟩) n2 cW), Fx (.int .i64 ((i : Int))), Fx (.pointer (some ⟨g2, i, none⟩)), Fx (.slice x2y x2n x2c), Fx (.bool true), Fx (.bool false)] (by kernel_rfl) (by kernel_rfl) ?_ ?_ ?_
      · repeat' (first | exact all_nil | apply all_cons)
        all_goals intro v y y' hv hb
        all_goals first | exact Fx_mono _ _ _ _ hv hb
      · refine ⟨?_, ?_, ?_, ?_, ?_, ?_, ?_, ?_, ?_, ?_, ?_, ?_, ?_, ?_, ?_, ?_, trivial⟩
        all_goals
          intro ρ x hp ρc ρg ρf ho hd
          have o0 : ρ (.tmp 0) = .pointer (some ⟨gk, 0, none⟩) := ho 0 rfl
          have o3 : ρ (.tmp 3) = .int .i64 ((i : Int)) := ho 3 rfl
          clear ho
          have k0 := cell_later hp ca
          have k1 := cell_later hp cb
          have k2 := cell_later hp d1
          have k3 := cell_later hp d2
          simp only [depsR, depR, slotR, Fx, List.getElem?_cons_succ, List.getElem?_cons_zero, Region.binds, forall_const] at hd
          simp only [guardR]
          go_split_ands
        · go_simp
        · go_simp
        · go_simp
        · go_simp
        · go_simp
        · have hq := FK.out
          go_simp
        · go_simp
        · go_simp
        · go_simp
        · go_simp
        · go_simp
        · go_simp
        · have hq := FK.out
          go_simp
        · go_simp
        · go_simp
          refine (sameS_any x1y x2y x1c x2c x1n x2n LL LL x HI.out.2.2.1 HI.out.2.2.2.1 (HI.out.1.kept hp) (HI.out.2.1.kept hp) (by have := HI.out.2.2.1; have := HI.out.2.2.2.2; omega)).mono ?_
          rintro e x' ⟨rfl, hb⟩
          rw [decide_eq_true rfl]
          exact ⟨_, rfl, rfl, hb⟩
        · go_simp
      · intro vs x9 hp hw
        simp only [owed, Fx] at hw
        obtain ⟨e0, e1, e2, e3, e4, e5, e6, e7, e8, e9, e10, e11, e12, e13, e14, e15, -⟩ := hw
        simp only [List.length_cons, List.length_nil, List.take_succ_cons, List.take_nil, List.drop_succ_cons, List.drop_nil, asg, List.cons_append, List.nil_append, e0, e1, e2, e3, e4, e5, e6, e7, e8, e9, e10, e11, e12, e13, e14, e15]
        clear e0 e1 e2 e3 e4 e5 e6 e7 e8 e9 e10 e11 e12 e13 e14 e15
        have HB2 : Hid (Below W.heap.size W x9) := HBW.out.trans (hp.mono (Below.size HBW.out))
        clear hp ca cb d1 d2
        go_wp2
        go_roundw
        case rel => exact ⟨i + 1, by omega, by go_num, HB2.out⟩
        case measure => simp [intOf]; omega
    · obtain rfl : n2 = i := by omega
      have hlt' : ¬ (n2 : Int) < (n2 : Int) := by omega
      have HBA : Hid (Below W.heap.size W wr) := hbw
      obtain ⟨wA, rfl⟩ : ∃ q, q = wr := ⟨_, rfl⟩
      have ca := ca0
      clear hbw hG hlt hi ca0 ca1 ca2 ca3
      try have ca1 := ca
      go_wp2
      go_loopw [4] (fun iv wr => ∃ i : Nat, i ≤ n4 ∧ iv = .int .i64 i ∧ Below W.heap.size W wr) (fun iv _ => n4 - (intOf iv).toNat)
      case atStart => exact ⟨0, by omega, rfl, HBA.out⟩
      case round =>
        obtain ⟨i, hi, rfl, hbw⟩ := hrel
        have hG := HG.out.later hbw
        obtain ⟨ca0, ca1, ca2, ca3⟩ := HC.out _ _ hG.ga hG.book
        by_cases hlt : i < n4
        · have hlt' : (i : Int) < (n4 : Int) := by omega
          obtain ⟨⟨⟨x1y, x1n, x1c⟩, LL⟩, hx1⟩ : ∃ q, b.sP[i]? = some q := ⟨_, List.getElem?_eq_getElem (by omega)⟩
          obtain ⟨⟨⟨x2y, x2n, x2c⟩, L2⟩, hx2⟩ : ∃ q, b.sV[i]? = some q := ⟨_, List.getElem?_eq_getElem (by omega)⟩
          obtain rfl : LL = L2 := map2_at Hb.out.eP hx1 hx2
          have hO1 := hG.ga.isK (hG.lP i _ hx1)
          have hO2 := hG.ga.isKr (hG.lV i _ hx2)
          have hl1 := hfP _ (List.mem_of_getElem? hx1)
          have hl2 := hfV _ (List.mem_of_getElem? hx2)
          have hln := Hb.out.bP _ (List.mem_of_getElem? hx1)
          have hr1 := hG.ga.isG hG.P
          have hr2 := hG.ga.isG hG.WP
          rw [hbP] at hr1
          rw [hbV] at hr2
          simp only [Slc.v] at hr1 hr2 hO1 hO2
          obtain ⟨g1, rfl⟩ : ∃ g, yP = some ⟨g, 0, none⟩ := by
            obtain ⟨g, c8, eg, -⟩ := OwnG.form hr1 (List.ne_nil_of_length_pos (by rw [List.length_map]; omega))
            exact ⟨g, (Value.slice.inj eg).1⟩
          obtain ⟨g2, rfl⟩ : ∃ g, yV = some ⟨g, 0, none⟩ := by
            obtain ⟨g, c8, eg, -⟩ := OwnG.form hr2 (List.ne_nil_of_length_pos (by rw [List.length_map]; omega))
            exact ⟨g, (Value.slice.inj eg).1⟩
          have d1 : wr.cell? ⟨g1, i, none⟩ = some (.slice x1y x1n x1c) := hr1.cell i _ (by rw [List.getElem?_map, hx1]; rfl)
          have d2 : wr.cell? ⟨g2, i, none⟩ = some (.slice x2y x2n x2c) := hr2.cell i _ (by rw [List.getElem?_map, hx2]; rfl)
          have HI : Hid (IsK wrE wr (.slice x1y x1n x1c) LL ∧ IsK wrE wr (.slice x2y x2n x2c) LL ∧ LL.length = x1n ∧ LL.length = x2n ∧ LL.length ≤ 8388608) := ⟨hO1.isK wrE_ok, hO2.isK wrE_ok, hl1, hl2, by simp only at hln; omega⟩
          have FK : Hid ((i : Int) < (n4 : Int)) := hlt'
          have HBW : Hid _ := hbw
          have ca := ca2
          have cb := ca3
          clear hG hbw hO1 hO2 hr1 hr2 ca0 ca1 ca2 ca3 hl1 hl2 hln hx1 hx2
          go_upto_region 9 with fail
          clear hlt'
          refine wp_relies [Fx (.pointer (some ⟨gk, 0, none⟩)), Fx (.pointer (some ⟨gk, 0, none⟩)), Fx (.pointer (some ⟨gk, 2, none⟩)), Fx (.slice (some ⟨g1, 0, none⟩) n4 cP), Fx (.int .i64 ((i : Int))), Fx (.pointer (some ⟨g1, i, none⟩)), Fx (.slice x1y x1n x1c), Fx (.pointer (some ⟨gk, 0, none⟩)), Fx (.pointer (some ⟨gk, 0, none⟩)), Fx (.pointer (some ⟨gk, 3, none⟩)), Fx (.slice (some ⟨g2, 0, none⟩) n4 cV), Fx (.int .i64 ((i : Int))), Fx (.pointer (some ⟨g2, i, none⟩)), Fx (.slice x2y x2n x2c), Fx (.bool true), Fx (.bool false)] (by kernel_rfl) (by kernel_rfl) ?_ ?_ ?_
          · repeat' (first | exact all_nil | apply all_cons)
            all_goals intro v y y' hv hb
            all_goals first | exact Fx_mono _ _ _ _ hv hb
          · refine ⟨?_, ?_, ?_, ?_, ?_, ?_, ?_, ?_, ?_, ?_, ?_, ?_, ?_, ?_, ?_, ?_, trivial⟩
            all_goals
              intro ρ x hp ρc ρg ρf ho hd
              have o0 : ρ (.tmp 0) = .pointer (some ⟨gk, 0, none⟩) := ho 0 rfl
              have o4 : ρ (.tmp 4) = .int .i64 ((i : Int)) := ho 4 rfl
              clear ho
              have k0 := cell_later hp ca
              have k1 := cell_later hp cb
              have k2 := cell_later hp d1
              have k3 := cell_later hp d2
              simp only [depsR, depR, slotR, Fx, List.getElem?_cons_succ, List.getElem?_cons_zero, Region.binds, forall_const] at hd
              simp only [guardR]
              go_split_ands
            · go_simp
            · go_simp
            · go_simp
            · go_simp
            · go_simp
            · have hq := FK.out
              go_simp
            · go_simp
            · go_simp
            · go_simp
            · go_simp
            · go_simp
            · go_simp
            · have hq := FK.out
              go_simp
            · go_simp
            · go_simp
              refine (writesS_any x1y x2y x1c x2c x1n x2n LL LL x HI.out.2.2.1 HI.out.2.2.2.1 (HI.out.1.kept hp) (HI.out.2.1.kept hp) (by have := HI.out.2.2.1; have := HI.out.2.2.2.2; omega)).mono ?_
              rintro e x' ⟨rfl, hb⟩
              rw [decide_eq_true rfl]
              exact ⟨_, rfl, rfl, hb⟩
            · go_simp
          · intro vs x9 hp hw
            simp only [owed, Fx] at hw
            obtain ⟨e0, e1, e2, e3, e4, e5, e6, e7, e8, e9, e10, e11, e12, e13, e14, e15, -⟩ := hw
            simp only [List.length_cons, List.length_nil, List.take_succ_cons, List.take_nil, List.drop_succ_cons, List.drop_nil, asg, List.cons_append, List.nil_append, e0, e1, e2, e3, e4, e5, e6, e7, e8, e9, e10, e11, e12, e13, e14, e15]
            clear e0 e1 e2 e3 e4 e5 e6 e7 e8 e9 e10 e11 e12 e13 e14 e15
            have HB2 : Hid (Below W.heap.size W x9) := HBW.out.trans (hp.mono (Below.size HBW.out))
            clear hp ca cb d1 d2
            go_wp2
            go_roundw
            case rel => exact ⟨i + 1, by omega, by go_num, HB2.out⟩
            case measure => simp [intOf]; omega
        · obtain rfl : n4 = i := by omega
          have hlt' : ¬ (n4 : Int) < (n4 : Int) := by omega
          have HBB : Hid (Below W.heap.size W wr) := hbw
          obtain ⟨wB, rfl⟩ : ∃ q, q = wr := ⟨_, rfl⟩
          have ca := ca2
          clear hbw hG hlt hi ca0 ca1 ca2 ca3
          try have ca1 := ca
          go_wp2
          go_loopw [5] (fun iv wr => ∃ (t : Nat) (T : Nat → Option Th), t ≤ n2 ∧ iv = .int .i64 t ∧ Sy wr B T b (mkF secE B mS t 0) (mkF wrE B mP 0 0) ∧ Below B W wr) (fun iv _ => n2 - (intOf iv).toNat)
          case atStart => exact ⟨0, T, by omega, rfl, (HG.out.later HBB.out).sy, HBB.out.mono hszB⟩
          case round =>
            obtain ⟨t, Tt, ht, rfl, hY, hBB⟩ := hrel
            by_cases hlt : t < n2
            · have hlt' : (t : Int) < (n2 : Int) := by omega
              obtain ⟨⟨⟨y, m, c⟩, L⟩, hx⟩ : ∃ q, b.sS[t]? = some q := ⟨_, List.getElem?_eq_getElem (by omega)⟩
              have hl := hfS _ (List.mem_of_getElem? hx)
              have hlb := Hb.out.bS _ (List.mem_of_getElem? hx)
              simp only at hl hlb
              have hm4 : m ≤ 8388608 := by omega
              obtain ⟨k0, -, k2, -⟩ := HC.out _ _ hY.ga hY.book
              have HYY : Hid (Sy wr B Tt b (mkF secE B mS t 0) (mkF wrE B mP 0 0) ∧ Below B W wr) := ⟨hY, hBB⟩
              obtain ⟨wo, rfl⟩ : ∃ q, q = wr := ⟨_, rfl⟩
              clear hY hBB
              go_wp2
              go_loopw [6] (fun jv wr => ∃ (j : Nat) (T : Nat → Option Th), j ≤ m ∧ jv = .int .i64 j ∧ Sy wr B T b (mkF secE B mS t j) (mkF wrE B mP 0 0) ∧ Below B W wr) (fun jv _ => m - (intOf jv).toNat)
              case atStart => exact ⟨0, Tt, by omega, rfl, HYY.out.1, HYY.out.2⟩
              case round =>
                clear HYY k0 k2
                obtain ⟨j, Tj, hj, rfl, hY, hBB⟩ := hrel
                obtain ⟨k0, -, k2, -⟩ := HC.out _ _ hY.ga hY.book
                have hr1 := hY.ga.isG hY.S
                rw [hbS] at hr1
                simp only [Slc.v] at hr1
                have hxv : (b.sS.map sVal)[t]? = some (.slice y m c) := by rw [List.getElem?_map, hx]; rfl
                obtain ⟨gr, rfl⟩ : ∃ g, yS = some ⟨g, 0, none⟩ := by
                  obtain ⟨g, c8, eg, -⟩ := OwnG.form hr1 (List.ne_nil_of_length_pos (by simp only [List.length_map, zL5_len]; omega))
                  exact ⟨g, (Value.slice.inj eg).1⟩
                have d1 : wr.cell? ⟨gr, t, none⟩ = some (.slice y m c) := hr1.cell t _ hxv
                by_cases hjn : j < m
                · have hjn' : (j : Int) < (m : Int) := by omega
                  obtain ⟨g, rfl, hst, T', hY2, hB2⟩ := hY.markS hx hl hjn
                  have HR : Hid _ := And.intro hY2 (hBB.trans hB2)
                  clear hY hBB hY2 hB2 hr1 hx hxv
                  generalize wr.setCells g (j * 64) (secA (mS t)).toList = X1 at hst HR
                  skip
                  go_wp2
                  go_roundw
                  case rel => exact ⟨j + 1, T', by omega, by go_num, HR.out.1, HR.out.2⟩
                  case measure => simp [intOf]; omega
                · obtain rfl : m = j := by omega
                  have hjn' : ¬ (m : Int) < (m : Int) := by omega
                  have hY3 : Sy wr B Tj b (mkF secE B mS (t + 1) 0) (mkF wrE B mP 0 0) := hY.congr (fun k x hx9 => (mkF_next _ _ _ _ _ _ _ (fun e => by subst e; rw [hx] at hx9; cases hx9; exact hl)).symm) (fun k x hx9 => rfl)
                  have HR : Hid _ := And.intro hY3 hBB
                  clear hY hBB hY3 hr1 hx hxv
                  go_wp2
                  go_roundw
                  case rel => exact ⟨t + 1, Tj, by omega, by go_num, HR.out.1, HR.out.2⟩
                  case measure => simp [intOf]; omega
            · obtain rfl : n2 = t := by omega
              have hlt' : ¬ (n2 : Int) < (n2 : Int) := by omega
              obtain ⟨k0, -, k2, -⟩ := HC.out _ _ hY.ga hY.book
              have HYS : Hid (Sy wr B Tt b (mkF secE B mS n2 0) (mkF wrE B mP 0 0) ∧ Below B W wr) := ⟨hY, hBB⟩
              obtain ⟨wMS, rfl⟩ : ∃ q, q = wr := ⟨_, rfl⟩
              clear hY hBB hlt ht
              go_wp2
              go_loopw [7] (fun iv wr => ∃ (t : Nat) (T : Nat → Option Th), t ≤ n4 ∧ iv = .int .i64 t ∧ Sy wr B T b (mkF secE B mS n2 0) (mkF wrE B mP t 0) ∧ Below B W wr) (fun iv _ => n4 - (intOf iv).toNat)
              case atStart => exact ⟨0, _, by omega, rfl, HYS.out.1, HYS.out.2⟩
              case round =>
                obtain ⟨t, Tt, ht, rfl, hY, hBB⟩ := hrel
                by_cases hlt : t < n4
                · have hlt' : (t : Int) < (n4 : Int) := by omega
                  obtain ⟨⟨⟨y, m, c⟩, L⟩, hx⟩ : ∃ q, b.sP[t]? = some q := ⟨_, List.getElem?_eq_getElem (by omega)⟩
                  have hl := hfP _ (List.mem_of_getElem? hx)
                  have hlb := Hb.out.bP _ (List.mem_of_getElem? hx)
                  simp only at hl hlb
                  have hm4 : m ≤ 8388608 := by omega
                  obtain ⟨k0, -, k2, -⟩ := HC.out _ _ hY.ga hY.book
                  have HYY : Hid (Sy wr B Tt b (mkF secE B mS n2 0) (mkF wrE B mP t 0) ∧ Below B W wr) := ⟨hY, hBB⟩
                  obtain ⟨wo, rfl⟩ : ∃ q, q = wr := ⟨_, rfl⟩
                  clear hY hBB
                  go_wp2
                  go_loopw [8] (fun jv wr => ∃ (j : Nat) (T : Nat → Option Th), j ≤ m ∧ jv = .int .i64 j ∧ Sy wr B T b (mkF secE B mS n2 0) (mkF wrE B mP t j) ∧ Below B W wr) (fun jv _ => m - (intOf jv).toNat)
                  case atStart => exact ⟨0, Tt, by omega, rfl, HYY.out.1, HYY.out.2⟩
                  case round =>
                    clear HYY k0 k2
                    obtain ⟨j, Tj, hj, rfl, hY, hBB⟩ := hrel
                    obtain ⟨k0, -, k2, -⟩ := HC.out _ _ hY.ga hY.book
                    have hr1 := hY.ga.isG hY.P
                    rw [hbP] at hr1
                    simp only [Slc.v] at hr1
                    have hxv : (b.sP.map sVal)[t]? = some (.slice y m c) := by rw [List.getElem?_map, hx]; rfl
                    obtain ⟨gr, rfl⟩ : ∃ g, yP = some ⟨g, 0, none⟩ := by
                      obtain ⟨g, c8, eg, -⟩ := OwnG.form hr1 (List.ne_nil_of_length_pos (by simp only [List.length_map, zL5_len]; omega))
                      exact ⟨g, (Value.slice.inj eg).1⟩
                    have d1 : wr.cell? ⟨gr, t, none⟩ = some (.slice y m c) := hr1.cell t _ hxv
                    by_cases hjn : j < m
                    · have hjn' : (j : Int) < (m : Int) := by omega
                      obtain ⟨g, rfl, hst, T', hY2, hB2⟩ := hY.markP hx hl hjn
                      have HR : Hid _ := And.intro hY2 (hBB.trans hB2)
                      clear hY hBB hY2 hB2 hr1 hx hxv
                      generalize wr.setCells g (j * 65) (wrA (mP t)).toList = X1 at hst HR
                      have hmk : mP t = (-5 - (t : Int), secZ) := rfl
                      rw [hmk] at hst
                      clear hmk
                      go_wp2
                      go_roundw
                      case rel => exact ⟨j + 1, T', by omega, by go_num, HR.out.1, HR.out.2⟩
                      case measure => simp [intOf]; omega
                    · obtain rfl : m = j := by omega
                      have hjn' : ¬ (m : Int) < (m : Int) := by omega
                      have hY3 : Sy wr B Tj b (mkF secE B mS n2 0) (mkF wrE B mP (t + 1) 0) := hY.congr (fun k x hx9 => rfl) (fun k x hx9 => (mkF_next _ _ _ _ _ _ _ (fun e => by subst e; rw [hx] at hx9; cases hx9; exact hl)).symm)
                      have HR : Hid _ := And.intro hY3 hBB
                      clear hY hBB hY3 hr1 hx hxv
                      go_wp2
                      go_roundw
                      case rel => exact ⟨t + 1, Tj, by omega, by go_num, HR.out.1, HR.out.2⟩
                      case measure => simp [intOf]; omega
                · obtain rfl : n4 = t := by omega
                  have hlt' : ¬ (n4 : Int) < (n4 : Int) := by omega
                  obtain ⟨k0, -, k2, -⟩ := HC.out _ _ hY.ga hY.book
                  have HYP : Hid (Sy wr B Tt b (mkF secE B mS n2 0) (mkF wrE B mP n4 0) ∧ Below B W wr) := ⟨hY, hBB⟩
                  obtain ⟨wMP, rfl⟩ : ∃ q, q = wr := ⟨_, rfl⟩
                  clear hY hBB hlt ht
                  go_wp2
                  go_loopw [9, 11] (fun lv uv wr => ∃ (u : Nat) (z : Nat → Slc) (T : Nat → Option Th) (xl : Option Addr) (cl : Nat), u ≤ n2 ∧ uv = .int .i64 u ∧ lv = .slice xl u cl ∧ Sy wr B T b (grF secE B mS z u) (mkF wrE B mP n4 0) ∧ T 80 = some (thG 24 B (.slice xl u cl) (zL5 z u)) ∧ (∀ (k : Nat) x, k < u → b.sS[k]? = some x → (z k).n = x.2.length + 2) ∧ Below B W wr) (fun _ uv _ => n2 - (intOf uv).toNat)
                  case atStart => exact ⟨0, fun _ => ⟨none, 0, 0⟩, updT _ 80 (thG 24 B (.slice none 0 0) []), none, 0, by omega, rfl, rfl, (HYP.out.1.congr (fun k x hx => mk_gr _ _ _ _ n2 k x (by have := get_lt hx; omega)) (fun _ _ _ => rfl)).nil _ (.inl rfl), updT_same _ _ _, fun k x hk => by omega, HYP.out.2⟩
                  case round =>
                    obtain ⟨u, z, Tu, xl, cl, hu, rfl, rfl, hY, h80, hz, hBB⟩ := hrel
                    by_cases hlt : u < n2
                    · have hlt' : (u : Int) < (n2 : Int) := by omega
                      obtain ⟨⟨⟨y, m, c⟩, L⟩, hx⟩ : ∃ q, b.sS[u]? = some q := ⟨_, List.getElem?_eq_getElem (by omega)⟩
                      have hl := hfS _ (List.mem_of_getElem? hx)
                      have hlb := Hb.out.bS _ (List.mem_of_getElem? hx)
                      simp only at hl hlb
                      obtain ⟨k0, -, k2, -⟩ := HC.out _ _ hY.ga hY.book
                      have hr9 := hY.ga.isG hY.S
                      rw [hbS] at hr9
                      simp only [Slc.v] at hr9
                      have hxv : (b.sS.map sVal)[u]? = some (.slice y m c) := by rw [List.getElem?_map, hx]; rfl
                      obtain ⟨gr, rfl⟩ : ∃ g, yS = some ⟨g, 0, none⟩ := by
                        obtain ⟨g, c8, eg, -⟩ := OwnG.form hr9 (List.ne_nil_of_length_pos (by simp only [List.length_map, zL5_len]; omega))
                        exact ⟨g, (Value.slice.inj eg).1⟩
                      have d1 : wr.cell? ⟨gr, u, none⟩ = some (.slice y m c) := hr9.cell u _ hxv
                      obtain ⟨g1, c1, w1, hr1, g2, c2, w2, hr2, g3, c3, w3, hr3, T', hY2, hT2, hT3, hB2⟩ := hY.growS hx hl (by omega) (by omega) h80
                      have hz2 : ∀ (k : Nat) x, k < u + 1 → b.sS[k]? = some x → ((fun k => if k = u then (⟨some ⟨g2, 0, none⟩, m + 2, c2⟩ : Slc) else z k) k).n = x.2.length + 2 := fun k x hk hx9 => by
                        by_cases e : k = u
                        · subst e
                          rw [hx] at hx9; cases hx9
                          simp only [if_true, hl]
                        · simp only [if_neg e]
                          exact hz k x (by omega) hx9
                      have HR : Hid _ := And.intro hY2 (And.intro hT2 (And.intro hz2 (And.intro (hBB.trans hB2) hT3)))
                      clear hY hBB hY2 hB2 hr9 hx hxv hT2 hz2 hz
                      skip
                      go_upto_region 31 with (at_builtin; refine wpL_appG 24 rfl _ _ rfl _ w1 (by exact hr1) ?_)
                      clear hr1
                      go_wp2_with (at_builtin; first | refine wpL_appG 24 rfl _ _ rfl _ w2 (by exact hr2) ?_ | refine wpL_appG 40 rfl _ _ rfl _ w3 (by exact hr3) ?_)
                      go_roundw
                      case rel =>
                        obtain ⟨r1, r2, r3, r4, r5⟩ := HR.out
                        exact ⟨u + 1, _, T', _, c3, by omega, by go_num, rfl, r1, r2, r3, r4⟩
                      case measure => simp [intOf]; omega
                    · obtain rfl : n2 = u := by omega
                      have hlt' : ¬ (n2 : Int) < (n2 : Int) := by omega
                      obtain ⟨k0, -, k2, -⟩ := HC.out _ _ hY.ga hY.book
                      obtain ⟨wGS, rfl⟩ : ∃ q, q = wr := ⟨_, rfl⟩
                      have HYG : Hid (Sy wGS B Tu b (grF secE B mS z n2) (mkF wrE B mP n4 0) ∧ Below B W wGS ∧ Tu 80 = some (thG 24 B (.slice xl n2 cl) (zL5 z n2))) := ⟨hY, hBB, h80⟩
                      obtain ⟨zS, hzS⟩ : ∃ q, q = z := ⟨_, rfl⟩
                      subst hzS
                      have HzS : Hid (∀ (k : Nat) x, k < n2 → b.sS[k]? = some x → (zS k).n = x.2.length + 2) := hz
                      obtain ⟨xlS, hxlS⟩ : ∃ q, q = xl := ⟨_, rfl⟩
                      subst hxlS
                      obtain ⟨clS, hclS⟩ : ∃ q, q = cl := ⟨_, rfl⟩
                      subst hclS
                      clear hY hBB hlt hu h80 hz
                      go_wp2
                      go_loopw [10, 13] (fun lv uv wr => ∃ (u : Nat) (z : Nat → Slc) (T : Nat → Option Th) (xl : Option Addr) (cl : Nat), u ≤ n4 ∧ uv = .int .i64 u ∧ lv = .slice xl u cl ∧ Sy wr B T b (grF secE B mS zS n2) (grF wrE B mP z u) ∧ T 88 = some (thG 56 B (.slice xl u cl) (zL5 z u)) ∧ (∀ (k : Nat) x, k < u → b.sP[k]? = some x → (z k).n = x.2.length + 2) ∧ Below B W wr ∧ T 80 = some (thG 24 B (.slice xlS n2 clS) (zL5 zS n2))) (fun _ uv _ => n4 - (intOf uv).toNat)
                      case atStart => exact ⟨0, fun _ => ⟨none, 0, 0⟩, updT _ 88 (thG 56 B (.slice none 0 0) []), none, 0, by omega, rfl, rfl, (HYG.out.1.congr (fun _ _ _ => rfl) (fun k x hx => mk_gr _ _ _ _ n4 k x (by have := get_lt hx; omega))).nil _ (.inr rfl), updT_same _ _ _, fun k x hk => by omega, HYG.out.2.1, (updT_ne _ _ _ _ (by omega)).trans HYG.out.2.2⟩
                      case round =>
                        obtain ⟨u, z, Tu, xl, cl, hu, rfl, rfl, hY, h80, hz, hBB, h80S⟩ := hrel
                        by_cases hlt : u < n4
                        · have hlt' : (u : Int) < (n4 : Int) := by omega
                          obtain ⟨⟨⟨y, m, c⟩, L⟩, hx⟩ : ∃ q, b.sP[u]? = some q := ⟨_, List.getElem?_eq_getElem (by omega)⟩
                          have hl := hfP _ (List.mem_of_getElem? hx)
                          have hlb := Hb.out.bP _ (List.mem_of_getElem? hx)
                          simp only at hl hlb
                          obtain ⟨k0, -, k2, -⟩ := HC.out _ _ hY.ga hY.book
                          have hr9 := hY.ga.isG hY.P
                          rw [hbP] at hr9
                          simp only [Slc.v] at hr9
                          have hxv : (b.sP.map sVal)[u]? = some (.slice y m c) := by rw [List.getElem?_map, hx]; rfl
                          obtain ⟨gr, rfl⟩ : ∃ g, yP = some ⟨g, 0, none⟩ := by
                            obtain ⟨g, c8, eg, -⟩ := OwnG.form hr9 (List.ne_nil_of_length_pos (by simp only [List.length_map, zL5_len]; omega))
                            exact ⟨g, (Value.slice.inj eg).1⟩
                          have d1 : wr.cell? ⟨gr, u, none⟩ = some (.slice y m c) := hr9.cell u _ hxv
                          obtain ⟨g1, c1, w1, hr1, g2, c2, w2, hr2, g3, c3, w3, hr3, T', hY2, hT2, hT3, hB2⟩ := hY.growP hx hl (by omega) (by omega) h80
                          have hz2 : ∀ (k : Nat) x, k < u + 1 → b.sP[k]? = some x → ((fun k => if k = u then (⟨some ⟨g2, 0, none⟩, m + 2, c2⟩ : Slc) else z k) k).n = x.2.length + 2 := fun k x hk hx9 => by
                            by_cases e : k = u
                            · subst e
                              rw [hx] at hx9; cases hx9
                              simp only [if_true, hl]
                            · simp only [if_neg e]
                              exact hz k x (by omega) hx9
                          have HR : Hid _ := And.intro hY2 (And.intro hT2 (And.intro hz2 (And.intro (hBB.trans hB2) hT3)))
                          clear hY hBB hY2 hB2 hr9 hx hxv hT2 hz2 hz
                          have hmk : mP u = (-5 - (u : Int), secZ) := rfl
                          rw [hmk] at hr1 hr2
                          clear hmk
                          go_upto_region 36 with (at_builtin; refine wpL_appG 56 rfl _ _ rfl _ w1 (by exact hr1) ?_)
                          clear hr1
                          go_wp2_with (at_builtin; first | refine wpL_appG 56 rfl _ _ rfl _ w2 (by exact hr2) ?_ | refine wpL_appG 41 rfl _ _ rfl _ w3 (by exact hr3) ?_)
                          go_roundw
                          case rel =>
                            obtain ⟨r1, r2, r3, r4, r5⟩ := HR.out
                            exact ⟨u + 1, _, T', _, c3, by omega, by go_num, rfl, r1, r2, r3, r4, r5.trans h80S⟩
                          case measure => simp [intOf]; omega
                        · obtain rfl : n4 = u := by omega
                          have hlt' : ¬ (n4 : Int) < (n4 : Int) := by omega
                          obtain ⟨k0, -, k2, -⟩ := HC.out _ _ hY.ga hY.book
                          obtain ⟨wGP, rfl⟩ : ∃ q, q = wr := ⟨_, rfl⟩
                          have HLS : Hid (Sy wGP B Tu b (grF secE B mS zS n2) (grF wrE B mP z n4) ∧ Tu 80 = some (thG 24 B (.slice xlS n2 clS) (zL5 zS n2)) ∧ ∀ (k : Nat) x, k < n2 → b.sS[k]? = some x → (zS k).n = x.2.length + 2) := ⟨hY, h80S, HzS.out⟩
                          have HLP : Hid (Sy wGP B Tu b (grF secE B mS zS n2) (grF wrE B mP z n4) ∧ Tu 88 = some (thG 56 B (.slice xl n4 cl) (zL5 z n4)) ∧ ∀ (k : Nat) x, k < n4 → b.sP[k]? = some x → (z k).n = x.2.length + 2) := ⟨hY, h80, hz⟩
                          have HBG : Hid (Below B W wGP) := hBB
                          have HszG : Hid (B ≤ wGP.heap.size) := hY.ga.size
                          clear hY hBB hlt hu h80 hz h80S
                          go_wp2
                          go_loopw [15] (fun av wr => ∃ a : Nat, a ≤ n2 ∧ av = .int .i64 a ∧ Below wGP.heap.size wGP wr) (fun av _ => n2 - (intOf av).toNat)
                          case atStart => exact ⟨0, by omega, rfl, Below.refl _ _⟩
                          case round =>
                            obtain ⟨i, hi, rfl, hbw⟩ := hrel
                            by_cases hlt : i < n2
                            · have hlt' : (i : Int) < (n2 : Int) := by omega
                              obtain ⟨⟨⟨y, m, c⟩, L⟩, hx⟩ : ∃ q, b.sS[i]? = some q := ⟨_, List.getElem?_eq_getElem (by omega)⟩
                              have hl := hfS _ (List.mem_of_getElem? hx)
                              have hlb := Hb.out.bS _ (List.mem_of_getElem? hx)
                              simp only at hl hlb
                              have hm4 : m ≤ 8388608 := by omega
                              have hFL : ∀ wr, Below wGP.heap.size wGP wr → (∃ gr, yS = some ⟨gr, 0, none⟩ ∧ wr.cell? ⟨gr, i, none⟩ = some (.slice y m c)) ∧ (∃ gl gz cz, xlS = some ⟨gl, 0, none⟩ ∧ wr.cell? ⟨gl, i, none⟩ = some (.slice (some ⟨gz, 0, none⟩) (m + 2) cz) ∧ OwnK secE wr B (.slice (some ⟨gz, 0, none⟩) (m + 2) cz) (List.replicate (m + 2) (mS i))) ∧ OwnK secE wr B (.slice y m c) (List.replicate m (mS i)) ∧ wr.cell? ⟨gk, 0, none⟩ = some (.slice yS n2 cS) := fun wr hbw => by
                                have hY := HLS.out.1.later hbw
                                obtain ⟨k0, -, k2, -⟩ := HC.out _ _ hY.ga hY.book
                                have hr1 := hY.ga.isG hY.S
                                rw [hbS] at hr1
                                simp only [Slc.v] at hr1
                                have hr2 := hY.ga.isG HLS.out.2.1
                                obtain ⟨o1, o2⟩ := hY.gr_S hx hl hlt
                                have hzn := HLS.out.2.2 i _ hlt hx
                                simp only [hl] at hzn
                                obtain ⟨⟨yz, nz, cz⟩, hzi⟩ : ∃ q, zS i = q := ⟨_, rfl⟩
                                rw [hzi] at o2 hzn
                                simp only at hzn
                                subst hzn
                                simp only [Slc.v] at o2
                                obtain ⟨gz, hgz, -⟩ := o2.form (by simp)
                                subst hgz
                                refine ⟨?_, ?_, o1, k0⟩
                                · obtain ⟨g, c8, eg, -⟩ := OwnG.form hr1 (List.ne_nil_of_length_pos (by simp only [List.length_map]; omega))
                                  have eg1 := (Value.slice.inj eg).1
                                  have h9 : (b.sS.map sVal)[i]? = some (.slice y m c) := by rw [List.getElem?_map, hx]; rfl
                                  rw [eg1] at hr1
                                  exact ⟨g, eg1, hr1.cell i _ h9⟩
                                · obtain ⟨g, c8, eg, -⟩ := OwnG.form hr2 (List.ne_nil_of_length_pos (by simp only [zL5_len]; omega))
                                  have eg1 := (Value.slice.inj eg).1
                                  have h9 := zL5_at zS n2 i hlt
                                  rw [hzi] at h9
                                  rw [eg1] at hr2
                                  exact ⟨g, gz, cz, eg1, hr2.cell i _ h9, o2⟩
                              have HBI : Hid _ := hbw
                              obtain ⟨-, ⟨gl, gz, cz, hxl, d0, -⟩, -⟩ := hFL wr hbw
                              subst hxl
                              obtain ⟨wo, rfl⟩ : ∃ q, q = wr := ⟨_, rfl⟩
                              clear hbw hx
                              go_wp2
                              go_loopw [16] (fun bv wr => ∃ j : Nat, j ≤ m + 2 ∧ bv = .int .i64 j ∧ Below wGP.heap.size wGP wr) (fun bv _ => m + 2 - (intOf bv).toNat)
                              case atStart => exact ⟨0, by omega, rfl, HBI.out⟩
                              case round =>
                                obtain ⟨j, hj, rfl, hbw⟩ := hrel
                                clear d0
                                obtain ⟨⟨gr, hy1, d1⟩, ⟨gl9, gz9, cz9, hxl9, d2, o2⟩, o1, kk⟩ := hFL wr hbw
                                have egl : gl9 = gl := by cases hxl9; rfl
                                subst egl
                                rw [hy1] at kk
                                by_cases hjn : j < m + 2
                                · have hjn' : (j : Int) < (m : Int) + 2 := by omega
                                  obtain ⟨ok1, rg1⟩ := rg_of (o2.range secE_ok j (mS i) (by simp [hjn])) (secE_ok.len _)
                                  have e1 : secE.k = 64 := rfl
                                  have e2 : (secE.enc (mS i)).toArray = secA (mS i) := by simp only [secE, Array.toArray_toList]
                                  rw [e2] at rg1
                                  rw [e1] at ok1 rg1
                                  have lz : gz9 < wr.heap.size := (World.ownsRow.lt o2 gz9 rfl).2
                                  have HBJ : Hid _ := hbw
                                  by_cases hjm : j < m
                                  · have hjm' : (j : Int) < (m : Int) := by omega
                                    obtain ⟨gy, hgy, -⟩ := o1.form (by simp; omega)
                                    subst hgy
                                    obtain ⟨ok2, rg2⟩ := rg_of (o1.range secE_ok j (mS i) (by simp [hjm])) (secE_ok.len _)
                                    rw [e2] at rg2
                                    rw [e1] at ok2 rg2
                                    have ly : gy < wr.heap.size := (World.ownsRow.lt o1 gy rfl).2
                                    clear hbw o1 o2 hFL hxl9
                                    have FK : Hid ((i : Int) < (n2 : Int)) := hlt'
                                    have FJ : Hid ((j : Int) < (m : Int) + 2) := hjn'
                                    have FM : Hid ((j : Int) < (m : Int)) := hjm'
                                    have HEQ : Hid (secEq (mS i) (mS i) = true) := by show _ = _; rw [secEq_dec]; simp
                                    go_upto_region 43 with fail
                                    clear hlt' hjn' hjm'
                                    refine wp_relies [Fx (.slice (some ⟨gl9, 0, none⟩) n2 clS), Fx (.int .i64 ((i : Int))), Fx (.pointer (some ⟨gl9, i, none⟩)), Fx (.slice (some ⟨gz9, 0, none⟩) (m + 2) cz9), Fx (.int .i64 ((j : Int))), Fx (.pointer (some ⟨gz9, j * 64, none⟩)), Fx (.agg (secA (mS i))), Fx (.int .i64 ((i : Int))), Fx (.int .u8 ((i : Int) % 256)), Fx (.int .i64 ((i : Int))), Fx (.int .i64 ((i : Int) / 256)), Fx (.int .u8 ((i : Int) / 256 % 256)), Fx (.agg (secA (mS i))), Fx (.bool false), Fx (.bool false), Fx (.int .i64 ((j : Int))), Fx (.pointer (some ⟨gk, 0, none⟩)), Fx (.pointer (some ⟨gk, 0, none⟩)), Fx (.pointer (some ⟨gk, 0, none⟩)), Fx (.slice (some ⟨gr, 0, none⟩) n2 cS), Fx (.int .i64 ((i : Int))), Fx (.pointer (some ⟨gr, i, none⟩)), Fx (.slice (some ⟨gy, 0, none⟩) m c), Fx (.int .i64 ((m : Int))), Fx (.bool true), Fx (.bool true), Fx (.pointer (some ⟨gk, 0, none⟩)), Fx (.pointer (some ⟨gk, 0, none⟩)), Fx (.pointer (some ⟨gk, 0, none⟩)), Fx (.slice (some ⟨gr, 0, none⟩) n2 cS), Fx (.int .i64 ((i : Int))), Fx (.pointer (some ⟨gr, i, none⟩)), Fx (.slice (some ⟨gy, 0, none⟩) m c), Fx (.int .i64 ((j : Int))), Fx (.pointer (some ⟨gy, j * 64, none⟩)), Fx (.agg (secA (mS i))), Fx (.slice (some ⟨gl9, 0, none⟩) n2 clS), Fx (.int .i64 ((i : Int))), Fx (.pointer (some ⟨gl9, i, none⟩)), Fx (.slice (some ⟨gz9, 0, none⟩) (m + 2) cz9), Fx (.int .i64 ((j : Int))), Fx (.pointer (some ⟨gz9, j * 64, none⟩)), Fx (.agg (secA (mS i))), Fx (.bool false), Fx (.bool false), Fx (.bool false)] (by kernel_rfl) (by kernel_rfl) ?_ ?_ ?_
                                    · repeat' (first | exact all_nil | apply all_cons)
                                      all_goals intro v y y' hv hb
                                      all_goals first | exact Fx_mono _ _ _ _ hv hb
                                    · refine ⟨?_, ?_, ?_, ?_, ?_, ?_, ?_, ?_, ?_, ?_, ?_, ?_, ?_, ?_, ?_, ?_, ?_, ?_, ?_, ?_, ?_, ?_, ?_, ?_, ?_, ?_, ?_, ?_, ?_, ?_, ?_, ?_, ?_, ?_, ?_, ?_, ?_, ?_, ?_, ?_, ?_, ?_, ?_, ?_, ?_, ?_, trivial⟩
                                      all_goals
                                        intro ρ x hp ρc ρg ρf ho hd
                                        have o0 : ρ (.tmp 0) = .pointer (some ⟨gk, 0, none⟩) := ho 0 rfl
                                        have o9 : ρ (.tmp 9) = .slice (some ⟨gl9, 0, none⟩) n2 clS := ho 9 rfl
                                        have o15 : ρ (.tmp 15) = .int .i64 ((i : Int)) := ho 15 rfl
                                        have o16 : ρ (.tmp 16) = .int .i64 ((j : Int)) := ho 16 rfl
                                        clear ho
                                        have q1 := cell_later hp d1
                                        have q2 := cell_later hp d2
                                        have q0 := cell_later hp kk
                                        have z1 := rg_on hp lz ok1 rg1
                                        have z2 := rg_on hp ly ok2 rg2
                                        obtain ⟨z21, z22⟩ := z2
                                        obtain ⟨z11, z12⟩ := z1
                                        have hEq := HEQ.out
                                        simp only [depsR, depR, slotR, Fx, List.getElem?_cons_succ, List.getElem?_cons_zero, Region.binds, forall_const] at hd
                                        simp only [guardR]
                                        go_split_ands
                                      · go_simp
                                      · go_simp
                                      · have hq := FK.out
                                        go_simp
                                      · go_simp
                                      · go_simp
                                      · have hq := FJ.out
                                        go_simp
                                      · go_simp
                                      · go_simp
                                      · go_simp
                                        exact fx_u8 _ _
                                      · go_simp
                                      · go_simp
                                      · go_simp
                                        exact fx_u8 _ _
                                      · go_simp
                                      · go_simp
                                      · go_simp
                                      · refine ⟨fun _ => ?_, fun hy => absurd (by simp [yieldR, slotR, *]) hy⟩
                                        go_simp
                                      · refine ⟨fun _ => ?_, fun hy => absurd (by simp [yieldR, slotR, *]) hy⟩
                                        go_simp
                                      · refine ⟨fun _ => ?_, fun hy => absurd (by simp [yieldR, slotR, *]) hy⟩
                                        go_simp
                                      · refine ⟨fun _ => ?_, fun hy => absurd (by simp [yieldR, slotR, *]) hy⟩
                                        go_simp
                                      · refine ⟨fun _ => ?_, fun hy => absurd (by simp [yieldR, slotR, *]) hy⟩
                                        go_simp
                                      · refine ⟨fun _ => ?_, fun hy => absurd (by simp [yieldR, slotR, *]) hy⟩
                                        go_simp
                                      · refine ⟨fun _ => ?_, fun hy => absurd (by simp [yieldR, slotR, *]) hy⟩
                                        have hq := FK.out
                                        go_simp
                                      · refine ⟨fun _ => ?_, fun hy => absurd (by simp [yieldR, slotR, *]) hy⟩
                                        go_simp
                                      · refine ⟨fun _ => ?_, fun hy => absurd (by simp [yieldR, slotR, *]) hy⟩
                                        go_simp
                                      · refine ⟨fun _ => ?_, fun hy => absurd (by simp [yieldR, slotR, *]) hy⟩
                                        have hq := FM.out
                                        go_simp
                                      · refine ⟨fun _ => ?_, fun hy => absurd (by simp [yieldR, slotR, *]) hy⟩
                                        go_simp
                                      · refine ⟨fun _ => ?_, fun hy => absurd (by simp [yieldR, slotR, *]) hy⟩
                                        go_simp
                                      · refine ⟨fun _ => ?_, fun hy => absurd (by simp [yieldR, slotR, *]) hy⟩
                                        go_simp
                                      · refine ⟨fun _ => ?_, fun hy => absurd (by simp [yieldR, slotR, *]) hy⟩
                                        go_simp
                                      · refine ⟨fun _ => ?_, fun hy => absurd (by simp [yieldR, slotR, *]) hy⟩
                                        go_simp
                                      · refine ⟨fun _ => ?_, fun hy => absurd (by simp [yieldR, slotR, *]) hy⟩
                                        go_simp
                                      · refine ⟨fun _ => ?_, fun hy => absurd (by simp [yieldR, slotR, *]) hy⟩
                                        have hq := FK.out
                                        go_simp
                                      · refine ⟨fun _ => ?_, fun hy => absurd (by simp [yieldR, slotR, *]) hy⟩
                                        go_simp
                                      · refine ⟨fun _ => ?_, fun hy => absurd (by simp [yieldR, slotR, *]) hy⟩
                                        go_simp
                                      · refine ⟨fun _ => ?_, fun hy => absurd (by simp [yieldR, slotR, *]) hy⟩
                                        have hq := FM.out
                                        go_simp
                                      · refine ⟨fun _ => ?_, fun hy => absurd (by simp [yieldR, slotR, *]) hy⟩
                                        go_simp
                                      · refine ⟨fun _ => ?_, fun hy => absurd (by simp [yieldR, slotR, *]) hy⟩
                                        go_simp
                                      · refine ⟨fun _ => ?_, fun hy => absurd (by simp [yieldR, slotR, *]) hy⟩
                                        go_simp
                                      · refine ⟨fun _ => ?_, fun hy => absurd (by simp [yieldR, slotR, *]) hy⟩
                                        have hq := FK.out
                                        go_simp
                                      · refine ⟨fun _ => ?_, fun hy => absurd (by simp [yieldR, slotR, *]) hy⟩
                                        go_simp
                                      · refine ⟨fun _ => ?_, fun hy => absurd (by simp [yieldR, slotR, *]) hy⟩
                                        go_simp
                                      · refine ⟨fun _ => ?_, fun hy => absurd (by simp [yieldR, slotR, *]) hy⟩
                                        have hq := FJ.out
                                        go_simp
                                      · refine ⟨fun _ => ?_, fun hy => absurd (by simp [yieldR, slotR, *]) hy⟩
                                        go_simp
                                      · refine ⟨fun _ => ?_, fun hy => absurd (by simp [yieldR, slotR, *]) hy⟩
                                        go_simp
                                      · refine ⟨fun _ => ?_, fun hy => absurd (by simp [yieldR, slotR, *]) hy⟩
                                        go_simp
                                      · go_simp
                                    · intro vs x9 hp hw
                                      simp only [owed, Fx] at hw
                                      obtain ⟨e0, e1, e2, e3, e4, e5, e6, e7, e8, e9, e10, e11, e12, e13, e14, e15, e16, e17, e18, e19, e20, e21, e22, e23, e24, e25, e26, e27, e28, e29, e30, e31, e32, e33, e34, e35, e36, e37, e38, e39, e40, e41, e42, e43, e44, e45, -⟩ := hw
                                      simp only [List.length_cons, List.length_nil, List.take_succ_cons, List.take_nil, List.drop_succ_cons, List.drop_nil, asg, List.cons_append, List.nil_append, e0, e1, e2, e3, e4, e5, e6, e7, e8, e9, e10, e11, e12, e13, e14, e15, e16, e17, e18, e19, e20, e21, e22, e23, e24, e25, e26, e27, e28, e29, e30, e31, e32, e33, e34, e35, e36, e37, e38, e39, e40, e41, e42, e43, e44, e45]
                                      clear e0 e1 e2 e3 e4 e5 e6 e7 e8 e9 e10 e11 e12 e13 e14 e15 e16 e17 e18 e19 e20 e21 e22 e23 e24 e25 e26 e27 e28 e29 e30 e31 e32 e33 e34 e35 e36 e37 e38 e39 e40 e41 e42 e43 e44 e45
                                      have HB9 : Hid (Below wGP.heap.size wGP x9) := HBJ.out.trans (hp.mono (Below.size HBJ.out))
                                      clear hp d1 d2 kk ok1 rg1 lz e1 e2 ok2 rg2 ly
                                      go_wp2
                                      go_roundw
                                      case rel => exact ⟨j + 1, by omega, by go_num, HB9.out⟩
                                      case measure => simp [intOf]; omega
                                  · have hjm' : ¬ (j : Int) < (m : Int) := by omega
                                    clear hbw o1 o2 hFL hxl9
                                    have FK : Hid ((i : Int) < (n2 : Int)) := hlt'
                                    have FJ : Hid ((j : Int) < (m : Int) + 2) := hjn'
                                    have FM : Hid (¬ (j : Int) < (m : Int)) := hjm'
                                    have HEQ : Hid (secEq (mS i) (mS i) = true) := by show _ = _; rw [secEq_dec]; simp
                                    go_upto_region 43 with fail
                                    clear hlt' hjn' hjm'
                                    refine wp_relies [Fx (.slice (some ⟨gl9, 0, none⟩) n2 clS), Fx (.int .i64 ((i : Int))), Fx (.pointer (some ⟨gl9, i, none⟩)), Fx (.slice (some ⟨gz9, 0, none⟩) (m + 2) cz9), Fx (.int .i64 ((j : Int))), Fx (.pointer (some ⟨gz9, j * 64, none⟩)), Fx (.agg (secA (mS i))), Fx (.int .i64 ((i : Int))), Fx (.int .u8 ((i : Int) % 256)), Fx (.int .i64 ((i : Int))), Fx (.int .i64 ((i : Int) / 256)), Fx (.int .u8 ((i : Int) / 256 % 256)), Fx (.agg (secA (mS i))), Fx (.bool false), Fx (.bool false), Fx (.int .i64 ((j : Int))), Fx (.pointer (some ⟨gk, 0, none⟩)), Fx (.pointer (some ⟨gk, 0, none⟩)), Fx (.pointer (some ⟨gk, 0, none⟩)), Fx (.slice (some ⟨gr, 0, none⟩) n2 cS), Fx (.int .i64 ((i : Int))), Fx (.pointer (some ⟨gr, i, none⟩)), Fx (.slice y m c), Fx (.int .i64 ((m : Int))), Fx (.bool false), Fx (.bool false), Fx (undef), Fx (undef), Fx (undef), Fx (undef), Fx (undef), Fx (undef), Fx (undef), Fx (undef), Fx (undef), Fx (undef), Fx (undef), Fx (undef), Fx (undef), Fx (undef), Fx (undef), Fx (undef), Fx (undef), Fx (undef), Fx (.bool false), Fx (.bool false)] (by kernel_rfl) (by kernel_rfl) ?_ ?_ ?_
                                    · repeat' (first | exact all_nil | apply all_cons)
                                      all_goals intro v y y' hv hb
                                      all_goals first | exact Fx_mono _ _ _ _ hv hb
                                    · refine ⟨?_, ?_, ?_, ?_, ?_, ?_, ?_, ?_, ?_, ?_, ?_, ?_, ?_, ?_, ?_, ?_, ?_, ?_, ?_, ?_, ?_, ?_, ?_, ?_, ?_, ?_, ?_, ?_, ?_, ?_, ?_, ?_, ?_, ?_, ?_, ?_, ?_, ?_, ?_, ?_, ?_, ?_, ?_, ?_, ?_, ?_, trivial⟩
                                      all_goals
                                        intro ρ x hp ρc ρg ρf ho hd
                                        have o0 : ρ (.tmp 0) = .pointer (some ⟨gk, 0, none⟩) := ho 0 rfl
                                        have o9 : ρ (.tmp 9) = .slice (some ⟨gl9, 0, none⟩) n2 clS := ho 9 rfl
                                        have o15 : ρ (.tmp 15) = .int .i64 ((i : Int)) := ho 15 rfl
                                        have o16 : ρ (.tmp 16) = .int .i64 ((j : Int)) := ho 16 rfl
                                        clear ho
                                        have q1 := cell_later hp d1
                                        have q2 := cell_later hp d2
                                        have q0 := cell_later hp kk
                                        have z1 := rg_on hp lz ok1 rg1
                                        obtain ⟨z11, z12⟩ := z1
                                        have hEq := HEQ.out
                                        simp only [depsR, depR, slotR, Fx, List.getElem?_cons_succ, List.getElem?_cons_zero, Region.binds, forall_const] at hd
                                        simp only [guardR]
                                        go_split_ands
                                      · go_simp
                                      · go_simp
                                      · have hq := FK.out
                                        go_simp
                                      · go_simp
                                      · go_simp
                                      · have hq := FJ.out
                                        go_simp
                                      · go_simp
                                      · go_simp
                                      · go_simp
                                        exact fx_u8 _ _
                                      · go_simp
                                      · go_simp
                                      · go_simp
                                        exact fx_u8 _ _
                                      · go_simp
                                      · go_simp
                                      · go_simp
                                      · refine ⟨fun _ => ?_, fun hy => absurd (by simp [yieldR, slotR, *]) hy⟩
                                        go_simp
                                      · refine ⟨fun _ => ?_, fun hy => absurd (by simp [yieldR, slotR, *]) hy⟩
                                        go_simp
                                      · refine ⟨fun _ => ?_, fun hy => absurd (by simp [yieldR, slotR, *]) hy⟩
                                        go_simp
                                      · refine ⟨fun _ => ?_, fun hy => absurd (by simp [yieldR, slotR, *]) hy⟩
                                        go_simp
                                      · refine ⟨fun _ => ?_, fun hy => absurd (by simp [yieldR, slotR, *]) hy⟩
                                        go_simp
                                      · refine ⟨fun _ => ?_, fun hy => absurd (by simp [yieldR, slotR, *]) hy⟩
                                        go_simp
                                      · refine ⟨fun _ => ?_, fun hy => absurd (by simp [yieldR, slotR, *]) hy⟩
                                        have hq := FK.out
                                        go_simp
                                      · refine ⟨fun _ => ?_, fun hy => absurd (by simp [yieldR, slotR, *]) hy⟩
                                        go_simp
                                      · refine ⟨fun _ => ?_, fun hy => absurd (by simp [yieldR, slotR, *]) hy⟩
                                        go_simp
                                      · refine ⟨fun _ => ?_, fun hy => absurd (by simp [yieldR, slotR, *]) hy⟩
                                        have hq := FM.out
                                        go_simp
                                      · refine ⟨fun _ => ?_, fun hy => absurd (by simp [yieldR, slotR, *]) hy⟩
                                        go_simp
                                      · refine ⟨fun hy => ?_, fun _ => rfl⟩
                                        exfalso; simp [yieldR, slotR, undef, *] at hy
                                      · refine ⟨fun hy => ?_, fun _ => rfl⟩
                                        exfalso; simp [yieldR, slotR, undef, *] at hy
                                      · refine ⟨fun hy => ?_, fun _ => rfl⟩
                                        exfalso; simp [yieldR, slotR, undef, *] at hy
                                      · refine ⟨fun hy => ?_, fun _ => rfl⟩
                                        exfalso; simp [yieldR, slotR, undef, *] at hy
                                      · refine ⟨fun hy => ?_, fun _ => rfl⟩
                                        exfalso; simp [yieldR, slotR, undef, *] at hy
                                      · refine ⟨fun hy => ?_, fun _ => rfl⟩
                                        exfalso; simp [yieldR, slotR, undef, *] at hy
                                      · refine ⟨fun hy => ?_, fun _ => rfl⟩
                                        exfalso; simp [yieldR, slotR, undef, *] at hy
                                      · refine ⟨fun hy => ?_, fun _ => rfl⟩
                                        exfalso; simp [yieldR, slotR, undef, *] at hy
                                      · refine ⟨fun hy => ?_, fun _ => rfl⟩
                                        exfalso; simp [yieldR, slotR, undef, *] at hy
                                      · refine ⟨fun hy => ?_, fun _ => rfl⟩
                                        exfalso; simp [yieldR, slotR, undef, *] at hy
                                      · refine ⟨fun hy => ?_, fun _ => rfl⟩
                                        exfalso; simp [yieldR, slotR, undef, *] at hy
                                      · refine ⟨fun hy => ?_, fun _ => rfl⟩
                                        exfalso; simp [yieldR, slotR, undef, *] at hy
                                      · refine ⟨fun hy => ?_, fun _ => rfl⟩
                                        exfalso; simp [yieldR, slotR, undef, *] at hy
                                      · refine ⟨fun hy => ?_, fun _ => rfl⟩
                                        exfalso; simp [yieldR, slotR, undef, *] at hy
                                      · refine ⟨fun hy => ?_, fun _ => rfl⟩
                                        exfalso; simp [yieldR, slotR, undef, *] at hy
                                      · refine ⟨fun hy => ?_, fun _ => rfl⟩
                                        exfalso; simp [yieldR, slotR, undef, *] at hy
                                      · refine ⟨fun hy => ?_, fun _ => rfl⟩
                                        exfalso; simp [yieldR, slotR, undef, *] at hy
                                      · refine ⟨fun hy => ?_, fun _ => rfl⟩
                                        exfalso; simp [yieldR, slotR, undef, *] at hy
                                      · refine ⟨fun _ => ?_, fun hy => absurd (by simp [yieldR, slotR, *]) hy⟩
                                        go_simp
                                      · go_simp
                                    · intro vs x9 hp hw
                                      simp only [owed, Fx] at hw
                                      obtain ⟨e0, e1, e2, e3, e4, e5, e6, e7, e8, e9, e10, e11, e12, e13, e14, e15, e16, e17, e18, e19, e20, e21, e22, e23, e24, e25, e26, e27, e28, e29, e30, e31, e32, e33, e34, e35, e36, e37, e38, e39, e40, e41, e42, e43, e44, e45, -⟩ := hw
                                      simp only [List.length_cons, List.length_nil, List.take_succ_cons, List.take_nil, List.drop_succ_cons, List.drop_nil, asg, List.cons_append, List.nil_append, e0, e1, e2, e3, e4, e5, e6, e7, e8, e9, e10, e11, e12, e13, e14, e15, e16, e17, e18, e19, e20, e21, e22, e23, e24, e25, e26, e27, e28, e29, e30, e31, e32, e33, e34, e35, e36, e37, e38, e39, e40, e41, e42, e43, e44, e45]
                                      clear e0 e1 e2 e3 e4 e5 e6 e7 e8 e9 e10 e11 e12 e13 e14 e15 e16 e17 e18 e19 e20 e21 e22 e23 e24 e25 e26 e27 e28 e29 e30 e31 e32 e33 e34 e35 e36 e37 e38 e39 e40 e41 e42 e43 e44 e45
                                      have HB9 : Hid (Below wGP.heap.size wGP x9) := HBJ.out.trans (hp.mono (Below.size HBJ.out))
                                      clear hp d1 d2 kk ok1 rg1 lz e1 e2
                                      go_wp2
                                      go_roundw
                                      case rel => exact ⟨j + 1, by omega, by go_num, HB9.out⟩
                                      case measure => simp [intOf]; omega
                                · obtain rfl : m + 2 = j := by omega
                                  have hjn' : ¬ ((m : Int) + 2) < (m : Int) + 2 := by omega
                                  have HBJ : Hid _ := hbw
                                  clear hbw o1 o2 hFL
                                  go_wp2
                                  go_roundw
                                  case rel => exact ⟨i + 1, by omega, by go_num, HBJ.out⟩
                                  case measure => simp [intOf]; omega
                            · obtain rfl : n2 = i := by omega
                              have hlt' : ¬ (n2 : Int) < (n2 : Int) := by omega
                              have HBLS : Hid _ := hbw
                              obtain ⟨wLS, rfl⟩ : ∃ q, q = wr := ⟨_, rfl⟩
                              clear hbw
                              go_wp2
                              go_loopw [17] (fun av wr => ∃ a : Nat, a ≤ n4 ∧ av = .int .i64 a ∧ Below wGP.heap.size wGP wr) (fun av _ => n4 - (intOf av).toNat)
                              case atStart => exact ⟨0, by omega, rfl, HBLS.out⟩
                              case round =>
                                obtain ⟨i, hi, rfl, hbw⟩ := hrel
                                by_cases hlt : i < n4
                                · have hlt' : (i : Int) < (n4 : Int) := by omega
                                  obtain ⟨⟨⟨y, m, c⟩, L⟩, hx⟩ : ∃ q, b.sP[i]? = some q := ⟨_, List.getElem?_eq_getElem (by omega)⟩
                                  have hl := hfP _ (List.mem_of_getElem? hx)
                                  have hlb := Hb.out.bP _ (List.mem_of_getElem? hx)
                                  simp only at hl hlb
                                  have hm4 : m ≤ 8388608 := by omega
                                  have hFL : ∀ wr, Below wGP.heap.size wGP wr → (∃ gr, yP = some ⟨gr, 0, none⟩ ∧ wr.cell? ⟨gr, i, none⟩ = some (.slice y m c)) ∧ (∃ gl gz cz, xl = some ⟨gl, 0, none⟩ ∧ wr.cell? ⟨gl, i, none⟩ = some (.slice (some ⟨gz, 0, none⟩) (m + 2) cz) ∧ OwnK wrE wr B (.slice (some ⟨gz, 0, none⟩) (m + 2) cz) (List.replicate (m + 2) (mP i))) ∧ OwnK wrE wr B (.slice y m c) (List.replicate m (mP i)) ∧ wr.cell? ⟨gk, 2, none⟩ = some (.slice yP n4 cP) := fun wr hbw => by
                                    have hY := HLP.out.1.later hbw
                                    obtain ⟨k0, -, k2, -⟩ := HC.out _ _ hY.ga hY.book
                                    have hr1 := hY.ga.isG hY.P
                                    rw [hbP] at hr1
                                    simp only [Slc.v] at hr1
                                    have hr2 := hY.ga.isG HLP.out.2.1
                                    obtain ⟨o1, o2⟩ := hY.gr_P hx hl hlt
                                    have hzn := HLP.out.2.2 i _ hlt hx
                                    simp only [hl] at hzn
                                    obtain ⟨⟨yz, nz, cz⟩, hzi⟩ : ∃ q, z i = q := ⟨_, rfl⟩
                                    rw [hzi] at o2 hzn
                                    simp only at hzn
                                    subst hzn
                                    simp only [Slc.v] at o2
                                    obtain ⟨gz, hgz, -⟩ := o2.form (by simp)
                                    subst hgz
                                    refine ⟨?_, ?_, o1, k2⟩
                                    · obtain ⟨g, c8, eg, -⟩ := OwnG.form hr1 (List.ne_nil_of_length_pos (by simp only [List.length_map]; omega))
                                      have eg1 := (Value.slice.inj eg).1
                                      have h9 : (b.sP.map sVal)[i]? = some (.slice y m c) := by rw [List.getElem?_map, hx]; rfl
                                      rw [eg1] at hr1
                                      exact ⟨g, eg1, hr1.cell i _ h9⟩
                                    · obtain ⟨g, c8, eg, -⟩ := OwnG.form hr2 (List.ne_nil_of_length_pos (by simp only [zL5_len]; omega))
                                      have eg1 := (Value.slice.inj eg).1
                                      have h9 := zL5_at z n4 i hlt
                                      rw [hzi] at h9
                                      rw [eg1] at hr2
                                      exact ⟨g, gz, cz, eg1, hr2.cell i _ h9, o2⟩
                                  have HBI : Hid _ := hbw
                                  obtain ⟨-, ⟨gl, gz, cz, hxl, d0, -⟩, -⟩ := hFL wr hbw
                                  subst hxl
                                  obtain ⟨wo, rfl⟩ : ∃ q, q = wr := ⟨_, rfl⟩
                                  clear hbw hx
                                  go_wp2
                                  go_loopw [18] (fun bv wr => ∃ j : Nat, j ≤ m + 2 ∧ bv = .int .i64 j ∧ Below wGP.heap.size wGP wr) (fun bv _ => m + 2 - (intOf bv).toNat)
                                  case atStart => exact ⟨0, by omega, rfl, HBI.out⟩
                                  case round =>
                                    obtain ⟨j, hj, rfl, hbw⟩ := hrel
                                    clear d0
                                    obtain ⟨⟨gr, hy1, d1⟩, ⟨gl9, gz9, cz9, hxl9, d2, o2⟩, o1, kk⟩ := hFL wr hbw
                                    have egl : gl9 = gl := by cases hxl9; rfl
                                    subst egl
                                    rw [hy1] at kk
                                    by_cases hjn : j < m + 2
                                    · have hjn' : (j : Int) < (m : Int) + 2 := by omega
                                      have rg1 := (wrCells o2 j (mP i) (by simp [hjn])).1
                                      have HBJ : Hid _ := hbw
                                      by_cases hjm : j < m
                                      · have hjm' : (j : Int) < (m : Int) := by omega
                                        obtain ⟨gy, hgy, -⟩ := o1.form (by simp; omega)
                                        subst hgy
                                        have rg2 := (wrCells o1 j (mP i) (by simp [hjm])).1
                                        clear hbw o1 o2 hFL hxl9
                                        have hmk : mP i = (-5 - (i : Int), secZ) := rfl
                                        rw [hmk] at rg1 rg2
                                        clear hmk
                                        simp only at rg1 rg2
                                        go_wp2
                                        go_roundw
                                        case rel => exact ⟨j + 1, by omega, by go_num, HBJ.out⟩
                                        case measure => simp [intOf]; omega
                                      · have hjm' : ¬ (j : Int) < (m : Int) := by omega
                                        clear hbw o1 o2 hFL hxl9
                                        have hmk : mP i = (-5 - (i : Int), secZ) := rfl
                                        rw [hmk] at rg1
                                        clear hmk
                                        simp only at rg1
                                        go_wp2
                                        go_roundw
                                        case rel => exact ⟨j + 1, by omega, by go_num, HBJ.out⟩
                                        case measure => simp [intOf]; omega
                                    · obtain rfl : m + 2 = j := by omega
                                      have hjn' : ¬ ((m : Int) + 2) < (m : Int) + 2 := by omega
                                      have HBJ : Hid _ := hbw
                                      clear hbw o1 o2 hFL
                                      go_wp2
                                      go_roundw
                                      case rel => exact ⟨i + 1, by omega, by go_num, HBJ.out⟩
                                      case measure => simp [intOf]; omega
                                · obtain rfl : n4 = i := by omega
                                  have hlt' : ¬ (n4 : Int) < (n4 : Int) := by omega
                                  have HBLP : Hid _ := hbw
                                  obtain ⟨wLP, rfl⟩ : ∃ q, q = wr := ⟨_, rfl⟩
                                  clear hbw
                                  go_wp2
                                  go_ret
                                  exact ⟨rfl, HBG.out.trans (HBLP.out.mono HszG.out)⟩
end Go.Proofs.Ytadnfiikfhdphaa
