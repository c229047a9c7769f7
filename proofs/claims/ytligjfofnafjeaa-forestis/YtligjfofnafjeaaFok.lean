
import Derived.Test.YtligjfofnafjeaaFol
namespace Go.Proofs.Ytligjfofnafjeaa
open Go.RowKit Go.Maps

/-! forest.rounds: one slot of each cycle -/
/-- How many of the first n cells of a block hold 0. -/
def zcnt (w : World) (g n : Nat) : Nat := ((List.range n).filter fun k => match w.cell? ⟨g, k, none⟩ with | some (.int _ z) => z == 0 | _ => false).length
def nW (W : Nat → Nat) : Nat → Int := fun k => (W k : Int)
theorem nW_set (W : Nat → Nat) (x s : Nat) : nW (fun k => if k = x then s else W k) = fun j => if j = x then (s : Int) else nW W j := by
  funext k
  show ((if k = x then s else W k : Nat) : Int) = if k = x then (s : Int) else (W k : Int)
  split <;> rfl
theorem zcnt_eq {w : World} {g n c B : Nat} {W : Nat → Nat} (h : OwnG 3 w B (.slice (some ⟨g, 0, none⟩) n c) (zF (nW W) n)) : zcnt w g n = ((List.range n).filter fun k => W k == 0).length := by
  unfold zcnt
  congr 1
  refine List.filter_congr fun k hk => ?_
  rw [List.mem_range] at hk
  rw [h.cell k _ (zF_get _ n k hk)]
  show ((W k : Int) == 0) = (W k == 0)
  by_cases e : W k = 0
  · rw [e]; rfl
  · rw [beq_eq_false_iff_ne.2 e]; exact beq_eq_false_iff_ne.2 (by omega)
theorem cnt_less {W : Nat → Nat} {n x s : Nat} (hx : x < n) (h0 : W x = 0) : ((List.range n).filter fun k => (if k = x then s + 1 else W k) == 0).length < ((List.range n).filter fun k => W k == 0).length := by
  have e1 : ((List.range n).filter fun k => (if k = x then s + 1 else W k) == 0) = ((List.range n).filter fun k => W k == 0).filter fun k => !(k == x) := by
    rw [List.filter_filter]
    refine List.filter_congr fun k _ => ?_
    by_cases e : k = x
    · rw [if_pos e, e]; simp
    · rw [if_neg e, beq_eq_false_iff_ne.2 e]; simp
  rw [e1, List.length_filter_lt_length_iff_exists]
  exact ⟨x, by simp [hx, h0], by simp⟩
/-- What rounds leaves. -/
def RnP (n : Nat) (u : Nat → Int) (w : World) (e : Ending) (w' : World) : Prop := ∃ v M Wf, e = .returned v ∧ OwnG 3 w' w.heap.size v (iF M) ∧ Below w.heap.size w w' ∧ Rnd n u Wf n M
def T20 (B : Nat) (vw : Value) (n : Nat) (W : Nat → Nat) (vm : Value) (M : List Nat) : Nat → Option Th := fun k => if k = 0 then some (thG 3 B vw (zF (nW W) n)) else if k = 1 then some (thG 3 B vm (iF M)) else none
theorem T20_w {B n : Nat} {vw vm : Value} {W W' : Nat → Nat} {M : List Nat} : ∀ k t, T20 B vw n W' vm M k = some t → updT (T20 B vw n W vm M) 0 (thG 3 B vw (zF (nW W') n)) k = some t := by
  intro k t hk
  unfold T20 updT at *
  by_cases e : k = 0
  · rw [if_pos e] at hk ⊢; exact hk
  · rw [if_neg e] at hk ⊢
    show (if k = 0 then _ else if k = 1 then _ else none) = _
    rw [if_neg e]; exact hk
theorem T20_m {B n : Nat} {vw vm vm' : Value} {W : Nat → Nat} {M M' : List Nat} : ∀ k t, T20 B vw n W vm' M' k = some t → updT (T20 B vw n W vm M) 1 (thG 3 B vm' (iF M')) k = some t := by
  intro k t hk
  unfold T20 updT at *
  by_cases e : k = 0
  · rw [if_pos e] at hk; rw [if_neg (by omega)]
    show (if k = 0 then _ else if k = 1 then _ else none) = _
    rw [if_pos e]; exact hk
  · rw [if_neg e] at hk
    by_cases e1 : k = 1
    · rw [if_pos e1] at hk ⊢; exact hk
    · rw [if_neg e1] at hk; cases hk
set_option linter.unusedSimpArgs false in
set_option maxRecDepth 100000 in
set_option maxHeartbeats 4000000 in
theorem rounds21 (u : Nat → Int) (y : Option Addr) (n d : Nat) (w : World) (h41 : n ≤ 4398046511104) (hu : IsG w (.slice y n d) (zF u n)) (huk : uOk n u) :
    Calls Try.prog 20 #[.slice y n d] w fun e w' => RnP n u w e w' := by
  have m0 : (0 : Int) ≤ (n : Int) := by omega
  have m1 : (n : Int) ≤ 35184372088832 := by omega
  have m2 : ((n : Int)).toNat = n := by omega
  have bC := below_alloc w (.cells (zerosI n).toArray 3)
  have hG0 : Ga (w.alloc (.cells (zerosI n).toArray 3)) w.heap.size (T20 w.heap.size (.slice (some ⟨w.heap.size, 0, none⟩) n n) n (fun _ => 0) (.slice none 0 0) []) := by
    have h0 : Ga w w.heap.size (fun _ => none) := Ga.start (Nat.le_refl _)
    have hO := ownI_new n w h41
    have h1 := (h0.newG 0 bC hO hO).newG 1 (Below.refl _ _) (OwnG.nil 3 _ _) (OwnG.nil 3 _ _)
    refine h1.less fun k t hk => ?_
    unfold T20 at hk
    unfold updT
    by_cases e : k = 0
    · rw [if_pos e] at hk; rw [if_neg (by omega), if_pos e]; exact hk
    · rw [if_neg e] at hk
      by_cases e1 : k = 1
      · rw [if_pos e1] at hk ⊢; exact hk
      · rw [if_neg e1] at hk; cases hk
  obtain ⟨gw, hgw⟩ : ∃ z, w.heap.size = z := ⟨_, rfl⟩
  have HGW : Hid (w.heap.size = gw) := hgw
  go_enter Try.func20, Try.ntmps20
  go_upto_region 3 with fail
  rw [hgw] at bC hG0
  try simp only [hgw]
  generalize w.alloc (.cells (zerosI n).toArray 3) = W1 at bC hG0 ⊢
  clear m0 m1 m2 hgw
  go_wp2_with fail
  go_loopw [3, 13] (fun mv iv wr => ∃ (s : Nat) (vm : Value) (Wf : Nat → Nat) (M : List Nat), s ≤ n ∧ iv = .int .i64 s ∧ mv = vm ∧ Rnd n u Wf s M ∧ Ga wr gw (T20 gw (.slice (some ⟨gw, 0, none⟩) n n) n Wf vm M) ∧ Below gw w wr) (fun _ iv _ => n - (intOf iv).toNat)
  case atStart => exact ⟨0, _, _, _, by omega, rfl, rfl, Rnd.start, hG0, bC⟩
  case round =>
    clear bC hG0
    obtain ⟨s, vm, W0, M, hi, rfl, rfl, hR0, hG, hB⟩ := hrel
    by_cases hlt : s < n
    · have i0 : (s : Int) < (n : Int) := by omega
      have i1 : (0 : Int) ≤ (s : Int) := by omega
      have HI : Hid (s < n) := hlt
      obtain ⟨wo, hwo⟩ : ∃ wo, wo = wr := ⟨_, rfl⟩
      subst hwo
      obtain ⟨v3, hv3⟩ : ∃ v3, v3 = u3 := ⟨_, rfl⟩
      subst hv3
      have q1 : IntKind.i64.wrap ((s : Int) + 1) = ((s + 1 : Nat) : Int) := by rw [IntKind.wrap_i64]; omega
      go_wp2_with fail
      go_step3
      go_wp2_with fail
      go_step3
      go_wp2_with fail
      go_loopw [3, 7] (fun mv av wr => ∃ (T : List Nat) (Wf : Nat → Nat) (a : Int), mv = v3 ∧ av = .int .i64 a ∧ Flw n u W0 s Wf T a ∧ Ga wr gw (T20 gw (.slice (some ⟨gw, 0, none⟩) n n) n Wf v3 M) ∧ Below gw w wr) (fun _ _ wr => zcnt wr gw n)
      case atStart => exact ⟨[], W0, (s : Int), rfl, rfl, Flw.start hlt, hG, hB⟩
      case round =>
        clear hG hB
        obtain ⟨T, Wf, a, hv3, rfl, hW, hG, hB⟩ := hrel
        subst hv3
        rcases hW.at_ with rfl | ⟨x, rfl, hx⟩
        · have HR : Hid (Rnd n u Wf (s + 1) M) := hW.ends hR0 (by omega)
          have HG : Hid _ := hG
          have HB : Hid _ := hB
          clear hG hB hW hR0 hi hlt
          go_wp2
          rw [Exit.noGoto_normal]
          go_wp2
          go_roundw
          case rel => first | exact ⟨s + 1, _, _, M, by have := HI.out; omega, by go_num, rfl, HR.out, HG.out, HB.out⟩ | ((repeat apply Exists.intro); refine ⟨⟨s + 1, _, _, M, by have := HI.out; omega, ?_, rfl, HR.out, HG.out, HB.out⟩, rfl⟩; go_num)
          case measure => have := HI.out; simp [intOf]; omega
        · have e0 : ((x : Int) == -1) = false := beq_eq_false_iff_ne.2 (by omega)
          have x0 : (0 : Int) ≤ (x : Int) := by omega
          have x1 : (x : Int) < (n : Int) := by omega
          have hO := hG.isG (k := 0) rfl
          have cW := hO.cell x _ (zF_get _ n x hx)
          have fW := hO.frozen x
          by_cases h0 : Wf x = 0
          · have cW0 : wr.cell? ⟨gw, x, none⟩ = some (.int .i64 0) := by rw [cW]; show some (Value.int .i64 ((Wf x : Nat) : Int)) = _; rw [h0]; rfl
            have hSt := hW.step huk h0
            obtain ⟨hO3, hg2⟩ := hO.put x (.int .i64 ((s : Int) + 1))
            have hO2 : OwnG 3 (wr.setCell ⟨gw, x, none⟩ (.int .i64 ((s : Int) + 1))) gw (.slice (some ⟨gw, 0, none⟩) n n) (zF (nW (fun k => if k = x then s + 1 else Wf k)) n) := by
              rw [zF_set] at hO3
              rw [nW_set]; exact hO3
            clear hO3
            have hG2 := hG.putG (k := 0) (v := .slice (some ⟨gw, 0, none⟩) n n) rfl (Keep.of_grown hg2 (fun q hq => by cases hq; simp [Value.ownBlock])) hO2 (fun q hq => .inl hq)
            have HG1 := hG2.1.less (T20_w (W' := fun k => if k = x then s + 1 else Wf k))
            have hB2 := hB.trans ((hG2.2 [] (fun a ha => by cases ha)).below hG.size)
            have HS : Hid (zcnt (wr.setCell ⟨gw, x, none⟩ (.int .i64 ((s : Int) + 1))) gw n < zcnt wr gw n) := by
              show _ < _
              rw [zcnt_eq hO, zcnt_eq (W := fun k => if k = x then s + 1 else Wf k) hO2]
              exact cnt_less hx h0
            clear hO hO2 hg2 hG2 hG hB hW h0 cW
            go_upto_region 9 with fail
            generalize wr.setCell ⟨gw, x, none⟩ (.int .i64 ((s : Int) + 1)) = Z at HG1 hB2 HS ⊢
            have hU := hu.kept (by rw [HGW.out]; exact hB2)
            obtain ⟨gy, oy, e9, -, hc9⟩ := hU.spot x (by rw [zF_len]; exact hx)
            subst e9
            have cU := hc9 x _ (zF_get _ n x hx)
            have HT : Hid _ := hSt
            have HG : Hid _ := HG1
            have HB : Hid _ := hB2
            generalize u x = ux at cU hSt HT
            clear hU hc9 hSt HG1 hB2 cW0 fW
            go_wp2
            go_roundw
            case rel => first | exact ⟨x :: T, _, _, rfl, rfl, HT.out, HG.out, HB.out⟩ | ((repeat apply Exists.intro); refine ⟨⟨x :: T, _, _, rfl, rfl, HT.out, HG.out, HB.out⟩, rfl⟩)
            case measure => exact HS.out
          · by_cases h1 : Wf x = s + 1
            · have cW1 : wr.cell? ⟨gw, x, none⟩ = some (.int .i64 ((s : Int) + 1)) := by rw [cW]; show some (Value.int .i64 ((Wf x : Nat) : Int)) = _; rw [h1]; rfl
              have e1 : (((s : Int) + 1) == 0) = false := beq_eq_false_iff_ne.2 (by omega)
              have e2 : (((s : Int) + 1) == ((s : Int) + 1)) = true := beq_self_eq_true _
              have HR : Hid (Rnd n u Wf (s + 1) (M ++ [x])) := hW.meets hR0 huk h1
              have bC := below_alloc wr (.cells #[Value.int .i64 (x : Int)] 3)
              have hG1 := hG.later bC
              have hcl : (wr.alloc (.cells #[Value.int .i64 (x : Int)] 3)).cell? ⟨wr.heap.size, 0, none⟩ = some (.int .i64 (x : Int)) := cell_of_row _ _ 0 _ _ _ (heap_alloc_last _ _)
              have hM := hG1.isG (k := 1) rfl
              obtain ⟨xq, cq, hq⟩ := own_slice hM
              rw [iF_len] at hq
              have hlen := hR0.len
              obtain ⟨g', c', w', hra, hO2, hKp, hw⟩ := apLies eltI21 (wr.alloc (.cells #[Value.int .i64 (x : Int)] 3)) gw xq M.length cq (iF M) [.int .i64 (x : Int)] wr.heap.size 1 26 (by rw [← hq]; exact hM) (iF_len _) rfl (fun j z hz => by
                rcases j with _ | j
                · simp at hz; subst hz; exact hcl
                · simp at hz) (fun z hz => by simp at hz; subst hz; rfl) (by omega) hG1.size (by omega) (by unfold maxLen; omega)
              have e9 : iF M ++ [.int .i64 (x : Int)] = iF (M ++ [x]) := by rw [iF_app]; rfl
              rw [e9] at hO2
              have hG2 := hG1.putG (k := 1) (v := u3) rfl (by rw [hq]; exact hKp) hO2 (fun p hp => by
                cases hp
                rw [hq]; exact hw)
              have HG : Hid _ := hG2.1.less (T20_m (M' := M ++ [x]))
              have HB : Hid _ := (hB.trans (bC.mono hG.size |>.mono (Nat.le_refl _))).trans ((hG2.2 [] (fun a ha => by cases ha)).below hG1.size)
              clear hG hB hW hR0 hi hlt bC hG1 hcl hM hlen hO2 hKp hw e9 hG2 hO cW h0 h1 fW
              subst hq
              go_wp2_with (at_builtin; refine wpL_appG 26 rfl _ _ rfl _ w' (by exact hra) ?_)
              rw [Exit.noGoto_normal]
              go_wp2
              go_roundw
              case rel => first | exact ⟨s + 1, _, _, (M ++ [x]), by have := HI.out; omega, by go_num, rfl, HR.out, HG.out, HB.out⟩ | ((repeat apply Exists.intro); refine ⟨⟨s + 1, _, _, (M ++ [x]), by have := HI.out; omega, ?_, rfl, HR.out, HG.out, HB.out⟩, rfl⟩; go_num)
              case measure => have := HI.out; simp [intOf]; omega
            · obtain ⟨k9, hk9⟩ : ∃ k9 : Nat, Wf x = k9 := ⟨_, rfl⟩
              have cW1 : wr.cell? ⟨gw, x, none⟩ = some (.int .i64 (k9 : Int)) := by rw [cW]; show some (Value.int .i64 ((Wf x : Nat) : Int)) = _; rw [hk9]
              have e1 : ((k9 : Int) == 0) = false := beq_eq_false_iff_ne.2 (by omega)
              have e2 : ((k9 : Int) == ((s : Int) + 1)) = false := beq_eq_false_iff_ne.2 (by omega)
              have HR : Hid (Rnd n u Wf (s + 1) M) := hW.joins hR0 huk h0 h1
              have HG : Hid _ := hG
              have HB : Hid _ := hB
              clear hG hB hW hR0 hi hlt hO cW h0 h1 hk9 fW
              go_wp2
              rw [Exit.noGoto_normal]
              go_wp2
              go_roundw
              case rel => first | exact ⟨s + 1, _, _, M, by have := HI.out; omega, by go_num, rfl, HR.out, HG.out, HB.out⟩ | ((repeat apply Exists.intro); refine ⟨⟨s + 1, _, _, M, by have := HI.out; omega, ?_, rfl, HR.out, HG.out, HB.out⟩, rfl⟩; go_num)
              case measure => have := HI.out; simp [intOf]; omega
    · obtain rfl : n = s := by omega
      have i0 : ¬ (n : Int) < (n : Int) := by omega
      have HO : Hid (OwnG 3 wr gw u3 (iF M)) := hG.isG (k := 1) rfl
      have HB : Hid _ := hB
      have HR : Hid _ := hR0
      clear hG hB hR0 hi hlt
      go_wp2
      go_ret
      refine ⟨_, M, W0, rfl, ?_, ?_, HR.out⟩
      · rw [HGW.out]; exact HO.out
      · rw [HGW.out]; exact HB.out
end Go.Proofs.Ytligjfofnafjeaa
