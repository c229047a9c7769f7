
import Derived.Test.YtajmlfcbppnpgaaShaS
import Derived.Test.YtajmlfcbppnpgaaShaP
import Derived.Test.YtajmlfcbppnpgaaDig
namespace Go.Proofs.Ytajmlfcbppnpgaa
open Go.RowKit

/-- A row that holds a digest. -/
def DRow (w : World) (g : Nat) (s : Nat → UInt8) : Prop := dg_rowOk w g = true ∧ dg_rowAt w g = dg_secA s
theorem DRow.kept {w w1 : World} {g : Nat} {s : Nat → UInt8} (h : DRow w g s) (hb : Below w.heap.size w w1) : DRow w1 g s := dg_keepRow hb (dg_lt_of_rowOk h.1) h.1 h.2
theorem DRow.new (w : World) (s : Nat → UInt8) (t : TypeId) : DRow (w.alloc (.cells (dg_secA s) t)) w.heap.size s := ⟨dg_rowOk_new _ _ _ _ rfl (dg_secA_size _), dg_rowAt_new _ _ _ _ rfl⟩
theorem DRow.lt {w : World} {g : Nat} {s : Nat → UInt8} (h : DRow w g s) : g < w.heap.size := dg_lt_of_rowOk h.1
theorem DRow.cell {w : World} {g : Nat} {s : Nat → UInt8} (h : DRow w g s) (i : Nat) (hi : i < 32) : w.cell? ⟨g, i, none⟩ = some (Value.int .u8 ((s i).toNat : Int)) := by
  rw [dg_cell_rowAt h.1, h.2, dg_secA_get s i hi]
theorem DRow.frozen {w : World} {g : Nat} {s : Nat → UInt8} (h : DRow w g s) (i : Nat) : w.frozen? ⟨g, i, none⟩ = false := by
  obtain ⟨t, hg, _⟩ := dg_row_of_ok h.1
  simp [World.frozen?, hg]
theorem DRow.set {w : World} {g : Nat} {s : Nat → UInt8} (h : DRow w g s) (i : Nat) (b : UInt8) (hi : i < 32) : DRow (w.setCell ⟨g, i, none⟩ (.int .u8 (b.toNat : Int))) g (upd s i b) := by
  obtain ⟨t, hg, hs⟩ := dg_row_of_ok h.1
  have e := heap_setCell w g i (.int .u8 (b.toNat : Int)) _ t _ hg
  constructor
  · unfold dg_rowOk; rw [e]; simp [hs]
  · have e2 : dg_rowAt (w.setCell ⟨g, i, none⟩ (.int .u8 (b.toNat : Int))) g = (dg_rowAt w g).setIfInBounds i (.int .u8 (b.toNat : Int)) := by
      show (match (w.setCell ⟨g, i, none⟩ (.int .u8 (b.toNat : Int))).heap[g]? with | some (.cells c _ _) => c | _ => #[]) = _
      rw [e]
    rw [e2, h.2]; exact dg_secA_set s i b hi
def upTo (d : Nat → UInt8) (k : Nat) : Nat → UInt8 := fun j => if j < k then d j else 0
theorem upTo_zero (d : Nat → UInt8) : upTo d 0 = dg_secZ := by funext j; simp [upTo, dg_secZ]
theorem upTo_succ (d : Nat → UInt8) (k : Nat) : upTo d (k + 1) = upd (upTo d k) k (d k) := by
  funext j
  unfold upTo upd
  by_cases h : j = k
  · subst h; simp
  · have : (j < k + 1) = (j < k) := by simp; omega
    simp [h, this]
theorem upTo_all (d : Nat → UInt8) : dg_secA (upTo d 32) = dg_secA d := (dg_secA_inj _ _).2 fun i hi => by simp [upTo, hi]
set_option linter.unusedSimpArgs false in
set_option maxRecDepth 100000 in
set_option maxHeartbeats 800000 in
theorem refSha_any (v : Value) (l : List UInt8) (w : World) (hl : l.length ≤ 140737488351232) (hv : IsB w v l) :
    Calls Try.prog 12 #[v] w fun e w' => e = .returned (.agg (dg_secA (shaL l))) ∧ Below w.heap.size w w' := by
  obtain ⟨x, c, rfl⟩ := hv.len
  go_enter Try.func12, Try.ntmps12
  go_wp2_with fail
  have hI0 : OwnG 42 ((w.alloc (.cells (dg_secA dg_secZ) 29)).alloc (.cells (wsV init8.toL).toArray 42)) (w.heap.size + 1) (.slice (some ⟨w.heap.size + 1, 0, none⟩) 8 8) (wsV init8.toL) := by
    have := OwnG.lit 42 (w.alloc (.cells (dg_secA dg_secZ) 29)) (wsV init8.toL) (by unfold maxLen; simp [wsV, S8.toL])
    simpa [wsV_length, S8.toL] using this
  have hR0 : DRow ((w.alloc (.cells (dg_secA dg_secZ) 29)).alloc (.cells (wsV init8.toL).toArray 42)) w.heap.size dg_secZ := (DRow.new w dg_secZ _).kept (below_alloc _ _)
  have hB00 : Below w.heap.size w ((w.alloc (.cells (dg_secA dg_secZ) 29)).alloc (.cells (wsV init8.toL).toArray 42)) := (below_alloc w _).alloc (by simp) _
  have hP := refPadded_any (.slice x l.length c) l _ hl (hv.kept hB00)
  rw [show (wsV init8.toL).toArray = #[Value.int IntKind.u32 1779033703, Value.int IntKind.u32 3144134277, Value.int IntKind.u32 1013904242, Value.int IntKind.u32 2773480762, Value.int IntKind.u32 1359893119, Value.int IntKind.u32 2600822924, Value.int IntKind.u32 528734635, Value.int IntKind.u32 1541459225] by kernel_rfl] at hI0 hR0 hB00 hP
  have HP := hP
  clear hP
  refine HP.mono ?_
  rintro e w2 ⟨ul, rfl, hOL, hB2⟩
  clear HP
  have hI2 := hI0.keep hB2
  have hR2 := hR0.kept hB2
  have hBw2 : Below w.heap.size w w2 := hB00.trans (hB2.mono hB00.size)
  obtain ⟨gl, cl, rfl, hgl, hcl, hclm⟩ := hOL.form (by unfold padL; simp)
  have hL0 := hOL.isB
  have hLm := padL_length l
  have hLb : (padL l).length ≤ 140737488351400 := by unfold padL; simp [be8]; unfold padZ; omega
  have HD : Hid (shaL l = digL (stB (padL l) ((padL l).length / 64))) := rfl
  generalize padL l = L at *
  obtain ⟨B0, hB0e⟩ : ∃ B0, w.heap.size + 1 = B0 := ⟨_, rfl⟩
  have hB02 : B0 ≤ w2.heap.size := by have := World.ownsRow.lt hI2 (w.heap.size + 1) rfl; omega
  rw [hB0e] at hI2
  clear hI0 hR0 hB00 hB2 hOL hv
  go_wp2_with fail
  go_loopw [3, 5] (fun v i wr => ∃ (k gs cs : Nat), 64 * k ≤ L.length ∧ i = .int .i64 ((64 * k : Nat) : Int) ∧ v = .slice (some ⟨gs, 0, none⟩) 8 cs ∧ OwnG 42 wr B0 (.slice (some ⟨gs, 0, none⟩) 8 cs) (wsV (stB L k).toL) ∧ Below w2.heap.size w2 wr) (fun _ i _ => L.length - (intOf i).toNat)
  case atStart => exact ⟨0, _, _, by omega, rfl, rfl, hI2, Below.refl _ _⟩
  case round =>
    clear hI2
    obtain ⟨k, gs, cs, hk, rfl, rfl, hO, hB⟩ := hrel
    have hsz := hB.size
    by_cases hlt : 64 * k < L.length
    · obtain ⟨m, hm⟩ : ∃ m, 64 * k = m := ⟨_, rfl⟩
      obtain ⟨m2, hm2⟩ : ∃ m2, m + 64 = m2 := ⟨_, rfl⟩
      have hm3 : m2 ≤ L.length := by omega
      have n1 : (m : Int) + 64 = (m2 : Int) := by omega
      have b1 : (m : Int) ≤ (m2 : Int) := by omega
      have b2 : (m2 : Int) ≤ (cl : Int) := by omega
      have b3 : (0 : Int) ≤ (m : Int) := by omega
      have b4 : (m : Int) < (L.length : Int) := by omega
      have w1 := wrap64 m2 (by omega)
      have hL := hL0.kept hB
      have hS := hO.isG
      have hB0 : B0 ≤ wr.heap.size := Nat.le_trans hB02 hsz
      rw [hm]
      go_upto_region 6 with fail
      refine wp_plainsT [Fx (.slice (some ⟨gs, 0, none⟩) 8 cs), Fx (.slice (some ⟨gl, 0, none⟩) L.length cl), Fx (.int .i64 (m : Nat)), Fx (.int .i64 (m : Nat)), Fx (.int .i64 (m2 : Nat)), fun v x => ∃ y d, v = .slice y 64 d ∧ IsB x (.slice y 64 d) ((L.drop (64 * k)).take 64), fun v x => ∃ q d, v = .slice (some ⟨q, 0, none⟩) 8 d ∧ OwnG 42 x B0 (.slice (some ⟨q, 0, none⟩) 8 d) (wsV (stB L (k + 1)).toL)] (by kernel_rfl) (by kernel_rfl) ?_ ?_ ?_
      · repeat' (first | exact all_nil | apply all_cons)
        all_goals intro v y y' hv hb
        all_goals first | exact Fx_mono _ _ _ _ hv hb | (obtain ⟨y, d, h1, h2⟩ := hv; exact ⟨y, d, h1, IsB.kept h2 hb⟩) | (obtain ⟨q, d, h1, h2⟩ := hv; exact ⟨q, d, h1, OwnG.keep h2 hb⟩)
      · refine ⟨?_, ?_, ?_, ?_, ?_, ?_, ?_, trivial⟩
        all_goals
          intro ρ x hp ρc ρg ρf ho hd
          have o3 : ρ (.tmp 3) = .slice (some ⟨gs, 0, none⟩) 8 cs := ho 3 rfl
          have o4 : ρ (.tmp 4) = .slice (some ⟨gl, 0, none⟩) L.length cl := ho 4 rfl
          have o5 : ρ (.tmp 5) = .int .i64 (m : Nat) := ho 5 rfl
          clear ho
          have iL := hL.kept hp
          have iS := hS.kept hp
          have hx0 : B0 ≤ x.heap.size := Nat.le_trans hB0 hp.size
          simp only [depsR, depR, slotR, Fx, List.getElem?_cons_succ, List.getElem?_cons_zero, Region.binds, forall_const] at hd
          simp only [guardR]
          go_split_ands
        · go_simp
        · go_simp
        · go_simp
        · go_simp
        · go_simp
        · go_simp
          refine ⟨_, _, ⟨rfl, by omega, rfl⟩, ?_⟩
          have hz := iL.cut m 64 (by omega) hcl
          simp only [Option.map_some, addr_add, Nat.zero_add] at hz
          exact hz
        · obtain ⟨y, d, hy, hyB⟩ := ‹∃ y d, ρ (.tmp 22) = _ ∧ _›
          go_simp
          refine (refStep_any (stB L k) ((L.drop (64 * k)).take 64) _ _ _ _ x iS hyB (by simp; omega)).mono ?_
          rintro e x' ⟨q, d2, rfl, hq, hb⟩
          exact ⟨_, rfl, ⟨q, d2, rfl, hq.le hx0⟩, hb⟩
      · intro vs x1 hp hw
        simp only [owed, Fx] at hw
        obtain ⟨e0, e1, e2, e3, e4, e5, ⟨q, d2, e6, hq⟩, -⟩ := hw
        simp only [List.length_cons, List.length_nil, List.take_succ_cons, List.take_zero, List.drop_succ_cons, List.drop_zero, asg, List.cons_append, List.nil_append, e0, e1, e2, e3, e4, e6]
        clear e0 e1 e2 e3 e4 e6 e5
        have HO : Hid (OwnG 42 x1 B0 (.slice (some ⟨q, 0, none⟩) 8 d2) (wsV (stB L (k + 1)).toL)) := hq
        have HB : Hid (Below w2.heap.size w2 x1) := hB.trans (hp.mono hsz)
        have HM : Hid ((m2 : Int) = ((64 * (k + 1) : Nat) : Int)) := by show _ = _; omega
        have HM2 : Hid (64 * (k + 1) ≤ L.length) := by show _ ≤ _; omega
        have HM3 : Hid (L.length - m2 < L.length - m) := by show _ < _; omega
        clear hO hB hq hp hL hS
        go_wp2
        go_roundw
        case rel => first | exact ⟨k + 1, q, d2, HM2.out, by rw [HM.out], rfl, HO.out, HB.out⟩ | ((repeat apply Exists.intro); refine ⟨⟨k + 1, q, d2, HM2.out, ?_, rfl, HO.out, HB.out⟩, rfl⟩; rw [HM.out])
        case measure => simpa [intOf] using HM3.out
    · have hkl : L.length / 64 = k := by omega
      rw [hkl] at HD
      have hSc : ∀ j, j < 8 → (wr.alloc (.cells (dg_secA dg_secZ) 29)).cell? ⟨gs, j, none⟩ = some (.int .u32 ((wAt (stB L k).toL j).toNat : Nat)) := fun j hj => cell_later (below_alloc _ _) (hO.cell j _ (wsV_get _ j hj))
      have hgs : gs < wr.heap.size := (OwnG.lt hO gs rfl).2
      have hRd : DRow (wr.alloc (.cells (dg_secA dg_secZ) 29)) wr.heap.size dg_secZ := DRow.new wr dg_secZ _
      have hR4 : DRow (wr.alloc (.cells (dg_secA dg_secZ) 29)) w.heap.size dg_secZ := (hR2.kept hB).kept (below_alloc _ _)
      have hBw : Below w.heap.size w wr := hBw2.trans (hB.mono hBw2.size)
      have hB4 : Below w.heap.size w (wr.alloc (.cells (dg_secA dg_secZ) 29)) := hBw.alloc hBw.size _
      have hgw : w.heap.size ≠ wr.heap.size := by have := (hR2.kept hB).lt; omega
      have hgd : w.heap.size ≤ wr.heap.size := hBw.size
      generalize stB L k = S at hSc HD
      go_wp2_with fail
      generalize wr.heap.size = gd at hgs hRd hgw hgd ⊢
      generalize wr.alloc (.cells (dg_secA dg_secZ) 29) = Y at hSc hRd hR4 hB4 ⊢
      clear hO hB hBw hR2 hBw2 hL0 hsz
      go_loopw [7] (fun i w5 => ∃ n : Nat, n ≤ 32 ∧ i = .int .i64 n ∧ DRow w5 gd (upTo (digL S) n) ∧ (∀ j, j < 8 → w5.cell? ⟨gs, j, none⟩ = some (.int .u32 ((wAt S.toL j).toNat : Nat))) ∧ DRow w5 w.heap.size dg_secZ ∧ Below w.heap.size w w5) (fun i _ => 32 - (intOf i).toNat)
      case atStart => exact ⟨0, by omega, rfl, by rw [upTo_zero]; exact hRd, hSc, hR4, hB4⟩
      case round =>
        clear hRd hSc hR4 hB4
        obtain ⟨n, hn, rfl, hRd, hSc, hR4, hB4⟩ := hrel
        by_cases hlt2 : n < 32
        · have HS0 := upTo_succ (digL S) n
          obtain ⟨b, hb⟩ : ∃ b, digL S n = b := ⟨_, rfl⟩
          rw [hb] at HS0
          obtain ⟨q, hq⟩ : ∃ q, n / 4 = q := ⟨_, rfl⟩
          obtain ⟨rr, hrr⟩ : ∃ q, n % 4 = q := ⟨_, rfl⟩
          obtain ⟨sh, hsh⟩ : ∃ q, 24 - 8 * rr = q := ⟨_, rfl⟩
          have hcs := hSc q (by omega)
          unfold digL at hb
          rw [hq, hrr, hsh] at hb
          generalize wAt S.toL q = W at hcs hb
          have hbv : (W.toNat : Int) / (2 : Int) ^ sh % 256 = (b.toNat : Int) := by rw [← hb, UInt8.toNat_ofNat']; simp
          have n1 : (n : Int) / 4 = (q : Int) := by omega
          have n2 : (n : Int) % 4 = (rr : Int) := by omega
          have n3 : (24 : Int) - 8 * (rr : Int) = (sh : Int) := by omega
          have b1 : (q : Int) < 8 := by omega
          have b2 : (0 : Int) ≤ (sh : Int) := by omega
          have b3 : (rr : Int) < 4 := by omega
          have b4 : (sh : Int) ≤ 24 := by omega
          have hn0 : (0 : Int) ≤ (n : Int) := by omega
          have hn1 : (n : Int) < 32 := by omega
          have hcd := hRd.cell n hlt2
          have hfz := hRd.frozen n
          have HR : Hid (DRow (wr.setCell ⟨gd, n, none⟩ (.int .u8 (b.toNat : Int))) gd (upTo (digL S) (n + 1))) := by show DRow _ _ _; rw [HS0]; exact hRd.set n b hlt2
          have HC : Hid (∀ j, j < 8 → (wr.setCell ⟨gd, n, none⟩ (.int .u8 (b.toNat : Int))).cell? ⟨gs, j, none⟩ = some (.int .u32 ((wAt S.toL j).toNat : Nat))) := fun j hj => by
            rw [World.cell?_setCell_other (h := addr_ne (by omega))]; exact hSc j hj
          have HZ : Hid (DRow (wr.setCell ⟨gd, n, none⟩ (.int .u8 (b.toNat : Int))) w.heap.size dg_secZ) := by
            have hh : (wr.setCell ⟨gd, n, none⟩ (.int .u8 (b.toNat : Int))).heap[w.heap.size]? = wr.heap[w.heap.size]? := by
              simp only [World.setCell, Array.getElem?_modify]; rw [if_neg (fun e => hgw e.symm)]
            show DRow _ _ _
            unfold DRow dg_rowOk dg_rowAt
            rw [hh]; exact hR4
          have HB : Hid (Below w.heap.size w (wr.setCell ⟨gd, n, none⟩ (.int .u8 (b.toNat : Int)))) := hB4.setCell hgd _
          clear hRd hSc hR4 hB4 hb HS0 hq hrr hsh
          go_wp2
          go_roundw
          case rel => first | exact ⟨n + 1, by omega, by go_num, HR.out, HC.out, HZ.out, HB.out⟩ | ((repeat apply Exists.intro); refine ⟨⟨n + 1, by omega, ?_, HR.out, HC.out, HZ.out, HB.out⟩, rfl⟩; go_num)
          case measure => simp [intOf]; omega
        · obtain rfl : n = 32 := by omega
          obtain ⟨r1, q1⟩ := hRd
          obtain ⟨r2, q2⟩ := hR4
          rw [upTo_all] at q1
          clear hSc
          go_wp2
          refine dg_bodyPost_sec 2 w.heap.size rfl rfl rfl (by go_simp) ⟨?_, dg_below_row hB4 (Nat.le_refl _) _⟩
          rw [HD.out]; go_simp
end Go.Proofs.Ytajmlfcbppnpgaa
