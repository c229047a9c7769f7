
import Derived.Test.YthkjfgncbmpllaaDigQ
namespace Go.Proofs.Ythkjfgncbmpllaa
open Go.RowKit

/-! The digits one by one -/
def pd (l : List UInt8) (k : Nat) : Nat → UInt8 := fun j => if 2 * j + 1 < k then pval l j else if 2 * j < k then UInt8.ofNat (hiV l j).toNat else 0
def PU (l : List UInt8) (k : Nat) : Prop := ∀ i, i < k → 0 ≤ digV (lAt l (7 + i))
theorem pd_zero (l : List UInt8) : pd l 0 = dg_secZ := by
  funext j
  simp [pd, dg_secZ]
theorem pd_all (l : List UInt8) : dg_secA (pd l 64) = dg_secA (pval l) := (dg_secA_inj _ _).2 fun i hi => by
  unfold pd
  rw [if_pos (by omega)]
theorem pu_all {l : List UInt8} (h : PU l 64) : PUp l 32 := fun i hi => by
  have h1 := h (2 * i) (by omega)
  have h2 := h (2 * i + 1) (by omega)
  unfold hiV loV
  rw [show 8 + 2 * i = 7 + (2 * i + 1) by omega]
  exact ⟨h1, h2⟩
theorem pu_not {l : List UInt8} {k : Nat} (hk : k < 64) (h : ¬ 0 ≤ digV (lAt l (7 + k))) : ¬ PGood l := fun hg => by
  have h1 := hg.2.2 (k / 2) (by omega)
  unfold hiV loV at h1
  rcases (by omega : k % 2 = 0 ∨ k % 2 = 1) with e | e
  · rw [show 7 + 2 * (k / 2) = 7 + k by omega] at h1
    exact h h1.1
  · rw [show 8 + 2 * (k / 2) = 7 + k by omega] at h1
    exact h h1.2
theorem pd_step (l : List UInt8) (k : Nat) (hk : k < 64) (hu : PU l (k + 1)) : ∃ a : Nat, a < 16 ∧ (pd l k (k / 2)).toNat = a ∧ ((pd l (k + 1) (k / 2)).toNat : Int) = 16 * a + digV (lAt l (7 + k)) ∧ pd l (k + 1) = upd (pd l k) (k / 2) (pd l (k + 1) (k / 2)) := by
  have hup : ∀ j, pd l (k + 1) j = upd (pd l k) (k / 2) (pd l (k + 1) (k / 2)) j := fun j => by
    unfold upd
    by_cases e : j = k / 2
    · subst e; simp
    · rw [if_neg e]
      unfold pd
      by_cases h1 : 2 * j + 1 < k
      · rw [if_pos (by omega), if_pos h1]
      · have h2 : ¬ 2 * j < k := by omega
        rw [if_neg (by omega), if_neg (by omega), if_neg h1, if_neg h2]
  have hx := digV_range (lAt l (7 + k))
  have h0 := hu k (by omega)
  rcases (by omega : k % 2 = 0 ∨ k % 2 = 1) with e | e
  · refine ⟨0, by omega, ?_, ?_, funext hup⟩
    · unfold pd
      rw [if_neg (by omega), if_neg (by omega)]
      rfl
    · unfold pd
      rw [if_neg (by omega), if_pos (by omega)]
      unfold hiV
      rw [show 7 + 2 * (k / 2) = 7 + k by omega, UInt8.toNat_ofNat']
      omega
  · have hh := hu (k - 1) (by omega)
    have hr := digV_range (lAt l (7 + (k - 1)))
    have e1 : hiV l (k / 2) = digV (lAt l (7 + (k - 1))) := by unfold hiV; rw [show 7 + 2 * (k / 2) = 7 + (k - 1) by omega]
    have e2 : loV l (k / 2) = digV (lAt l (7 + k)) := by unfold loV; rw [show 8 + 2 * (k / 2) = 7 + k by omega]
    refine ⟨(hiV l (k / 2)).toNat, by omega, ?_, ?_, funext hup⟩
    · unfold pd
      rw [if_neg (by omega), if_pos (by omega), UInt8.toNat_ofNat']
      omega
    · have hn := pval_nat l (k / 2) (by rw [e1, e2]; exact ⟨hh, h0⟩)
      unfold pd
      rw [if_pos (by omega), hn, e2]
      omega
theorem or16 (a : Nat) (x : Int) (ha : a < 16) (h0 : 0 ≤ x) (h1 : x < 16) : bits .or .u8 (16 * (a : Int)) x = 16 * (a : Int) + x := by
  have h : ∀ (p q : Fin 16), bits .or .u8 (16 * ((p.val : Nat) : Int)) ((q.val : Nat) : Int) = 16 * ((p.val : Nat) : Int) + ((q.val : Nat) : Int) := by decide +kernel
  have := h ⟨a, ha⟩ ⟨x.toNat, by omega⟩
  simp only [Int.toNat_of_nonneg h0] at this
  exact this
theorem DgR.iter {w : World} {g it : Nat} {s : Nat → UInt8} (h : DgR w g s) (S : ByteArray) (p : Nat) (hn : g ≠ it) : DgR (w.iterAt it S p) g s := by
  unfold DgR dg_rowOk dg_rowAt at *
  rw [Lib.iterAt_other w it g S p hn]; exact h
theorem iter_setCell {w : World} {g it i : Nat} {o : Obj} (v : Value) (h : w.heap[it]? = some o) (hn : g ≠ it) : (w.setCell ⟨g, i, none⟩ v).heap[it]? = some o := by
  simp only [World.setCell, Array.getElem?_modify]
  rw [if_neg hn]; exact h
theorem rune_at (l : List UInt8) (k : Nat) (hk : k < 64) (hl : l.length = 71) : ∃ r wd : Nat, Utf8.decode ⟨(l.drop 7).toArray⟩ k = (r, wd) ∧ r ≤ 2147483647 ∧ rv (r : Int) = digV (lAt l (7 + k)) ∧ (0 ≤ digV (lAt l (7 + k)) → wd = 1) := by
  have hs : k < (ByteArray.mk (l.drop 7).toArray).size := by show k < (l.drop 7).toArray.size; simp; omega
  have hb : (ByteArray.mk (l.drop 7).toArray)[k]'hs = lAt l (7 + k) := by
    show (l.drop 7).toArray[k]'(by simp; omega) = _
    unfold lAt
    rw [List.getElem?_eq_getElem (by omega)]
    simp
  by_cases ha : (lAt l (7 + k)).toNat < 128
  · refine ⟨_, _, decode_ascii _ k hs (by rw [hb]; exact ha), ?_, ?_, fun _ => rfl⟩
    · have := ((ByteArray.mk (l.drop 7).toArray)[k]'hs).toNat_lt; omega
    · rw [hb, rv_digV]
  · have h1 := decode_high (ByteArray.mk (l.drop 7).toArray) k hs (by rw [hb]; omega)
    have h2 := decode_le (ByteArray.mk (l.drop 7).toArray) k
    have h3 : digV (lAt l (7 + k)) = -1 := by rw [← rv_digV]; exact rv_high _ (by omega)
    refine ⟨(Utf8.decode ⟨(l.drop 7).toArray⟩ k).1, (Utf8.decode ⟨(l.drop 7).toArray⟩ k).2, rfl, h2, ?_, fun h => by omega⟩
    rw [h3]
    exact rv_high _ (by omega)
set_option linter.unusedSimpArgs false in
set_option maxHeartbeats 800000 in
theorem parseOk : ParseOk := by
  intro l w
  have hsz : (ByteArray.mk l.toArray).size = l.length := by show l.toArray.size = _; simp
  have hsm : (ByteArray.mk (l.drop 7).toArray).size = l.length - 7 := by show (l.drop 7).toArray.size = _; simp
  have hB : Below w.heap.size w ((w.alloc (.cells (dg_secA dg_secZ) 23)).alloc (.cells (dg_secA dg_secZ) 23)) := (below_alloc w _).alloc (by simp) _
  have hRr : DgR ((w.alloc (.cells (dg_secA dg_secZ) 23)).alloc (.cells (dg_secA dg_secZ) 23)) w.heap.size dg_secZ := (DgR.new w dg_secZ _).kept (below_alloc _ _)
  have hRd : DgR ((w.alloc (.cells (dg_secA dg_secZ) 23)).alloc (.cells (dg_secA dg_secZ) 23)) (w.heap.size + 1) dg_secZ := by
    have := DgR.new (w.alloc (.cells (dg_secA dg_secZ) 23)) dg_secZ 23
    rw [World.size_alloc] at this
    exact this
  have hXs : ((w.alloc (.cells (dg_secA dg_secZ) 23)).alloc (.cells (dg_secA dg_secZ) 23)).heap.size = w.heap.size + 2 := by simp
  have hC := cutFront2 l
  go_enter Try.func8, Try.ntmps8
  go_upto_region 2 with fail
  obtain ⟨gd, hgd⟩ : ∃ g, w.heap.size + 1 = g := ⟨_, rfl⟩
  obtain ⟨gr, hgr⟩ : ∃ g, w.heap.size = g := ⟨_, rfl⟩
  have hne : gd ≠ gr := by omega
  have hlr : w.heap.size ≤ gr := by omega
  have hld : w.heap.size ≤ gd := by omega
  rw [hgd] at hRd
  rw [hgr] at hRr
  simp only [hgd]
  simp only [hgr]
  generalize (w.alloc (.cells (dg_secA dg_secZ) 23)).alloc (.cells (dg_secA dg_secZ) 23) = X at hB hRr hRd hXs ⊢
  have hdX : gd < X.heap.size := by omega
  have hrX : gr < X.heap.size := by omega
  clear hgd hXs
  go_wp2_with fail
  refine (hC _).mono ?_
  rintro e w1 ⟨rfl, rfl⟩
  by_cases hf : l.take 7 = frontS
  · simp only [if_pos hf, decide_eq_true hf]
    by_cases h71 : l.length = 71
    · have hm64 : (ByteArray.mk (l.drop 7).toArray).size = 64 := by omega
      have hru := fun k hk => rune_at l k hk h71
      obtain ⟨S, hS⟩ : ∃ S, ByteArray.mk (l.drop 7).toArray = S := ⟨_, rfl⟩
      rw [hS] at hm64 hru
      simp only [hS]
      clear hS hsm hsz
      go_wp2_with fail
      have hit := World.iter_heap w1 S 0
      have hBi : Below w1.heap.size w1 (w1.iter S 0) := below_alloc _ _
      obtain ⟨it, hitE⟩ : ∃ i, w1.heap.size = i := ⟨_, rfl⟩
      rw [hitE] at hit hdX hrX
      simp only [hitE]
      have hnd : gd ≠ it := by omega
      have hnr : gr ≠ it := by omega
      have hli : w.heap.size ≤ it := by omega
      replace hRd := hRd.kept hBi
      replace hRr := hRr.kept hBi
      replace hB := hB.trans (hBi.mono (by omega))
      generalize w1.iter S 0 = X1 at hit hBi hRd hRr hB ⊢
      clear hBi hC hitE
      go_loopw [] (fun wr => ∃ k : Nat, k ≤ 64 ∧ wr.heap[it]? = some (.stringIter S k) ∧ PU l k ∧ DgR wr gd (pd l k) ∧ DgR wr gr dg_secZ ∧ Below w.heap.size w wr) (fun wr => 64 - wr.iterPos it)
      case atStart => exact ⟨0, by omega, hit, fun i hi => by omega, by rw [pd_zero]; exact hRd, hRr, hB⟩
      case round =>
        clear hRd hRr hB hit
        obtain ⟨k, hk, hit, hU, hRd, hRr, hB⟩ := hrel
        by_cases hlt : k < 64
        · obtain ⟨r, wd, hde, hr1, hrv, hwd⟩ := hru k hlt
          have hnx : ∀ ty, (Instr.next (.pointer (some ⟨it, 0, none⟩)) true ty).run Try.prog wr = _ := fun ty => Lib.run_next_any_at wr it S k ty hit (by omega)
          rw [hde] at hnx
          simp only at hnx
          have hpos : wr.iterPos it = k := by unfold World.iterPos; rw [hit]
          have hit1 := Lib.iterAt_heap wr it S k (k + wd) hit
          replace hRd := hRd.iter S (k + wd) hnd
          replace hRr := hRr.iter S (k + wd) hnr
          replace hB := Lib.below_iterAt hB hli S (k + wd)
          have hx := digV_range (lAt l (7 + k))
          have hv := value_any (r : Int) (by omega) (by omega)
          have hr0 : (0 : Int) ≤ (r : Int) := by omega
          rw [hrv] at hv
          clear hrv hde hru hit
          by_cases hd : 0 ≤ digV (lAt l (7 + k))
          · obtain rfl := hwd hd
            have HU : Hid (PU l (k + 1)) := fun i hi => by
              rcases Nat.lt_or_ge i k with h | h
              · exact hU i h
              · obtain rfl : i = k := by omega
                exact hd
            obtain ⟨a, ha, hpa, hpn, hps⟩ := pd_step l k hlt HU.out
            obtain ⟨j, hj⟩ : ∃ j, k / 2 = j := ⟨_, rfl⟩
            rw [hj] at hpa hpn hps
            obtain ⟨x, hxe⟩ : ∃ x : Nat, digV (lAt l (7 + k)) = x := ⟨(digV (lAt l (7 + k))).toNat, by omega⟩
            rw [hxe] at hpn hv hx
            rw [if_pos (by omega), decide_eq_true (by omega)] at hv
            obtain ⟨nb, hnb⟩ : ∃ b, pd l (k + 1) j = b := ⟨_, rfl⟩
            rw [hnb] at hpn hps
            have hb9 := nb.toNat_lt
            have hcd := hRd.cell j (by omega)
            rw [hpa] at hcd
            have hfz := hRd.frozen j
            generalize hW1 : wr.iterAt it S (k + 1) = W1 at *
            have HI : Hid ((W1.setCell ⟨gd, j, none⟩ (.int .u8 (nb.toNat : Int))).heap[it]? = some (.stringIter S (k + 1))) := iter_setCell _ hit1 hnd
            have HR : Hid (DgR (W1.setCell ⟨gd, j, none⟩ (.int .u8 (nb.toNat : Int))) gd (pd l (k + 1))) := by show DgR _ _ _; rw [hps]; exact hRd.set j nb (by omega)
            have HZ : Hid _ := hRr.set_ne j (.int .u8 (nb.toNat : Int)) hne
            have HB : Hid _ := hB.setCell (p := ⟨gd, j, none⟩) hld (.int .u8 (nb.toNat : Int))
            have o1 := or16 a x ha (by omega) (by omega)
            rw [← hpn] at o1
            have q1 : (k : Int) / 2 = (j : Int) := by omega
            have j0 : (0 : Int) ≤ (j : Int) := by omega
            have j1 : (j : Int) < 32 := by omega
            have k0 : (0 : Int) ≤ (k : Int) := by omega
            have a1 : (16 * (a : Int)) < 256 := by omega
            have a2 : IntKind.u8.wrap (16 * (a : Int)) = 16 * (a : Int) := by simp [IntKind.wrap, IntKind.bits, IntKind.signed]; omega
            have a3 : IntKind.u8.wrap ((a : Int) * 16) = 16 * (a : Int) := by rw [Int.mul_comm]; exact a2
            have HM : Hid (wr.iterPos it = k) := hpos
            have H64 : Hid (k < 64) := hlt
            clear hRd hRr hB hU hps hpn hpa hit1 hd hwd hnb hxe hpos
            go_wp2_with fail
            refine (hv _).mono ?_
            rintro e w2 ⟨rfl, rfl⟩
            clear hv hnx
            go_wp2
            go_roundw
            case rel => exact ⟨k + 1, by omega, HI.out, HU.out, HR.out, HZ.out, HB.out⟩
            case measure =>
              have hm := HM.out
              have h64 := H64.out
              have : (w2.setCell ⟨gd, j, none⟩ (.int .u8 (nb.toNat : Int))).iterPos it = k + 1 := by unfold World.iterPos; rw [HI.out]
              omega
          · have HP : Hid (ParsedTo l dg_secZ 35) := .inr ⟨pu_not hlt hd, rfl, rfl⟩
            rw [if_neg hd, decide_eq_false hd] at hv
            generalize wr.iterAt it S (k + wd) = W1 at *
            have hR9 : DgR (W1.setRow gr (dg_secA dg_secZ)) gr dg_secZ := ⟨dg_rowOk_setRow_same _ _ _ hRr.1 (dg_secA_size _), dg_rowAt_setRow_same _ _ _ hRr.1⟩
            have HR9 : Hid _ := hR9
            have HB : Hid _ := dg_below_row hB hlr (dg_secA dg_secZ)
            obtain ⟨r1, q1⟩ := hRr
            clear hR9 hRd hB hU hit1 hd hwd hpos hx
            go_wp2_with fail
            refine (hv _).mono ?_
            rintro e w2 ⟨rfl, rfl⟩
            clear hv hnx
            go_wp2
            exact dg_bodyPost2 2 3 gr dg_secZ rfl rfl rfl HR9.out ⟨⟨_, 35, rfl, HP.out⟩, HB.out⟩
        · obtain rfl : k = 64 := by omega
          have hnx : ∀ ty, (Instr.next (.pointer (some ⟨it, 0, none⟩)) true ty).run Try.prog wr = _ := fun ty => Lib.run_next_end_at wr it S 64 ty hit (by omega)
          have HP : Hid (ParsedTo l (pval l) 0) := .inl ⟨⟨h71, hf, pu_all hU⟩, rfl, rfl⟩
          obtain ⟨r1, q1⟩ := hRd
          rw [pd_all] at q1
          have HR9 : Hid (DgR (wr.setRow gr (dg_secA (pval l))) gr (pval l)) := ⟨dg_rowOk_setRow_same _ _ _ hRr.1 (dg_secA_size _), dg_rowAt_setRow_same _ _ _ hRr.1⟩
          have HB : Hid _ := dg_below_row hB hlr (dg_secA (pval l))
          obtain ⟨r2, q2⟩ := hRr
          clear hB hU hit hru
          generalize pval l = d at *
          go_wp2
          exact dg_bodyPost2 2 3 gr d rfl rfl rfl HR9.out ⟨⟨d, 0, rfl, HP.out⟩, HB.out⟩
    · have HP : Hid (ParsedTo l dg_secZ 35) := .inr ⟨fun h => h71 h.1, rfl, rfl⟩
      have hR9 : DgR (w1.setRow gr (dg_secA dg_secZ)) gr dg_secZ := ⟨dg_rowOk_setRow_same _ _ _ hRr.1 (dg_secA_size _), dg_rowAt_setRow_same _ _ _ hRr.1⟩
      obtain ⟨r1, q1⟩ := hRr
      obtain ⟨S, hS⟩ : ∃ S, ByteArray.mk (l.drop 7).toArray = S := ⟨_, rfl⟩
      have h64 : ((S.size : Int) != 64) = true := by
        rw [← hS, hsm]
        have : 7 ≤ l.length := by
          rcases Nat.lt_or_ge l.length 7 with h | h
          · exact absurd hf (take_short l h)
          · exact h
        simp
        omega
      have h64' : ¬ (S.size : Int) = 64 := by simpa using h64
      simp only [hS]
      clear hf hC hS hsm hsz
      go_wp2
      exact dg_bodyPost2 2 3 gr dg_secZ rfl rfl rfl hR9 ⟨⟨_, 35, rfl, HP.out⟩, dg_below_row hB hlr _⟩
  · simp only [if_neg hf, decide_eq_false hf]
    have HP : Hid (ParsedTo l dg_secZ 35) := .inr ⟨fun h => hf h.2.1, rfl, rfl⟩
    have hR9 : DgR (w1.setRow gr (dg_secA dg_secZ)) gr dg_secZ := ⟨dg_rowOk_setRow_same _ _ _ hRr.1 (dg_secA_size _), dg_rowAt_setRow_same _ _ _ hRr.1⟩
    obtain ⟨r1, q1⟩ := hRr
    clear hf hC
    go_wp2
    exact dg_bodyPost2 2 3 gr dg_secZ rfl rfl rfl hR9 ⟨⟨_, 35, rfl, HP.out⟩, dg_below_row hB hlr _⟩
end Go.Proofs.Ythkjfgncbmpllaa
