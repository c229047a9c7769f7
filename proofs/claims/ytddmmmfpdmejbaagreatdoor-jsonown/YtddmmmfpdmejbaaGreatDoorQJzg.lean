import Derived.Test.YtddmmmfpdmejbaaGreatDoorQJze
import Derived.Test.YtddmmmfpdmejbaaGreatDoorQJzc
namespace Go.Proofs.YtddmmmfpdmejbaaGreatDoor
open Go.RowKit

/-- An interface's value. -/
def Ifc (v : Value) : Prop := v = .nilIface ∨ ∃ t p, v = .iface t p
theorem Ifc.one {v : Value} (h : Ifc v) : v.oneCell' = true := by rcases h with rfl | ⟨t, p, rfl⟩ <;> rfl
theorem VlO.ifc {w : World} {B : Nat} {v : Value} {d : Nd} {L : Lb} {K : Kb} (h : VlO w B v d L K) : ∃ t p, v = .iface t p := by cases h using VlO.rc <;> exact ⟨_, _, rfl⟩
/-! What value owes; an element of a list, of an object -/
def VP (ts : List Tk) (en : Int) (g f i op : Nat) (w : World) (e : Ending) (w' : World) : Prop :=
  ∃ (v : Value) (er : Int) (i' op' : Nat), e = .returned (.tuple #[v, .int .i64 er]) ∧ Ifc v ∧ RdL w' g ts en i' op' ∧ w.grownBy w' (some g) ∧ (prsF ts en f none (stZ i op)).2.e = er ∧
    (er = 0 → (prsF ts en f none (stZ i op)).2 = stZ i' op ∧ op' = op ∧ i < i' ∧ ∃ L K, VlO w' w.heap.size v (prsF ts en f none (stZ i op)).1 L K ∧ (blks L K).Nodup) ∧
    (er ≠ 0 → (prsF ts en f none (stZ i op)).2.bad = (nxP ts en i').at_)
def ValL (ts : List Tk) (en : Int) (g f : Nat) : Prop :=
  ∀ (w : World) (i op : Nat), 2 * (ts.length - i) + 1 ≤ f → op ≤ 6 → RdL w g ts en i op → Calls Tryz.prog 30 #[.pointer (some ⟨g, 0, none⟩)] w fun e w' => VP ts en g f i op w e w'
theorem eltL15 : Elt 68 27 16 := ⟨Tryz.underlying68, by
  have h : (Tryz.prog.info? 27).map (fun i => (i.zero, i.size, i.bytes)) = some (some .nilIface, 1, 16) := by kernel_rfl
  obtain ⟨i, hi, hzz⟩ := Option.map_eq_some_iff.1 h
  simp only [Prod.mk.injEq] at hzz
  exact ⟨i, _, hi, hzz.1, hzz.2.1, hzz.2.2, rfl⟩⟩
theorem eltV15 : Elt 53 27 16 := ⟨Tryz.underlying53, eltL15.info⟩
def AcL (B gb gx g : Nat) (w : World) (m : Md) : Prop :=
  ∃ (a : Sl) (us : List Value) (acc : List Nd) (L : List Lb) (K : List Kb), m = (some (.inl acc)) ∧ RowC w gb #[.pointer (some ⟨g, 0, none⟩)] ∧ RowC w gx #[a.v] ∧ Ac w B slZ a [] us acc L K ∧ B ≤ w.heap.size
def AcO (B gb gx g : Nat) (w : World) (m : Md) : Prop :=
  ∃ (ks a : Sl) (kb : List ByteArray) (us : List Value) (vs : List Nd) (L : List Lb) (K : List Kb), m = (some (.inr ((kb.map lS), vs))) ∧ RowC w gb #[.pointer (some ⟨g, 0, none⟩)] ∧ RowC w gx #[ks.v, a.v] ∧ Ac w B ks a kb us vs L K ∧ kb.length = us.length ∧ B ≤ w.heap.size
def JsL (gx : Nat) (w : World) : Prop := ∃ a : Sl, RowC w gx #[a.v]
def JsOb (gx : Nat) (w : World) : Prop := ∃ k a : Sl, RowC w gx #[k.v, a.v]
theorem AcL.keep {B gb gx g : Nat} (h1 : g < gb) (h2 : gb < gx) (h3 : gx < B) (w w' : World) (m : Md) (h : AcL B gb gx g w m) (hg : w.grownBy w' (some g)) : AcL B gb gx g w' m := by
  obtain ⟨a, us, acc, L, K, hm, hb, hx, hA, hB⟩ := h
  exact ⟨a, us, acc, L, K, hm, hb.block (hg.block gb hb.lt (fun e => by cases e; omega)), hx.block (hg.block gx hx.lt (fun e => by cases e; omega)), hA.grown hg (fun q hq hm9 => by cases hq; have := (hA.bl _ hm9).1; omega), Nat.le_trans hB hg.size⟩
theorem AcO.keep {B gb gx g : Nat} (h1 : g < gb) (h2 : gb < gx) (h3 : gx < B) (w w' : World) (m : Md) (h : AcO B gb gx g w m) (hg : w.grownBy w' (some g)) : AcO B gb gx g w' m := by
  obtain ⟨ks, a, kb, us, acc, L, K, hm, hb, hx, hA, hl, hB⟩ := h
  exact ⟨ks, a, kb, us, acc, L, K, hm, hb.block (hg.block gb hb.lt (fun e => by cases e; omega)), hx.block (hg.block gx hx.lt (fun e => by cases e; omega)), hA.grown hg (fun q hq hm9 => by cases hq; have := (hA.bl _ hm9).1; omega), hl, Nat.le_trans hB hg.size⟩
set_option linter.unusedSimpArgs false in
set_option maxRecDepth 100000 in
set_option maxHeartbeats 8000000 in
/-- list's element. -/
theorem elL15_any (ts : List Tk) (en : Int) (g n B gb gx f : Nat) (h0 : g < n) (hnb : n ≤ gb) (h2 : gb < gx) (h3 : gx < B) (hT : ts.length ≤ 1000000) (hV : ValL ts en g f) : ElOk ts en g n 85 #[.pointer (some ⟨gb, 0, none⟩), .pointer (some ⟨gx, 0, none⟩)] (AcL B gb gx g) (JsL gx) f := by
  intro w m i op hm hln hfu hop hn hR hA
  obtain ⟨a, us, acc, L, K, rfl, hb, hx, hAc, hB⟩ := hA
  obtain ⟨ax, an, ac⟩ := a
  have hv := hV w i op hfu hop hR
  have cb : w.cell? ⟨gb, 0, none⟩ = some (.pointer (some ⟨g, 0, none⟩)) := hb.cell 0
  have HL : Hid (lenM ((some (.inl acc))) ≤ i ∧ i ≤ ts.length ∧ us.length = acc.length) := ⟨hln, hR.hi, hAc.hl⟩
  obtain ⟨PR, hPR⟩ : ∃ q, prsF ts en f none (stZ i op) = q := ⟨_, rfl⟩
  have HPR : Hid (prsF ts en f none (stZ i op) = PR) := hPR
  unfold VP at hv
  rw [hPR] at hv
  clear hPR hln hm
  go_enter Tryz.func85, Tryz.ntmps85
  go_wp2_with fail
  refine hv.mono ?_
  rintro e w1 ⟨v, er, i', op', rfl, hone, hR1, hg1, hee, hok, hbad⟩
  clear hv cb
  have hb1 := hb.block (hg1.block gb hb.lt (fun e => by cases e; omega))
  have hx1 := hx.block (hg1.block gx hx.lt (fun e => by cases e; omega))
  have hA1 := hAc.grown hg1 (fun q hq hm9 => by cases hq; have := (hAc.bl _ hm9).1; omega)
  have hlt : ∀ q ∈ (slZ.ob ++ ((⟨ax, an, ac⟩ : Sl).ob ++ blks L.flatten K.flatten)), q < w.heap.size := fun q hq => (hAc.bl q hq).2
  obtain ⟨H, hH⟩ : ∃ q, w.heap.size = q := ⟨_, rfl⟩
  have HH : Hid (w.heap.size = H) := hH
  rw [hH] at hlt hok
  have hsz1 : H ≤ w1.heap.size := by rw [← hH]; exact hg1.size
  have hF1 : Fg n g w w1 := Fg.ofg hg1 hn
  clear hg1 hAc hb hx hH
  go_upto_region 2 with fail
  obtain ⟨y, hy⟩ : ∃ q, w1.heap.size = q := ⟨_, rfl⟩
  have hb2 := below_alloc w1 (.cells #[v] 27)
  have hyc : (w1.alloc (.cells #[v] 27)).cell? ⟨y, 0, none⟩ = some v := by rw [← hy]; exact (RowC.new w1 #[v] 27).cell 0
  have hb1' := hb1.kept hb2
  have hx1' := hx1.kept hb2
  have hR2 := hR1.grown hb2
  have hA2 := hA1.ag (w1 := w1.alloc (.cells #[v] 27)) (fun q hq => hb2.block q (hA1.bl q hq).2)
  have hsz2 : w1.heap.size ≤ (w1.alloc (.cells #[v] 27)).heap.size := hb2.size
  have hF2 : Fg n g w (w1.alloc (.cells #[v] 27)) := hF1.trans (Fg.below hb2 (by have := hF1.size; omega))
  have hok2 : er = 0 → PR.2 = stZ i' op ∧ op' = op ∧ i < i' ∧ ∃ L K, VlO (w1.alloc (.cells #[v] 27)) H v PR.1 L K ∧ (blks L K).Nodup := fun h9 => by
    obtain ⟨q1, q2, q3, L9, K9, q4, q5⟩ := hok h9
    exact ⟨q1, q2, q3, L9, K9, q4.ag (fun q hq => hb2.block q (q4.bl q hq).2), q5⟩
  have hyl : y < (w1.alloc (.cells #[v] 27)).heap.size := by rw [alloc_sz15, hy]; omega
  clear hb1 hx1 hR1 hA1 hF1 hok
  obtain ⟨l1, l2, l3⟩ := HL.out
  have hlm : lenM ((some (.inl acc))) = acc.length := rfl
  have hBH : B ≤ H := by have := HH.out; omega
  by_cases he0 : er = 0
  · obtain ⟨q1, rfl, q3, L9, K9, q4, q5⟩ := hok2 he0
    obtain ⟨a', w3, hr, hA3, hg3, hn3⟩ := hA2.appV (c := 1) 68 eltL15 v PR.1 L9 K9 q4 q5 hBH (fun q hq hq9 => by have := hlt q hq; have := (q4.bl q hq9).1; omega) hyc (by omega) (by omega)
    obtain ⟨a1, a2, a3⟩ := a'
    have hx3 := hx1'.block (hg3.block gx hx1'.lt (fun e => by have := (hA2.hv.lt gx e.symm).1; omega))
    have hb3 := hb1'.block (hg3.block gb hb1'.lt (fun e => by have := (hA2.hv.lt gb e.symm).1; omega))
    have hR3 := hR2.keep hg3 (fun q hq => by have := (hA2.hv.lt q hq).1; omega)
    have hF3 := hF2.trans (Fg.of hg3 (by have := hF2.size; omega) (fun q hq => .inr (by have := (hA2.hv.lt q hq).1; omega)))
    have hn3' : n ≤ w3.heap.size := by have := hF3.size; omega
    have hB3 : B ≤ w3.heap.size := by have := hF3.size; have := HH.out; omega
    have hg4 := grL_set w3 gx 0 (.slice a1 a2 a3)
    have hx4 := hx3.set 0 (.slice a1 a2 a3)
    have hb4 := hb3.set_ne (g := gx) 0 (.slice a1 a2 a3) (by omega)
    have hR4 := hR3.keep hg4 (fun q hq => by cases hq; omega)
    have hA4 := hA3.grown hg4 (fun q hq hm9 => by cases hq; have := (hA3.bl _ hm9).1; omega)
    have hF4 := hF3.trans (Fg.of hg4 hn3' (fun q hq => .inr (by cases hq; omega)))
    have HE : Hid (ElP ts en g n f (AcL B gb gx g) (JsL gx) ((some (.inl acc))) i op' w (.returned (.int .i64 er)) (w3.setCell ⟨gx, 0, none⟩ (.slice a1 a2 a3))) := by
      refine ⟨er, i', op', rfl, hR4, hF4, by have := hF4.size; omega, ⟨⟨a1, a2, a3⟩, hx4⟩, ?_, fun _ => ⟨?_, rfl, q3, ?_⟩, fun h9 => absurd he0 h9⟩
      · show (prsF ts en f none (stZ i op')).2.e = er; rw [HPR.out]; exact hee
      · show (prsF ts en f none (stZ i op')).2 = _; rw [HPR.out]; exact q1
      · refine ⟨⟨a1, a2, a3⟩, us ++ [v], acc ++ [PR.1], L ++ [L9], K ++ [K9], ?_, hb4, hx4, hA4, by have := hg4.size; omega⟩
        show ((some (.inl (acc ++ [(prsF ts en f none (stZ i op')).1]))) : Md) = _
        rw [HPR.out]
    have cx : (w1.alloc (.cells #[v] 27)).cell? ⟨gx, 0, none⟩ = some (.slice ax an ac) := hx1'.cell 0
    have cx1 : w1.cell? ⟨gx, 0, none⟩ = some (.slice ax an ac) := by
      rw [← cx]; exact (hb2.cell (by show gx < w1.heap.size; have := HH.out; omega)).symm
    have z3 : w3.frozen? ⟨gx, 0, none⟩ = false := hx3.frozen 0
    have cx3 : w3.cell? ⟨gx, 0, none⟩ = some (.slice ax an ac) := hx3.cell 0
    have hr' : (Builtin.append_ #[68, 68] 68 #[.slice ax an ac, .slice (some ⟨y, 0, none⟩) 1 1]).run Tryz.prog (w1.alloc (.cells #[v] 27)) = .ok (.slice a1 a2 a3) w3 := hr
    obtain ⟨vt, vp, rfl⟩ := q4.ifc
    clear hr hx3 hb3 hR3 hF3 hn3' hB3 hg4 hx4 hb4 hR4 hA4 hF4 hA3 hg3 hn3 hA2 hx1' hb1' hR2 hF2 hok2 q4 q5 hyc cx hlt hsz2 hyl hb2 he0 q1 q3 hee hbad hone l1 l2 l3 hlm
    go_wp2_with (at_builtin; refine wpL_appG 68 rfl _ _ rfl _ w3 (by exact hr') ?_)
    go_ret
    exact HE.out
  · have hus : us.length + 1 ≤ 8796093022208 := by omega
    obtain ⟨g9, c9, w3, hr, -, hg3, -⟩ := appLie eltL15 (w1.alloc (.cells #[v] 27)) B ⟨ax, an, ac⟩ us v y 1 68 hA2.hv hyc hone.one (by omega) (by omega) (by unfold maxLen; omega)
    have hx3 := hx1'.block (hg3.block gx hx1'.lt (fun e => by have := (hA2.hv.lt gx e.symm).1; omega))
    have hR3 := hR2.keep hg3 (fun q hq => by have := (hA2.hv.lt q hq).1; omega)
    have hF3 := hF2.trans (Fg.of hg3 (by have := hF2.size; omega) (fun q hq => .inr (by have := (hA2.hv.lt q hq).1; omega)))
    have hn3' : n ≤ w3.heap.size := by have := hF3.size; omega
    have hg4 := grL_set w3 gx 0 (.slice (some ⟨g9, 0, none⟩) (us.length + 1) c9)
    have hx4 := hx3.set 0 (.slice (some ⟨g9, 0, none⟩) (us.length + 1) c9)
    have hR4 := hR3.keep hg4 (fun q hq => by cases hq; omega)
    have hF4 := hF3.trans (Fg.of hg4 hn3' (fun q hq => .inr (by cases hq; omega)))
    have HE : Hid (ElP ts en g n f (AcL B gb gx g) (JsL gx) ((some (.inl acc))) i op w (.returned (.int .i64 er)) (w3.setCell ⟨gx, 0, none⟩ (.slice (some ⟨g9, 0, none⟩) (us.length + 1) c9))) := by
      refine ⟨er, i', op', rfl, hR4, hF4, by have := hF4.size; omega, ⟨⟨some ⟨g9, 0, none⟩, us.length + 1, c9⟩, hx4⟩, ?_, fun h9 => absurd h9 he0, fun h9 => ?_⟩
      · show (prsF ts en f none (stZ i op)).2.e = er; rw [HPR.out]; exact hee
      · show (prsF ts en f none (stZ i op)).2.bad = _; rw [HPR.out]; exact hbad h9
    have cx : (w1.alloc (.cells #[v] 27)).cell? ⟨gx, 0, none⟩ = some (.slice ax an ac) := hx1'.cell 0
    have cx1 : w1.cell? ⟨gx, 0, none⟩ = some (.slice ax an ac) := by
      rw [← cx]; exact (hb2.cell (by show gx < w1.heap.size; have := HH.out; omega)).symm
    have z3 : w3.frozen? ⟨gx, 0, none⟩ = false := hx3.frozen 0
    have cx3 : w3.cell? ⟨gx, 0, none⟩ = some (.slice ax an ac) := hx3.cell 0
    have hr' : (Builtin.append_ #[68, 68] 68 #[.slice ax an ac, .slice (some ⟨y, 0, none⟩) 1 1]).run Tryz.prog (w1.alloc (.cells #[v] 27)) = .ok (.slice (some ⟨g9, 0, none⟩) (us.length + 1) c9) w3 := hr
    clear hr hx3 hx4 hR3 hF3 hn3' hg4 hR4 hF4 hg3 hA2 hx1' hb1' hR2 hF2 hok2 hyc cx hlt hsz2 hyl hb2 he0 hee hbad l1 l2 l3 hlm hus
    rcases hone with rfl | ⟨vt, vp, rfl⟩
    · go_wp2_with (at_builtin; refine wpL_appG 68 rfl _ _ rfl _ w3 (by exact hr') ?_)
      go_ret
      exact HE.out
    · go_wp2_with (at_builtin; refine wpL_appG 68 rfl _ _ rfl _ w3 (by exact hr') ?_)
      go_ret
      exact HE.out
end Go.Proofs.YtddmmmfpdmejbaaGreatDoor
namespace Go.Proofs.YtddmmmfpdmejbaaGreatDoor
open Go.RowKit

/-! object's element -/
set_option linter.unusedSimpArgs false in
set_option maxRecDepth 100000 in
set_option maxHeartbeats 8000000 in
theorem elO15_any (ts : List Tk) (en : Int) (g n B gb gx f : Nat) (h0 : g < n) (hnb : n ≤ gb) (h2 : gb < gx) (h3 : gx < B) (hT : ts.length ≤ 1000000) (hV : ValL ts en g f) : ElOk ts en g n 86 #[.pointer (some ⟨gb, 0, none⟩), .pointer (some ⟨gx, 0, none⟩)] (AcO B gb gx g) (JsOb gx) f := by
  intro w m i op hm hln hfu hop hn hR hA
  obtain ⟨ks, a, kb, us, vs, L, K, rfl, hb, hx, hAc, hkl, hB⟩ := hA
  have hK := key15_any w g ts en i op hR B ks a kb hAc.hk (fun e => by have := (hAc.hk.lt g e).1; omega)
  obtain ⟨ax, an, ac⟩ := a
  obtain ⟨kx, kn, kc⟩ := ks
  simp only [Sl.v] at hx hK
  have cb : w.cell? ⟨gb, 0, none⟩ = some (.pointer (some ⟨g, 0, none⟩)) := hb.cell 0
  have c0 : w.cell? ⟨gx, 0, none⟩ = some (.slice kx kn kc) := hx.cell 0
  have c1 : w.cell? ⟨gx, 1, none⟩ = some (.slice ax an ac) := hx.cell 1
  have HL : Hid (lenM ((some (.inr ((kb.map lS), vs)))) ≤ i ∧ i ≤ ts.length ∧ us.length = vs.length ∧ kb.length = us.length) := ⟨hln, hR.hi, hAc.hl, hkl⟩
  clear hln hm hkl
  go_enter Tryz.func86, Tryz.ntmps86
  go_wp2_with fail
  refine hK.mono ?_
  rintro e w1 ⟨s, er, i1, rfl, hR1, hg1, hok, hbad⟩
  clear hK cb c0 c1
  have hb1 := hb.block (hg1.block gb hb.lt (fun e => by cases e; omega))
  have hx1 := hx.block (hg1.block gx hx.lt (fun e => by cases e; omega))
  have hA1 := hAc.grown hg1 (fun q hq hm9 => by cases hq; have := (hAc.bl _ hm9).1; omega)
  have hF1 : Fg n g w w1 := Fg.ofg hg1 hn
  have hn1 : n ≤ w1.heap.size := Nat.le_trans hn hg1.size
  have hB1 : B ≤ w1.heap.size := Nat.le_trans hB hg1.size
  clear hg1 hAc hb hx
  by_cases he0 : er = 0
  · subst he0
    obtain ⟨k11, ktx, k5, rfl, hst⟩ := hok rfl
    clear hok hbad
    have hlt2 : i + 1 < ts.length := nx_lt (en := en) (by rw [k5]; decide)
    have hv := hV w1 (i + 2) op (by omega) hop hR1
    obtain ⟨PR, hPR⟩ : ∃ q, prsF ts en f none (stZ (i + 2) op) = q := ⟨_, rfl⟩
    have HEL : Hid (elP ts en f ((some (.inr ((kb.map lS), vs)))) (stZ i op) = ((some (.inr (((kb ++ [s]).map lS), (vs ++ [PR.1])))), PR.2)) := by
      show (((some (.inr ((pairP ts en (prsF ts en f none) (kb.map lS) vs (stZ i op)).1, _))) : Md), _) = _
      rw [pair_yes k11 ktx k5, hPR, List.map_append, ← hst]
      rfl
    unfold VP at hv
    rw [hPR] at hv
    clear hPR k11 ktx k5 hst hlt2
    have cb : w1.cell? ⟨gb, 0, none⟩ = some (.pointer (some ⟨g, 0, none⟩)) := hb1.cell 0
    go_wp2_with fail
    refine hv.mono ?_
    rintro e w2 ⟨v, ev, i', op', rfl, hone, hR2, hg2, hee, hok, hbad⟩
    clear hv cb
    have hb2 := hb1.block (hg2.block gb hb1.lt (fun e => by cases e; omega))
    have hx2 := hx1.block (hg2.block gx hx1.lt (fun e => by cases e; omega))
    have hA2 := hA1.grown hg2 (fun q hq hm9 => by cases hq; have := (hA1.bl _ hm9).1; omega)
    have hlt : ∀ q ∈ ((⟨kx, kn, kc⟩ : Sl).ob ++ ((⟨ax, an, ac⟩ : Sl).ob ++ blks L.flatten K.flatten)), q < w1.heap.size := fun q hq => (hA1.bl q hq).2
    obtain ⟨H, hH⟩ : ∃ q, w1.heap.size = q := ⟨_, rfl⟩
    have HH : Hid (w1.heap.size = H) := hH
    rw [hH] at hlt hok
    have hsz2 : H ≤ w2.heap.size := by rw [← hH]; exact hg2.size
    have hF2 : Fg n g w w2 := hF1.trans (Fg.ofg hg2 hn1)
    have hBH : B ≤ H := by omega
    clear hg2 hA1 hb1 hx1 hH hF1 hR1
    obtain ⟨y, hy⟩ : ∃ q, w2.heap.size = q := ⟨_, rfl⟩
    have hb3 := below_alloc w2 (.cells #[.string s] 9)
    have hyc : (w2.alloc (.cells #[.string s] 9)).cell? ⟨y, 0, none⟩ = some (.string s) := by rw [← hy]; exact (RowC.new w2 #[.string s] 9).cell 0
    have hb3' := hb2.kept hb3
    have hx3' := hx2.kept hb3
    have hR3 := hR2.grown hb3
    have hA3 := hA2.ag (w1 := w2.alloc (.cells #[.string s] 9)) (fun q hq => hb3.block q (hA2.bl q hq).2)
    have hF3 : Fg n g w (w2.alloc (.cells #[.string s] 9)) := hF2.trans (Fg.below hb3 (by have := hF2.size; omega))
    obtain ⟨l1, l2, l3, l4⟩ := HL.out
    have hlm : lenM ((some (.inr ((kb.map lS), vs)))) = vs.length := rfl
    obtain ⟨ks', w4, hr4, hA4, hg4, hob4⟩ := hA3.appK (c := 1) 22 eltS s hyc (by have := hb3.size; omega) (by omega)
    obtain ⟨k1, k2, k3⟩ := ks'
    have hown : ∀ q, (⟨kx, kn, kc⟩ : Sl).v.ownBlock = some q → B ≤ q ∧ q < H := fun q hq => ⟨(hA3.hk.lt q hq).1, hlt q (List.mem_append_left _ (mem_ob.2 hq))⟩
    have hx4 := hx3'.block (hg4.block gx hx3'.lt (fun e => by have := (hown gx e.symm).1; omega))
    have hb4 := hb3'.block (hg4.block gb hb3'.lt (fun e => by have := (hown gb e.symm).1; omega))
    have hR4 := hR3.keep hg4 (fun q hq => by have := (hown q hq).1; omega)
    have hF4 := hF3.trans (Fg.of hg4 (by have := hF3.size; omega) (fun q hq => .inr (by have := (hown q hq).1; omega)))
    have hdis : ∀ q ∈ ((⟨k1, k2, k3⟩ : Sl).ob ++ ((⟨ax, an, ac⟩ : Sl).ob ++ blks L.flatten K.flatten)), q < H ∨ y < q := fun q hq => by
      rcases List.mem_append.1 hq with h9 | h9
      · rcases hob4 q h9 with h8 | h8
        · exact .inl (hlt q (List.mem_append_left _ h8))
        · rw [alloc_sz15, hy] at h8; exact .inr (by omega)
      · exact .inl (hlt q (List.mem_append_right _ h9))
    have hdis2 : ∀ L9 K9, VlO w2 H v PR.1 L9 K9 → ∀ q ∈ ((⟨k1, k2, k3⟩ : Sl).ob ++ ((⟨ax, an, ac⟩ : Sl).ob ++ blks L.flatten K.flatten)), q ∉ blks L9 K9 := fun L9 K9 h9 q hq hq9 => by
      have := h9.bl q hq9
      rcases hdis q hq with h | h <;> omega
    have hok4 : ev = 0 → PR.2 = stZ i' op ∧ op' = op ∧ i + 2 < i' ∧ ∃ L9 K9, VlO w4 H v PR.1 L9 K9 ∧ (blks L9 K9).Nodup ∧ ∀ q ∈ ((⟨k1, k2, k3⟩ : Sl).ob ++ ((⟨ax, an, ac⟩ : Sl).ob ++ blks L.flatten K.flatten)), q ∉ blks L9 K9 := fun h9 => by
      obtain ⟨q1, q2, q3, L9, K9, q4, q5⟩ := hok h9
      refine ⟨q1, q2, q3, L9, K9, (q4.ag (w1 := w2.alloc (.cells #[.string s] 9)) (fun q hq => hb3.block q (q4.bl q hq).2)).ag (fun q hq => ?_), q5, hdis2 L9 K9 q4⟩
      have := q4.bl q hq
      exact hg4.block q (by have := hb3.size; omega) (fun e => by have := (hown q e.symm).2; omega)
    have cx : w2.cell? ⟨gx, 0, none⟩ = some (.slice kx kn kc) := hx2.cell 0
    have cx4 : w4.cell? ⟨gx, 0, none⟩ = some (.slice kx kn kc) := hx4.cell 0
    have z4 : w4.frozen? ⟨gx, 0, none⟩ = false := hx4.frozen 0
    have hr4' : (Builtin.append_ #[22, 22] 22 #[.slice kx kn kc, .slice (some ⟨y, 0, none⟩) 1 1]).run Tryz.prog (w2.alloc (.cells #[.string s] 9)) = .ok (.slice k1 k2 k3) w4 := hr4
    have hn4 : n ≤ w4.heap.size := by have := hF4.size; omega
    have hH4 : H ≤ w4.heap.size := by have := hg4.size; have := hb3.size; omega
    clear hr4 hdis hdis2 hown hA3 hx3' hb3' hR3 hF3 hF2 hA2 hb2 hx2 hR2 hb3 hok hlt hyc hg4 hob4 hsz2
    clear l1 l2 l3 l4 hlm
    go_upto_region 6 with (at_builtin; refine wpL_appG 22 rfl _ _ rfl _ w4 (by exact hr4') ?_)
    have hg5 := grL_set w4 gx 0 (.slice k1 k2 k3)
    have hx5 : RowC (w4.setCell ⟨gx, 0, none⟩ (.slice k1 k2 k3)) gx #[.slice k1 k2 k3, .slice ax an ac] := hx4.set 0 (.slice k1 k2 k3)
    have hb5 := hb4.set_ne (g := gx) 0 (.slice k1 k2 k3) (by omega)
    have hR5 := hR4.keep hg5 (fun q hq => by cases hq; omega)
    have hA5 := hA4.grown hg5 (fun q hq hm9 => by cases hq; have := (hA4.bl _ hm9).1; omega)
    have hF5 := hF4.trans (Fg.of hg5 hn4 (fun q hq => .inr (by cases hq; omega)))
    have hH5 := Nat.le_trans hH4 hg5.size
    have hok5 : ev = 0 → PR.2 = stZ i' op ∧ op' = op ∧ i + 2 < i' ∧ ∃ L9 K9, VlO (w4.setCell ⟨gx, 0, none⟩ (.slice k1 k2 k3)) H v PR.1 L9 K9 ∧ (blks L9 K9).Nodup ∧ ∀ q ∈ ((⟨k1, k2, k3⟩ : Sl).ob ++ ((⟨ax, an, ac⟩ : Sl).ob ++ blks L.flatten K.flatten)), q ∉ blks L9 K9 := fun h9 => by
      obtain ⟨q1, q2, q3, L9, K9, q4, q5, q6⟩ := hok4 h9
      exact ⟨q1, q2, q3, L9, K9, q4.ag (fun q hq => hg5.block q (q4.bl q hq).2 (fun e => by cases e; have := (q4.bl _ hq).1; omega)), q5, q6⟩
    clear hr4' cx cx4 z4 hA4 hx4 hb4 hR4 hF4 hok4 hg5 hH4 hn4 hy
    generalize w4.setCell ⟨gx, 0, none⟩ (.slice k1 k2 k3) = w5 at *
    obtain ⟨z, hz⟩ : ∃ q, w5.heap.size = q := ⟨_, rfl⟩
    have hb6 := below_alloc w5 (.cells #[v] 27)
    have hzc : (w5.alloc (.cells #[v] 27)).cell? ⟨z, 0, none⟩ = some v := by rw [← hz]; exact (RowC.new w5 #[v] 27).cell 0
    have cx : w5.cell? ⟨gx, 1, none⟩ = some (.slice ax an ac) := hx5.cell 1
    have hb6' := hb5.kept hb6
    have hx6' := hx5.kept hb6
    have hR6 := hR5.grown hb6
    have hA6 := hA5.ag (w1 := w5.alloc (.cells #[v] 27)) (fun q hq => hb6.block q (hA5.bl q hq).2)
    have hF6 : Fg n g w (w5.alloc (.cells #[v] 27)) := hF5.trans (Fg.below hb6 (by have := hF5.size; omega))
    obtain ⟨l1, l2, l3, l4⟩ := HL.out
    have hlm : lenM ((some (.inr ((kb.map lS), vs)))) = vs.length := rfl
    by_cases he0 : ev = 0
    · obtain ⟨q1, rfl, q3, L9, K9, q4, q5, q6⟩ := hok5 he0
      have q4' := q4.ag (w1 := w5.alloc (.cells #[v] 27)) (fun q hq => hb6.block q (q4.bl q hq).2)
      obtain ⟨a', w7, hr, hA7, hg7, hn7⟩ := hA6.appV (c := 1) 53 eltV15 v PR.1 L9 K9 q4' q5 hBH q6 hzc (by have := hb6.size; omega) (by omega)
      obtain ⟨a1, a2, a3⟩ := a'
      have hx7 := hx6'.block (hg7.block gx hx6'.lt (fun e => by have := (hA6.hv.lt gx e.symm).1; omega))
      have hb7 := hb6'.block (hg7.block gb hb6'.lt (fun e => by have := (hA6.hv.lt gb e.symm).1; omega))
      have hR7 := hR6.keep hg7 (fun q hq => by have := (hA6.hv.lt q hq).1; omega)
      have hF7 := hF6.trans (Fg.of hg7 (by have := hF6.size; omega) (fun q hq => .inr (by have := (hA6.hv.lt q hq).1; omega)))
      have hn7' : n ≤ w7.heap.size := by have := hF7.size; omega
      have hB7 : B ≤ w7.heap.size := by have := hg7.size; have := hb6.size; omega
      have hg8 := grL_set w7 gx 1 (.slice a1 a2 a3)
      have hx8 : RowC (w7.setCell ⟨gx, 1, none⟩ (.slice a1 a2 a3)) gx #[.slice k1 k2 k3, .slice a1 a2 a3] := hx7.set 1 (.slice a1 a2 a3)
      have hb8 := hb7.set_ne (g := gx) 1 (.slice a1 a2 a3) (by omega)
      have hR8 := hR7.keep hg8 (fun q hq => by cases hq; omega)
      have hA8 := hA7.grown hg8 (fun q hq hm9 => by cases hq; have := (hA7.bl _ hm9).1; omega)
      have hF8 := hF7.trans (Fg.of hg8 hn7' (fun q hq => .inr (by cases hq; omega)))
      have HE : Hid (ElP ts en g n f (AcO B gb gx g) (JsOb gx) ((some (.inr ((kb.map lS), vs)))) i op' w (.returned (.int .i64 ev)) (w7.setCell ⟨gx, 1, none⟩ (.slice a1 a2 a3))) := by
        refine ⟨ev, i', op', rfl, hR8, hF8, by have := hF8.size; omega, ⟨⟨k1, k2, k3⟩, ⟨a1, a2, a3⟩, hx8⟩, ?_, fun _ => ⟨?_, rfl, by omega, ?_⟩, fun h9 => absurd he0 h9⟩
        · rw [HEL.out]; exact hee
        · rw [HEL.out]; exact q1
        · rw [HEL.out]
          exact ⟨⟨k1, k2, k3⟩, ⟨a1, a2, a3⟩, kb ++ [s], us ++ [v], vs ++ [PR.1], L ++ [L9], K ++ [K9], rfl, hb8, hx8, hA8, by simp; omega, by have := hg8.size; omega⟩
      have cx7 : w7.cell? ⟨gx, 1, none⟩ = some (.slice ax an ac) := hx7.cell 1
      have z7 : w7.frozen? ⟨gx, 1, none⟩ = false := hx7.frozen 1
      have hr' : (Builtin.append_ #[53, 53] 53 #[.slice ax an ac, .slice (some ⟨z, 0, none⟩) 1 1]).run Tryz.prog (w5.alloc (.cells #[v] 27)) = .ok (.slice a1 a2 a3) w7 := hr
      obtain ⟨vt, vp, rfl⟩ := q4.ifc
      clear hr hA8 hF8 hR8 hb8 hx8 hg8 hB7 hn7' hF7 hR7 hb7 hx7 hA7 hg7 hn7 q4' q4 q5 q6 q1 q3 l1 l2 l3 l4 hlm hA6 hF6 hR6 hx6' hb6' hb6 hzc hok5 hH5 hF5 hA5 hR5 hb5 hx5 he0 hee hbad hone HEL
      go_wp2_with (at_builtin; refine wpL_appG 53 rfl _ _ rfl _ w7 (by exact hr') ?_)
      go_ret
      exact HE.out
    · obtain ⟨g9, c9, w7, hr, -, hg7, -⟩ := appLie eltV15 (w5.alloc (.cells #[v] 27)) B ⟨ax, an, ac⟩ us v z 1 53 hA6.hv hzc hone.one (by have := hb6.size; omega) (by omega) (by unfold maxLen; omega)
      have hx7 := hx6'.block (hg7.block gx hx6'.lt (fun e => by have := (hA6.hv.lt gx e.symm).1; omega))
      have hR7 := hR6.keep hg7 (fun q hq => by have := (hA6.hv.lt q hq).1; omega)
      have hF7 := hF6.trans (Fg.of hg7 (by have := hF6.size; omega) (fun q hq => .inr (by have := (hA6.hv.lt q hq).1; omega)))
      have hn7' : n ≤ w7.heap.size := by have := hF7.size; omega
      have hg8 := grL_set w7 gx 1 (.slice (some ⟨g9, 0, none⟩) (us.length + 1) c9)
      have hx8 : RowC (w7.setCell ⟨gx, 1, none⟩ (.slice (some ⟨g9, 0, none⟩) (us.length + 1) c9)) gx #[.slice k1 k2 k3, .slice (some ⟨g9, 0, none⟩) (us.length + 1) c9] := hx7.set 1 (.slice (some ⟨g9, 0, none⟩) (us.length + 1) c9)
      have hR8 := hR7.keep hg8 (fun q hq => by cases hq; omega)
      have hF8 := hF7.trans (Fg.of hg8 hn7' (fun q hq => .inr (by cases hq; omega)))
      have HE : Hid (ElP ts en g n f (AcO B gb gx g) (JsOb gx) ((some (.inr ((kb.map lS), vs)))) i op w (.returned (.int .i64 ev)) (w7.setCell ⟨gx, 1, none⟩ (.slice (some ⟨g9, 0, none⟩) (us.length + 1) c9))) := by
        refine ⟨ev, i', op', rfl, hR8, hF8, by have := hF8.size; omega, ⟨⟨k1, k2, k3⟩, ⟨some ⟨g9, 0, none⟩, us.length + 1, c9⟩, hx8⟩, ?_, fun h9 => absurd h9 he0, fun h9 => ?_⟩
        · rw [HEL.out]; exact hee
        · rw [HEL.out]; exact hbad h9
      have cx7 : w7.cell? ⟨gx, 1, none⟩ = some (.slice ax an ac) := hx7.cell 1
      have z7 : w7.frozen? ⟨gx, 1, none⟩ = false := hx7.frozen 1
      have hr' : (Builtin.append_ #[53, 53] 53 #[.slice ax an ac, .slice (some ⟨z, 0, none⟩) 1 1]).run Tryz.prog (w5.alloc (.cells #[v] 27)) = .ok (.slice (some ⟨g9, 0, none⟩) (us.length + 1) c9) w7 := hr
      clear hr hx8 hF8 hR8 hg8 hn7' hF7 hR7 hx7 hg7 l1 l2 l3 l4 hlm hA6 hF6 hR6 hx6' hb6' hb6 hzc hok5 hH5 hF5 hA5 hR5 hb5 hx5 he0 hee hbad HEL
      rcases hone with rfl | ⟨vt, vp, rfl⟩
      · go_wp2_with (at_builtin; refine wpL_appG 53 rfl _ _ rfl _ w7 (by exact hr') ?_)
        go_ret
        exact HE.out
      · go_wp2_with (at_builtin; refine wpL_appG 53 rfl _ _ rfl _ w7 (by exact hr') ?_)
        go_ret
        exact HE.out
  · have hf0 : (er == 0) = false := beq_eq_false_iff_ne.2 he0
    have HB : Hid ((elP ts en f ((some (.inr ((kb.map lS), vs)))) (stZ i op)).2.e = er ∧ (elP ts en f ((some (.inr ((kb.map lS), vs)))) (stZ i op)).2.bad = (nxP ts en i1).at_) := hbad he0 f vs
    have HE0 : Hid (er ≠ 0) := he0
    clear hok hbad he0
    go_wp2
    go_ret
    exact ⟨er, i1, op, rfl, hR1, hF1, hn1, ⟨⟨kx, kn, kc⟩, ⟨ax, an, ac⟩, hx1⟩, HB.out.1, fun h9 => absurd h9 HE0.out, fun _ => HB.out.2⟩
end Go.Proofs.YtddmmmfpdmejbaaGreatDoor
namespace Go.Proofs.YtddmmmfpdmejbaaGreatDoor
open Go.RowKit

/-! list, object, value: what is read -/
theorem entersL15 : ∀ args w, (callFunc 85 args).run Tryz.prog w = .ok (.enter 85 args) w := enters_of Tryz.func85 (by kernel_rfl) rfl
theorem entersO15 : ∀ args w, (callFunc 86 args).run Tryz.prog w = .ok (.enter 86 args) w := enters_of Tryz.func86 (by kernel_rfl) rfl
set_option linter.unusedSimpArgs false in
set_option maxRecDepth 100000 in
set_option maxHeartbeats 8000000 in
theorem list15_any (ts : List Tk) (en : Int) (g f : Nat) (hT : ts.length ≤ 1000000) (hV : ∀ f', f' < f → ValL ts en g f') (w : World) (i op : Nat) (hk : (nxP ts en i).kind = 3) (hf : 2 * (ts.length - i) + 1 ≤ f + 1) (hop : op ≤ 6) (hR : RdL w g ts en i op) :
    Calls Tryz.prog 57 #[.pointer (some ⟨g, 0, none⟩)] w fun e w' => VP ts en g (f + 1) i op w e w' := by
  obtain ⟨n0, hn0⟩ : ∃ q, w.heap.size = q := ⟨_, rfl⟩
  have hgl := hR.lt
  have b1 := below_alloc w (.cells #[.pointer (some ⟨g, 0, none⟩)] 114)
  have b2 := below_alloc (w.alloc (.cells #[.pointer (some ⟨g, 0, none⟩)] 114)) (.cells #[.slice none 0 0] 68)
  have r1 := (RowC.new w #[.pointer (some ⟨g, 0, none⟩)] 114).kept b2
  have r2 := RowC.new (w.alloc (.cells #[.pointer (some ⟨g, 0, none⟩)] 114)) #[.slice none 0 0] 68
  have b3 := b1.trans (b2.mono b1.size)
  have hR2 := hR.grown b3
  have hs : ((w.alloc (.cells #[.pointer (some ⟨g, 0, none⟩)] 114)).alloc (.cells #[.slice none 0 0] 68)).heap.size = n0 + 2 := by rw [alloc_sz15, alloc_sz15, hn0]
  rw [alloc_sz15] at r2
  rw [hn0] at r1 r2 b3
  have HN : Hid (w.heap.size = n0) := hn0
  have hBt := between15_any ts en g n0 f 85 (.pointer (some ⟨n0, 0, none⟩)) (.pointer (some ⟨n0 + 1, 0, none⟩)) (AcL (n0 + 2) n0 (n0 + 1) g) (JsL (n0 + 1)) entersL15 (AcL.keep (by omega) (by omega) (by omega)) (fun w w' h hg => by
    obtain ⟨a, ha⟩ := h
    exact ⟨a, ha.block (hg.block _ ha.lt (fun e => by cases e; omega))⟩) (fun w m h => by
    obtain ⟨a, us, acc, L, K, -, -, hx, -⟩ := h
    exact ⟨a, hx⟩) (fun f' h9 => elL15_any ts en g n0 (n0 + 2) n0 (n0 + 1) f' (by omega) (by omega) (by omega) (by omega) hT (hV f' h9))
    ((w.alloc (.cells #[.pointer (some ⟨g, 0, none⟩)] 114)).alloc (.cells #[.slice none 0 0] 68)) i op 3 hk (.inl rfl) hf hop (by omega) hR2 ⟨slZ, [], [], [], [], rfl, r1, r2, Ac.nil _ _, by omega⟩
  go_enter Tryz.func57, Tryz.ntmps57
  go_upto_region 2 with fail
  rw [show (3 : Int) + 1 = 4 from rfl] at hBt
  have c1 := r1.cell 0
  generalize (w.alloc (.cells #[.pointer (some ⟨g, 0, none⟩)] 114)).alloc (.cells #[.slice none 0 0] 68) = Y at *
  go_wp2_with fail
  refine hBt.mono ?_
  rintro e w1 ⟨er, i', op', rfl, hR1, hF1, hn1, ⟨aj, hj⟩, hee, hok, hbad⟩
  clear hBt c1
  have hgr : w.grownBy w1 (some g) := by
    have h9 : Fg n0 g w w1 := (Fg.below b3 (Nat.le_refl _)).trans hF1
    rw [← HN.out] at h9
    exact h9.grown
  by_cases he0 : er = 0
  · obtain ⟨q1, rfl, q3, m, -, q5, ⟨a, us, acc, L, K, rfl, -, hx, hA, hB⟩, q7⟩ := hok he0
    have hz : a.n ≤ 1759218604441 := by
      have h9 : a.n = us.length := IsG.num hA.hv.isG
      have h8 : acc.length ≤ i' := q5
      have := hA.hl; have := hR1.hi
      omega
    obtain ⟨hV1, hV2⟩ := hA.list hz
    obtain ⟨ax, an, ac⟩ := a
    have cx : w1.cell? ⟨n0 + 1, 0, none⟩ = some (.slice ax an ac) := hx.cell 0
    have HE : Hid (VP ts en g (f + 1) i op' w (.returned (.tuple #[.iface 68 (.slice ax an ac), .int .i64 er])) w1) :=
      ⟨_, er, i', op', rfl, .inr ⟨_, _, rfl⟩, hR1, hgr, hee, fun _ => ⟨q1, rfl, q3, _, _, by rw [← q7]; exact hV1.le (by rw [HN.out]; omega), hV2⟩, fun h9 => absurd he0 h9⟩
    clear hx hA hB hV1 hV2 hz hok hbad hee q1 q3 q5 q7 hj hgr he0
    go_wp2
    go_ret2
    exact HE.out
  · obtain ⟨ax, an, ac⟩ := aj
    have cx : w1.cell? ⟨n0 + 1, 0, none⟩ = some (.slice ax an ac) := hj.cell 0
    have HE : Hid (VP ts en g (f + 1) i op w (.returned (.tuple #[.iface 68 (.slice ax an ac), .int .i64 er])) w1) :=
      ⟨_, er, i', op', rfl, .inr ⟨_, _, rfl⟩, hR1, hgr, hee, fun h9 => absurd h9 he0, hbad⟩
    clear hj hok hbad hee hgr he0
    go_wp2
    go_ret2
    exact HE.out
set_option linter.unusedSimpArgs false in
set_option maxRecDepth 100000 in
set_option maxHeartbeats 8000000 in
theorem object15_any (ts : List Tk) (en : Int) (g f : Nat) (hT : ts.length ≤ 1000000) (hV : ∀ f', f' < f → ValL ts en g f') (w : World) (i op : Nat) (hk : (nxP ts en i).kind = 1) (hf : 2 * (ts.length - i) + 1 ≤ f + 1) (hop : op ≤ 6) (hR : RdL w g ts en i op) :
    Calls Tryz.prog 58 #[.pointer (some ⟨g, 0, none⟩)] w fun e w' => VP ts en g (f + 1) i op w e w' := by
  obtain ⟨n0, hn0⟩ : ∃ q, w.heap.size = q := ⟨_, rfl⟩
  have hgl := hR.lt
  have b1 := below_alloc w (.cells #[.pointer (some ⟨g, 0, none⟩)] 114)
  have b2 := below_alloc (w.alloc (.cells #[.pointer (some ⟨g, 0, none⟩)] 114)) (.cells #[.slice none 0 0, .slice none 0 0] 70)
  have r1 := (RowC.new w #[.pointer (some ⟨g, 0, none⟩)] 114).kept b2
  have r2 := RowC.new (w.alloc (.cells #[.pointer (some ⟨g, 0, none⟩)] 114)) #[.slice none 0 0, .slice none 0 0] 70
  have b3 := b1.trans (b2.mono b1.size)
  have hR2 := hR.grown b3
  have hs : ((w.alloc (.cells #[.pointer (some ⟨g, 0, none⟩)] 114)).alloc (.cells #[.slice none 0 0, .slice none 0 0] 70)).heap.size = n0 + 2 := by rw [alloc_sz15, alloc_sz15, hn0]
  rw [alloc_sz15] at r2
  rw [hn0] at r1 r2 b3
  have HN : Hid (w.heap.size = n0) := hn0
  have hBt := between15_any ts en g n0 f 86 (.pointer (some ⟨n0, 0, none⟩)) (.pointer (some ⟨n0 + 1, 0, none⟩)) (AcO (n0 + 2) n0 (n0 + 1) g) (JsOb (n0 + 1)) entersO15 (AcO.keep (by omega) (by omega) (by omega)) (fun w w' h hg => by
    obtain ⟨k, a, ha⟩ := h
    exact ⟨k, a, ha.block (hg.block _ ha.lt (fun e => by cases e; omega))⟩) (fun w m h => by
    obtain ⟨k, a, kb, us, acc, L, K, -, -, hx, -⟩ := h
    exact ⟨k, a, hx⟩) (fun f' h9 => elO15_any ts en g n0 (n0 + 2) n0 (n0 + 1) f' (by omega) (by omega) (by omega) (by omega) hT (hV f' h9))
    ((w.alloc (.cells #[.pointer (some ⟨g, 0, none⟩)] 114)).alloc (.cells #[.slice none 0 0, .slice none 0 0] 70)) i op 1 hk (.inr rfl) hf hop (by omega) hR2 ⟨slZ, slZ, [], [], [], [], [], rfl, r1, r2, Ac.nil _ _, rfl, by omega⟩
  go_enter Tryz.func58, Tryz.ntmps58
  go_upto_region 2 with fail
  rw [show (1 : Int) + 1 = 2 from rfl] at hBt
  have c1 := r1.cell 0
  generalize (w.alloc (.cells #[.pointer (some ⟨g, 0, none⟩)] 114)).alloc (.cells #[.slice none 0 0, .slice none 0 0] 70) = Y at *
  go_wp2_with fail
  refine hBt.mono ?_
  rintro e w1 ⟨er, i', op', rfl, hR1, hF1, hn1, ⟨kj, aj, hj⟩, hee, hok, hbad⟩
  clear hBt c1
  have hgr : w.grownBy w1 (some g) := by
    have h9 : Fg n0 g w w1 := (Fg.below b3 (Nat.le_refl _)).trans hF1
    rw [← HN.out] at h9
    exact h9.grown
  by_cases he0 : er = 0
  · obtain ⟨q1, rfl, q3, m, -, q5, ⟨ks, a, kb, us, acc, L, K, rfl, -, hx, hA, hkl, hB⟩, q7⟩ := hok he0
    have hz : ks.n ≤ 8796093022208 ∧ a.n ≤ 1759218604441 := by
      have h9 : a.n = us.length := IsG.num hA.hv.isG
      have h7 : ks.n = (strs kb).length := IsG.num hA.hk.isG
      have h6 : (strs kb).length = kb.length := by simp [strs]
      have h8 : acc.length ≤ i' := q5
      have := hA.hl; have := hR1.hi
      omega
    obtain ⟨hV1, hV2⟩ := hA.obj hz
    obtain ⟨ax, an, ac⟩ := a
    obtain ⟨kx, kn, kc⟩ := ks
    have cx : w1.cell? ⟨n0 + 1, 0, none⟩ = some (.slice kx kn kc) := hx.cell 0
    have cy : w1.cell? ⟨n0 + 1, 1, none⟩ = some (.slice ax an ac) := hx.cell 1
    have HE : Hid (VP ts en g (f + 1) i op' w (.returned (.tuple #[.iface 70 (.agg #[.slice kx kn kc, .slice ax an ac]), .int .i64 er])) w1) :=
      ⟨_, er, i', op', rfl, .inr ⟨_, _, rfl⟩, hR1, hgr, hee, fun _ => ⟨q1, rfl, q3, _, _, by rw [← q7]; exact hV1.le (by rw [HN.out]; omega), hV2⟩, fun h9 => absurd he0 h9⟩
    clear hx hA hB hkl hV1 hV2 hz hok hbad hee q1 q3 q5 q7 hj hgr he0
    go_wp2
    go_ret2
    exact HE.out
  · obtain ⟨ax, an, ac⟩ := aj
    obtain ⟨kx, kn, kc⟩ := kj
    have cx : w1.cell? ⟨n0 + 1, 0, none⟩ = some (.slice kx kn kc) := hj.cell 0
    have cy : w1.cell? ⟨n0 + 1, 1, none⟩ = some (.slice ax an ac) := hj.cell 1
    have HE : Hid (VP ts en g (f + 1) i op w (.returned (.tuple #[.iface 70 (.agg #[.slice kx kn kc, .slice ax an ac]), .int .i64 er])) w1) :=
      ⟨_, er, i', op', rfl, .inr ⟨_, _, rfl⟩, hR1, hgr, hee, fun h9 => absurd h9 he0, hbad⟩
    clear hj hok hbad hee hgr he0
    go_wp2
    go_ret2
    exact HE.out
end Go.Proofs.YtddmmmfpdmejbaaGreatDoor
namespace Go.Proofs.YtddmmmfpdmejbaaGreatDoor
open Go.RowKit

/-! value -/
theorem VP.pre {ts : List Tk} {en : Int} {g f i op : Nat} {w Z w' : World} {e : Ending} (hb : Below w.heap.size w Z) (h : VP ts en g f i op Z e w') : VP ts en g f i op w e w' := by
  obtain ⟨v, er, i', op', he, hone, hR, hg, hee, hok, hbad⟩ := h
  refine ⟨v, er, i', op', he, hone, hR, grL_below hb hg, hee, fun h9 => ?_, hbad⟩
  obtain ⟨q1, q2, q3, L, K, q4, q5⟩ := hok h9
  exact ⟨q1, q2, q3, L, K, q4.le hb.size, q5⟩
set_option linter.unusedSimpArgs false in
set_option maxRecDepth 100000 in
set_option maxHeartbeats 8000000 in
theorem value15_step (ts : List Tk) (en : Int) (g f : Nat) (hT : ts.length ≤ 1000000) (hts : ∀ i, (tkP ts i).kind = 10 → 0 ≤ (tkP ts i).n ∧ (tkP ts i).n ≤ 9223372036854775807) (hV : ∀ f', f' < f → ValL ts en g f') : ValL ts en g (f + 1) := by
  intro w i op hfu hop hR
  have hN := next15_any w g ts en i op hR
  obtain ⟨t, ht⟩ : ∃ q, nxP ts en i = q := ⟨_, rfl⟩
  have HT : Hid (nxP ts en i = t) := ht
  have hnum : t.kind = 10 → 0 ≤ t.n ∧ t.n ≤ 9223372036854775807 := fun h9 => by
    have hi : i < ts.length := nx_lt (en := en) (by rw [ht, h9]; decide)
    have h8 := hts i
    rw [← nx_tk (en := en) hi, ht] at h8
    exact h8 h9
  rw [ht] at hN
  clear ht
  go_enter Tryz.func30, Tryz.ntmps30
  go_wp2_with fail
  refine hN.mono ?_
  rintro e w1 ⟨rfl, hb1⟩
  clear hN
  obtain ⟨n1, hn1⟩ : ∃ q, w1.heap.size = q := ⟨_, rfl⟩
  have hgn : g < n1 := by have := hR.lt; have := hb1.size; omega
  have rT := RowC.new w1 (tkA 0 0 0 ⟨#[]⟩) 85
  rw [hn1] at rT
  obtain ⟨q1, q2⟩ := id rT
  have q3 : (rowAt (w1.alloc (.cells (tkA 0 0 0 ⟨#[]⟩) 85)) n1).size = 4 := by rw [q2]; rfl
  clear q2
  have ho1 : OneC (tkR t) = true := tkA_one _ _ _ _
  have ho2 : (tkR t).size = 4 := by unfold tkR tkA; simp
  have e0 : (tkR t)[0]? = some (.int .i64 t.kind) := rfl
  have rZ := RowC.new w1 (tkR t) 85
  rw [hn1] at rZ
  have hbZ := below_alloc w1 (.cells (tkR t) 85)
  have hBZ := hb1.trans (hbZ.mono hb1.size)
  have hRZ := hR.grown hBZ
  obtain ⟨R, hRt⟩ : ∃ q, tkR t = q := ⟨_, rfl⟩
  have HRt : Hid (tkR t = R) := hRt
  rw [hRt] at ho1 ho2 e0 rZ hbZ hBZ hRZ ⊢
  clear hRt
  go_upto_region 2 with fail
  generalize w1.alloc (.cells R 85) = Z at rZ hbZ hBZ hRZ ⊢
  have c0 := rZ.cell 0
  rw [e0] at c0
  obtain ⟨p1, p2⟩ := id rZ
  have p3 : (rowAt Z n1).size = 4 := by rw [p2]; exact ho2
  have HB : Hid (Below w.heap.size w Z) := hBZ
  have HE0 : Hid (R[0]? = some (.int .i64 t.kind)) := e0
  clear hb1 rT q1 q3 ho1 e0 hbZ hBZ hn1 hR
  by_cases h3 : t.kind = 3
  · have f3 : (t.kind == 3) = true := beq_iff_eq.2 h3
    have hL := list15_any ts en g f hT hV Z i op (by rw [HT.out]; exact h3) hfu hop hRZ
    clear h3 hnum
    go_wp2_with fail
    refine hL.mono ?_
    rintro e w2 hP
    have HP := VP.pre HB.out hP
    obtain ⟨v, er, i', op', rfl, -⟩ := hP
    have HP2 : Hid (VP ts en g (f + 1) i op w (.returned (.tuple #[v, .int .i64 er])) w2) := HP
    clear hL HP
    go_wp2
    go_ret2
    exact HP2.out
  have f3 : (t.kind == 3) = false := beq_eq_false_iff_ne.2 h3
  by_cases h1 : t.kind = 1
  · have f1 : (t.kind == 1) = true := beq_iff_eq.2 h1
    have hL := object15_any ts en g f hT hV Z i op (by rw [HT.out]; exact h1) hfu hop hRZ
    clear h3 h1 hnum
    go_wp2_with fail
    refine hL.mono ?_
    rintro e w2 hP
    have HP := VP.pre HB.out hP
    obtain ⟨v, er, i', op', rfl, -⟩ := hP
    have HP2 : Hid (VP ts en g (f + 1) i op w (.returned (.tuple #[v, .int .i64 er])) w2) := HP
    clear hL HP
    go_wp2
    go_ret2
    exact HP2.out
  have f1 : (t.kind == 1) = false := beq_eq_false_iff_ne.2 h1
  have hP := plainT15_any Z t hnum
  rw [HRt.out] at hP
  go_wp2_with fail
  refine hP.mono ?_
  rintro e w2 ⟨⟨v, b, rfl, hy, hno⟩, hb2⟩
  clear hP
  have hR2 := hRZ.grown hb2
  have rZ2 := rZ.kept hb2
  have c02 := rZ2.cell 0
  rw [HE0.out] at c02
  have hbw := HB.out.trans (hb2.mono HB.out.size)
  clear rZ c0 p1 p2 p3 hRZ
  cases hp : pln1 t with
  | none =>
    obtain ⟨rfl, rfl⟩ := hno hp
    have HP : Hid (prsF ts en (f + 1) none (stZ i op) = (ndZ, ⟨i, 31, (nxP ts en i).at_, op⟩)) := prs_none (by rw [HT.out]; exact hp) (by rw [HT.out]; exact h3) (by rw [HT.out]; exact h1)
    clear hno hy hp h3 h1 f1 f3 hnum
    go_wp2
    go_ret2
    exact ⟨_, 31, i, op, rfl, .inl rfl, hR2, grL_of hbw, by rw [HP.out], fun h9 => absurd h9 (by decide), fun _ => by rw [HP.out]⟩
  | some d =>
    obtain ⟨rfl, hvo⟩ := hy d hp
    have HP : Hid (prsF ts en (f + 1) none (stZ i op) = (d, stZ (i + 1) op)) := prs_plain (by rw [HT.out]; exact hp)
    have hk0 : t.kind ≠ 0 := by intro h0; unfold pln1 at hp; rw [h0] at hp; simp at hp
    have hTk := take15_any w2 g ts en t.kind i op hR2 hk0
    have e9 : decide ((nxP ts en i).kind = t.kind) = true := decide_eq_true (by rw [HT.out])
    rw [e9] at hTk
    unfold tkI at hTk
    rw [if_pos (by rw [HT.out])] at hTk
    clear hno hy hp h3 h1 f1 f3 hnum hk0 e9
    go_wp2_with fail
    refine hTk.mono ?_
    rintro e w3 ⟨rfl, hR3, hg3⟩
    clear hTk
    have hv3 := (hvo w2.heap.size)
    obtain ⟨vt, vp, rfl⟩ := hv3.ifc
    have hgw := grL_below hbw hg3
    have HV : Hid (VlO w3 w.heap.size (.iface vt vp) d [] []) := (hvo w.heap.size).ag (fun q hq => by cases hq)
    clear hv3 hvo
    go_wp2
    go_ret2
    refine ⟨_, 0, i + 1, op, rfl, .inr ⟨_, _, rfl⟩, hR3, hgw, by rw [HP.out]; rfl, fun _ => ⟨by rw [HP.out], rfl, by omega, [], [], ?_, List.nodup_nil⟩, fun h9 => absurd rfl h9⟩
    rw [HP.out]
    exact HV.out
theorem value15_any (ts : List Tk) (en : Int) (g : Nat) (hT : ts.length ≤ 1000000) (hts : ∀ i, (tkP ts i).kind = 10 → 0 ≤ (tkP ts i).n ∧ (tkP ts i).n ≤ 9223372036854775807) : ∀ N f, f < N → ValL ts en g f
  | 0, _, h => absurd h (Nat.not_lt_zero _)
  | N + 1, 0, _ => fun w i op h => absurd h (by omega)
  | N + 1, f + 1, h => value15_step ts en g f hT hts (fun f' hf => value15_any ts en g hT hts N f' (by omega))
end Go.Proofs.YtddmmmfpdmejbaaGreatDoor
