import Derived.Test.YtddmmmfpdmejbaaGreatDoorQJzg
import Derived.Test.YtddmmmfpdmejbaaGreatDoorQLxu
import Derived.Test.YtddmmmfpdmejbaaGreatDoorQJok
import Derived.Test.YtddmmmfpdmejbaaGreatDoorQJma
namespace Go.Proofs.YtddmmmfpdmejbaaGreatDoor
open Go.RowKit

/-! Parse: what is read, in memory of its own -/
theorem RdL.first {w : World} {ts : List Tk} {en : Int} {g n c : Nat} {y : Option Addr} (hn : n = ts.length) (hr : RowC w g #[.slice y n c, .int .i64 en, .int .i64 0]) (hO : OwnK tkEL w 0 (.slice y n c) ts) (hlt : ∀ q, (Value.slice y n c).ownBlock = some q → q < g) : RdL w g ts en 0 0 := by
  subst hn
  refine ⟨⟨?_, c, y, y, hr, hO, fun h => ?_, hlt⟩, Nat.zero_le _⟩
  · exact match y with | some a => a.block | none => 0
  · obtain ⟨-, h2⟩ := hO
    rcases h2 with ⟨h9, h8⟩ | ⟨g', cap, cur, hv, -⟩
    · rw [h8] at h; exact absurd h (Nat.lt_irrefl 0)
    · simp only [Value.slice.injEq] at hv
      obtain ⟨rfl, -, -⟩ := hv
      exact ⟨rfl, by simp⟩
set_option linter.unusedSimpArgs false in
set_option maxRecDepth 100000 in
set_option maxHeartbeats 8000000 in
theorem parse15_any (l : List UInt8) (x : Option Addr) (L c : Nat) (w : World) (hL : l.length = L) (hLc : L ≤ c) (hL47 : L ≤ 140737488355328) (hl : IsB w (.slice x L c) l) (hV : Vx w) :
    Calls Tryz.prog 11 #[.slice x L c] w fun e w' => JoP (prsA l) w e w' := by
  have hA := lexOk.all l x L c w hL hLc (by omega) hl hV
  obtain ⟨PA, hPA⟩ : ∃ q, prsA l = q := ⟨_, rfl⟩
  have HPA : Hid (prsA l = PA) := hPA
  rw [hPA]
  clear hPA
  obtain ⟨E, hE⟩ : ∃ q, cutE l = q := ⟨_, rfl⟩
  obtain ⟨P, hP⟩ : ∃ q, cutP l = q := ⟨_, rfl⟩
  have HEP : Hid (cutE l = E ∧ cutP l = P) := ⟨hE, hP⟩
  unfold AllP at hA
  rw [hE, hP] at hA
  clear hE hP
  go_enter Tryz.func11, Tryz.ntmps11
  go_wp2_with fail
  refine hA.mono ?_
  rintro e w1 ⟨⟨y, n, c1, rfl, hO⟩, hb1⟩
  clear hA
  by_cases hE0 : E = 0
  · subst hE0
    obtain ⟨ts, hts⟩ : ∃ q, cutL l = q := ⟨_, rfl⟩
    have hlen : ts.length ≤ 4097 := by rw [← hts]; exact cutL_len15 l
    have hgood := fun i => cut_good l HEP.out.1 i
    rw [hts] at hgood hO
    have hn : n = ts.length := by
      obtain ⟨x9, c9, he9, -⟩ := hO.isK tkEL_ok
      simp only [Value.slice.injEq] at he9
      exact he9.2.1
    obtain ⟨g, hg⟩ : ∃ q, w1.heap.size = q := ⟨_, rfl⟩
    have b2 := below_alloc w1 (.cells #[.slice y n c1, .int .i64 (L : Int), .int .i64 0] 81)
    have r2 := RowC.new w1 #[.slice y n c1, .int .i64 (L : Int), .int .i64 0] 81
    rw [hg] at r2
    have hO2 := hO.other14 (w' := w1.alloc (.cells #[.slice y n c1, .int .i64 (L : Int), .int .i64 0] 81)) (fun q hq => b2.block q (World.ownsRow.lt hO q hq).2)
    have hRd : RdL (w1.alloc (.cells #[.slice y n c1, .int .i64 (L : Int), .int .i64 0] 81)) g ts (L : Int) 0 0 := RdL.first hn r2 ⟨hO2.1, hO2.2.elim .inl fun ⟨g', cap, cur, hv, _, r⟩ => .inr ⟨g', cap, cur, hv, Nat.zero_le _, r⟩⟩ (fun q hq => by have := (World.ownsRow.lt hO q hq).2; omega)
    have hVal := value15_any ts (L : Int) g (by omega) (fun i h9 => (hgood i).1 h9) (2 * ts.length + 2) (2 * ts.length + 1) (by omega) (w1.alloc (.cells #[.slice y n c1, .int .i64 (L : Int), .int .i64 0] 81)) 0 0 (by omega) (by omega) hRd
    have hB2 := hb1.trans (b2.mono hb1.size)
    have hgw : w.heap.size ≤ g := by rw [← hg]; exact hb1.size
    obtain ⟨PR, hPR⟩ : ∃ q, prsF ts (L : Int) (2 * ts.length + 1) none (stZ 0 0) = q := ⟨_, rfl⟩
    have HQ : Hid (PA = if (endP ts (L : Int) PR).e = 0 then (PR.1, 0, 0) else (ndZ, (endP ts (L : Int) PR).e, (endP ts (L : Int) PR).bad)) := by
      show _ = _
      rw [← HPA.out]
      unfold prsA
      rw [if_pos HEP.out.1, hts, hL]
      unfold prsT
      rw [show ps0 = stZ 0 0 from rfl, hPR]
    unfold VP at hVal
    rw [hPR] at hVal
    clear hPR hn hRd hO2 hO hgood hts HPA HEP
    go_upto_region 5 with fail
    have hsY : (w1.alloc (.cells #[.slice y n c1, .int .i64 (L : Int), .int .i64 0] 81)).heap.size = g + 1 := by rw [alloc_sz15, hg]
    generalize w1.alloc (.cells #[.slice y n c1, .int .i64 (L : Int), .int .i64 0] 81) = Y at *
    go_wp2_with fail
    refine hVal.mono ?_
    rintro e w2 ⟨v, er, i', op', rfl, hifc, hR2, hg2, hee, hok, hbad⟩
    clear hVal
    have hbW : Below w.heap.size w w2 := hB2.trans ⟨hg2.os, hg2.tape, hg2.output, hg2.size, fun q hq => hg2.block q (by have := hB2.size; omega) (fun e => by cases e; omega)⟩
    have hN := next15_any w2 g ts (L : Int) i' op' hR2
    have c0 : ∃ x9 c9, w2.cell? ⟨g, 0, none⟩ = some (.slice x9 (ts.length - i') c9) := by
      obtain ⟨⟨b, c, x, y, hr, -⟩, -⟩ := hR2
      exact ⟨x, c - i', hr.cell 0⟩
    obtain ⟨x9, c9, c0⟩ := c0
    have hi2 := hR2.hi
    have hnA : (tkR (nxP ts (L : Int) i'))[1]? = some (.int .i64 (nxP ts (L : Int) i').at_) := rfl
    obtain ⟨A9, hA9⟩ : ∃ q, (nxP ts (L : Int) i').at_ = q := ⟨_, rfl⟩
    have hNR : tkR (nxP ts (L : Int) i') = #[.int .i64 (nxP ts (L : Int) i').kind, .int .i64 A9, .int .i64 (nxP ts (L : Int) i').n, .string ⟨(nxP ts (L : Int) i').text.toArray⟩] := by rw [← hA9]; rfl
    rw [hNR] at hN
    have HA9 : Hid ((nxP ts (L : Int) i').at_ = A9) := hA9
    clear hNR hnA hA9
    by_cases he0 : er = 0
    · obtain ⟨q1, rfl, -, LL, KK, q4, q5⟩ := hok he0
      subst he0
      obtain ⟨vt, vp, rfl⟩ := q4.ifc
      have HV : Hid (VlO w2 w.heap.size (.iface vt vp) PR.1 LL KK ∧ (blks LL KK).Nodup) := ⟨q4.le (by omega), q5⟩
      clear q4 q5 hok hbad hifc
      by_cases hlt : i' < ts.length
      · obtain ⟨m, hm⟩ : ∃ q, ts.length - i' = q + 1 := ⟨ts.length - i' - 1, by omega⟩
        have HP : Hid (PA = (ndZ, 14, A9)) := by
          show _ = _
          have e1 : endP ts (L : Int) PR = ⟨i', 14, A9, 0⟩ := by
            unfold endP
            rw [q1, if_pos ⟨rfl, hlt⟩, atP_st, HA9.out]
            rfl
          rw [HQ.out, e1, if_neg (show ¬ (14 : Int) = 0 by decide)]
        rw [hm] at c0
        have hm0 : (0 : Int) < (m : Int) + 1 := by omega
        clear hm hlt HQ q1 hee
        go_wp2_with fail
        refine hN.mono ?_
        rintro e w3 ⟨rfl, hb3⟩
        clear hN
        go_wp2
        go_ret3
        exact ⟨.nilIface, by rw [HP.out]; rfl, fun h9 => absurd (by rw [HP.out] at h9; exact h9) (show (14 : Int) ≠ 0 by decide), fun _ => rfl, hbW.trans (hb3.mono hbW.size)⟩
      · have hm : ts.length - i' = 0 := by omega
        have HP : Hid (PA = (PR.1, 0, 0)) := by
          show _ = _
          have e1 : endP ts (L : Int) PR = stZ i' 0 := by
            unfold endP
            rw [q1, if_neg (fun h => hlt h.2)]
          rw [HQ.out, e1, if_pos (show (stZ i' 0).e = 0 from rfl)]
        rw [hm] at c0
        clear hm hlt HQ q1 hee hN
        go_wp2
        go_ret3
        refine ⟨.iface vt vp, by rw [HP.out]; rfl, fun _ => ⟨LL, KK, ?_, HV.out.2⟩, fun h9 => absurd (by rw [HP.out]) h9, hbW⟩
        rw [HP.out]
        exact HV.out.1
    · have f0 : (er == 0) = false := beq_eq_false_iff_ne.2 he0
      have HP : Hid (PA = (ndZ, er, A9)) := by
        show _ = _
        have e1 : endP ts (L : Int) PR = PR.2 := by
          unfold endP
          rw [if_neg (fun h => he0 (by rw [← hee]; exact h.1))]
        rw [HQ.out, e1, if_neg (by rw [hee]; exact he0), hee, hbad he0, HA9.out]
      have HE0 : Hid (er ≠ 0) := he0
      clear hok hbad HQ hee he0
      go_wp2_with fail
      refine hN.mono ?_
      rintro e w3 ⟨rfl, hb3⟩
      clear hN
      go_wp2
      go_ret3
      exact ⟨.nilIface, by rw [HP.out]; rfl, fun h9 => absurd (by rw [HP.out] at h9; exact h9) HE0.out, fun _ => rfl, hbW.trans (hb3.mono hbW.size)⟩
  · have f0 : (E == 0) = false := beq_eq_false_iff_ne.2 hE0
    have HQ : Hid (PA = (ndZ, E, P)) := by
      show _ = _
      rw [← HPA.out]
      unfold prsA
      rw [if_neg (by rw [HEP.out.1]; exact hE0), HEP.out.1, HEP.out.2]
    have HE0 : Hid (E ≠ 0) := hE0
    clear hO hE0 HPA HEP
    go_wp2
    go_ret3
    exact ⟨.nilIface, by rw [HQ.out]; rfl, fun h9 => absurd (by rw [HQ.out] at h9; exact h9) HE0.out, fun _ => rfl, hb1⟩
end Go.Proofs.YtddmmmfpdmejbaaGreatDoor
