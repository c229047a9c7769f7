import Derived.Test.YtpckdkgbeemalaaQJou4
namespace Go.Proofs.Ytpckdkgbeemalaa
open Go.RowKit

/-! JournalAgain: two devices apart -/
section
variable {DevIs : World → Value → DSt → List Nat → List Nat → Prop}
structure Two10 (DevIs : World → Value → DSt → List Nat → List Nat → Prop) (B : Nat) (w0 w : World) (d : Value) (sd : DSt) (F R : List Nat) (c : Value) (sc : DSt) (G S : List Nat) : Prop where
  d : DvAt DevIs B w0 S w d sd F R
  c : DevIs w c sc G S
  ge : ∀ q ∈ S, B ≤ q
variable {B : Nat} {w0 w w' : World} {d c : Value} {sd sc st' : DSt} {F R G S : List Nat}
theorem Two10.later (O : DvOk DevIs) (h : Two10 DevIs B w0 w d sd F R c sc G S) (hb : Below w.heap.size w w') : Two10 DevIs B w0 w' d sd F R c sc G S := ⟨h.d.later O hb, O.later h.c hb, h.ge⟩
theorem Two10.turn1 (O : DvOk DevIs) (h : Two10 DevIs B w0 w d sd F R c sc G S) {F' R' : List Nat} (k1 : DevIs w' d st' F' R') (k3 : ∀ q ∈ R', q ∈ R ∨ w.heap.size ≤ q) (k4 : Keep F w w') : Two10 DevIs B w0 w' d st' F' R' c sc G S :=
  ⟨(h.d.turn O k1 k3 k4).1, O.keeps h.c k4 fun q hq hm => h.d.no q (O.sub h.d.is q hm) hq, h.ge⟩
theorem Two10.turn2 (O : DvOk DevIs) (h : Two10 DevIs B w0 w d sd F R c sc G S) {G' S' : List Nat} (k1 : DevIs w' c st' G' S') (k3 : ∀ q ∈ S', q ∈ S ∨ w.heap.size ≤ q) (k4 : Keep G w w') : Two10 DevIs B w0 w' d sd F R c st' G' S' := by
  have hs := O.sub h.c
  refine ⟨⟨O.keeps h.d.is k4 fun q hq hm => h.d.no q hq (hs q hm), h.d.ge, fun q hq hm => ?_, fun q hq => O.lt k1 q hq, h.d.bel.trans (k4.below (fun q hq => h.ge q (hs q hq)) h.d.sz), Nat.le_trans h.d.sz k4.size⟩, k1, fun q hq => ?_⟩
  · rcases k3 q hm with hm | hm
    · exact h.d.no q hq hm
    · have := O.lt h.d.is q hq; omega
  · rcases k3 q hq with hq | hq
    · exact h.ge q hq
    · have := h.d.sz; omega
set_option linter.unusedSimpArgs false in
set_option maxRecDepth 100000 in
set_option maxHeartbeats 4000000 in
theorem lawJAgain_any (O : DvOk DevIs) (J : JOk DevIs) (Z : JNil) (N : Int) (xb : Option Addr) (nb cb : Nat) (M : Int) (xw : Option Addr) (nw cw : Nat) (lb : List UInt8) (lw : List Wr) (xz : Option Addr) (nz cz : Nat) (zs : List Int) (xs : Option Addr) (ns cs : Nat) (bs : List Bool) (w : World)
    (hlb : lb.length = nb) (hnb : nb ≤ 4611686018427387904) (hb : IsB w (.slice xb nb cb) lb) (hlw : lw.length = nw) (hnw : nw ≤ 2199023255552) (hw9 : IsK wrE w (.slice xw nw cw) lw) (hwB : WrB lw)
    (hzl : zs.length = nz) (hnz : nz ≤ 140737488355328) (hz : IsG w (.slice xz nz cz) (zs.map fun z => Value.int .i64 z)) (hzb : ∀ z ∈ zs, i64w z) (hbs : bs.length = ns) (hcs : ns ≤ cs) (hs : IsG w (.slice xs ns cs) (bs.map Value.bool)) :
    Calls Try.prog 3 #[.agg (dkA N xb nb cb M xw nw cw), .slice xz nz cz, .slice xs ns cs] w fun r w' => r = .returned (.bool true) ∧ Below w.heap.size w w' := by
  have hSec := fun W (h : Below w.heap.size w W) => sectors10_any N xb nb cb M xw nw cw lb lw W hlb hnb (hb.kept h) hlw hnw (hw9.kept h) hwB
  have hfl := dskS_len N lb M lw
  have hm64 := dskN_le N
  obtain ⟨first, hfe⟩ : ∃ f, dskS N lb M lw = f := ⟨_, rfl⟩
  obtain ⟨m, hme⟩ : ∃ q, dskN N = q := ⟨_, rfl⟩
  simp only [hfe, hme] at hSec hfl hm64
  clear hfe hme
  go_enter Try.func3, Try.ntmps3
  go_upto_region 1 with fail
  have hB1 : Below w.heap.size w (w.alloc (.cells (dkA N xb nb cb M xw nw cw) 25)) := below_alloc w _
  have hC3' : RowC (w.alloc (.cells (dkA N xb nb cb M xw nw cw) 25)) w.heap.size (dkA N xb nb cb M xw nw cw) := RowC.new w _ _
  obtain ⟨g3, hg3⟩ : ∃ g, w.heap.size = g := ⟨_, rfl⟩
  rw [hg3] at hC3'
  simp only [hg3]
  have HG3 : Hid (w.heap.size = g3) := hg3
  clear hg3
  generalize w.alloc (.cells (dkA N xb nb cb M xw nw cw) 25) = X1 at hB1 hC3' ⊢
  have hS1 := hSec X1 hB1
  have H3 : Hid (RowC X1 g3 (dkA N xb nb cb M xw nw cw)) := hC3'
  obtain ⟨k3, v3⟩ := hC3'
  go_wp2_with fail
  go_at_call 7
  refine hS1.mono ?_
  rintro e w2 ⟨gf, rfl, hG, hb2⟩
  clear hS1 k3 v3
  have hC3 := H3.out.kept hb2
  have hB2 := hB1.trans (hb2.mono hB1.size)
  clear hb2 hB1 H3
  have hNew := O.new w2 (some ⟨gf, 0, none⟩) m m first hfl (hG.isK secE_ok) (by omega)
  clear hG
  go_wp2_with fail
  go_at_call 6
  refine hNew.mono ?_
  intro e w3 hq
  obtain ⟨hb3, hq⟩ := hq
  obtain ⟨d, F, R, rfl, hd, hR⟩ : ∃ d F R, e = .returned (.tuple #[d, .int .i64 0]) ∧ DevIs w3 d (newS first) F R ∧ ∀ q ∈ R, w2.heap.size ≤ q := by
    rcases hq with ⟨-, -, d, F, R, q1, q2, q3⟩ | ⟨q, -⟩
    · exact ⟨d, F, R, q1, q2, q3⟩
    · exact absurd ⟨by omega, by omega⟩ q
  clear hq hNew
  obtain ⟨a, rfl⟩ := O.ptr hd
  replace hC3 := hC3.kept hb3
  have hB3 := hB2.trans (hb3.mono hB2.size)
  have hRw : ∀ q ∈ R, w.heap.size ≤ q := fun q hq => Nat.le_trans hB2.size (hR q hq)
  clear hb3 hB2 hR
  go_upto_region 2 with fail
  have hS2 := hSec w3 hB3
  obtain ⟨k3, v3⟩ := hC3
  go_wp2_with fail
  go_at_call 7
  refine hS2.mono ?_
  rintro e w4 ⟨gh, rfl, hG, hb4⟩
  clear hS2 k3 v3
  replace hd := O.later hd hb4
  have hB4 := hB3.trans (hb4.mono hB3.size)
  clear hb4 hB3 hSec
  have hNew := O.new w4 (some ⟨gh, 0, none⟩) m m first hfl (hG.isK secE_ok) (by omega)
  clear hG
  go_wp2_with fail
  go_at_call 6
  refine hNew.mono ?_
  intro e w5 hq
  obtain ⟨hb5, hq⟩ := hq
  obtain ⟨c, G, S, rfl, hc, hS⟩ : ∃ d F R, e = .returned (.tuple #[d, .int .i64 0]) ∧ DevIs w5 d (newS first) F R ∧ ∀ q ∈ R, w4.heap.size ≤ q := by
    rcases hq with ⟨-, -, d, F, R, q1, q2, q3⟩ | ⟨q, -⟩
    · exact ⟨d, F, R, q1, q2, q3⟩
    · exact absurd ⟨by omega, by omega⟩ q
  clear hq hNew
  obtain ⟨ac, rfl⟩ := O.ptr hc
  have hB5 := hB4.trans (hb5.mono hB4.size)
  have hT : Two10 DevIs w.heap.size w w5 (.pointer (some a)) (newS first) F R (.pointer (some ac)) (newS first) G S := ⟨⟨O.later hd hb5, hRw, fun q hq hm => by
      have h1 := hS q hm
      have h2 := O.lt hd q hq
      omega, fun q hq => O.lt hc q hq, hB5, hB5.size⟩, hc, fun q hq => Nat.le_trans hB4.size (hS q hq)⟩
  clear hd hc hS hRw hb5 hB4 hB5
  go_upto_region 3 with fail
  have hKn := known10_any O J Z w5
  go_wp2_with fail
  go_at_call 8
  refine hKn.mono ?_
  rintro e w6 ⟨rfl, hb6⟩
  replace hT := hT.later O hb6
  clear hKn hb6
  have hn0 : (newS first).last.length = m := hfl
  obtain ⟨stc, hstc⟩ : ∃ s, newS first = s := ⟨_, rfl⟩
  go_upto_region 5 with fail
  go_wp2_with fail
  have hT0 : ∃ F R, Two10 DevIs w.heap.size w w6 (.pointer (some a)) (newS first) F R (.pointer (some ac)) stc G S := ⟨F, R, by rw [← hstc]; rw [hstc] at hT; rw [hstc]; exact hT⟩
  clear hT
  have hcf : stc.last = first ∧ stc.pend = [] ∧ stc.down = false ∧ stc.left < 0 ∧ stc.rd = 0 ∧ stc.wt + stc.fl = 0 := by rw [← hstc]; exact ⟨rfl, rfl, rfl, by show (-1 : Int) < 0; omega, rfl, rfl⟩
  go_loopw [11] (fun iv wr => ∃ (k : Nat) (sd : DSt), k ≤ nz ∧ iv = .int .i64 k ∧ (∃ F R, Two10 DevIs w.heap.size w wr (.pointer (some a)) sd F R (.pointer (some ac)) stc G S) ∧ sd.pend = [] ∧ sd.down = false ∧ sd.left < 0 ∧ sd.last.length = m ∧ repD sd.last = repD first ∧ sd.rd = 9 * k ∧ sd.wt + sd.fl ≤ 11 * k) (fun iv _ => nz - (intOf iv).toNat)
  case atStart => exact ⟨0, newS first, by omega, rfl, hT0, rfl, rfl, by show (-1 : Int) < 0; omega, hfl, rfl, rfl, by show 0 + 0 ≤ _; omega⟩
  case round =>
    clear hT0 hstc
    obtain ⟨k, sd, hk, rfl, ⟨F, R, hT⟩, s1, s2, s3, s4, s5, s6, s7⟩ := hrel
    by_cases hlt : k < nz
    · have hlt' : (k : Int) < (nz : Int) := by omega
      obtain ⟨z9, hz9⟩ : ∃ z, zs[k]? = some z := ⟨_, List.getElem?_eq_getElem (by omega)⟩
      have hzi := hzb z9 (List.mem_of_getElem? hz9)
      obtain ⟨bz, oz, rfl, hbz, hzc⟩ := (IsG.kept hz hT.d.bel).spot k (by rw [List.length_map]; omega)
      have cz9 : wr.cell? ⟨bz, oz + k, none⟩ = some (.int .i64 z9) := hzc k _ (by rw [List.getElem?_map, hz9]; rfl)
      have hst := again_step sd z9 bs s2 s1 (by omega) (by omega)
      obtain ⟨a1, a2, a3, a4, a5, a6, a7, a8⟩ := hst
      have hSt := O.stop wr _ _ _ _ z9 hT.d.is hzi.1 hzi.2
      clear hzc hz9
      go_wp2_with fail
      go_at_call 9
      refine hSt.mono ?_
      rintro e w7 ⟨rfl, F1, R1, k1, k2, k3, k4⟩
      have hT1 := hT.turn1 O k1 k3 k4
      clear hSt k1 k2 k3 k4 hT cz9
      have hsm1 : StSm (stSt sd z9) := ⟨by show sd.pend.length ≤ _; rw [s1]; simp, by show sd.rd ≤ _; omega, by show sd.wt ≤ _; omega, by show sd.fl ≤ _; omega⟩
      have hRp := J.replay _ _ _ _ _ hT1.d.is hsm1
      go_wp2_with fail
      go_at_call 10
      refine hRp.mono ?_
      rintro e w8 ⟨rfl, F2, R2, k1, k2, k3, k4⟩
      have hT2 := hT1.turn1 O k1 k3 k4
      clear hRp k1 k2 k3 k4 hT1 hsm1
      have hRe := O.restart w8 _ _ _ _ xs ns cs bs hT2.d.is (by omega) hbs hcs (IsG.kept hs hT2.d.bel) (fun h0 x hx hm => by
        subst hx
        have h9 := isG_lt10 hs (by simpa using h0)
        have h8 := hT2.d.ge _ (O.sub hT2.d.is _ hm)
        omega)
      go_wp2_with fail
      go_at_call 11
      refine hRe.mono ?_
      rintro e w9 ⟨rfl, F3, R3, k1, k2, k3, k4⟩
      have hT3 := hT2.turn1 O k1 k3 k4
      clear hRe k1 k2 k3 k4 hT2
      obtain ⟨sd', hsd'⟩ : ∃ q, reSt (repS (stSt sd z9)) bs = q := ⟨_, rfl⟩
      rw [hsd'] at hT3 a2 a3 a4 a5 a6 a7 a8
      have H : Hid ((∃ F R, Two10 DevIs w.heap.size w w9 (.pointer (some a)) sd' F R (.pointer (some ac)) stc G S) ∧ sd'.pend = [] ∧ sd'.down = false ∧ sd'.left < 0 ∧ sd'.last.length = m ∧ repD sd'.last = repD first ∧ sd'.rd = 9 * (k + 1) ∧ sd'.wt + sd'.fl ≤ 11 * (k + 1)) := ⟨⟨F3, R3, hT3⟩, a2, a3, a4, by omega, a6.trans s5, by omega, by omega⟩
      clear hT3 a1 a2 a3 a4 a5 a6 a7 a8 s1 s2 s3 s4 s5 s6 s7 hsd'
      go_wp2_with fail
      go_roundw
      case rel => exact ⟨k + 1, sd', by omega, by go_num, H.out⟩
      case measure => simp [intOf]; omega
    · obtain rfl : nz = k := by omega
      have hlt' : ¬ (nz : Int) < (nz : Int) := by omega
      obtain ⟨p1, p2, p3, p4, p5, p6⟩ := hcf
      have hr1 := rep_whole s2 s1 s3 (by omega)
      obtain ⟨rE1, rK1, rL1, rP1, -⟩ := hr1
      have hr2 := rep_whole p3 p2 p4 (by rw [p1]; omega)
      obtain ⟨rE2, rK2, rL2, rP2, rD2, rF2, rR2, rW2⟩ := hr2
      rw [s5] at rL1
      rw [p1] at rK2 rL2
      have hkr := dK_range (L := first) (by omega) (by omega)
      have hsm1 : StSm sd := ⟨by rw [s1]; simp, by omega, by omega, by omega⟩
      have hsmc : StSm stc := ⟨by rw [p2]; simp, by omega, by omega, by omega⟩
      have hRp := J.replay _ _ _ _ _ hT.d.is hsm1
      rw [rE1] at hRp
      go_upto_region 11 with fail
      go_wp2_with fail
      go_at_call 10
      refine hRp.mono ?_
      rintro e w7 ⟨rfl, F1, R1, k1, k2, k3, k4⟩
      have hT1 := hT.turn1 O k1 k3 k4
      clear hRp k1 k2 k3 k4 hT
      have hRp := J.replay _ _ _ _ _ hT1.c hsmc
      obtain ⟨n9, hn9⟩ : ∃ q, repK stc = q := ⟨_, rfl⟩
      rw [rE2, hn9] at hRp
      rw [hn9] at rK2
      go_upto_region 12 with fail
      go_wp2_with fail
      go_at_call 10
      refine hRp.mono ?_
      rintro e w8 ⟨rfl, G1, S1, k1, k2, k3, k4⟩
      have hT2 := hT1.turn2 O k1 k3 k4
      clear hRp k1 k2 k3 k4 hT1 hn9
      have h1n : ¬ n9 < 1 := by omega
      have h3n : ¬ (3 : Int) < n9 := by omega
      obtain ⟨s9, hs9⟩ : ∃ q, repS sd = q := ⟨_, rfl⟩
      obtain ⟨c9, hc9⟩ : ∃ q, repS stc = q := ⟨_, rfl⟩
      rw [hs9] at hT2 rL1 rP1
      rw [hc9] at hT2 rL2 rP2 rD2 rF2 rR2 rW2
      have hln : (repD first).length = m := by rw [repD_len, hfl]
      have hl9 : s9.last.length = m := by rw [rL1, hln]
      have hlc : c9.last.length = m := by rw [rL2, hln]
      clear hs9 hc9
      have hD1 := O.durable _ _ _ _ _ hT2.d.is
      rw [hl9, rL1] at hD1
      go_upto_region 13 with fail
      go_wp2_with fail
      go_at_call 13
      refine hD1.mono ?_
      rintro e w9 ⟨y9, e9, rfl, o9, hb9⟩
      replace hT2 := hT2.later O hb9
      clear hD1 hb9
      have hD2 := O.durable _ _ _ _ _ hT2.c
      rw [hlc, rL2] at hD2
      go_wp2_with fail
      go_at_call 13
      refine hD2.mono ?_
      rintro e w10 ⟨y10, e10, rfl, o10, hb10⟩
      replace hT2 := hT2.later O hb10
      replace o9 := OwnK.keep o9 hb10
      clear hD2 hb10
      have hsa := same10_any y9 y10 e9 e10 m m (repD first) (repD first) w10 hln hln (OwnK.isK secE_ok o9) (OwnK.isK secE_ok o10) (by omega)
      rw [decide_eq_true rfl] at hsa
      go_wp2_with fail
      go_at_call 12
      refine hsa.mono ?_
      rintro e w11 ⟨rfl, hb11⟩
      replace hT2 := hT2.later O hb11
      clear hsa hb11 o9 o10
      have hP1 := O.pending _ _ _ _ _ hT2.d.is (by rw [rP1]; simp)
      rw [rP1] at hP1
      go_wp2_with fail
      go_at_call 14
      refine hP1.mono ?_
      rintro e w12 ⟨y12, e12, rfl, -, hb12⟩
      replace hT2 := hT2.later O hb12
      clear hP1 hb12
      have hP2 := O.pending _ _ _ _ _ hT2.c (by rw [rP2]; simp)
      rw [rP2] at hP2
      go_wp2_with fail
      go_at_call 14
      refine hP2.mono ?_
      rintro e w13 ⟨y13, e13, rfl, -, hb13⟩
      replace hT2 := hT2.later O hb13
      clear hP2 hb13
      go_upto_region 15 with fail
      have hAc := O.acts _ _ _ _ _ hT2.c
      go_wp2_with fail
      go_at_call 15
      refine hAc.mono ?_
      rintro e w14 ⟨rfl, hb14⟩
      replace hT2 := hT2.later O hb14
      clear hAc hb14
      have hk1 : dK c9.last = 1 := by rw [rL2]; exact repD_empty (by omega) (by omega)
      obtain ⟨t1, t2, t3⟩ := rep_reads rD2 rP2 hk1
      have hln9 : (acLs (rpLs stc)).length ≤ 11 := by
        have he : over stc.last stc.pend = first := by rw [p1, p2]; rfl
        unfold rpLs rpK rpL
        rw [he]
        by_cases h2 : dK first = 2
        · rw [if_pos h2, acLs_len]
          have := (bat_len (dK_two h2)).2
          simp [clrL]; omega
        · rw [if_neg h2]
          split
          · rw [acLs_len]; simp [clrL]
          · simp [acLs]
      have hsm9 : StSm c9 := ⟨by rw [rP2]; simp, by omega, by omega, by omega⟩
      have hRp := J.replay _ _ _ _ _ hT2.c hsm9
      rw [t1, t2, t3] at hRp
      have hzq : secEq ((c9.last[2]?).getD secZ) secZ = true := dK_one (by omega) (by omega) hk1
      clear t1 t2 t3
      go_upto_region 16 with fail
      go_wp2_with fail
      go_at_call 10
      refine hRp.mono ?_
      rintro e w15 ⟨rfl, G2, S2, k1, k2, k3, k4⟩
      have hT3 := hT2.turn2 O k1 k3 k4
      clear hRp k1 k2 k3 k4 hT2
      have hAc := O.acts _ _ _ _ _ hT3.c
      go_upto_region 17 with fail
      go_wp2_with fail
      go_at_call 15
      refine hAc.mono ?_
      rintro e w16 ⟨rfl, hb16⟩
      replace hT3 := hT3.later O hb16
      clear hAc hb16
      have hD3 := O.durable _ _ _ _ _ hT3.c
      have hlc2 : (rd9 c9).last.length = m := hlc
      rw [hlc2] at hD3
      have hrd : (rd9 c9).rd = c9.rd + 9 := rfl
      have hwt : (rd9 c9).wt = c9.wt := rfl
      have hfl9 : (rd9 c9).fl = c9.fl := rfl
      have hlast : (rd9 c9).last = c9.last := rfl
      rw [hrd, hwt, hfl9]
      rw [hlast] at hD3
      have wm : IntKind.i64.wrap ((c9.rd : Int) + 9) = ((c9.rd + 9 : Nat) : Int) := by rw [IntKind.wrap_i64]; omega
      obtain ⟨s2c, hs2c⟩ : ∃ q, c9.last[2]? = some q := ⟨_, List.getElem?_eq_getElem (by omega)⟩
      rw [hs2c] at hzq
      have hzq' : secEq s2c secZ = true := hzq
      obtain ⟨r9, hr9⟩ : ∃ q, c9.rd + 9 = q := ⟨_, rfl⟩
      rw [hr9] at wm ⊢
      have hm2 : (2 : Int) < (m : Int) := by omega
      go_upto_region 18 with fail
      go_wp2_with fail
      go_at_call 13
      refine hD3.mono ?_
      rintro e w17 ⟨y17, e17, rfl, o17, hb17⟩
      obtain ⟨b17, f17, rfl, rk17, rv17⟩ := own_sec o17 hs2c
      have HB : Hid (Below w.heap.size w w17) := hT3.d.bel.trans (hb17.mono hT3.d.sz)
      clear hD3 hb17 o17 hT3
      go_wp2_with fail
      go_ret
      exact ⟨rfl, HB.out⟩
end
end Go.Proofs.Ytpckdkgbeemalaa
