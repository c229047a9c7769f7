import Derived.Test.YtpckdkgbeemalaaQJouG
import Derived.Test.YtpckdkgbeemalaaQJou4
import Derived.Test.YtpckdkgbeemalaaQDev5
namespace Go.Proofs.Ytpckdkgbeemalaa
open Go.RowKit

/-! JournalScript -/
structure OpV where
  kd : Int
  k : Int
  xl : Option Addr
  nl : Nat
  cl : Nat
  xs : Option Addr
  ns : Nat
  cs : Nat
  v : Sc
  ol : List Wr
  bs : List Bool
def opV (o : OpV) : Array Value := opA o.kd o.k o.xl o.nl o.cl o.xs o.ns o.cs o.v
def opE : EK OpV := { T := 62, S := 56, k := 68, bytes := 128, z := .agg (opA 0 0 none 0 0 none 0 0 secZ), enc := fun o => (opV o).toList }
theorem opE_k : EK.k opE = 68 := rfl
theorem opE_enc (o : OpV) : opE.enc o = (opV o).toList := by simp only [opE]
theorem opE_arr (o : OpV) : (opE.enc o).toArray = opV o := by rw [opE_enc, Array.toArray_toList]
theorem opV_size (o : OpV) : (opV o).size = 68 := by unfold opV; exact opA_size _ _ _ _ _ _ _ _ _
theorem opE_len (o : OpV) : (opE.enc o).length = opE.k := by rw [opE_enc, Array.length_toList, opE_k, opV_size]
@[go_sem] theorem run_load_op10_mid (w : World) (b o : Nat) (h : rgOk w b o 68 = true) : (bigLoad 62 (.pointer (some ⟨b, o, none⟩))).run Try.prog w = .ok (.value (.agg (rg w b o 68))) w := by
  simp only [bigLoad, Sem.run_bind]
  rw [run_loadAt_mid w b o 62 _ _ (rangeAt_rg h) Try.underlying62 rfl (by rw [sizeT_op10, Array.length_toList, rg_size])]
  rfl
/-- What an act of a script says, lying in w. -/
structure OpOk (w : World) (o : OpV) : Prop where
  k : i64w o.k
  ol : o.ol.length = o.nl
  nl : o.nl ≤ 1954687338211
  l : IsK wrE w (.slice o.xl o.nl o.cl) o.ol
  wb : WrB o.ol
  bs : o.bs.length = o.ns
  cs : o.ns ≤ o.cs
  s : IsG w (.slice o.xs o.ns o.cs) (o.bs.map Value.bool)
def opT (st : DSt) (o : OpV) : DSt := opS st o.kd o.k o.ol o.bs o.v
section
variable {DevIs : World → Value → DSt → List Nat → List Nat → Prop}
theorem RefIs.lower {w : World} {B B' r : Nat} {st : DSt} {F : List Nat} (h : RefIs w B r st F) (hb : B' ≤ B) : RefIs w B' r st F := by
  obtain ⟨vl, vp, h1, h2, h3, h4, h5, h6, h7, h8⟩ := h
  exact ⟨vl, vp, h1, h2.le hb, h3.le hb, h4, h5, h6, fun q hq => ⟨Nat.le_trans hb (h7 q hq).1, (h7 q hq).2⟩, h8⟩
theorem BoA.bo {B : Nat} {w0 w : World} {A : List Nat} {a : Addr} {r : Nat} {sd sr : DSt} (h : BoA DevIs B w0 A w a r sd sr) : ∃ F R G, Bo10 DevIs B w0 w a r sd sr F R G := by
  obtain ⟨F, R, G, h1, -⟩ := h
  exact ⟨F, R, G, h1⟩
theorem BoA.bel {B : Nat} {w0 w : World} {A : List Nat} {a : Addr} {r : Nat} {sd sr : DSt} (h : BoA DevIs B w0 A w a r sd sr) : Below B w0 w := by
  obtain ⟨F, R, G, h1, -⟩ := h
  exact h1.bel
theorem BoA.ok (O : DvOk DevIs) {B : Nat} {w0 w : World} {A : List Nat} {a : Addr} {r : Nat} {sd sr : DSt} (h : BoA DevIs B w0 A w a r sd sr) : StOk sd := by
  obtain ⟨F, R, G, h1, -⟩ := h
  exact O.ok h1.d
set_option linter.unusedSimpArgs false in
set_option maxRecDepth 100000 in
set_option maxHeartbeats 4000000 in
theorem lawJScript_any (O : DvOk DevIs) (J : JOk DevIs) (Z : JNil) (N : Int) (xb : Option Addr) (nb cb : Nat) (M : Int) (xw : Option Addr) (nw cw : Nat) (lb : List UInt8) (lw : List Wr) (xo : Option Addr) (no co : Nat) (ops : List OpV) (w : World)
    (hlb : lb.length = nb) (hnb : nb ≤ 4611686018427387904) (hb : IsB w (.slice xb nb cb) lb) (hlw : lw.length = nw) (hnw : nw ≤ 2199023255552) (hw9 : IsK wrE w (.slice xw nw cw) lw) (hwB : WrB lw)
    (hops : ops.length = no) (hno : no ≤ 1099511627744) (hO9 : IsK opE w (.slice xo no co) ops) (hok9 : ∀ o ∈ ops, OpOk w o) :
    Calls Try.prog 5 #[.agg (dkA N xb nb cb M xw nw cw), .slice xo no co] w fun r w' => r = .returned (.bool true) ∧ Below w.heap.size w w' := by
  have hSec := fun W (h : Below w.heap.size w W) => sectors10_any N xb nb cb M xw nw cw lb lw W hlb hnb (hb.kept h) hlw hnw (hw9.kept h) hwB
  have hfl := dskS_len N lb M lw
  have hm64 := dskN_le N
  obtain ⟨first, hfe⟩ : ∃ f, dskS N lb M lw = f := ⟨_, rfl⟩
  obtain ⟨m, hme⟩ : ∃ q, dskN N = q := ⟨_, rfl⟩
  simp only [hfe, hme] at hSec hfl hm64
  clear hfe hme
  go_enter Try.func5, Try.ntmps5
  go_upto_region 1 with fail
  have hB1 : Below w.heap.size w (w.alloc (.cells (dkA N xb nb cb M xw nw cw) 25)) := below_alloc w _
  have hC3' : RowC (w.alloc (.cells (dkA N xb nb cb M xw nw cw) 25)) w.heap.size (dkA N xb nb cb M xw nw cw) := RowC.new w _ _
  obtain ⟨g3, hg3⟩ : ∃ g, w.heap.size = g := ⟨_, rfl⟩
  rw [hg3] at hC3'
  simp only [hg3]
  have HG3 : Hid (w.heap.size = g3) := hg3
  clear hg3
  generalize w.alloc (.cells (dkA N xb nb cb M xw nw cw) 25) = X1 at hB1 hC3' ⊢
  have hS1 := hSec X1 hB1
  have H3 : Hid (RowC X1 g3 (dkA N xb nb cb M xw nw cw)) := hC3'
  obtain ⟨k3, v3⟩ := hC3'
  go_wp2_with fail
  go_at_call 7
  refine hS1.mono ?_
  rintro e w2 ⟨gf, rfl, hG, hb2⟩
  clear hS1 k3 v3
  have hC3 := H3.out.kept hb2
  have hB2 := hB1.trans (hb2.mono hB1.size)
  clear hb2 hB1 H3
  have hNew := O.new w2 (some ⟨gf, 0, none⟩) m m first hfl (hG.isK secE_ok) (by omega)
  clear hG
  go_wp2_with fail
  go_at_call 6
  refine hNew.mono ?_
  intro e w3 hq
  obtain ⟨hb3, hq⟩ := hq
  obtain ⟨d, F, R, rfl, hd, hR⟩ : ∃ d F R, e = .returned (.tuple #[d, .int .i64 0]) ∧ DevIs w3 d (newS first) F R ∧ ∀ q ∈ R, w2.heap.size ≤ q := by
    rcases hq with ⟨-, -, d, F, R, q1, q2, q3⟩ | ⟨q, -⟩
    · exact ⟨d, F, R, q1, q2, q3⟩
    · exact absurd ⟨by omega, by omega⟩ q
  clear hq hNew
  obtain ⟨a, rfl⟩ := O.ptr hd
  replace hC3 := hC3.kept hb3
  have hB3 := hB2.trans (hb3.mono hB2.size)
  have hRw : ∀ q ∈ R, w.heap.size ≤ q := fun q hq => Nat.le_trans hB2.size (hR q hq)
  clear hb3 hB2 hR
  go_upto_region 2 with fail
  have hS2 := hSec w3 hB3
  obtain ⟨k3, v3⟩ := hC3
  go_wp2_with fail
  go_at_call 7
  refine hS2.mono ?_
  rintro e w4 ⟨gh, rfl, hG, hb4⟩
  clear hS2 k3 v3
  replace hd := O.later hd hb4
  have hB4 := hB3.trans (hb4.mono hB3.size)
  clear hb4 hB3 hSec
  have hNew := refNew_any w4 (some ⟨gh, 0, none⟩) m m first hfl (hG.isK secE_ok) (by omega)
  clear hG
  go_wp2_with fail
  go_at_call 21
  refine hNew.mono ?_
  intro e w5 hq
  obtain ⟨hb5, hq⟩ := hq
  obtain ⟨r, G, rfl, hr⟩ : ∃ r G, e = .returned (.tuple #[.pointer (some ⟨r, 0, none⟩), .int .i64 0]) ∧ RefIs w5 w4.heap.size r (newS first) G := by
    rcases hq with ⟨-, -, r, F, q1, q2⟩ | ⟨q, -⟩
    · exact ⟨r, F, q1, q2⟩
    · exact absurd ⟨by omega, by omega⟩ q
  clear hq hNew
  have hB5 := hB4.trans (hb5.mono hB4.size)
  have hT : BoA DevIs w.heap.size w [] w5 a r (newS first) (newS first) := ⟨F, R, G, ⟨O.later hd hb5, hr.lower hB4.size, fun q hq hm => by
      have h1 := (hr.lt q hm).1
      have h2 := O.lt hd q hq
      omega, hRw, hB5, hB5.size⟩, fun q _ hm => by simp at hm, fun q _ hm => by simp at hm, fun q hq => by simp at hq⟩
  clear hd hr hRw hb5 hB4 hB5
  go_upto_region 3 with fail
  have hKn := known10_any O J Z w5
  go_wp2_with fail
  go_at_call 8
  refine hKn.mono ?_
  rintro e w6 ⟨rfl, hb6⟩
  replace hT := hT.later O hb6
  clear hKn hb6
  go_upto_region 5 with fail
  go_wp2_with fail
  go_loopw [9] (fun iv wr => ∃ (k : Nat) (sd : DSt), k ≤ no ∧ iv = .int .i64 k ∧ BoA DevIs w.heap.size w [] wr a r sd sd ∧ Gr (40 * k) (newS first) sd ∧ Iv k sd) (fun iv _ => no - (intOf iv).toNat)
  case atStart => exact ⟨0, newS first, by omega, rfl, hT, Gr.refl _ _, ⟨fun _ => Nat.le_refl _, Nat.zero_le _⟩⟩
  case round =>
    clear hT
    obtain ⟨k, sd, hk, rfl, hT, hgr, hiv⟩ := hrel
    by_cases hlt : k < no
    · have hlt' : (k : Int) < (no : Int) := by omega
      have hk0 : (0 : Int) ≤ (k : Int) := by omega
      obtain ⟨o9, ho9⟩ : ∃ z, ops[k]? = some z := ⟨_, List.getElem?_eq_getElem (by omega)⟩
      have hoi := hok9 o9 (List.mem_of_getElem? ho9)
      obtain ⟨b1, o1, rfl, hb1, hr1⟩ := (hO9.kept hT.bel).at k o9 ho9
      obtain ⟨ok1, rg1⟩ := rg_of hr1 (opE_len o9)
      rw [opE_arr] at rg1
      rw [opE_k] at ok1 rg1
      have hst := hT.ok O
      have hgr2 := hgr.trans (op_gr hst.lo hst.hi o9.kd o9.k o9.ol o9.bs o9.v)
      obtain ⟨n1, n2, n3, n4⟩ := hgr
      have hiv2 := op_iv hst.lo hst.hi hiv o9.kd o9.k o9.ol o9.bs o9.v
      have n1' : sd.pend.length ≤ k + 8 := hiv.2
      have n2' : sd.rd ≤ 40 * k := by simpa [newS] using n2
      have n3' : sd.wt ≤ 40 * k := by simpa [newS] using n3
      have n4' : sd.fl ≤ 40 * k := by simpa [newS] using n4
      have m1 : (opS sd o9.kd o9.k o9.ol o9.bs o9.v).pend.length ≤ k + 1 + 8 := hiv2.2
      have hDn := done10_any O J o9.kd o9.k o9.xl o9.nl o9.cl o9.xs o9.ns o9.cs o9.v o9.ol o9.bs sd hT ⟨by omega, by omega, by omega, by omega⟩ (by omega) hoi.ol hoi.nl hoi.l hoi.wb hoi.k hoi.bs hoi.cs hoi.s
      rw [show opA o9.kd o9.k o9.xl o9.nl o9.cl o9.xs o9.ns o9.cs o9.v = opV o9 from rfl] at hDn
      obtain ⟨sd', hsd'⟩ : ∃ q, opS sd o9.kd o9.k o9.ol o9.bs o9.v = q := ⟨_, rfl⟩
      rw [hsd'] at hDn hgr2 m1 hiv2
      have HIV : Hid (Iv (k + 1) sd') := hiv2
      clear hiv hiv2
      obtain ⟨ov, hov⟩ : ∃ q, opV o9 = q := ⟨_, rfl⟩
      rw [hov] at hDn rg1
      clear hr1 hoi ho9 n1 n2 n3 n4 n1' n2' n3' n4' hst hsd' hov hT
      go_wp2_with fail
      go_at_call 22
      refine hDn.mono ?_
      rintro e w7 ⟨rfl, hT1⟩
      clear hDn ok1 rg1
      obtain ⟨F1, R1, G1, hBo⟩ := hT1.bo
      have hAl := alike10_any O hBo (by omega)
      clear hBo
      go_wp2_with fail
      go_at_call 23
      refine hAl.mono ?_
      rintro e w8 ⟨rfl, hb8⟩
      have HT : Hid (BoA DevIs w.heap.size w [] w8 a r sd' sd') := hT1.later O hb8
      clear hAl hb8 hT1 m1
      have HGr : Hid (Gr (40 * (k + 1)) (newS first) sd') := hgr2.mono (by omega)
      clear hgr2
      go_wp2_with fail
      go_roundw
      case rel => exact ⟨k + 1, sd', by omega, by go_num, HT.out, HGr.out, HIV.out⟩
      case measure => simp [intOf]; omega
    · obtain rfl : no = k := by omega
      have hlt' : ¬ (no : Int) < (no : Int) := by omega
      have HB : Hid (Below w.heap.size w wr) := hT.bel
      clear hT hgr hiv
      go_wp2_with fail
      go_ret
      exact ⟨rfl, HB.out⟩
end
end Go.Proofs.Ytpckdkgbeemalaa
