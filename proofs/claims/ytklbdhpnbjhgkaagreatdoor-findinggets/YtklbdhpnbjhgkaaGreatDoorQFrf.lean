import Derived.Test.YtklbdhpnbjhgkaaGreatDoorQFre
namespace Go.Proofs.YtklbdhpnbjhgkaaGreatDoor
open Go.RowKit Go.Sort

/-! The document's own reader: Get -/
theorem rp_ret3 {fn : Func} {R : Ending → World → Prop} {a : Act} {w : World} (p q r n : Nat) (c : Array Value) (hres : fn.results = #[.cell p 32, .tmp q, .tmp r]) (hp : a.tmps.getD p undef = .pointer (some ⟨n, 0, none⟩)) (hd : a.defers = [])
    (hok : RowC w n c) (hc : c.size = 4) (h : R (.returned (.tuple #[.agg c, a.tmps.getD q undef, a.tmps.getD r undef])) w) : bodyPost Tryz.prog fn R .ret a w := by
  obtain ⟨t, hg⟩ := row_of_L hok.1
  rw [hok.2] at hg
  have hp' : a.tmps[p]?.getD undef = .pointer (some ⟨n, 0, none⟩) := by simpa using hp
  have hl := run_loadVar_row (P := Tryz.prog) w n t 32 c (0, 0) _ hg Tryz.underlying32 rfl (by rw [sizeT_rp, hc])
  refine bodyPost_ret (v := .tuple #[.agg c, a.tmps.getD q undef, a.tmps.getD r undef]) ?_ hd h
  simp [results, hres, hp', asAddr, hl]
theorem below_kg {B g : Nat} {w W W' : World} (h : Below B w W) (hK : Keep [g] W W') (hg : B ≤ g) (hB : B ≤ w.heap.size) : Below B w W' :=
  ⟨hK.os.trans h.os, hK.tape.trans h.tape, hK.output.trans h.output, Nat.le_trans h.size hK.size, fun k hk => (hK.block k (Nat.lt_of_lt_of_le (Nat.lt_of_lt_of_le hk hB) h.size) (by simp; omega)).trans (h.block k hk)⟩
/-- What Get leaves. -/
def GrQ (w : World) (b : List UInt8) (e : Ending) (w' : World) : Prop := Below w.heap.size w w' ∧ match getM b with
  | .ok r => ∃ xf nf cf xd nd cd xi ni ci, e = .returned (.tuple #[.agg (rpA r.st (.slice xf nf cf) (.slice xd nd cd) (.slice xi ni ci)), .int .i64 0, .int .i64 0]) ∧ OwnK fdE w' w.heap.size (.slice xf nf cf) r.fs ∧ OwnK dgE w' w.heap.size (.slice xd nd cd) r.ds ∧ OwnI w' w.heap.size (.slice xi ni ci) r.dr
  | .error (a, cd) => e = .returned (.tuple #[.agg (rpA 0 (.slice none 0 0) (.slice none 0 0) (.slice none 0 0)), .int .i64 (a : Int), .int .i64 (cd : Int)])
set_option linter.unusedSimpArgs false in
set_option maxRecDepth 100000 in
set_option maxHeartbeats 40000000 in
theorem refGet22 (w : World) (x : Option Addr) (n c : Nat) (b : List UInt8) (hb : IsB w (.slice x n c) b) (hn : b.length = n) (hc : n ≤ c) (hs : n ≤ 140737488355328) (hx : ∀ a, x = some a → a.block < w.heap.size) : Calls Tryz.prog 36 #[.slice x n c] w fun e w' => GrQ w b e w' := by
  have b1 := below_alloc w (.cells (rpA 0 (.slice none 0 0) (.slice none 0 0) (.slice none 0 0)) 32)
  have b2 := below_alloc (w.alloc (.cells (rpA 0 (.slice none 0 0) (.slice none 0 0) (.slice none 0 0)) 32)) (.cells (rrA (.slice x n c) 0 0 0) 125)
  have rs0 := (RowC.new w (rpA 0 (.slice none 0 0) (.slice none 0 0) (.slice none 0 0)) 32).kept b2
  have rr0 := RowC.new (w.alloc (.cells (rpA 0 (.slice none 0 0) (.slice none 0 0) (.slice none 0 0)) 32)) (rrA (.slice x n c) 0 0 0) 125
  rw [World.size_alloc] at rr0
  have hb2 := (hb.kept b1).kept b2
  have HB : Hid (Below w.heap.size w ((w.alloc (.cells (rpA 0 (.slice none 0 0) (.slice none 0 0) (.slice none 0 0)) 32)).alloc (.cells (rrA (.slice x n c) 0 0 0) 125))) := b1.trans (b2.mono b1.size)
  clear b1 b2
  go_enter Tryz.func36, Tryz.ntmps36
  go_upto_region 2 with fail
  obtain ⟨g, hg⟩ : ∃ z, w.heap.size + 1 = z := ⟨_, rfl⟩
  obtain ⟨z2, hz2⟩ : ∃ z, w.heap.size = z := ⟨_, rfl⟩
  have ZG : Hid (z2 = w.heap.size ∧ g = w.heap.size + 1) := ⟨hz2.symm, hg.symm⟩
  simp only [hg]
  rw [hg] at rr0
  rw [hz2] at rs0
  simp only [hz2]
  generalize (w.alloc (.cells (rpA 0 (.slice none 0 0) (.slice none 0 0) (.slice none 0 0)) 32)).alloc (.cells (rrA (.slice x n c) 0 0 0) 125) = A at rs0 rr0 hb2 HB ⊢
  have hI0 : RrI A g x n c b (0, 0, 0) := ⟨rr0, hb2, hn, hc, fun a ha => by have := hx a ha; have := ZG.out; omega, hs, Nat.zero_le _⟩
  clear hg hz2 rr0 hb2 hb hx
  have hT := refTake22 A g x n c b (0, 0, 0) 4 (by omega) hI0
  go_wp2_with fail
  refine hT.mono ?_
  rintro e w1 ⟨y, d, hd, rfl, hy, hyf, hI, k1⟩
  clear hT hI0
  obtain ⟨l4, S1, h4⟩ : ∃ l S, takeS 4 b (0, 0, 0) = (l, S) := ⟨_, _, rfl⟩
  have hl4 := takeS_len 4 b (0, 0, 0)
  rw [h4] at hl4 hy hI
  have H4 : Hid _ := h4
  have rs1 := rs0.keepsF k1 (by have := ZG.out; simp; omega)
  have HB1 : Hid (Below w.heap.size w w1) := below_kg HB.out k1 (by have := ZG.out; omega) (Nat.le_refl _)
  clear rs0 HB k1 h4
  have hf := hy.front9 3 (by rw [hl4]; omega)
  have hst := hf.str
  have hy9 : IsB w1 (.slice y l4.length d) l4 := by rw [hl4]; exact hy
  obtain ⟨gb, o, rfl, hgb, cb0⟩ := hy9.spot 3 (by rw [hl4]; omega)
  have e5 : (l4[3]?.getD 0) = lB l4 3 := rfl
  rw [e5] at cb0
  obtain ⟨z, hz⟩ : ∃ z, (lB l4 3).toNat = z := ⟨_, rfl⟩
  have hz9 : z < 256 := by rw [← hz]; exact (lB l4 3).toNat_lt
  rw [hz] at cb0
  obtain ⟨st, hst0⟩ : ∃ s : Int, (z : Int) = s := ⟨_, rfl⟩
  have HST : Hid (((lB (takeS 4 b (0, 0, 0)).1 3).toNat : Int) = st) := by show _ = _; rw [H4.out]; simp only; rw [hz]; exact hst0
  have d3 : (3 : Int) ≤ (d : Int) := by omega
  obtain ⟨t3, ht3⟩ : ∃ t, l4.take 3 = t := ⟨_, rfl⟩
  rw [ht3] at hst
  have HH3 : Hid _ := ht3
  clear hf hy9 e5 hz ht3 hy
  have HZS : Hid (((lB l4 3).toNat : Int) = st) := by have := HST.out; rw [H4.out] at this; exact this
  by_cases h3 : t3 = headB
  · have HT3 : Hid (t3 = headB) := h3
    rw [h3] at hst
    unfold headB at hst
    have rs := rs1
    have HB := HB1
    clear h3 rs1 HB1
    have hst1 := hst0
    have st9 := run_store_rp (w1.alloc (.cells (rpA 0 (.slice none 0 0) (.slice none 0 0) (.slice none 0 0)) 32)) w1.heap.size (rpA st (.slice none 0 0) (.slice none 0 0) (.slice none 0 0)) (RowC.new w1 _ _).1 (by rw [(RowC.new w1 _ _).2]; rfl) rfl (rpA_one _ _ _ _ _ _ _ _ _ _)
    have bZ := below_alloc w1 (.cells (rpA st (.slice none 0 0) (.slice none 0 0) (.slice none 0 0)) 32)
    have out9 := RowC.new w1 (rpA st (.slice none 0 0) (.slice none 0 0) (.slice none 0 0)) 32
    have rs9 := rs.kept bZ
    have hI9 := hI.later bZ
    have HB9 : Hid (Below w.heap.size w (w1.alloc (.cells (rpA st (.slice none 0 0) (.slice none 0 0) (.slice none 0 0)) 32))) := HB.out.trans (bZ.mono HB.out.size)
    have ZZ9 : Hid (z2 = w.heap.size ∧ g = w.heap.size + 1 ∧ g < w1.heap.size ∧ z2 ≠ g ∧ z2 ≠ w1.heap.size ∧ w.heap.size ≤ w1.heap.size) := ⟨ZG.out.1, ZG.out.2, hI.row.lt, by have := ZG.out; omega, by have := rs.lt; omega, HB.out.size⟩
    clear hI rs HB bZ
    go_upto_region 6 with fail
    clear st9 cb0
    obtain ⟨zo, hzo⟩ : ∃ z, w1.heap.size = z := ⟨_, rfl⟩
    rw [hzo] at out9 ZZ9
    try simp only [hzo]
    generalize w1.alloc (.cells (rpA st (.slice none 0 0) (.slice none 0 0) (.slice none 0 0)) 32) = W2 at out9 rs9 hI9 HB9 ⊢
    clear hzo hst1
    have out := out9
    have rs := rs9
    have hI := hI9
    have HB := HB9
    have ZZ := ZZ9
    clear out9 rs9 hI9 HB9 ZZ9
    have cst : W2.cell? ⟨zo, 0, none⟩ = some (.int .i64 st) := by rw [out.cell]; rfl
    cases hok : okSt st
    · obtain ⟨S3, hS3⟩ : ∃ z, failS 1 3 S1 = z := ⟨_, rfl⟩
      have HS3 : Hid (hdS b = S3) := by
        show _ = _
        unfold hdS
        simp only [H4.out, HH3.out, if_pos HT3.out]
        rw [HZS.out, hok]
        exact hS3
      have hsi : ¬ st = 1 ∧ ¬ st = 2 := ⟨(fun h9 => by rw [h9] at hok; cases hok), (fun h9 => by rw [h9] at hok; cases hok)⟩
      have q1 : (st != 1) = true := by simp [hsi.1]
      have q2 : (st != 2) = true := by simp [hsi.2]
      have hFc := refFail22 W2 g x n c b S1 1 3 hI
      rw [hS3] at hFc
      clear hok hsi hS3
      go_wp2_with fail
      refine hFc.mono ?_
      rintro e W4 ⟨rfl, hI9, k9⟩
      clear hFc cst q1 q2
      have out9 := out.keepsF k9 (by have := ZZ.out; simp; omega)
      have rs9 := rs.keepsF k9 (by have := ZZ.out; simp; omega)
      have HB9 : Hid (Below w.heap.size w W4) := below_kg HB.out k9 (by have := ZZ.out; omega) (Nat.le_refl _)
      clear out rs hI HB k9
      have out := out9
      have rs := rs9
      have hI := hI9
      have HB := HB9
      clear out9 rs9 hI9 HB9
      have hF := refFindings22 W4 g x n c b S3 hI
      go_wp2_with fail
      refine hF.mono ?_
      rintro e u1 ⟨v1, rfl, O1, hI9, k9⟩
      clear hF
      obtain ⟨xa, ca, hv⟩ := (O1.isK fdE_ok).len
      obtain ⟨na, hnn⟩ : ∃ z, (listS (bdF b) b S3).1.length = z := ⟨_, rfl⟩
      rw [hnn] at hv
      subst hv
      have out9 := out.keepsF k9 (by have := ZZ.out; simp; omega)
      have rs9 := rs.keepsF k9 (by have := ZZ.out; simp; omega)
      have zc : u1.cell? ⟨zo, 1, none⟩ = some (.slice none 0 0) := by rw [out9.cell]; rfl
      have fz := out9.frozen 1
      have kz := Keep.cell1 u1 zo 1 (.slice xa na ca)
      have qo : RowC (u1.setCell ⟨zo, 1, none⟩ (.slice xa na ca)) zo (rpA st (.slice xa na ca) (.slice none 0 0) (.slice none 0 0)) := out9.set 1 _
      have qs := rs9.keepsF kz (by have := ZZ.out; simp; omega)
      have qI := hI9.keepZ kz (by have := ZZ.out; omega)
      have lto := out.lt
      have HB9 : Hid (Below w.heap.size w (u1.setCell ⟨zo, 1, none⟩ (.slice xa na ca))) := (below_kg HB.out k9 (by have := ZZ.out; omega) (Nat.le_refl _)).setCell (by show w.heap.size ≤ zo; have := ZZ.out; omega) _
      have P1 : Hid (OwnK fdE (u1.setCell ⟨zo, 1, none⟩ (.slice xa na ca)) w.heap.size (.slice xa na ca) (listS (bdF b) b S3).1 ∧ ∀ z, (.slice xa na ca : Value).ownBlock = some z → z ≠ g ∧ z ≠ zo ∧ z ≠ z2) := by
        have hlt : ∀ z, (.slice xa na ca : Value).ownBlock = some z → W4.heap.size ≤ z := fun z hz => (World.ownsRow.lt O1 z hz).1
        refine ⟨OwnK.le (OwnK.keeps O1 kz (fun z hz => by have := hlt z hz; simp; omega)) HB.out.size, fun z hz => by have := hlt z hz; have := ZZ.out; have h1 := hI.row.lt; have h2 := rs.lt; omega⟩
      clear O1 hI9 k9 out9 rs9 kz lto hI out rs HB hnn
      go_upto_region 9 with fail
      clear zc fz
      generalize u1.setCell ⟨zo, 1, none⟩ (.slice xa na ca) = X1 at qo qs qI HB9 P1  ⊢
      have out := qo
      have rs := qs
      have hI := qI
      have HB := HB9
      clear qo qs qI HB9
      obtain ⟨S4, hS4⟩ : ∃ z, (listS (bdF b) b S3).2 = z := ⟨_, rfl⟩
      have HS4 : Hid _ := hS4
      rw [hS4] at hI
      clear hS4
      have hF := refFetch22 X1 g x n c b S4 hI
      go_wp2_with fail
      refine hF.mono ?_
      rintro e u2 ⟨v2, rfl, O2, hI9, k9⟩
      clear hF
      obtain ⟨xb, cb, hv⟩ := (O2.isK dgE_ok).len
      obtain ⟨nb, hnn⟩ : ∃ z, (listS (bdD b) b S4).1.length = z := ⟨_, rfl⟩
      rw [hnn] at hv
      subst hv
      have out9 := out.keepsF k9 (by have := ZZ.out; simp; omega)
      have rs9 := rs.keepsF k9 (by have := ZZ.out; simp; omega)
      have zc : u2.cell? ⟨zo, 2, none⟩ = some (.slice none 0 0) := by rw [out9.cell]; rfl
      have fz := out9.frozen 2
      have kz := Keep.cell1 u2 zo 2 (.slice xb nb cb)
      have qo : RowC (u2.setCell ⟨zo, 2, none⟩ (.slice xb nb cb)) zo (rpA st (.slice xa na ca) (.slice xb nb cb) (.slice none 0 0)) := out9.set 2 _
      have qs := rs9.keepsF kz (by have := ZZ.out; simp; omega)
      have qI := hI9.keepZ kz (by have := ZZ.out; omega)
      have lto := out.lt
      have HB9 : Hid (Below w.heap.size w (u2.setCell ⟨zo, 2, none⟩ (.slice xb nb cb))) := (below_kg HB.out k9 (by have := ZZ.out; omega) (Nat.le_refl _)).setCell (by show w.heap.size ≤ zo; have := ZZ.out; omega) _
      have P2 : Hid (OwnK dgE (u2.setCell ⟨zo, 2, none⟩ (.slice xb nb cb)) w.heap.size (.slice xb nb cb) (listS (bdD b) b S4).1 ∧ ∀ z, (.slice xb nb cb : Value).ownBlock = some z → z ≠ g ∧ z ≠ zo ∧ z ≠ z2) := by
        have hlt : ∀ z, (.slice xb nb cb : Value).ownBlock = some z → X1.heap.size ≤ z := fun z hz => (World.ownsRow.lt O2 z hz).1
        refine ⟨OwnK.le (OwnK.keeps O2 kz (fun z hz => by have := hlt z hz; simp; omega)) HB.out.size, fun z hz => by have := hlt z hz; have := ZZ.out; have h1 := hI.row.lt; have h2 := rs.lt; omega⟩
      have P1' : Hid (OwnK fdE (u2.setCell ⟨zo, 2, none⟩ (.slice xb nb cb)) w.heap.size (.slice xa na ca) (listS (bdF b) b S3).1 ∧ ∀ z, (.slice xa na ca : Value).ownBlock = some z → z ≠ g ∧ z ≠ zo ∧ z ≠ z2) := ⟨OwnK.keeps (OwnK.keeps P1.out.1 k9 (fun z hz => by have := (P1.out.2 z hz).1; simpa using this)) kz (fun z hz => by have := (P1.out.2 z hz).2.1; simpa using this), P1.out.2⟩
      clear P1
      clear O2 hI9 k9 out9 rs9 kz lto hI out rs HB hnn
      go_upto_region 10 with fail
      clear zc fz
      generalize u2.setCell ⟨zo, 2, none⟩ (.slice xb nb cb) = X2 at qo qs qI HB9 P2 P1' ⊢
      have out := qo
      have rs := qs
      have hI := qI
      have HB := HB9
      clear qo qs qI HB9
      have P1 := P1'
      clear P1'
      obtain ⟨S5, hS5⟩ : ∃ z, (listS (bdD b) b S4).2 = z := ⟨_, rfl⟩
      have HS5 : Hid _ := hS5
      rw [hS5] at hI
      clear hS5
      have hF := refDropped22 X2 g x n c b S5 hI
      go_wp2_with fail
      refine hF.mono ?_
      rintro e u3 ⟨v3, rfl, O3, hI9, k9⟩
      clear hF
      obtain ⟨xc, cc, hv⟩ := (OwnG.isG O3).len
      obtain ⟨nc, hnn⟩ : ∃ z, (inV (listS (bdI b) b S5).1).length = z := ⟨_, rfl⟩
      rw [hnn] at hv
      subst hv
      have out9 := out.keepsF k9 (by have := ZZ.out; simp; omega)
      have rs9 := rs.keepsF k9 (by have := ZZ.out; simp; omega)
      have zc : u3.cell? ⟨zo, 3, none⟩ = some (.slice none 0 0) := by rw [out9.cell]; rfl
      have fz := out9.frozen 3
      have kz := Keep.cell1 u3 zo 3 (.slice xc nc cc)
      have qo : RowC (u3.setCell ⟨zo, 3, none⟩ (.slice xc nc cc)) zo (rpA st (.slice xa na ca) (.slice xb nb cb) (.slice xc nc cc)) := out9.set 3 _
      have qs := rs9.keepsF kz (by have := ZZ.out; simp; omega)
      have qI := hI9.keepZ kz (by have := ZZ.out; omega)
      have lto := out.lt
      have HB9 : Hid (Below w.heap.size w (u3.setCell ⟨zo, 3, none⟩ (.slice xc nc cc))) := (below_kg HB.out k9 (by have := ZZ.out; omega) (Nat.le_refl _)).setCell (by show w.heap.size ≤ zo; have := ZZ.out; omega) _
      have P3 : Hid (OwnI (u3.setCell ⟨zo, 3, none⟩ (.slice xc nc cc)) w.heap.size (.slice xc nc cc) (listS (bdI b) b S5).1 ∧ ∀ z, (.slice xc nc cc : Value).ownBlock = some z → z ≠ g ∧ z ≠ zo ∧ z ≠ z2) := by
        have hlt : ∀ z, (.slice xc nc cc : Value).ownBlock = some z → X2.heap.size ≤ z := fun z hz => (World.ownsRow.lt O3 z hz).1
        refine ⟨OwnG.le (OwnG.keepsF O3 kz (fun z hz => by have := hlt z hz; simp; omega)) HB.out.size, fun z hz => by have := hlt z hz; have := ZZ.out; have h1 := hI.row.lt; have h2 := rs.lt; omega⟩
      have P1' : Hid (OwnK fdE (u3.setCell ⟨zo, 3, none⟩ (.slice xc nc cc)) w.heap.size (.slice xa na ca) (listS (bdF b) b S3).1 ∧ ∀ z, (.slice xa na ca : Value).ownBlock = some z → z ≠ g ∧ z ≠ zo ∧ z ≠ z2) := ⟨OwnK.keeps (OwnK.keeps P1.out.1 k9 (fun z hz => by have := (P1.out.2 z hz).1; simpa using this)) kz (fun z hz => by have := (P1.out.2 z hz).2.1; simpa using this), P1.out.2⟩
      clear P1
      have P2' : Hid (OwnK dgE (u3.setCell ⟨zo, 3, none⟩ (.slice xc nc cc)) w.heap.size (.slice xb nb cb) (listS (bdD b) b S4).1 ∧ ∀ z, (.slice xb nb cb : Value).ownBlock = some z → z ≠ g ∧ z ≠ zo ∧ z ≠ z2) := ⟨OwnK.keeps (OwnK.keeps P2.out.1 k9 (fun z hz => by have := (P2.out.2 z hz).1; simpa using this)) kz (fun z hz => by have := (P2.out.2 z hz).2.1; simpa using this), P2.out.2⟩
      clear P2
      clear O3 hI9 k9 out9 rs9 kz lto hI out rs HB hnn
      go_upto_region 11 with fail
      clear zc fz
      generalize u3.setCell ⟨zo, 3, none⟩ (.slice xc nc cc) = X3 at qo qs qI HB9 P3 P1' P2' ⊢
      have out := qo
      have rs := qs
      have hI := qI
      have HB := HB9
      clear qo qs qI HB9
      have P1 := P1'
      clear P1'
      have P2 := P2'
      clear P2'
      obtain ⟨S6, hS6⟩ : ∃ z, (listS (bdI b) b S5).2 = z := ⟨_, rfl⟩
      have HS6 : Hid _ := hS6
      rw [hS6] at hI
      clear hS6
      have HFS : Hid ((getRs b).1.st = st ∧ (getRs b).1.fs = (listS (bdF b) b S3).1 ∧ (getRs b).1.ds = (listS (bdD b) b S4).1 ∧ (getRs b).1.dr = (listS (bdI b) b S5).1) := by
        unfold getRs
        simp only [HS3.out, HS4.out, HS5.out]
        refine ⟨HST.out, ?_, ?_, ?_⟩ <;> first | trivial | rfl
      have HGS : Hid ((getRs b).2 = rsS b (smS b S6)) := by
        show _ = _
        unfold getRs
        simp only [HS3.out, HS4.out, HS5.out, HS6.out]
      obtain ⟨i6, e6, d6⟩ := S6
      obtain ⟨sm, S7, hsm⟩ : ∃ sm S7, numS 4 b (i6, e6, d6) = (sm, S7) := ⟨_, _, rfl⟩
      have hsl := numS_lt 4 b (i6, e6, d6)
      rw [hsm] at hsl
      have HSM : Hid _ := hsm
      have HI6 : Hid (i6 ≤ n) := hI.le
      have c1 : X3.cell? ⟨g, 1, none⟩ = some (.int .i64 (i6 : Int)) := by rw [hI.row.cell]; rfl
      have hNb := refNumber22 X3 g x n c b (i6, e6, d6) 4 (by omega) hI
      rw [hsm] at hNb
      clear hsm
      go_wp2_with fail
      refine hNb.mono ?_
      rintro e X4 ⟨rfl, hI9, k9⟩
      clear hNb
      have out9 := out.keepsF k9 (by have := ZZ.out; simp; omega)
      have rs9 := rs.keepsF k9 (by have := ZZ.out; simp; omega)
      have HB9 : Hid (Below w.heap.size w X4) := below_kg HB.out k9 (by have := ZZ.out; omega) (Nat.le_refl _)
      have P1' : Hid (OwnK fdE X4 w.heap.size (.slice xa na ca) (listS (bdF b) b S3).1 ∧ _) := ⟨OwnK.keeps P1.out.1 k9 (fun z hz => by have := (P1.out.2 z hz).1; simpa using this), P1.out.2⟩
      have P2' : Hid (OwnK dgE X4 w.heap.size (.slice xb nb cb) (listS (bdD b) b S4).1 ∧ _) := ⟨OwnK.keeps P2.out.1 k9 (fun z hz => by have := (P2.out.2 z hz).1; simpa using this), P2.out.2⟩
      have P3' : Hid (OwnI X4 w.heap.size (.slice xc nc cc) (listS (bdI b) b S5).1 ∧ _) := ⟨OwnG.keepsF P3.out.1 k9 (fun z hz => by have := (P3.out.2 z hz).1; simpa using this), P3.out.2⟩
      clear hI out rs HB P1 P2 P3
      have hI := hI9
      have out := out9
      have rs := rs9
      have HB := HB9
      have P1 := P1'
      have P2 := P2'
      have P3 := P3'
      clear hI9 out9 rs9 HB9 P1' P2' P3' k9
      clear c1
      obtain ⟨i7, e7, d7⟩ := S7
      have c2 : X4.cell? ⟨g, 2, none⟩ = some (.int .i64 (e7 : Int)) := by rw [hI.row.cell]; rfl
      by_cases h7 : e7 = 0
      · subst h7
        have hfr := hI.isb.front9 i6 (by have := HI6.out; have := hI.len; omega)
        have i6c : (i6 : Int) ≤ (c : Int) := by have := HI6.out; have := hI.cap; omega
        have i60 : (0 : Int) ≤ (i6 : Int) := by omega
        have hCr := refCrc22 (.slice x i6 c) (b.take i6) X4 (by unfold maxLen; have := HI6.out; have := hI.small; rw [List.length_take]; omega) hfr
        have cm : ((sm : Nat) : Int) % 4294967296 = (sm : Int) := by omega
        obtain ⟨cr, hcr⟩ : ∃ z, (sumL (b.take i6)).toNat = z := ⟨_, rfl⟩
        rw [hcr] at hCr
        have HCR : Hid _ := hcr
        clear hcr hfr
        go_wp2_with fail
        refine hCr.mono ?_
        rintro e X5 ⟨rfl, rfl⟩
        clear hCr
        by_cases hne : sm = cr
        · have HS8 : Hid (smS b (i6, e6, d6) = (i7, 0, d7)) := by
            show _ = _
            unfold smS
            simp only [HSM.out]
            rw [if_neg (fun h9 => h9.2 (by rw [HCR.out]; exact hne))]
          have c1 : X5.cell? ⟨g, 1, none⟩ = some (.int .i64 (i7 : Int)) := by rw [hI.row.cell]; rfl
          subst hne
          have q2 : (((sm : Nat) : Int) != (sm : Int)) = false := by simp
          by_cases hl7 : i7 < n
          · have l7 : (i7 : Int) < (n : Int) := by omega
            obtain ⟨ee, hee0⟩ : ∃ z : Nat, z = 14 := ⟨_, rfl⟩
            obtain ⟨bad, hbad0⟩ : ∃ z : Nat, z = i7 := ⟨_, rfl⟩
            have HSS : Hid ((getRs b).2.2 = (ee, bad)) := by
              show _ = _
              rw [HGS.out, HS8.out]
              unfold rsS
              rw [if_pos ⟨rfl, by have := hI.len; simp only; omega⟩, hee0, hbad0]
              rfl
            have HEE : Hid (ee ≠ 0) := by show _ ≠ _; omega
            have hFb := refFail22 X5 g x n c b (i7, 0, d7) 14 i7 hI
            go_wp2_with fail
            refine hFb.mono ?_
            rintro e X6 ⟨rfl, hI9, k9⟩
            clear hFb
            have out9 := out.keepsF k9 (by have := ZZ.out; simp; omega)
            have rs9 := rs.keepsF k9 (by have := ZZ.out; simp; omega)
            have HB9 : Hid (Below w.heap.size w X6) := below_kg HB.out k9 (by have := ZZ.out; omega) (Nat.le_refl _)
            have P1' : Hid (OwnK fdE X6 w.heap.size (.slice xa na ca) (listS (bdF b) b S3).1 ∧ _) := ⟨OwnK.keeps P1.out.1 k9 (fun z hz => by have := (P1.out.2 z hz).1; simpa using this), P1.out.2⟩
            have P2' : Hid (OwnK dgE X6 w.heap.size (.slice xb nb cb) (listS (bdD b) b S4).1 ∧ _) := ⟨OwnK.keeps P2.out.1 k9 (fun z hz => by have := (P2.out.2 z hz).1; simpa using this), P2.out.2⟩
            have P3' : Hid (OwnI X6 w.heap.size (.slice xc nc cc) (listS (bdI b) b S5).1 ∧ _) := ⟨OwnG.keepsF P3.out.1 k9 (fun z hz => by have := (P3.out.2 z hz).1; simpa using this), P3.out.2⟩
            clear hI out rs HB P1 P2 P3
            have hI := hI9
            have out := out9
            have rs := rs9
            have HB := HB9
            have P1 := P1'
            have P2 := P2'
            have P3 := P3'
            clear hI9 out9 rs9 HB9 P1' P2' P3' k9
            clear c1 c2 l7
            have c2 : X6.cell? ⟨g, 2, none⟩ = some (.int .i64 (ee : Int)) := by rw [hI.row.cell, hee0]; rfl
            have hgz : g ∉ [z2] := by have := ZZ.out; simp; omega
            have kc2 : ∀ y, Keep [z2] X6 y → y.cell? ⟨g, 2, none⟩ = some (.int .i64 (ee : Int)) := fun y hy => by rw [(hI.row.keepsF hy hgz).cell, hee0]; rfl
            have kc3 : ∀ y, Keep [z2] X6 y → y.cell? ⟨g, 3, none⟩ = some (.int .i64 (bad : Int)) := fun y hy => by rw [(hI.row.keepsF hy hgz).cell, hbad0]; rfl
            have hee : ¬ ((ee : Nat) : Int) = 0 := by have := HEE.out; omega
            have hee2 : (((ee : Nat) : Int) != 0) = true := by simpa using hee
            go_upto_region 18 with fail
            clear hee hee2 c2
            refine wp_reliesI (⟨Keep.of_below, Keep.trans⟩ : KOk (Keep [z2])) (fun _ y => RowC y z2 (rpA 0 (.slice none 0 0) (.slice none 0 0) (.slice none 0 0))) [9] [none, none, none, none, none, none, none, none, none, some (0, [], []), none] [Fx (.agg (rpA 0 (.slice none 0 0) (.slice none 0 0) (.slice none 0 0))), Fx (.pointer (some ⟨g, 0, none⟩)), Fx (.pointer (some ⟨g, 0, none⟩)), Fx (.pointer (some ⟨g, 3, none⟩)), Fx (.int .i64 (bad : Int)), Fx (.pointer (some ⟨g, 0, none⟩)), Fx (.pointer (some ⟨g, 0, none⟩)), Fx (.pointer (some ⟨g, 2, none⟩)), Fx (.int .i64 (ee : Int)), (fun _ _ => True), Fx (.int .i64 (bad : Int))] rfl (by decide) rfl (by kernel_rfl) (by kernel_rfl) (by kernel_rfl) rs (fun _ _ _ h9 hb => h9.kept hb) ?_ ?_ ?_ ?_
            · repeat' (first | exact all_nil | apply all_cons)
              all_goals intro v y y' hv hb
              all_goals first | exact Fx_mono _ _ _ _ hv hb | exact trivial
            · intro i9 f9 hf9 hl9 v y y' hv hb
              rcases i9 with _ | i9
              · first | (cases hl9; done) | (cases hf9; first | exact hv | exact trivial)
              rcases i9 with _ | i9
              · first | (cases hl9; done) | (cases hf9; first | exact hv | exact trivial)
              rcases i9 with _ | i9
              · first | (cases hl9; done) | (cases hf9; first | exact hv | exact trivial)
              rcases i9 with _ | i9
              · first | (cases hl9; done) | (cases hf9; first | exact hv | exact trivial)
              rcases i9 with _ | i9
              · first | (cases hl9; done) | (cases hf9; first | exact hv | exact trivial)
              rcases i9 with _ | i9
              · first | (cases hl9; done) | (cases hf9; first | exact hv | exact trivial)
              rcases i9 with _ | i9
              · first | (cases hl9; done) | (cases hf9; first | exact hv | exact trivial)
              rcases i9 with _ | i9
              · first | (cases hl9; done) | (cases hf9; first | exact hv | exact trivial)
              rcases i9 with _ | i9
              · first | (cases hl9; done) | (cases hf9; first | exact hv | exact trivial)
              rcases i9 with _ | i9
              · first | (cases hl9; done) | (cases hf9; first | exact hv | exact trivial)
              rcases i9 with _ | i9
              · first | (cases hl9; done) | (cases hf9; first | exact hv | exact trivial)
              · simp at hf9
            · refine ⟨?_, ?_, ?_, ?_, ?_, ?_, ?_, ?_, ?_, ?_, ?_, trivial⟩
              all_goals
                intro ρ x9 hk hat ρc ρg ρf ho hd
                have o5 : ρ (.tmp 5) = .pointer (some ⟨g, 0, none⟩) := ho 5 rfl
                have o2 : ρ (.tmp 2) = .pointer (some ⟨z2, 0, none⟩) := ho 2 rfl
                clear ho
                have c2 := kc2 x9 hk
                have c3 := kc3 x9 hk
                simp only [depsR, depR, slotR, Fx, List.getElem?_cons_succ, List.getElem?_cons_zero, Region.binds, forall_const] at hd
                simp only [guardR, List.contains_cons, List.contains_nil, List.elem_cons, List.elem_nil, Nat.reduceBEq, Bool.or_false, Bool.false_or, Bool.or_true, Bool.true_or, cond_true, cond_false]
                go_split_ands
              · go_simp
              · go_simp
              · go_simp
              · go_simp
              · go_simp
              · go_simp
              · go_simp
              · go_simp
              · go_simp
              · have hst := run_store_rp x9 z2 (rpA 0 (.slice none 0 0) (.slice none 0 0) (.slice none 0 0)) hat.1 (by rw [hat.2]; rfl) rfl (rpA_one _ _ _ _ _ _ _ _ _ _)
                go_simp
                exact ⟨⟨trivial, ⟨rowL_setRow_same _ _ _ hat.1, rowAt_setRow_L _ _ _ hat.1⟩⟩, Keep.mine1 x9 z2 _⟩
              · go_simp
            · intro us x1 hk hw hI9
              simp only [owed, Fx] at hw
              obtain ⟨e0, e1, e2, e3, e4, e5, e6, e7, e8, e9, e10, -⟩ := hw
              simp only [List.length_cons, List.length_nil, List.take_succ_cons, List.take_zero, List.drop_succ_cons, List.drop_zero, asg, List.cons_append, List.nil_append, e0, e1, e2, e3, e4, e5, e6, e7, e8, e10]
              clear e0 e1 e2 e3 e4 e5 e6 e7 e8 e10 e9
              have HX : Hid (RowC x1 z2 (rpA 0 (.slice none 0 0) (.slice none 0 0) (.slice none 0 0))) := hI9
              have Y4 : Hid (Below w.heap.size w x1) := below_kg HB.out hk (by have := ZZ.out; omega) (Nat.le_refl _)
              clear out rs hI HB hI9 hk kc2 kc3
              go_wp2
              refine rp_ret3 2 3 4 z2 _ rfl rfl rfl HX.out rfl ⟨Y4.out, ?_⟩
              have hg := getRs_is b
              cases hm : getM b with
              | ok r =>
                rw [hm] at hg
                exfalso
                have h9 := hg.2
                rw [HSS.out] at h9
                exact HEE.out h9
              | error p =>
                obtain ⟨a, cd⟩ := p
                rw [hm] at hg
                have h9 := hg.2
                rw [HSS.out] at h9
                have e1 : ee = cd := congrArg Prod.fst h9
                have e2 : bad = a := congrArg Prod.snd h9
                rw [← e1, ← e2]
                rfl
          · have l7 : ¬ (i7 : Int) < (n : Int) := by omega
            have HEZ : Hid ((getRs b).2.2.1 = 0) := by
              show _ = _
              rw [HGS.out, HS8.out]
              unfold rsS
              rw [if_neg (fun h9 => by have h8 := h9.2; have := hI.len; simp only at h8; omega)]
            have ld := run_load_rp X5 zo out.1 (by rw [out.2]; rfl)
            rw [out.2] at ld
            have st9 := run_store_rp X5 z2 (rpA st (.slice xa na ca) (.slice xb nb cb) (.slice xc nc cc)) rs.1 (by rw [rs.2]; rfl) rfl (rpA_one _ _ _ _ _ _ _ _ _ _)
            have HX : Hid (RowC (X5.setRow z2 (rpA st (.slice xa na ca) (.slice xb nb cb) (.slice xc nc cc))) z2 (rpA st (.slice xa na ca) (.slice xb nb cb) (.slice xc nc cc))) := ⟨rowL_setRow_same _ _ _ rs.1, rowAt_setRow_L _ _ _ rs.1⟩
            have kr := Keep.mine1 X5 z2 (rpA st (.slice xa na ca) (.slice xb nb cb) (.slice xc nc cc))
            have Y1 : Hid (OwnK fdE (X5.setRow z2 (rpA st (.slice xa na ca) (.slice xb nb cb) (.slice xc nc cc))) w.heap.size (.slice xa na ca) (getRs b).1.fs) := by
              show OwnK _ _ _ _ _
              rw [HFS.out.2.1]
              exact OwnK.keeps P1.out.1 kr (fun z hz => by have := (P1.out.2 z hz).2.2; simpa using this)
            have Y2 : Hid (OwnK dgE (X5.setRow z2 (rpA st (.slice xa na ca) (.slice xb nb cb) (.slice xc nc cc))) w.heap.size (.slice xb nb cb) (getRs b).1.ds) := by
              show OwnK _ _ _ _ _
              rw [HFS.out.2.2.1]
              exact OwnK.keeps P2.out.1 kr (fun z hz => by have := (P2.out.2 z hz).2.2; simpa using this)
            have Y3 : Hid (OwnI (X5.setRow z2 (rpA st (.slice xa na ca) (.slice xb nb cb) (.slice xc nc cc))) w.heap.size (.slice xc nc cc) (getRs b).1.dr) := by
              show OwnI _ _ _ _
              rw [HFS.out.2.2.2]
              exact OwnG.keepsF P3.out.1 kr (fun z hz => by have := (P3.out.2 z hz).2.2; simpa using this)
            have Y4 : Hid (Below w.heap.size w (X5.setRow z2 (rpA st (.slice xa na ca) (.slice xb nb cb) (.slice xc nc cc)))) := below_row HB.out (by have := ZZ.out; omega) _
            clear out rs hI kr HB
            go_wp2
            refine rp_ret3 2 3 4 z2 _ rfl rfl rfl HX.out rfl ⟨Y4.out, ?_⟩
            have hg := getRs_is b
            cases hm : getM b with
            | ok r =>
              rw [hm] at hg
              obtain ⟨hg, -⟩ := hg
              subst hg
              have hst : (getRs b).1.st = st := HFS.out.1
              refine ⟨xa, na, ca, xb, nb, cb, xc, nc, cc, ?_, Y1.out, Y2.out, Y3.out⟩
              rw [hst]
              rfl
            | error p =>
              obtain ⟨a, cd⟩ := p
              rw [hm] at hg
              exfalso
              have h9 := hg.2
              have h8 := HEZ.out
              rw [h9] at h8
              exact hg.1 h8
        · have q1 : ¬ ((sm : Nat) : Int) = (cr : Int) := by omega
          have q2 : (((sm : Nat) : Int) != (cr : Int)) = true := bne_iff_ne.2 q1
          have HS8 : Hid (smS b (i6, e6, d6) = (i7, 12, i6)) := by
            show _ = _
            unfold smS
            simp only [HSM.out]
            rw [if_pos ⟨trivial, by rw [HCR.out]; exact hne⟩]
            rfl
          obtain ⟨ee, hee0⟩ : ∃ z : Nat, z = 12 := ⟨_, rfl⟩
          obtain ⟨bad, hbad0⟩ : ∃ z : Nat, z = i6 := ⟨_, rfl⟩
          have HSS : Hid ((getRs b).2.2 = (ee, bad)) := by
            show _ = _
            rw [HGS.out, HS8.out, rsS_no (by simp), hee0, hbad0]
          have HEE : Hid (ee ≠ 0) := by show _ ≠ _; omega
          have hFb := refFail22 X5 g x n c b (i7, 0, d7) 12 i6 hI
          clear hne
          go_wp2_with fail
          refine hFb.mono ?_
          rintro e X6 ⟨rfl, hI9, k9⟩
          clear hFb
          have out9 := out.keepsF k9 (by have := ZZ.out; simp; omega)
          have rs9 := rs.keepsF k9 (by have := ZZ.out; simp; omega)
          have HB9 : Hid (Below w.heap.size w X6) := below_kg HB.out k9 (by have := ZZ.out; omega) (Nat.le_refl _)
          have P1' : Hid (OwnK fdE X6 w.heap.size (.slice xa na ca) (listS (bdF b) b S3).1 ∧ _) := ⟨OwnK.keeps P1.out.1 k9 (fun z hz => by have := (P1.out.2 z hz).1; simpa using this), P1.out.2⟩
          have P2' : Hid (OwnK dgE X6 w.heap.size (.slice xb nb cb) (listS (bdD b) b S4).1 ∧ _) := ⟨OwnK.keeps P2.out.1 k9 (fun z hz => by have := (P2.out.2 z hz).1; simpa using this), P2.out.2⟩
          have P3' : Hid (OwnI X6 w.heap.size (.slice xc nc cc) (listS (bdI b) b S5).1 ∧ _) := ⟨OwnG.keepsF P3.out.1 k9 (fun z hz => by have := (P3.out.2 z hz).1; simpa using this), P3.out.2⟩
          clear hI out rs HB P1 P2 P3
          have hI := hI9
          have out := out9
          have rs := rs9
          have HB := HB9
          have P1 := P1'
          have P2 := P2'
          have P3 := P3'
          clear hI9 out9 rs9 HB9 P1' P2' P3' k9
          clear c2
          have c2 : X6.cell? ⟨g, 2, none⟩ = some (.int .i64 (ee : Int)) := by rw [hI.row.cell, hee0]; rfl
          have hgz : g ∉ [z2] := by have := ZZ.out; simp; omega
          have kc2 : ∀ y, Keep [z2] X6 y → y.cell? ⟨g, 2, none⟩ = some (.int .i64 (ee : Int)) := fun y hy => by rw [(hI.row.keepsF hy hgz).cell, hee0]; rfl
          have kc3 : ∀ y, Keep [z2] X6 y → y.cell? ⟨g, 3, none⟩ = some (.int .i64 (bad : Int)) := fun y hy => by rw [(hI.row.keepsF hy hgz).cell, hbad0]; rfl
          have hee : ¬ ((ee : Nat) : Int) = 0 := by have := HEE.out; omega
          have hee2 : (((ee : Nat) : Int) != 0) = true := by simpa using hee
          go_upto_region 18 with fail
          clear hee hee2 c2
          refine wp_reliesI (⟨Keep.of_below, Keep.trans⟩ : KOk (Keep [z2])) (fun _ y => RowC y z2 (rpA 0 (.slice none 0 0) (.slice none 0 0) (.slice none 0 0))) [9] [none, none, none, none, none, none, none, none, none, some (0, [], []), none] [Fx (.agg (rpA 0 (.slice none 0 0) (.slice none 0 0) (.slice none 0 0))), Fx (.pointer (some ⟨g, 0, none⟩)), Fx (.pointer (some ⟨g, 0, none⟩)), Fx (.pointer (some ⟨g, 3, none⟩)), Fx (.int .i64 (bad : Int)), Fx (.pointer (some ⟨g, 0, none⟩)), Fx (.pointer (some ⟨g, 0, none⟩)), Fx (.pointer (some ⟨g, 2, none⟩)), Fx (.int .i64 (ee : Int)), (fun _ _ => True), Fx (.int .i64 (bad : Int))] rfl (by decide) rfl (by kernel_rfl) (by kernel_rfl) (by kernel_rfl) rs (fun _ _ _ h9 hb => h9.kept hb) ?_ ?_ ?_ ?_
          · repeat' (first | exact all_nil | apply all_cons)
            all_goals intro v y y' hv hb
            all_goals first | exact Fx_mono _ _ _ _ hv hb | exact trivial
          · intro i9 f9 hf9 hl9 v y y' hv hb
            rcases i9 with _ | i9
            · first | (cases hl9; done) | (cases hf9; first | exact hv | exact trivial)
            rcases i9 with _ | i9
            · first | (cases hl9; done) | (cases hf9; first | exact hv | exact trivial)
            rcases i9 with _ | i9
            · first | (cases hl9; done) | (cases hf9; first | exact hv | exact trivial)
            rcases i9 with _ | i9
            · first | (cases hl9; done) | (cases hf9; first | exact hv | exact trivial)
            rcases i9 with _ | i9
            · first | (cases hl9; done) | (cases hf9; first | exact hv | exact trivial)
            rcases i9 with _ | i9
            · first | (cases hl9; done) | (cases hf9; first | exact hv | exact trivial)
            rcases i9 with _ | i9
            · first | (cases hl9; done) | (cases hf9; first | exact hv | exact trivial)
            rcases i9 with _ | i9
            · first | (cases hl9; done) | (cases hf9; first | exact hv | exact trivial)
            rcases i9 with _ | i9
            · first | (cases hl9; done) | (cases hf9; first | exact hv | exact trivial)
            rcases i9 with _ | i9
            · first | (cases hl9; done) | (cases hf9; first | exact hv | exact trivial)
            rcases i9 with _ | i9
            · first | (cases hl9; done) | (cases hf9; first | exact hv | exact trivial)
            · simp at hf9
          · refine ⟨?_, ?_, ?_, ?_, ?_, ?_, ?_, ?_, ?_, ?_, ?_, trivial⟩
            all_goals
              intro ρ x9 hk hat ρc ρg ρf ho hd
              have o5 : ρ (.tmp 5) = .pointer (some ⟨g, 0, none⟩) := ho 5 rfl
              have o2 : ρ (.tmp 2) = .pointer (some ⟨z2, 0, none⟩) := ho 2 rfl
              clear ho
              have c2 := kc2 x9 hk
              have c3 := kc3 x9 hk
              simp only [depsR, depR, slotR, Fx, List.getElem?_cons_succ, List.getElem?_cons_zero, Region.binds, forall_const] at hd
              simp only [guardR, List.contains_cons, List.contains_nil, List.elem_cons, List.elem_nil, Nat.reduceBEq, Bool.or_false, Bool.false_or, Bool.or_true, Bool.true_or, cond_true, cond_false]
              go_split_ands
            · go_simp
            · go_simp
            · go_simp
            · go_simp
            · go_simp
            · go_simp
            · go_simp
            · go_simp
            · go_simp
            · have hst := run_store_rp x9 z2 (rpA 0 (.slice none 0 0) (.slice none 0 0) (.slice none 0 0)) hat.1 (by rw [hat.2]; rfl) rfl (rpA_one _ _ _ _ _ _ _ _ _ _)
              go_simp
              exact ⟨⟨trivial, ⟨rowL_setRow_same _ _ _ hat.1, rowAt_setRow_L _ _ _ hat.1⟩⟩, Keep.mine1 x9 z2 _⟩
            · go_simp
          · intro us x1 hk hw hI9
            simp only [owed, Fx] at hw
            obtain ⟨e0, e1, e2, e3, e4, e5, e6, e7, e8, e9, e10, -⟩ := hw
            simp only [List.length_cons, List.length_nil, List.take_succ_cons, List.take_zero, List.drop_succ_cons, List.drop_zero, asg, List.cons_append, List.nil_append, e0, e1, e2, e3, e4, e5, e6, e7, e8, e10]
            clear e0 e1 e2 e3 e4 e5 e6 e7 e8 e10 e9
            have HX : Hid (RowC x1 z2 (rpA 0 (.slice none 0 0) (.slice none 0 0) (.slice none 0 0))) := hI9
            have Y4 : Hid (Below w.heap.size w x1) := below_kg HB.out hk (by have := ZZ.out; omega) (Nat.le_refl _)
            clear out rs hI HB hI9 hk kc2 kc3
            go_wp2
            refine rp_ret3 2 3 4 z2 _ rfl rfl rfl HX.out rfl ⟨Y4.out, ?_⟩
            have hg := getRs_is b
            cases hm : getM b with
            | ok r =>
              rw [hm] at hg
              exfalso
              have h9 := hg.2
              rw [HSS.out] at h9
              exact HEE.out h9
            | error p =>
              obtain ⟨a, cd⟩ := p
              rw [hm] at hg
              have h9 := hg.2
              rw [HSS.out] at h9
              have e1 : ee = cd := congrArg Prod.fst h9
              have e2 : bad = a := congrArg Prod.snd h9
              rw [← e1, ← e2]
              rfl
      · obtain ⟨ee, hee0⟩ : ∃ z : Nat, z = e7 := ⟨_, rfl⟩
        obtain ⟨bad, hbad0⟩ : ∃ z : Nat, z = d7 := ⟨_, rfl⟩
        have h7' : ¬ ((e7 : Nat) : Int) = 0 := by omega
        have HSS : Hid ((getRs b).2.2 = (ee, bad)) := by
          show _ = _
          have e8 : smS b (i6, e6, d6) = (i7, e7, d7) := by
            unfold smS
            simp only [HSM.out]
            rw [if_neg (fun h9 => h7 h9.1)]
          rw [HGS.out, e8, rsS_no (S := (i7, e7, d7)) h7, hee0, hbad0]
        have HEE : Hid (ee ≠ 0) := by show _ ≠ _; rw [hee0]; exact h7
        subst hee0 hbad0
        clear c2
        have c2 : X4.cell? ⟨g, 2, none⟩ = some (.int .i64 (ee : Int)) := by rw [hI.row.cell]; rfl
        have hgz : g ∉ [z2] := by have := ZZ.out; simp; omega
        have kc2 : ∀ y, Keep [z2] X4 y → y.cell? ⟨g, 2, none⟩ = some (.int .i64 (ee : Int)) := fun y hy => by rw [(hI.row.keepsF hy hgz).cell]; rfl
        have kc3 : ∀ y, Keep [z2] X4 y → y.cell? ⟨g, 3, none⟩ = some (.int .i64 (bad : Int)) := fun y hy => by rw [(hI.row.keepsF hy hgz).cell]; rfl
        have hee : ¬ ((ee : Nat) : Int) = 0 := by have := HEE.out; omega
        have hee2 : (((ee : Nat) : Int) != 0) = true := by simpa using hee
        go_upto_region 18 with fail
        clear hee hee2 c2
        refine wp_reliesI (⟨Keep.of_below, Keep.trans⟩ : KOk (Keep [z2])) (fun _ y => RowC y z2 (rpA 0 (.slice none 0 0) (.slice none 0 0) (.slice none 0 0))) [9] [none, none, none, none, none, none, none, none, none, some (0, [], []), none] [Fx (.agg (rpA 0 (.slice none 0 0) (.slice none 0 0) (.slice none 0 0))), Fx (.pointer (some ⟨g, 0, none⟩)), Fx (.pointer (some ⟨g, 0, none⟩)), Fx (.pointer (some ⟨g, 3, none⟩)), Fx (.int .i64 (bad : Int)), Fx (.pointer (some ⟨g, 0, none⟩)), Fx (.pointer (some ⟨g, 0, none⟩)), Fx (.pointer (some ⟨g, 2, none⟩)), Fx (.int .i64 (ee : Int)), (fun _ _ => True), Fx (.int .i64 (bad : Int))] rfl (by decide) rfl (by kernel_rfl) (by kernel_rfl) (by kernel_rfl) rs (fun _ _ _ h9 hb => h9.kept hb) ?_ ?_ ?_ ?_
        · repeat' (first | exact all_nil | apply all_cons)
          all_goals intro v y y' hv hb
          all_goals first | exact Fx_mono _ _ _ _ hv hb | exact trivial
        · intro i9 f9 hf9 hl9 v y y' hv hb
          rcases i9 with _ | i9
          · first | (cases hl9; done) | (cases hf9; first | exact hv | exact trivial)
          rcases i9 with _ | i9
          · first | (cases hl9; done) | (cases hf9; first | exact hv | exact trivial)
          rcases i9 with _ | i9
          · first | (cases hl9; done) | (cases hf9; first | exact hv | exact trivial)
          rcases i9 with _ | i9
          · first | (cases hl9; done) | (cases hf9; first | exact hv | exact trivial)
          rcases i9 with _ | i9
          · first | (cases hl9; done) | (cases hf9; first | exact hv | exact trivial)
          rcases i9 with _ | i9
          · first | (cases hl9; done) | (cases hf9; first | exact hv | exact trivial)
          rcases i9 with _ | i9
          · first | (cases hl9; done) | (cases hf9; first | exact hv | exact trivial)
          rcases i9 with _ | i9
          · first | (cases hl9; done) | (cases hf9; first | exact hv | exact trivial)
          rcases i9 with _ | i9
          · first | (cases hl9; done) | (cases hf9; first | exact hv | exact trivial)
          rcases i9 with _ | i9
          · first | (cases hl9; done) | (cases hf9; first | exact hv | exact trivial)
          rcases i9 with _ | i9
          · first | (cases hl9; done) | (cases hf9; first | exact hv | exact trivial)
          · simp at hf9
        · refine ⟨?_, ?_, ?_, ?_, ?_, ?_, ?_, ?_, ?_, ?_, ?_, trivial⟩
          all_goals
            intro ρ x9 hk hat ρc ρg ρf ho hd
            have o5 : ρ (.tmp 5) = .pointer (some ⟨g, 0, none⟩) := ho 5 rfl
            have o2 : ρ (.tmp 2) = .pointer (some ⟨z2, 0, none⟩) := ho 2 rfl
            clear ho
            have c2 := kc2 x9 hk
            have c3 := kc3 x9 hk
            simp only [depsR, depR, slotR, Fx, List.getElem?_cons_succ, List.getElem?_cons_zero, Region.binds, forall_const] at hd
            simp only [guardR, List.contains_cons, List.contains_nil, List.elem_cons, List.elem_nil, Nat.reduceBEq, Bool.or_false, Bool.false_or, Bool.or_true, Bool.true_or, cond_true, cond_false]
            go_split_ands
          · go_simp
          · go_simp
          · go_simp
          · go_simp
          · go_simp
          · go_simp
          · go_simp
          · go_simp
          · go_simp
          · have hst := run_store_rp x9 z2 (rpA 0 (.slice none 0 0) (.slice none 0 0) (.slice none 0 0)) hat.1 (by rw [hat.2]; rfl) rfl (rpA_one _ _ _ _ _ _ _ _ _ _)
            go_simp
            exact ⟨⟨trivial, ⟨rowL_setRow_same _ _ _ hat.1, rowAt_setRow_L _ _ _ hat.1⟩⟩, Keep.mine1 x9 z2 _⟩
          · go_simp
        · intro us x1 hk hw hI9
          simp only [owed, Fx] at hw
          obtain ⟨e0, e1, e2, e3, e4, e5, e6, e7, e8, e9, e10, -⟩ := hw
          simp only [List.length_cons, List.length_nil, List.take_succ_cons, List.take_zero, List.drop_succ_cons, List.drop_zero, asg, List.cons_append, List.nil_append, e0, e1, e2, e3, e4, e5, e6, e7, e8, e10]
          clear e0 e1 e2 e3 e4 e5 e6 e7 e8 e10 e9
          have HX : Hid (RowC x1 z2 (rpA 0 (.slice none 0 0) (.slice none 0 0) (.slice none 0 0))) := hI9
          have Y4 : Hid (Below w.heap.size w x1) := below_kg HB.out hk (by have := ZZ.out; omega) (Nat.le_refl _)
          clear out rs hI HB hI9 hk kc2 kc3
          go_wp2
          refine rp_ret3 2 3 4 z2 _ rfl rfl rfl HX.out rfl ⟨Y4.out, ?_⟩
          have hg := getRs_is b
          cases hm : getM b with
          | ok r =>
            rw [hm] at hg
            exfalso
            have h9 := hg.2
            rw [HSS.out] at h9
            exact HEE.out h9
          | error p =>
            obtain ⟨a, cd⟩ := p
            rw [hm] at hg
            have h9 := hg.2
            rw [HSS.out] at h9
            have e1 : ee = cd := congrArg Prod.fst h9
            have e2 : bad = a := congrArg Prod.snd h9
            rw [← e1, ← e2]
            rfl
    · obtain ⟨S3, hS3⟩ : ∃ z, S1 = z := ⟨_, rfl⟩
      have HS3 : Hid (hdS b = S3) := by
        show _ = _
        unfold hdS
        simp only [H4.out, HH3.out, if_pos HT3.out]
        rw [HZS.out, hok]
        exact hS3
      rw [hS3] at hI
      have hq : st = 1 ∨ st = 2 := by unfold okSt at hok; simpa using hok
      clear hok hS3
      rcases hq with rfl | rfl
      · clear cst
        have cst : W2.cell? ⟨zo, 0, none⟩ = some (.int .i64 1) := by rw [out.cell]; rfl
        have hF := refFindings22 W2 g x n c b S3 hI
        go_wp2_with fail
        refine hF.mono ?_
        rintro e u1 ⟨v1, rfl, O1, hI9, k9⟩
        clear hF
        obtain ⟨xa, ca, hv⟩ := (O1.isK fdE_ok).len
        obtain ⟨na, hnn⟩ : ∃ z, (listS (bdF b) b S3).1.length = z := ⟨_, rfl⟩
        rw [hnn] at hv
        subst hv
        have out9 := out.keepsF k9 (by have := ZZ.out; simp; omega)
        have rs9 := rs.keepsF k9 (by have := ZZ.out; simp; omega)
        have zc : u1.cell? ⟨zo, 1, none⟩ = some (.slice none 0 0) := by rw [out9.cell]; rfl
        have fz := out9.frozen 1
        have kz := Keep.cell1 u1 zo 1 (.slice xa na ca)
        have qo : RowC (u1.setCell ⟨zo, 1, none⟩ (.slice xa na ca)) zo (rpA 1 (.slice xa na ca) (.slice none 0 0) (.slice none 0 0)) := out9.set 1 _
        have qs := rs9.keepsF kz (by have := ZZ.out; simp; omega)
        have qI := hI9.keepZ kz (by have := ZZ.out; omega)
        have lto := out.lt
        have HB9 : Hid (Below w.heap.size w (u1.setCell ⟨zo, 1, none⟩ (.slice xa na ca))) := (below_kg HB.out k9 (by have := ZZ.out; omega) (Nat.le_refl _)).setCell (by show w.heap.size ≤ zo; have := ZZ.out; omega) _
        have P1 : Hid (OwnK fdE (u1.setCell ⟨zo, 1, none⟩ (.slice xa na ca)) w.heap.size (.slice xa na ca) (listS (bdF b) b S3).1 ∧ ∀ z, (.slice xa na ca : Value).ownBlock = some z → z ≠ g ∧ z ≠ zo ∧ z ≠ z2) := by
          have hlt : ∀ z, (.slice xa na ca : Value).ownBlock = some z → W2.heap.size ≤ z := fun z hz => (World.ownsRow.lt O1 z hz).1
          refine ⟨OwnK.le (OwnK.keeps O1 kz (fun z hz => by have := hlt z hz; simp; omega)) HB.out.size, fun z hz => by have := hlt z hz; have := ZZ.out; have h1 := hI.row.lt; have h2 := rs.lt; omega⟩
        clear O1 hI9 k9 out9 rs9 kz lto hI out rs HB hnn
        go_upto_region 9 with fail
        clear zc fz
        generalize u1.setCell ⟨zo, 1, none⟩ (.slice xa na ca) = X1 at qo qs qI HB9 P1  ⊢
        have out := qo
        have rs := qs
        have hI := qI
        have HB := HB9
        clear qo qs qI HB9
        obtain ⟨S4, hS4⟩ : ∃ z, (listS (bdF b) b S3).2 = z := ⟨_, rfl⟩
        have HS4 : Hid _ := hS4
        rw [hS4] at hI
        clear hS4
        have hF := refFetch22 X1 g x n c b S4 hI
        go_wp2_with fail
        refine hF.mono ?_
        rintro e u2 ⟨v2, rfl, O2, hI9, k9⟩
        clear hF
        obtain ⟨xb, cb, hv⟩ := (O2.isK dgE_ok).len
        obtain ⟨nb, hnn⟩ : ∃ z, (listS (bdD b) b S4).1.length = z := ⟨_, rfl⟩
        rw [hnn] at hv
        subst hv
        have out9 := out.keepsF k9 (by have := ZZ.out; simp; omega)
        have rs9 := rs.keepsF k9 (by have := ZZ.out; simp; omega)
        have zc : u2.cell? ⟨zo, 2, none⟩ = some (.slice none 0 0) := by rw [out9.cell]; rfl
        have fz := out9.frozen 2
        have kz := Keep.cell1 u2 zo 2 (.slice xb nb cb)
        have qo : RowC (u2.setCell ⟨zo, 2, none⟩ (.slice xb nb cb)) zo (rpA 1 (.slice xa na ca) (.slice xb nb cb) (.slice none 0 0)) := out9.set 2 _
        have qs := rs9.keepsF kz (by have := ZZ.out; simp; omega)
        have qI := hI9.keepZ kz (by have := ZZ.out; omega)
        have lto := out.lt
        have HB9 : Hid (Below w.heap.size w (u2.setCell ⟨zo, 2, none⟩ (.slice xb nb cb))) := (below_kg HB.out k9 (by have := ZZ.out; omega) (Nat.le_refl _)).setCell (by show w.heap.size ≤ zo; have := ZZ.out; omega) _
        have P2 : Hid (OwnK dgE (u2.setCell ⟨zo, 2, none⟩ (.slice xb nb cb)) w.heap.size (.slice xb nb cb) (listS (bdD b) b S4).1 ∧ ∀ z, (.slice xb nb cb : Value).ownBlock = some z → z ≠ g ∧ z ≠ zo ∧ z ≠ z2) := by
          have hlt : ∀ z, (.slice xb nb cb : Value).ownBlock = some z → X1.heap.size ≤ z := fun z hz => (World.ownsRow.lt O2 z hz).1
          refine ⟨OwnK.le (OwnK.keeps O2 kz (fun z hz => by have := hlt z hz; simp; omega)) HB.out.size, fun z hz => by have := hlt z hz; have := ZZ.out; have h1 := hI.row.lt; have h2 := rs.lt; omega⟩
        have P1' : Hid (OwnK fdE (u2.setCell ⟨zo, 2, none⟩ (.slice xb nb cb)) w.heap.size (.slice xa na ca) (listS (bdF b) b S3).1 ∧ ∀ z, (.slice xa na ca : Value).ownBlock = some z → z ≠ g ∧ z ≠ zo ∧ z ≠ z2) := ⟨OwnK.keeps (OwnK.keeps P1.out.1 k9 (fun z hz => by have := (P1.out.2 z hz).1; simpa using this)) kz (fun z hz => by have := (P1.out.2 z hz).2.1; simpa using this), P1.out.2⟩
        clear P1
        clear O2 hI9 k9 out9 rs9 kz lto hI out rs HB hnn
        go_upto_region 10 with fail
        clear zc fz
        generalize u2.setCell ⟨zo, 2, none⟩ (.slice xb nb cb) = X2 at qo qs qI HB9 P2 P1' ⊢
        have out := qo
        have rs := qs
        have hI := qI
        have HB := HB9
        clear qo qs qI HB9
        have P1 := P1'
        clear P1'
        obtain ⟨S5, hS5⟩ : ∃ z, (listS (bdD b) b S4).2 = z := ⟨_, rfl⟩
        have HS5 : Hid _ := hS5
        rw [hS5] at hI
        clear hS5
        have hF := refDropped22 X2 g x n c b S5 hI
        go_wp2_with fail
        refine hF.mono ?_
        rintro e u3 ⟨v3, rfl, O3, hI9, k9⟩
        clear hF
        obtain ⟨xc, cc, hv⟩ := (OwnG.isG O3).len
        obtain ⟨nc, hnn⟩ : ∃ z, (inV (listS (bdI b) b S5).1).length = z := ⟨_, rfl⟩
        rw [hnn] at hv
        subst hv
        have out9 := out.keepsF k9 (by have := ZZ.out; simp; omega)
        have rs9 := rs.keepsF k9 (by have := ZZ.out; simp; omega)
        have zc : u3.cell? ⟨zo, 3, none⟩ = some (.slice none 0 0) := by rw [out9.cell]; rfl
        have fz := out9.frozen 3
        have kz := Keep.cell1 u3 zo 3 (.slice xc nc cc)
        have qo : RowC (u3.setCell ⟨zo, 3, none⟩ (.slice xc nc cc)) zo (rpA 1 (.slice xa na ca) (.slice xb nb cb) (.slice xc nc cc)) := out9.set 3 _
        have qs := rs9.keepsF kz (by have := ZZ.out; simp; omega)
        have qI := hI9.keepZ kz (by have := ZZ.out; omega)
        have lto := out.lt
        have HB9 : Hid (Below w.heap.size w (u3.setCell ⟨zo, 3, none⟩ (.slice xc nc cc))) := (below_kg HB.out k9 (by have := ZZ.out; omega) (Nat.le_refl _)).setCell (by show w.heap.size ≤ zo; have := ZZ.out; omega) _
        have P3 : Hid (OwnI (u3.setCell ⟨zo, 3, none⟩ (.slice xc nc cc)) w.heap.size (.slice xc nc cc) (listS (bdI b) b S5).1 ∧ ∀ z, (.slice xc nc cc : Value).ownBlock = some z → z ≠ g ∧ z ≠ zo ∧ z ≠ z2) := by
          have hlt : ∀ z, (.slice xc nc cc : Value).ownBlock = some z → X2.heap.size ≤ z := fun z hz => (World.ownsRow.lt O3 z hz).1
          refine ⟨OwnG.le (OwnG.keepsF O3 kz (fun z hz => by have := hlt z hz; simp; omega)) HB.out.size, fun z hz => by have := hlt z hz; have := ZZ.out; have h1 := hI.row.lt; have h2 := rs.lt; omega⟩
        have P1' : Hid (OwnK fdE (u3.setCell ⟨zo, 3, none⟩ (.slice xc nc cc)) w.heap.size (.slice xa na ca) (listS (bdF b) b S3).1 ∧ ∀ z, (.slice xa na ca : Value).ownBlock = some z → z ≠ g ∧ z ≠ zo ∧ z ≠ z2) := ⟨OwnK.keeps (OwnK.keeps P1.out.1 k9 (fun z hz => by have := (P1.out.2 z hz).1; simpa using this)) kz (fun z hz => by have := (P1.out.2 z hz).2.1; simpa using this), P1.out.2⟩
        clear P1
        have P2' : Hid (OwnK dgE (u3.setCell ⟨zo, 3, none⟩ (.slice xc nc cc)) w.heap.size (.slice xb nb cb) (listS (bdD b) b S4).1 ∧ ∀ z, (.slice xb nb cb : Value).ownBlock = some z → z ≠ g ∧ z ≠ zo ∧ z ≠ z2) := ⟨OwnK.keeps (OwnK.keeps P2.out.1 k9 (fun z hz => by have := (P2.out.2 z hz).1; simpa using this)) kz (fun z hz => by have := (P2.out.2 z hz).2.1; simpa using this), P2.out.2⟩
        clear P2
        clear O3 hI9 k9 out9 rs9 kz lto hI out rs HB hnn
        go_upto_region 11 with fail
        clear zc fz
        generalize u3.setCell ⟨zo, 3, none⟩ (.slice xc nc cc) = X3 at qo qs qI HB9 P3 P1' P2' ⊢
        have out := qo
        have rs := qs
        have hI := qI
        have HB := HB9
        clear qo qs qI HB9
        have P1 := P1'
        clear P1'
        have P2 := P2'
        clear P2'
        obtain ⟨S6, hS6⟩ : ∃ z, (listS (bdI b) b S5).2 = z := ⟨_, rfl⟩
        have HS6 : Hid _ := hS6
        rw [hS6] at hI
        clear hS6
        have HFS : Hid ((getRs b).1.st = 1 ∧ (getRs b).1.fs = (listS (bdF b) b S3).1 ∧ (getRs b).1.ds = (listS (bdD b) b S4).1 ∧ (getRs b).1.dr = (listS (bdI b) b S5).1) := by
          unfold getRs
          simp only [HS3.out, HS4.out, HS5.out]
          refine ⟨HST.out, ?_, ?_, ?_⟩ <;> first | trivial | rfl
        have HGS : Hid ((getRs b).2 = rsS b (smS b S6)) := by
          show _ = _
          unfold getRs
          simp only [HS3.out, HS4.out, HS5.out, HS6.out]
        obtain ⟨i6, e6, d6⟩ := S6
        obtain ⟨sm, S7, hsm⟩ : ∃ sm S7, numS 4 b (i6, e6, d6) = (sm, S7) := ⟨_, _, rfl⟩
        have hsl := numS_lt 4 b (i6, e6, d6)
        rw [hsm] at hsl
        have HSM : Hid _ := hsm
        have HI6 : Hid (i6 ≤ n) := hI.le
        have c1 : X3.cell? ⟨g, 1, none⟩ = some (.int .i64 (i6 : Int)) := by rw [hI.row.cell]; rfl
        have hNb := refNumber22 X3 g x n c b (i6, e6, d6) 4 (by omega) hI
        rw [hsm] at hNb
        clear hsm
        go_wp2_with fail
        refine hNb.mono ?_
        rintro e X4 ⟨rfl, hI9, k9⟩
        clear hNb
        have out9 := out.keepsF k9 (by have := ZZ.out; simp; omega)
        have rs9 := rs.keepsF k9 (by have := ZZ.out; simp; omega)
        have HB9 : Hid (Below w.heap.size w X4) := below_kg HB.out k9 (by have := ZZ.out; omega) (Nat.le_refl _)
        have P1' : Hid (OwnK fdE X4 w.heap.size (.slice xa na ca) (listS (bdF b) b S3).1 ∧ _) := ⟨OwnK.keeps P1.out.1 k9 (fun z hz => by have := (P1.out.2 z hz).1; simpa using this), P1.out.2⟩
        have P2' : Hid (OwnK dgE X4 w.heap.size (.slice xb nb cb) (listS (bdD b) b S4).1 ∧ _) := ⟨OwnK.keeps P2.out.1 k9 (fun z hz => by have := (P2.out.2 z hz).1; simpa using this), P2.out.2⟩
        have P3' : Hid (OwnI X4 w.heap.size (.slice xc nc cc) (listS (bdI b) b S5).1 ∧ _) := ⟨OwnG.keepsF P3.out.1 k9 (fun z hz => by have := (P3.out.2 z hz).1; simpa using this), P3.out.2⟩
        clear hI out rs HB P1 P2 P3
        have hI := hI9
        have out := out9
        have rs := rs9
        have HB := HB9
        have P1 := P1'
        have P2 := P2'
        have P3 := P3'
        clear hI9 out9 rs9 HB9 P1' P2' P3' k9
        clear c1
        obtain ⟨i7, e7, d7⟩ := S7
        have c2 : X4.cell? ⟨g, 2, none⟩ = some (.int .i64 (e7 : Int)) := by rw [hI.row.cell]; rfl
        by_cases h7 : e7 = 0
        · subst h7
          have hfr := hI.isb.front9 i6 (by have := HI6.out; have := hI.len; omega)
          have i6c : (i6 : Int) ≤ (c : Int) := by have := HI6.out; have := hI.cap; omega
          have i60 : (0 : Int) ≤ (i6 : Int) := by omega
          have hCr := refCrc22 (.slice x i6 c) (b.take i6) X4 (by unfold maxLen; have := HI6.out; have := hI.small; rw [List.length_take]; omega) hfr
          have cm : ((sm : Nat) : Int) % 4294967296 = (sm : Int) := by omega
          obtain ⟨cr, hcr⟩ : ∃ z, (sumL (b.take i6)).toNat = z := ⟨_, rfl⟩
          rw [hcr] at hCr
          have HCR : Hid _ := hcr
          clear hcr hfr
          go_wp2_with fail
          refine hCr.mono ?_
          rintro e X5 ⟨rfl, rfl⟩
          clear hCr
          by_cases hne : sm = cr
          · have HS8 : Hid (smS b (i6, e6, d6) = (i7, 0, d7)) := by
              show _ = _
              unfold smS
              simp only [HSM.out]
              rw [if_neg (fun h9 => h9.2 (by rw [HCR.out]; exact hne))]
            have c1 : X5.cell? ⟨g, 1, none⟩ = some (.int .i64 (i7 : Int)) := by rw [hI.row.cell]; rfl
            subst hne
            have q2 : (((sm : Nat) : Int) != (sm : Int)) = false := by simp
            by_cases hl7 : i7 < n
            · have l7 : (i7 : Int) < (n : Int) := by omega
              obtain ⟨ee, hee0⟩ : ∃ z : Nat, z = 14 := ⟨_, rfl⟩
              obtain ⟨bad, hbad0⟩ : ∃ z : Nat, z = i7 := ⟨_, rfl⟩
              have HSS : Hid ((getRs b).2.2 = (ee, bad)) := by
                show _ = _
                rw [HGS.out, HS8.out]
                unfold rsS
                rw [if_pos ⟨rfl, by have := hI.len; simp only; omega⟩, hee0, hbad0]
                rfl
              have HEE : Hid (ee ≠ 0) := by show _ ≠ _; omega
              have hFb := refFail22 X5 g x n c b (i7, 0, d7) 14 i7 hI
              go_wp2_with fail
              refine hFb.mono ?_
              rintro e X6 ⟨rfl, hI9, k9⟩
              clear hFb
              have out9 := out.keepsF k9 (by have := ZZ.out; simp; omega)
              have rs9 := rs.keepsF k9 (by have := ZZ.out; simp; omega)
              have HB9 : Hid (Below w.heap.size w X6) := below_kg HB.out k9 (by have := ZZ.out; omega) (Nat.le_refl _)
              have P1' : Hid (OwnK fdE X6 w.heap.size (.slice xa na ca) (listS (bdF b) b S3).1 ∧ _) := ⟨OwnK.keeps P1.out.1 k9 (fun z hz => by have := (P1.out.2 z hz).1; simpa using this), P1.out.2⟩
              have P2' : Hid (OwnK dgE X6 w.heap.size (.slice xb nb cb) (listS (bdD b) b S4).1 ∧ _) := ⟨OwnK.keeps P2.out.1 k9 (fun z hz => by have := (P2.out.2 z hz).1; simpa using this), P2.out.2⟩
              have P3' : Hid (OwnI X6 w.heap.size (.slice xc nc cc) (listS (bdI b) b S5).1 ∧ _) := ⟨OwnG.keepsF P3.out.1 k9 (fun z hz => by have := (P3.out.2 z hz).1; simpa using this), P3.out.2⟩
              clear hI out rs HB P1 P2 P3
              have hI := hI9
              have out := out9
              have rs := rs9
              have HB := HB9
              have P1 := P1'
              have P2 := P2'
              have P3 := P3'
              clear hI9 out9 rs9 HB9 P1' P2' P3' k9
              clear c1 c2 l7
              have c2 : X6.cell? ⟨g, 2, none⟩ = some (.int .i64 (ee : Int)) := by rw [hI.row.cell, hee0]; rfl
              have hgz : g ∉ [z2] := by have := ZZ.out; simp; omega
              have kc2 : ∀ y, Keep [z2] X6 y → y.cell? ⟨g, 2, none⟩ = some (.int .i64 (ee : Int)) := fun y hy => by rw [(hI.row.keepsF hy hgz).cell, hee0]; rfl
              have kc3 : ∀ y, Keep [z2] X6 y → y.cell? ⟨g, 3, none⟩ = some (.int .i64 (bad : Int)) := fun y hy => by rw [(hI.row.keepsF hy hgz).cell, hbad0]; rfl
              have hee : ¬ ((ee : Nat) : Int) = 0 := by have := HEE.out; omega
              have hee2 : (((ee : Nat) : Int) != 0) = true := by simpa using hee
              go_upto_region 18 with fail
              clear hee hee2 c2
              refine wp_reliesI (⟨Keep.of_below, Keep.trans⟩ : KOk (Keep [z2])) (fun _ y => RowC y z2 (rpA 0 (.slice none 0 0) (.slice none 0 0) (.slice none 0 0))) [9] [none, none, none, none, none, none, none, none, none, some (0, [], []), none] [Fx (.agg (rpA 0 (.slice none 0 0) (.slice none 0 0) (.slice none 0 0))), Fx (.pointer (some ⟨g, 0, none⟩)), Fx (.pointer (some ⟨g, 0, none⟩)), Fx (.pointer (some ⟨g, 3, none⟩)), Fx (.int .i64 (bad : Int)), Fx (.pointer (some ⟨g, 0, none⟩)), Fx (.pointer (some ⟨g, 0, none⟩)), Fx (.pointer (some ⟨g, 2, none⟩)), Fx (.int .i64 (ee : Int)), (fun _ _ => True), Fx (.int .i64 (bad : Int))] rfl (by decide) rfl (by kernel_rfl) (by kernel_rfl) (by kernel_rfl) rs (fun _ _ _ h9 hb => h9.kept hb) ?_ ?_ ?_ ?_
              · repeat' (first | exact all_nil | apply all_cons)
                all_goals intro v y y' hv hb
                all_goals first | exact Fx_mono _ _ _ _ hv hb | exact trivial
              · intro i9 f9 hf9 hl9 v y y' hv hb
                rcases i9 with _ | i9
                · first | (cases hl9; done) | (cases hf9; first | exact hv | exact trivial)
                rcases i9 with _ | i9
                · first | (cases hl9; done) | (cases hf9; first | exact hv | exact trivial)
                rcases i9 with _ | i9
                · first | (cases hl9; done) | (cases hf9; first | exact hv | exact trivial)
                rcases i9 with _ | i9
                · first | (cases hl9; done) | (cases hf9; first | exact hv | exact trivial)
                rcases i9 with _ | i9
                · first | (cases hl9; done) | (cases hf9; first | exact hv | exact trivial)
                rcases i9 with _ | i9
                · first | (cases hl9; done) | (cases hf9; first | exact hv | exact trivial)
                rcases i9 with _ | i9
                · first | (cases hl9; done) | (cases hf9; first | exact hv | exact trivial)
                rcases i9 with _ | i9
                · first | (cases hl9; done) | (cases hf9; first | exact hv | exact trivial)
                rcases i9 with _ | i9
                · first | (cases hl9; done) | (cases hf9; first | exact hv | exact trivial)
                rcases i9 with _ | i9
                · first | (cases hl9; done) | (cases hf9; first | exact hv | exact trivial)
                rcases i9 with _ | i9
                · first | (cases hl9; done) | (cases hf9; first | exact hv | exact trivial)
                · simp at hf9
              · refine ⟨?_, ?_, ?_, ?_, ?_, ?_, ?_, ?_, ?_, ?_, ?_, trivial⟩
                all_goals
                  intro ρ x9 hk hat ρc ρg ρf ho hd
                  have o5 : ρ (.tmp 5) = .pointer (some ⟨g, 0, none⟩) := ho 5 rfl
                  have o2 : ρ (.tmp 2) = .pointer (some ⟨z2, 0, none⟩) := ho 2 rfl
                  clear ho
                  have c2 := kc2 x9 hk
                  have c3 := kc3 x9 hk
                  simp only [depsR, depR, slotR, Fx, List.getElem?_cons_succ, List.getElem?_cons_zero, Region.binds, forall_const] at hd
                  simp only [guardR, List.contains_cons, List.contains_nil, List.elem_cons, List.elem_nil, Nat.reduceBEq, Bool.or_false, Bool.false_or, Bool.or_true, Bool.true_or, cond_true, cond_false]
                  go_split_ands
                · go_simp
                · go_simp
                · go_simp
                · go_simp
                · go_simp
                · go_simp
                · go_simp
                · go_simp
                · go_simp
                · have hst := run_store_rp x9 z2 (rpA 0 (.slice none 0 0) (.slice none 0 0) (.slice none 0 0)) hat.1 (by rw [hat.2]; rfl) rfl (rpA_one _ _ _ _ _ _ _ _ _ _)
                  go_simp
                  exact ⟨⟨trivial, ⟨rowL_setRow_same _ _ _ hat.1, rowAt_setRow_L _ _ _ hat.1⟩⟩, Keep.mine1 x9 z2 _⟩
                · go_simp
              · intro us x1 hk hw hI9
                simp only [owed, Fx] at hw
                obtain ⟨e0, e1, e2, e3, e4, e5, e6, e7, e8, e9, e10, -⟩ := hw
                simp only [List.length_cons, List.length_nil, List.take_succ_cons, List.take_zero, List.drop_succ_cons, List.drop_zero, asg, List.cons_append, List.nil_append, e0, e1, e2, e3, e4, e5, e6, e7, e8, e10]
                clear e0 e1 e2 e3 e4 e5 e6 e7 e8 e10 e9
                have HX : Hid (RowC x1 z2 (rpA 0 (.slice none 0 0) (.slice none 0 0) (.slice none 0 0))) := hI9
                have Y4 : Hid (Below w.heap.size w x1) := below_kg HB.out hk (by have := ZZ.out; omega) (Nat.le_refl _)
                clear out rs hI HB hI9 hk kc2 kc3
                go_wp2
                refine rp_ret3 2 3 4 z2 _ rfl rfl rfl HX.out rfl ⟨Y4.out, ?_⟩
                have hg := getRs_is b
                cases hm : getM b with
                | ok r =>
                  rw [hm] at hg
                  exfalso
                  have h9 := hg.2
                  rw [HSS.out] at h9
                  exact HEE.out h9
                | error p =>
                  obtain ⟨a, cd⟩ := p
                  rw [hm] at hg
                  have h9 := hg.2
                  rw [HSS.out] at h9
                  have e1 : ee = cd := congrArg Prod.fst h9
                  have e2 : bad = a := congrArg Prod.snd h9
                  rw [← e1, ← e2]
                  rfl
            · have l7 : ¬ (i7 : Int) < (n : Int) := by omega
              have HEZ : Hid ((getRs b).2.2.1 = 0) := by
                show _ = _
                rw [HGS.out, HS8.out]
                unfold rsS
                rw [if_neg (fun h9 => by have h8 := h9.2; have := hI.len; simp only at h8; omega)]
              have ld := run_load_rp X5 zo out.1 (by rw [out.2]; rfl)
              rw [out.2] at ld
              have st9 := run_store_rp X5 z2 (rpA 1 (.slice xa na ca) (.slice xb nb cb) (.slice xc nc cc)) rs.1 (by rw [rs.2]; rfl) rfl (rpA_one _ _ _ _ _ _ _ _ _ _)
              have HX : Hid (RowC (X5.setRow z2 (rpA 1 (.slice xa na ca) (.slice xb nb cb) (.slice xc nc cc))) z2 (rpA 1 (.slice xa na ca) (.slice xb nb cb) (.slice xc nc cc))) := ⟨rowL_setRow_same _ _ _ rs.1, rowAt_setRow_L _ _ _ rs.1⟩
              have kr := Keep.mine1 X5 z2 (rpA 1 (.slice xa na ca) (.slice xb nb cb) (.slice xc nc cc))
              have Y1 : Hid (OwnK fdE (X5.setRow z2 (rpA 1 (.slice xa na ca) (.slice xb nb cb) (.slice xc nc cc))) w.heap.size (.slice xa na ca) (getRs b).1.fs) := by
                show OwnK _ _ _ _ _
                rw [HFS.out.2.1]
                exact OwnK.keeps P1.out.1 kr (fun z hz => by have := (P1.out.2 z hz).2.2; simpa using this)
              have Y2 : Hid (OwnK dgE (X5.setRow z2 (rpA 1 (.slice xa na ca) (.slice xb nb cb) (.slice xc nc cc))) w.heap.size (.slice xb nb cb) (getRs b).1.ds) := by
                show OwnK _ _ _ _ _
                rw [HFS.out.2.2.1]
                exact OwnK.keeps P2.out.1 kr (fun z hz => by have := (P2.out.2 z hz).2.2; simpa using this)
              have Y3 : Hid (OwnI (X5.setRow z2 (rpA 1 (.slice xa na ca) (.slice xb nb cb) (.slice xc nc cc))) w.heap.size (.slice xc nc cc) (getRs b).1.dr) := by
                show OwnI _ _ _ _
                rw [HFS.out.2.2.2]
                exact OwnG.keepsF P3.out.1 kr (fun z hz => by have := (P3.out.2 z hz).2.2; simpa using this)
              have Y4 : Hid (Below w.heap.size w (X5.setRow z2 (rpA 1 (.slice xa na ca) (.slice xb nb cb) (.slice xc nc cc)))) := below_row HB.out (by have := ZZ.out; omega) _
              clear out rs hI kr HB
              go_wp2
              refine rp_ret3 2 3 4 z2 _ rfl rfl rfl HX.out rfl ⟨Y4.out, ?_⟩
              have hg := getRs_is b
              cases hm : getM b with
              | ok r =>
                rw [hm] at hg
                obtain ⟨hg, -⟩ := hg
                subst hg
                have hst : (getRs b).1.st = 1 := HFS.out.1
                refine ⟨xa, na, ca, xb, nb, cb, xc, nc, cc, ?_, Y1.out, Y2.out, Y3.out⟩
                rw [hst]
                rfl
              | error p =>
                obtain ⟨a, cd⟩ := p
                rw [hm] at hg
                exfalso
                have h9 := hg.2
                have h8 := HEZ.out
                rw [h9] at h8
                exact hg.1 h8
          · have q1 : ¬ ((sm : Nat) : Int) = (cr : Int) := by omega
            have q2 : (((sm : Nat) : Int) != (cr : Int)) = true := bne_iff_ne.2 q1
            have HS8 : Hid (smS b (i6, e6, d6) = (i7, 12, i6)) := by
              show _ = _
              unfold smS
              simp only [HSM.out]
              rw [if_pos ⟨trivial, by rw [HCR.out]; exact hne⟩]
              rfl
            obtain ⟨ee, hee0⟩ : ∃ z : Nat, z = 12 := ⟨_, rfl⟩
            obtain ⟨bad, hbad0⟩ : ∃ z : Nat, z = i6 := ⟨_, rfl⟩
            have HSS : Hid ((getRs b).2.2 = (ee, bad)) := by
              show _ = _
              rw [HGS.out, HS8.out, rsS_no (by simp), hee0, hbad0]
            have HEE : Hid (ee ≠ 0) := by show _ ≠ _; omega
            have hFb := refFail22 X5 g x n c b (i7, 0, d7) 12 i6 hI
            clear hne
            go_wp2_with fail
            refine hFb.mono ?_
            rintro e X6 ⟨rfl, hI9, k9⟩
            clear hFb
            have out9 := out.keepsF k9 (by have := ZZ.out; simp; omega)
            have rs9 := rs.keepsF k9 (by have := ZZ.out; simp; omega)
            have HB9 : Hid (Below w.heap.size w X6) := below_kg HB.out k9 (by have := ZZ.out; omega) (Nat.le_refl _)
            have P1' : Hid (OwnK fdE X6 w.heap.size (.slice xa na ca) (listS (bdF b) b S3).1 ∧ _) := ⟨OwnK.keeps P1.out.1 k9 (fun z hz => by have := (P1.out.2 z hz).1; simpa using this), P1.out.2⟩
            have P2' : Hid (OwnK dgE X6 w.heap.size (.slice xb nb cb) (listS (bdD b) b S4).1 ∧ _) := ⟨OwnK.keeps P2.out.1 k9 (fun z hz => by have := (P2.out.2 z hz).1; simpa using this), P2.out.2⟩
            have P3' : Hid (OwnI X6 w.heap.size (.slice xc nc cc) (listS (bdI b) b S5).1 ∧ _) := ⟨OwnG.keepsF P3.out.1 k9 (fun z hz => by have := (P3.out.2 z hz).1; simpa using this), P3.out.2⟩
            clear hI out rs HB P1 P2 P3
            have hI := hI9
            have out := out9
            have rs := rs9
            have HB := HB9
            have P1 := P1'
            have P2 := P2'
            have P3 := P3'
            clear hI9 out9 rs9 HB9 P1' P2' P3' k9
            clear c2
            have c2 : X6.cell? ⟨g, 2, none⟩ = some (.int .i64 (ee : Int)) := by rw [hI.row.cell, hee0]; rfl
            have hgz : g ∉ [z2] := by have := ZZ.out; simp; omega
            have kc2 : ∀ y, Keep [z2] X6 y → y.cell? ⟨g, 2, none⟩ = some (.int .i64 (ee : Int)) := fun y hy => by rw [(hI.row.keepsF hy hgz).cell, hee0]; rfl
            have kc3 : ∀ y, Keep [z2] X6 y → y.cell? ⟨g, 3, none⟩ = some (.int .i64 (bad : Int)) := fun y hy => by rw [(hI.row.keepsF hy hgz).cell, hbad0]; rfl
            have hee : ¬ ((ee : Nat) : Int) = 0 := by have := HEE.out; omega
            have hee2 : (((ee : Nat) : Int) != 0) = true := by simpa using hee
            go_upto_region 18 with fail
            clear hee hee2 c2
            refine wp_reliesI (⟨Keep.of_below, Keep.trans⟩ : KOk (Keep [z2])) (fun _ y => RowC y z2 (rpA 0 (.slice none 0 0) (.slice none 0 0) (.slice none 0 0))) [9] [none, none, none, none, none, none, none, none, none, some (0, [], []), none] [Fx (.agg (rpA 0 (.slice none 0 0) (.slice none 0 0) (.slice none 0 0))), Fx (.pointer (some ⟨g, 0, none⟩)), Fx (.pointer (some ⟨g, 0, none⟩)), Fx (.pointer (some ⟨g, 3, none⟩)), Fx (.int .i64 (bad : Int)), Fx (.pointer (some ⟨g, 0, none⟩)), Fx (.pointer (some ⟨g, 0, none⟩)), Fx (.pointer (some ⟨g, 2, none⟩)), Fx (.int .i64 (ee : Int)), (fun _ _ => True), Fx (.int .i64 (bad : Int))] rfl (by decide) rfl (by kernel_rfl) (by kernel_rfl) (by kernel_rfl) rs (fun _ _ _ h9 hb => h9.kept hb) ?_ ?_ ?_ ?_
            · repeat' (first | exact all_nil | apply all_cons)
              all_goals intro v y y' hv hb
              all_goals first | exact Fx_mono _ _ _ _ hv hb | exact trivial
            · intro i9 f9 hf9 hl9 v y y' hv hb
              rcases i9 with _ | i9
              · first | (cases hl9; done) | (cases hf9; first | exact hv | exact trivial)
              rcases i9 with _ | i9
              · first | (cases hl9; done) | (cases hf9; first | exact hv | exact trivial)
              rcases i9 with _ | i9
              · first | (cases hl9; done) | (cases hf9; first | exact hv | exact trivial)
              rcases i9 with _ | i9
              · first | (cases hl9; done) | (cases hf9; first | exact hv | exact trivial)
              rcases i9 with _ | i9
              · first | (cases hl9; done) | (cases hf9; first | exact hv | exact trivial)
              rcases i9 with _ | i9
              · first | (cases hl9; done) | (cases hf9; first | exact hv | exact trivial)
              rcases i9 with _ | i9
              · first | (cases hl9; done) | (cases hf9; first | exact hv | exact trivial)
              rcases i9 with _ | i9
              · first | (cases hl9; done) | (cases hf9; first | exact hv | exact trivial)
              rcases i9 with _ | i9
              · first | (cases hl9; done) | (cases hf9; first | exact hv | exact trivial)
              rcases i9 with _ | i9
              · first | (cases hl9; done) | (cases hf9; first | exact hv | exact trivial)
              rcases i9 with _ | i9
              · first | (cases hl9; done) | (cases hf9; first | exact hv | exact trivial)
              · simp at hf9
            · refine ⟨?_, ?_, ?_, ?_, ?_, ?_, ?_, ?_, ?_, ?_, ?_, trivial⟩
              all_goals
                intro ρ x9 hk hat ρc ρg ρf ho hd
                have o5 : ρ (.tmp 5) = .pointer (some ⟨g, 0, none⟩) := ho 5 rfl
                have o2 : ρ (.tmp 2) = .pointer (some ⟨z2, 0, none⟩) := ho 2 rfl
                clear ho
                have c2 := kc2 x9 hk
                have c3 := kc3 x9 hk
                simp only [depsR, depR, slotR, Fx, List.getElem?_cons_succ, List.getElem?_cons_zero, Region.binds, forall_const] at hd
                simp only [guardR, List.contains_cons, List.contains_nil, List.elem_cons, List.elem_nil, Nat.reduceBEq, Bool.or_false, Bool.false_or, Bool.or_true, Bool.true_or, cond_true, cond_false]
                go_split_ands
              · go_simp
              · go_simp
              · go_simp
              · go_simp
              · go_simp
              · go_simp
              · go_simp
              · go_simp
              · go_simp
              · have hst := run_store_rp x9 z2 (rpA 0 (.slice none 0 0) (.slice none 0 0) (.slice none 0 0)) hat.1 (by rw [hat.2]; rfl) rfl (rpA_one _ _ _ _ _ _ _ _ _ _)
                go_simp
                exact ⟨⟨trivial, ⟨rowL_setRow_same _ _ _ hat.1, rowAt_setRow_L _ _ _ hat.1⟩⟩, Keep.mine1 x9 z2 _⟩
              · go_simp
            · intro us x1 hk hw hI9
              simp only [owed, Fx] at hw
              obtain ⟨e0, e1, e2, e3, e4, e5, e6, e7, e8, e9, e10, -⟩ := hw
              simp only [List.length_cons, List.length_nil, List.take_succ_cons, List.take_zero, List.drop_succ_cons, List.drop_zero, asg, List.cons_append, List.nil_append, e0, e1, e2, e3, e4, e5, e6, e7, e8, e10]
              clear e0 e1 e2 e3 e4 e5 e6 e7 e8 e10 e9
              have HX : Hid (RowC x1 z2 (rpA 0 (.slice none 0 0) (.slice none 0 0) (.slice none 0 0))) := hI9
              have Y4 : Hid (Below w.heap.size w x1) := below_kg HB.out hk (by have := ZZ.out; omega) (Nat.le_refl _)
              clear out rs hI HB hI9 hk kc2 kc3
              go_wp2
              refine rp_ret3 2 3 4 z2 _ rfl rfl rfl HX.out rfl ⟨Y4.out, ?_⟩
              have hg := getRs_is b
              cases hm : getM b with
              | ok r =>
                rw [hm] at hg
                exfalso
                have h9 := hg.2
                rw [HSS.out] at h9
                exact HEE.out h9
              | error p =>
                obtain ⟨a, cd⟩ := p
                rw [hm] at hg
                have h9 := hg.2
                rw [HSS.out] at h9
                have e1 : ee = cd := congrArg Prod.fst h9
                have e2 : bad = a := congrArg Prod.snd h9
                rw [← e1, ← e2]
                rfl
        · obtain ⟨ee, hee0⟩ : ∃ z : Nat, z = e7 := ⟨_, rfl⟩
          obtain ⟨bad, hbad0⟩ : ∃ z : Nat, z = d7 := ⟨_, rfl⟩
          have h7' : ¬ ((e7 : Nat) : Int) = 0 := by omega
          have HSS : Hid ((getRs b).2.2 = (ee, bad)) := by
            show _ = _
            have e8 : smS b (i6, e6, d6) = (i7, e7, d7) := by
              unfold smS
              simp only [HSM.out]
              rw [if_neg (fun h9 => h7 h9.1)]
            rw [HGS.out, e8, rsS_no (S := (i7, e7, d7)) h7, hee0, hbad0]
          have HEE : Hid (ee ≠ 0) := by show _ ≠ _; rw [hee0]; exact h7
          subst hee0 hbad0
          clear c2
          have c2 : X4.cell? ⟨g, 2, none⟩ = some (.int .i64 (ee : Int)) := by rw [hI.row.cell]; rfl
          have hgz : g ∉ [z2] := by have := ZZ.out; simp; omega
          have kc2 : ∀ y, Keep [z2] X4 y → y.cell? ⟨g, 2, none⟩ = some (.int .i64 (ee : Int)) := fun y hy => by rw [(hI.row.keepsF hy hgz).cell]; rfl
          have kc3 : ∀ y, Keep [z2] X4 y → y.cell? ⟨g, 3, none⟩ = some (.int .i64 (bad : Int)) := fun y hy => by rw [(hI.row.keepsF hy hgz).cell]; rfl
          have hee : ¬ ((ee : Nat) : Int) = 0 := by have := HEE.out; omega
          have hee2 : (((ee : Nat) : Int) != 0) = true := by simpa using hee
          go_upto_region 18 with fail
          clear hee hee2 c2
          refine wp_reliesI (⟨Keep.of_below, Keep.trans⟩ : KOk (Keep [z2])) (fun _ y => RowC y z2 (rpA 0 (.slice none 0 0) (.slice none 0 0) (.slice none 0 0))) [9] [none, none, none, none, none, none, none, none, none, some (0, [], []), none] [Fx (.agg (rpA 0 (.slice none 0 0) (.slice none 0 0) (.slice none 0 0))), Fx (.pointer (some ⟨g, 0, none⟩)), Fx (.pointer (some ⟨g, 0, none⟩)), Fx (.pointer (some ⟨g, 3, none⟩)), Fx (.int .i64 (bad : Int)), Fx (.pointer (some ⟨g, 0, none⟩)), Fx (.pointer (some ⟨g, 0, none⟩)), Fx (.pointer (some ⟨g, 2, none⟩)), Fx (.int .i64 (ee : Int)), (fun _ _ => True), Fx (.int .i64 (bad : Int))] rfl (by decide) rfl (by kernel_rfl) (by kernel_rfl) (by kernel_rfl) rs (fun _ _ _ h9 hb => h9.kept hb) ?_ ?_ ?_ ?_
          · repeat' (first | exact all_nil | apply all_cons)
            all_goals intro v y y' hv hb
            all_goals first | exact Fx_mono _ _ _ _ hv hb | exact trivial
          · intro i9 f9 hf9 hl9 v y y' hv hb
            rcases i9 with _ | i9
            · first | (cases hl9; done) | (cases hf9; first | exact hv | exact trivial)
            rcases i9 with _ | i9
            · first | (cases hl9; done) | (cases hf9; first | exact hv | exact trivial)
            rcases i9 with _ | i9
            · first | (cases hl9; done) | (cases hf9; first | exact hv | exact trivial)
            rcases i9 with _ | i9
            · first | (cases hl9; done) | (cases hf9; first | exact hv | exact trivial)
            rcases i9 with _ | i9
            · first | (cases hl9; done) | (cases hf9; first | exact hv | exact trivial)
            rcases i9 with _ | i9
            · first | (cases hl9; done) | (cases hf9; first | exact hv | exact trivial)
            rcases i9 with _ | i9
            · first | (cases hl9; done) | (cases hf9; first | exact hv | exact trivial)
            rcases i9 with _ | i9
            · first | (cases hl9; done) | (cases hf9; first | exact hv | exact trivial)
            rcases i9 with _ | i9
            · first | (cases hl9; done) | (cases hf9; first | exact hv | exact trivial)
            rcases i9 with _ | i9
            · first | (cases hl9; done) | (cases hf9; first | exact hv | exact trivial)
            rcases i9 with _ | i9
            · first | (cases hl9; done) | (cases hf9; first | exact hv | exact trivial)
            · simp at hf9
          · refine ⟨?_, ?_, ?_, ?_, ?_, ?_, ?_, ?_, ?_, ?_, ?_, trivial⟩
            all_goals
              intro ρ x9 hk hat ρc ρg ρf ho hd
              have o5 : ρ (.tmp 5) = .pointer (some ⟨g, 0, none⟩) := ho 5 rfl
              have o2 : ρ (.tmp 2) = .pointer (some ⟨z2, 0, none⟩) := ho 2 rfl
              clear ho
              have c2 := kc2 x9 hk
              have c3 := kc3 x9 hk
              simp only [depsR, depR, slotR, Fx, List.getElem?_cons_succ, List.getElem?_cons_zero, Region.binds, forall_const] at hd
              simp only [guardR, List.contains_cons, List.contains_nil, List.elem_cons, List.elem_nil, Nat.reduceBEq, Bool.or_false, Bool.false_or, Bool.or_true, Bool.true_or, cond_true, cond_false]
              go_split_ands
            · go_simp
            · go_simp
            · go_simp
            · go_simp
            · go_simp
            · go_simp
            · go_simp
            · go_simp
            · go_simp
            · have hst := run_store_rp x9 z2 (rpA 0 (.slice none 0 0) (.slice none 0 0) (.slice none 0 0)) hat.1 (by rw [hat.2]; rfl) rfl (rpA_one _ _ _ _ _ _ _ _ _ _)
              go_simp
              exact ⟨⟨trivial, ⟨rowL_setRow_same _ _ _ hat.1, rowAt_setRow_L _ _ _ hat.1⟩⟩, Keep.mine1 x9 z2 _⟩
            · go_simp
          · intro us x1 hk hw hI9
            simp only [owed, Fx] at hw
            obtain ⟨e0, e1, e2, e3, e4, e5, e6, e7, e8, e9, e10, -⟩ := hw
            simp only [List.length_cons, List.length_nil, List.take_succ_cons, List.take_zero, List.drop_succ_cons, List.drop_zero, asg, List.cons_append, List.nil_append, e0, e1, e2, e3, e4, e5, e6, e7, e8, e10]
            clear e0 e1 e2 e3 e4 e5 e6 e7 e8 e10 e9
            have HX : Hid (RowC x1 z2 (rpA 0 (.slice none 0 0) (.slice none 0 0) (.slice none 0 0))) := hI9
            have Y4 : Hid (Below w.heap.size w x1) := below_kg HB.out hk (by have := ZZ.out; omega) (Nat.le_refl _)
            clear out rs hI HB hI9 hk kc2 kc3
            go_wp2
            refine rp_ret3 2 3 4 z2 _ rfl rfl rfl HX.out rfl ⟨Y4.out, ?_⟩
            have hg := getRs_is b
            cases hm : getM b with
            | ok r =>
              rw [hm] at hg
              exfalso
              have h9 := hg.2
              rw [HSS.out] at h9
              exact HEE.out h9
            | error p =>
              obtain ⟨a, cd⟩ := p
              rw [hm] at hg
              have h9 := hg.2
              rw [HSS.out] at h9
              have e1 : ee = cd := congrArg Prod.fst h9
              have e2 : bad = a := congrArg Prod.snd h9
              rw [← e1, ← e2]
              rfl
      · clear cst
        have cst : W2.cell? ⟨zo, 0, none⟩ = some (.int .i64 2) := by rw [out.cell]; rfl
        have hF := refFindings22 W2 g x n c b S3 hI
        go_wp2_with fail
        refine hF.mono ?_
        rintro e u1 ⟨v1, rfl, O1, hI9, k9⟩
        clear hF
        obtain ⟨xa, ca, hv⟩ := (O1.isK fdE_ok).len
        obtain ⟨na, hnn⟩ : ∃ z, (listS (bdF b) b S3).1.length = z := ⟨_, rfl⟩
        rw [hnn] at hv
        subst hv
        have out9 := out.keepsF k9 (by have := ZZ.out; simp; omega)
        have rs9 := rs.keepsF k9 (by have := ZZ.out; simp; omega)
        have zc : u1.cell? ⟨zo, 1, none⟩ = some (.slice none 0 0) := by rw [out9.cell]; rfl
        have fz := out9.frozen 1
        have kz := Keep.cell1 u1 zo 1 (.slice xa na ca)
        have qo : RowC (u1.setCell ⟨zo, 1, none⟩ (.slice xa na ca)) zo (rpA 2 (.slice xa na ca) (.slice none 0 0) (.slice none 0 0)) := out9.set 1 _
        have qs := rs9.keepsF kz (by have := ZZ.out; simp; omega)
        have qI := hI9.keepZ kz (by have := ZZ.out; omega)
        have lto := out.lt
        have HB9 : Hid (Below w.heap.size w (u1.setCell ⟨zo, 1, none⟩ (.slice xa na ca))) := (below_kg HB.out k9 (by have := ZZ.out; omega) (Nat.le_refl _)).setCell (by show w.heap.size ≤ zo; have := ZZ.out; omega) _
        have P1 : Hid (OwnK fdE (u1.setCell ⟨zo, 1, none⟩ (.slice xa na ca)) w.heap.size (.slice xa na ca) (listS (bdF b) b S3).1 ∧ ∀ z, (.slice xa na ca : Value).ownBlock = some z → z ≠ g ∧ z ≠ zo ∧ z ≠ z2) := by
          have hlt : ∀ z, (.slice xa na ca : Value).ownBlock = some z → W2.heap.size ≤ z := fun z hz => (World.ownsRow.lt O1 z hz).1
          refine ⟨OwnK.le (OwnK.keeps O1 kz (fun z hz => by have := hlt z hz; simp; omega)) HB.out.size, fun z hz => by have := hlt z hz; have := ZZ.out; have h1 := hI.row.lt; have h2 := rs.lt; omega⟩
        clear O1 hI9 k9 out9 rs9 kz lto hI out rs HB hnn
        go_upto_region 9 with fail
        clear zc fz
        generalize u1.setCell ⟨zo, 1, none⟩ (.slice xa na ca) = X1 at qo qs qI HB9 P1  ⊢
        have out := qo
        have rs := qs
        have hI := qI
        have HB := HB9
        clear qo qs qI HB9
        obtain ⟨S4, hS4⟩ : ∃ z, (listS (bdF b) b S3).2 = z := ⟨_, rfl⟩
        have HS4 : Hid _ := hS4
        rw [hS4] at hI
        clear hS4
        have hF := refFetch22 X1 g x n c b S4 hI
        go_wp2_with fail
        refine hF.mono ?_
        rintro e u2 ⟨v2, rfl, O2, hI9, k9⟩
        clear hF
        obtain ⟨xb, cb, hv⟩ := (O2.isK dgE_ok).len
        obtain ⟨nb, hnn⟩ : ∃ z, (listS (bdD b) b S4).1.length = z := ⟨_, rfl⟩
        rw [hnn] at hv
        subst hv
        have out9 := out.keepsF k9 (by have := ZZ.out; simp; omega)
        have rs9 := rs.keepsF k9 (by have := ZZ.out; simp; omega)
        have zc : u2.cell? ⟨zo, 2, none⟩ = some (.slice none 0 0) := by rw [out9.cell]; rfl
        have fz := out9.frozen 2
        have kz := Keep.cell1 u2 zo 2 (.slice xb nb cb)
        have qo : RowC (u2.setCell ⟨zo, 2, none⟩ (.slice xb nb cb)) zo (rpA 2 (.slice xa na ca) (.slice xb nb cb) (.slice none 0 0)) := out9.set 2 _
        have qs := rs9.keepsF kz (by have := ZZ.out; simp; omega)
        have qI := hI9.keepZ kz (by have := ZZ.out; omega)
        have lto := out.lt
        have HB9 : Hid (Below w.heap.size w (u2.setCell ⟨zo, 2, none⟩ (.slice xb nb cb))) := (below_kg HB.out k9 (by have := ZZ.out; omega) (Nat.le_refl _)).setCell (by show w.heap.size ≤ zo; have := ZZ.out; omega) _
        have P2 : Hid (OwnK dgE (u2.setCell ⟨zo, 2, none⟩ (.slice xb nb cb)) w.heap.size (.slice xb nb cb) (listS (bdD b) b S4).1 ∧ ∀ z, (.slice xb nb cb : Value).ownBlock = some z → z ≠ g ∧ z ≠ zo ∧ z ≠ z2) := by
          have hlt : ∀ z, (.slice xb nb cb : Value).ownBlock = some z → X1.heap.size ≤ z := fun z hz => (World.ownsRow.lt O2 z hz).1
          refine ⟨OwnK.le (OwnK.keeps O2 kz (fun z hz => by have := hlt z hz; simp; omega)) HB.out.size, fun z hz => by have := hlt z hz; have := ZZ.out; have h1 := hI.row.lt; have h2 := rs.lt; omega⟩
        have P1' : Hid (OwnK fdE (u2.setCell ⟨zo, 2, none⟩ (.slice xb nb cb)) w.heap.size (.slice xa na ca) (listS (bdF b) b S3).1 ∧ ∀ z, (.slice xa na ca : Value).ownBlock = some z → z ≠ g ∧ z ≠ zo ∧ z ≠ z2) := ⟨OwnK.keeps (OwnK.keeps P1.out.1 k9 (fun z hz => by have := (P1.out.2 z hz).1; simpa using this)) kz (fun z hz => by have := (P1.out.2 z hz).2.1; simpa using this), P1.out.2⟩
        clear P1
        clear O2 hI9 k9 out9 rs9 kz lto hI out rs HB hnn
        go_upto_region 10 with fail
        clear zc fz
        generalize u2.setCell ⟨zo, 2, none⟩ (.slice xb nb cb) = X2 at qo qs qI HB9 P2 P1' ⊢
        have out := qo
        have rs := qs
        have hI := qI
        have HB := HB9
        clear qo qs qI HB9
        have P1 := P1'
        clear P1'
        obtain ⟨S5, hS5⟩ : ∃ z, (listS (bdD b) b S4).2 = z := ⟨_, rfl⟩
        have HS5 : Hid _ := hS5
        rw [hS5] at hI
        clear hS5
        have hF := refDropped22 X2 g x n c b S5 hI
        go_wp2_with fail
        refine hF.mono ?_
        rintro e u3 ⟨v3, rfl, O3, hI9, k9⟩
        clear hF
        obtain ⟨xc, cc, hv⟩ := (OwnG.isG O3).len
        obtain ⟨nc, hnn⟩ : ∃ z, (inV (listS (bdI b) b S5).1).length = z := ⟨_, rfl⟩
        rw [hnn] at hv
        subst hv
        have out9 := out.keepsF k9 (by have := ZZ.out; simp; omega)
        have rs9 := rs.keepsF k9 (by have := ZZ.out; simp; omega)
        have zc : u3.cell? ⟨zo, 3, none⟩ = some (.slice none 0 0) := by rw [out9.cell]; rfl
        have fz := out9.frozen 3
        have kz := Keep.cell1 u3 zo 3 (.slice xc nc cc)
        have qo : RowC (u3.setCell ⟨zo, 3, none⟩ (.slice xc nc cc)) zo (rpA 2 (.slice xa na ca) (.slice xb nb cb) (.slice xc nc cc)) := out9.set 3 _
        have qs := rs9.keepsF kz (by have := ZZ.out; simp; omega)
        have qI := hI9.keepZ kz (by have := ZZ.out; omega)
        have lto := out.lt
        have HB9 : Hid (Below w.heap.size w (u3.setCell ⟨zo, 3, none⟩ (.slice xc nc cc))) := (below_kg HB.out k9 (by have := ZZ.out; omega) (Nat.le_refl _)).setCell (by show w.heap.size ≤ zo; have := ZZ.out; omega) _
        have P3 : Hid (OwnI (u3.setCell ⟨zo, 3, none⟩ (.slice xc nc cc)) w.heap.size (.slice xc nc cc) (listS (bdI b) b S5).1 ∧ ∀ z, (.slice xc nc cc : Value).ownBlock = some z → z ≠ g ∧ z ≠ zo ∧ z ≠ z2) := by
          have hlt : ∀ z, (.slice xc nc cc : Value).ownBlock = some z → X2.heap.size ≤ z := fun z hz => (World.ownsRow.lt O3 z hz).1
          refine ⟨OwnG.le (OwnG.keepsF O3 kz (fun z hz => by have := hlt z hz; simp; omega)) HB.out.size, fun z hz => by have := hlt z hz; have := ZZ.out; have h1 := hI.row.lt; have h2 := rs.lt; omega⟩
        have P1' : Hid (OwnK fdE (u3.setCell ⟨zo, 3, none⟩ (.slice xc nc cc)) w.heap.size (.slice xa na ca) (listS (bdF b) b S3).1 ∧ ∀ z, (.slice xa na ca : Value).ownBlock = some z → z ≠ g ∧ z ≠ zo ∧ z ≠ z2) := ⟨OwnK.keeps (OwnK.keeps P1.out.1 k9 (fun z hz => by have := (P1.out.2 z hz).1; simpa using this)) kz (fun z hz => by have := (P1.out.2 z hz).2.1; simpa using this), P1.out.2⟩
        clear P1
        have P2' : Hid (OwnK dgE (u3.setCell ⟨zo, 3, none⟩ (.slice xc nc cc)) w.heap.size (.slice xb nb cb) (listS (bdD b) b S4).1 ∧ ∀ z, (.slice xb nb cb : Value).ownBlock = some z → z ≠ g ∧ z ≠ zo ∧ z ≠ z2) := ⟨OwnK.keeps (OwnK.keeps P2.out.1 k9 (fun z hz => by have := (P2.out.2 z hz).1; simpa using this)) kz (fun z hz => by have := (P2.out.2 z hz).2.1; simpa using this), P2.out.2⟩
        clear P2
        clear O3 hI9 k9 out9 rs9 kz lto hI out rs HB hnn
        go_upto_region 11 with fail
        clear zc fz
        generalize u3.setCell ⟨zo, 3, none⟩ (.slice xc nc cc) = X3 at qo qs qI HB9 P3 P1' P2' ⊢
        have out := qo
        have rs := qs
        have hI := qI
        have HB := HB9
        clear qo qs qI HB9
        have P1 := P1'
        clear P1'
        have P2 := P2'
        clear P2'
        obtain ⟨S6, hS6⟩ : ∃ z, (listS (bdI b) b S5).2 = z := ⟨_, rfl⟩
        have HS6 : Hid _ := hS6
        rw [hS6] at hI
        clear hS6
        have HFS : Hid ((getRs b).1.st = 2 ∧ (getRs b).1.fs = (listS (bdF b) b S3).1 ∧ (getRs b).1.ds = (listS (bdD b) b S4).1 ∧ (getRs b).1.dr = (listS (bdI b) b S5).1) := by
          unfold getRs
          simp only [HS3.out, HS4.out, HS5.out]
          refine ⟨HST.out, ?_, ?_, ?_⟩ <;> first | trivial | rfl
        have HGS : Hid ((getRs b).2 = rsS b (smS b S6)) := by
          show _ = _
          unfold getRs
          simp only [HS3.out, HS4.out, HS5.out, HS6.out]
        obtain ⟨i6, e6, d6⟩ := S6
        obtain ⟨sm, S7, hsm⟩ : ∃ sm S7, numS 4 b (i6, e6, d6) = (sm, S7) := ⟨_, _, rfl⟩
        have hsl := numS_lt 4 b (i6, e6, d6)
        rw [hsm] at hsl
        have HSM : Hid _ := hsm
        have HI6 : Hid (i6 ≤ n) := hI.le
        have c1 : X3.cell? ⟨g, 1, none⟩ = some (.int .i64 (i6 : Int)) := by rw [hI.row.cell]; rfl
        have hNb := refNumber22 X3 g x n c b (i6, e6, d6) 4 (by omega) hI
        rw [hsm] at hNb
        clear hsm
        go_wp2_with fail
        refine hNb.mono ?_
        rintro e X4 ⟨rfl, hI9, k9⟩
        clear hNb
        have out9 := out.keepsF k9 (by have := ZZ.out; simp; omega)
        have rs9 := rs.keepsF k9 (by have := ZZ.out; simp; omega)
        have HB9 : Hid (Below w.heap.size w X4) := below_kg HB.out k9 (by have := ZZ.out; omega) (Nat.le_refl _)
        have P1' : Hid (OwnK fdE X4 w.heap.size (.slice xa na ca) (listS (bdF b) b S3).1 ∧ _) := ⟨OwnK.keeps P1.out.1 k9 (fun z hz => by have := (P1.out.2 z hz).1; simpa using this), P1.out.2⟩
        have P2' : Hid (OwnK dgE X4 w.heap.size (.slice xb nb cb) (listS (bdD b) b S4).1 ∧ _) := ⟨OwnK.keeps P2.out.1 k9 (fun z hz => by have := (P2.out.2 z hz).1; simpa using this), P2.out.2⟩
        have P3' : Hid (OwnI X4 w.heap.size (.slice xc nc cc) (listS (bdI b) b S5).1 ∧ _) := ⟨OwnG.keepsF P3.out.1 k9 (fun z hz => by have := (P3.out.2 z hz).1; simpa using this), P3.out.2⟩
        clear hI out rs HB P1 P2 P3
        have hI := hI9
        have out := out9
        have rs := rs9
        have HB := HB9
        have P1 := P1'
        have P2 := P2'
        have P3 := P3'
        clear hI9 out9 rs9 HB9 P1' P2' P3' k9
        clear c1
        obtain ⟨i7, e7, d7⟩ := S7
        have c2 : X4.cell? ⟨g, 2, none⟩ = some (.int .i64 (e7 : Int)) := by rw [hI.row.cell]; rfl
        by_cases h7 : e7 = 0
        · subst h7
          have hfr := hI.isb.front9 i6 (by have := HI6.out; have := hI.len; omega)
          have i6c : (i6 : Int) ≤ (c : Int) := by have := HI6.out; have := hI.cap; omega
          have i60 : (0 : Int) ≤ (i6 : Int) := by omega
          have hCr := refCrc22 (.slice x i6 c) (b.take i6) X4 (by unfold maxLen; have := HI6.out; have := hI.small; rw [List.length_take]; omega) hfr
          have cm : ((sm : Nat) : Int) % 4294967296 = (sm : Int) := by omega
          obtain ⟨cr, hcr⟩ : ∃ z, (sumL (b.take i6)).toNat = z := ⟨_, rfl⟩
          rw [hcr] at hCr
          have HCR : Hid _ := hcr
          clear hcr hfr
          go_wp2_with fail
          refine hCr.mono ?_
          rintro e X5 ⟨rfl, rfl⟩
          clear hCr
          by_cases hne : sm = cr
          · have HS8 : Hid (smS b (i6, e6, d6) = (i7, 0, d7)) := by
              show _ = _
              unfold smS
              simp only [HSM.out]
              rw [if_neg (fun h9 => h9.2 (by rw [HCR.out]; exact hne))]
            have c1 : X5.cell? ⟨g, 1, none⟩ = some (.int .i64 (i7 : Int)) := by rw [hI.row.cell]; rfl
            subst hne
            have q2 : (((sm : Nat) : Int) != (sm : Int)) = false := by simp
            by_cases hl7 : i7 < n
            · have l7 : (i7 : Int) < (n : Int) := by omega
              obtain ⟨ee, hee0⟩ : ∃ z : Nat, z = 14 := ⟨_, rfl⟩
              obtain ⟨bad, hbad0⟩ : ∃ z : Nat, z = i7 := ⟨_, rfl⟩
              have HSS : Hid ((getRs b).2.2 = (ee, bad)) := by
                show _ = _
                rw [HGS.out, HS8.out]
                unfold rsS
                rw [if_pos ⟨rfl, by have := hI.len; simp only; omega⟩, hee0, hbad0]
                rfl
              have HEE : Hid (ee ≠ 0) := by show _ ≠ _; omega
              have hFb := refFail22 X5 g x n c b (i7, 0, d7) 14 i7 hI
              go_wp2_with fail
              refine hFb.mono ?_
              rintro e X6 ⟨rfl, hI9, k9⟩
              clear hFb
              have out9 := out.keepsF k9 (by have := ZZ.out; simp; omega)
              have rs9 := rs.keepsF k9 (by have := ZZ.out; simp; omega)
              have HB9 : Hid (Below w.heap.size w X6) := below_kg HB.out k9 (by have := ZZ.out; omega) (Nat.le_refl _)
              have P1' : Hid (OwnK fdE X6 w.heap.size (.slice xa na ca) (listS (bdF b) b S3).1 ∧ _) := ⟨OwnK.keeps P1.out.1 k9 (fun z hz => by have := (P1.out.2 z hz).1; simpa using this), P1.out.2⟩
              have P2' : Hid (OwnK dgE X6 w.heap.size (.slice xb nb cb) (listS (bdD b) b S4).1 ∧ _) := ⟨OwnK.keeps P2.out.1 k9 (fun z hz => by have := (P2.out.2 z hz).1; simpa using this), P2.out.2⟩
              have P3' : Hid (OwnI X6 w.heap.size (.slice xc nc cc) (listS (bdI b) b S5).1 ∧ _) := ⟨OwnG.keepsF P3.out.1 k9 (fun z hz => by have := (P3.out.2 z hz).1; simpa using this), P3.out.2⟩
              clear hI out rs HB P1 P2 P3
              have hI := hI9
              have out := out9
              have rs := rs9
              have HB := HB9
              have P1 := P1'
              have P2 := P2'
              have P3 := P3'
              clear hI9 out9 rs9 HB9 P1' P2' P3' k9
              clear c1 c2 l7
              have c2 : X6.cell? ⟨g, 2, none⟩ = some (.int .i64 (ee : Int)) := by rw [hI.row.cell, hee0]; rfl
              have hgz : g ∉ [z2] := by have := ZZ.out; simp; omega
              have kc2 : ∀ y, Keep [z2] X6 y → y.cell? ⟨g, 2, none⟩ = some (.int .i64 (ee : Int)) := fun y hy => by rw [(hI.row.keepsF hy hgz).cell, hee0]; rfl
              have kc3 : ∀ y, Keep [z2] X6 y → y.cell? ⟨g, 3, none⟩ = some (.int .i64 (bad : Int)) := fun y hy => by rw [(hI.row.keepsF hy hgz).cell, hbad0]; rfl
              have hee : ¬ ((ee : Nat) : Int) = 0 := by have := HEE.out; omega
              have hee2 : (((ee : Nat) : Int) != 0) = true := by simpa using hee
              go_upto_region 18 with fail
              clear hee hee2 c2
              refine wp_reliesI (⟨Keep.of_below, Keep.trans⟩ : KOk (Keep [z2])) (fun _ y => RowC y z2 (rpA 0 (.slice none 0 0) (.slice none 0 0) (.slice none 0 0))) [9] [none, none, none, none, none, none, none, none, none, some (0, [], []), none] [Fx (.agg (rpA 0 (.slice none 0 0) (.slice none 0 0) (.slice none 0 0))), Fx (.pointer (some ⟨g, 0, none⟩)), Fx (.pointer (some ⟨g, 0, none⟩)), Fx (.pointer (some ⟨g, 3, none⟩)), Fx (.int .i64 (bad : Int)), Fx (.pointer (some ⟨g, 0, none⟩)), Fx (.pointer (some ⟨g, 0, none⟩)), Fx (.pointer (some ⟨g, 2, none⟩)), Fx (.int .i64 (ee : Int)), (fun _ _ => True), Fx (.int .i64 (bad : Int))] rfl (by decide) rfl (by kernel_rfl) (by kernel_rfl) (by kernel_rfl) rs (fun _ _ _ h9 hb => h9.kept hb) ?_ ?_ ?_ ?_
              · repeat' (first | exact all_nil | apply all_cons)
                all_goals intro v y y' hv hb
                all_goals first | exact Fx_mono _ _ _ _ hv hb | exact trivial
              · intro i9 f9 hf9 hl9 v y y' hv hb
                rcases i9 with _ | i9
                · first | (cases hl9; done) | (cases hf9; first | exact hv | exact trivial)
                rcases i9 with _ | i9
                · first | (cases hl9; done) | (cases hf9; first | exact hv | exact trivial)
                rcases i9 with _ | i9
                · first | (cases hl9; done) | (cases hf9; first | exact hv | exact trivial)
                rcases i9 with _ | i9
                · first | (cases hl9; done) | (cases hf9; first | exact hv | exact trivial)
                rcases i9 with _ | i9
                · first | (cases hl9; done) | (cases hf9; first | exact hv | exact trivial)
                rcases i9 with _ | i9
                · first | (cases hl9; done) | (cases hf9; first | exact hv | exact trivial)
                rcases i9 with _ | i9
                · first | (cases hl9; done) | (cases hf9; first | exact hv | exact trivial)
                rcases i9 with _ | i9
                · first | (cases hl9; done) | (cases hf9; first | exact hv | exact trivial)
                rcases i9 with _ | i9
                · first | (cases hl9; done) | (cases hf9; first | exact hv | exact trivial)
                rcases i9 with _ | i9
                · first | (cases hl9; done) | (cases hf9; first | exact hv | exact trivial)
                rcases i9 with _ | i9
                · first | (cases hl9; done) | (cases hf9; first | exact hv | exact trivial)
                · simp at hf9
              · refine ⟨?_, ?_, ?_, ?_, ?_, ?_, ?_, ?_, ?_, ?_, ?_, trivial⟩
                all_goals
                  intro ρ x9 hk hat ρc ρg ρf ho hd
                  have o5 : ρ (.tmp 5) = .pointer (some ⟨g, 0, none⟩) := ho 5 rfl
                  have o2 : ρ (.tmp 2) = .pointer (some ⟨z2, 0, none⟩) := ho 2 rfl
                  clear ho
                  have c2 := kc2 x9 hk
                  have c3 := kc3 x9 hk
                  simp only [depsR, depR, slotR, Fx, List.getElem?_cons_succ, List.getElem?_cons_zero, Region.binds, forall_const] at hd
                  simp only [guardR, List.contains_cons, List.contains_nil, List.elem_cons, List.elem_nil, Nat.reduceBEq, Bool.or_false, Bool.false_or, Bool.or_true, Bool.true_or, cond_true, cond_false]
                  go_split_ands
                · go_simp
                · go_simp
                · go_simp
                · go_simp
                · go_simp
                · go_simp
                · go_simp
                · go_simp
                · go_simp
                · have hst := run_store_rp x9 z2 (rpA 0 (.slice none 0 0) (.slice none 0 0) (.slice none 0 0)) hat.1 (by rw [hat.2]; rfl) rfl (rpA_one _ _ _ _ _ _ _ _ _ _)
                  go_simp
                  exact ⟨⟨trivial, ⟨rowL_setRow_same _ _ _ hat.1, rowAt_setRow_L _ _ _ hat.1⟩⟩, Keep.mine1 x9 z2 _⟩
                · go_simp
              · intro us x1 hk hw hI9
                simp only [owed, Fx] at hw
                obtain ⟨e0, e1, e2, e3, e4, e5, e6, e7, e8, e9, e10, -⟩ := hw
                simp only [List.length_cons, List.length_nil, List.take_succ_cons, List.take_zero, List.drop_succ_cons, List.drop_zero, asg, List.cons_append, List.nil_append, e0, e1, e2, e3, e4, e5, e6, e7, e8, e10]
                clear e0 e1 e2 e3 e4 e5 e6 e7 e8 e10 e9
                have HX : Hid (RowC x1 z2 (rpA 0 (.slice none 0 0) (.slice none 0 0) (.slice none 0 0))) := hI9
                have Y4 : Hid (Below w.heap.size w x1) := below_kg HB.out hk (by have := ZZ.out; omega) (Nat.le_refl _)
                clear out rs hI HB hI9 hk kc2 kc3
                go_wp2
                refine rp_ret3 2 3 4 z2 _ rfl rfl rfl HX.out rfl ⟨Y4.out, ?_⟩
                have hg := getRs_is b
                cases hm : getM b with
                | ok r =>
                  rw [hm] at hg
                  exfalso
                  have h9 := hg.2
                  rw [HSS.out] at h9
                  exact HEE.out h9
                | error p =>
                  obtain ⟨a, cd⟩ := p
                  rw [hm] at hg
                  have h9 := hg.2
                  rw [HSS.out] at h9
                  have e1 : ee = cd := congrArg Prod.fst h9
                  have e2 : bad = a := congrArg Prod.snd h9
                  rw [← e1, ← e2]
                  rfl
            · have l7 : ¬ (i7 : Int) < (n : Int) := by omega
              have HEZ : Hid ((getRs b).2.2.1 = 0) := by
                show _ = _
                rw [HGS.out, HS8.out]
                unfold rsS
                rw [if_neg (fun h9 => by have h8 := h9.2; have := hI.len; simp only at h8; omega)]
              have ld := run_load_rp X5 zo out.1 (by rw [out.2]; rfl)
              rw [out.2] at ld
              have st9 := run_store_rp X5 z2 (rpA 2 (.slice xa na ca) (.slice xb nb cb) (.slice xc nc cc)) rs.1 (by rw [rs.2]; rfl) rfl (rpA_one _ _ _ _ _ _ _ _ _ _)
              have HX : Hid (RowC (X5.setRow z2 (rpA 2 (.slice xa na ca) (.slice xb nb cb) (.slice xc nc cc))) z2 (rpA 2 (.slice xa na ca) (.slice xb nb cb) (.slice xc nc cc))) := ⟨rowL_setRow_same _ _ _ rs.1, rowAt_setRow_L _ _ _ rs.1⟩
              have kr := Keep.mine1 X5 z2 (rpA 2 (.slice xa na ca) (.slice xb nb cb) (.slice xc nc cc))
              have Y1 : Hid (OwnK fdE (X5.setRow z2 (rpA 2 (.slice xa na ca) (.slice xb nb cb) (.slice xc nc cc))) w.heap.size (.slice xa na ca) (getRs b).1.fs) := by
                show OwnK _ _ _ _ _
                rw [HFS.out.2.1]
                exact OwnK.keeps P1.out.1 kr (fun z hz => by have := (P1.out.2 z hz).2.2; simpa using this)
              have Y2 : Hid (OwnK dgE (X5.setRow z2 (rpA 2 (.slice xa na ca) (.slice xb nb cb) (.slice xc nc cc))) w.heap.size (.slice xb nb cb) (getRs b).1.ds) := by
                show OwnK _ _ _ _ _
                rw [HFS.out.2.2.1]
                exact OwnK.keeps P2.out.1 kr (fun z hz => by have := (P2.out.2 z hz).2.2; simpa using this)
              have Y3 : Hid (OwnI (X5.setRow z2 (rpA 2 (.slice xa na ca) (.slice xb nb cb) (.slice xc nc cc))) w.heap.size (.slice xc nc cc) (getRs b).1.dr) := by
                show OwnI _ _ _ _
                rw [HFS.out.2.2.2]
                exact OwnG.keepsF P3.out.1 kr (fun z hz => by have := (P3.out.2 z hz).2.2; simpa using this)
              have Y4 : Hid (Below w.heap.size w (X5.setRow z2 (rpA 2 (.slice xa na ca) (.slice xb nb cb) (.slice xc nc cc)))) := below_row HB.out (by have := ZZ.out; omega) _
              clear out rs hI kr HB
              go_wp2
              refine rp_ret3 2 3 4 z2 _ rfl rfl rfl HX.out rfl ⟨Y4.out, ?_⟩
              have hg := getRs_is b
              cases hm : getM b with
              | ok r =>
                rw [hm] at hg
                obtain ⟨hg, -⟩ := hg
                subst hg
                have hst : (getRs b).1.st = 2 := HFS.out.1
                refine ⟨xa, na, ca, xb, nb, cb, xc, nc, cc, ?_, Y1.out, Y2.out, Y3.out⟩
                rw [hst]
                rfl
              | error p =>
                obtain ⟨a, cd⟩ := p
                rw [hm] at hg
                exfalso
                have h9 := hg.2
                have h8 := HEZ.out
                rw [h9] at h8
                exact hg.1 h8
          · have q1 : ¬ ((sm : Nat) : Int) = (cr : Int) := by omega
            have q2 : (((sm : Nat) : Int) != (cr : Int)) = true := bne_iff_ne.2 q1
            have HS8 : Hid (smS b (i6, e6, d6) = (i7, 12, i6)) := by
              show _ = _
              unfold smS
              simp only [HSM.out]
              rw [if_pos ⟨trivial, by rw [HCR.out]; exact hne⟩]
              rfl
            obtain ⟨ee, hee0⟩ : ∃ z : Nat, z = 12 := ⟨_, rfl⟩
            obtain ⟨bad, hbad0⟩ : ∃ z : Nat, z = i6 := ⟨_, rfl⟩
            have HSS : Hid ((getRs b).2.2 = (ee, bad)) := by
              show _ = _
              rw [HGS.out, HS8.out, rsS_no (by simp), hee0, hbad0]
            have HEE : Hid (ee ≠ 0) := by show _ ≠ _; omega
            have hFb := refFail22 X5 g x n c b (i7, 0, d7) 12 i6 hI
            clear hne
            go_wp2_with fail
            refine hFb.mono ?_
            rintro e X6 ⟨rfl, hI9, k9⟩
            clear hFb
            have out9 := out.keepsF k9 (by have := ZZ.out; simp; omega)
            have rs9 := rs.keepsF k9 (by have := ZZ.out; simp; omega)
            have HB9 : Hid (Below w.heap.size w X6) := below_kg HB.out k9 (by have := ZZ.out; omega) (Nat.le_refl _)
            have P1' : Hid (OwnK fdE X6 w.heap.size (.slice xa na ca) (listS (bdF b) b S3).1 ∧ _) := ⟨OwnK.keeps P1.out.1 k9 (fun z hz => by have := (P1.out.2 z hz).1; simpa using this), P1.out.2⟩
            have P2' : Hid (OwnK dgE X6 w.heap.size (.slice xb nb cb) (listS (bdD b) b S4).1 ∧ _) := ⟨OwnK.keeps P2.out.1 k9 (fun z hz => by have := (P2.out.2 z hz).1; simpa using this), P2.out.2⟩
            have P3' : Hid (OwnI X6 w.heap.size (.slice xc nc cc) (listS (bdI b) b S5).1 ∧ _) := ⟨OwnG.keepsF P3.out.1 k9 (fun z hz => by have := (P3.out.2 z hz).1; simpa using this), P3.out.2⟩
            clear hI out rs HB P1 P2 P3
            have hI := hI9
            have out := out9
            have rs := rs9
            have HB := HB9
            have P1 := P1'
            have P2 := P2'
            have P3 := P3'
            clear hI9 out9 rs9 HB9 P1' P2' P3' k9
            clear c2
            have c2 : X6.cell? ⟨g, 2, none⟩ = some (.int .i64 (ee : Int)) := by rw [hI.row.cell, hee0]; rfl
            have hgz : g ∉ [z2] := by have := ZZ.out; simp; omega
            have kc2 : ∀ y, Keep [z2] X6 y → y.cell? ⟨g, 2, none⟩ = some (.int .i64 (ee : Int)) := fun y hy => by rw [(hI.row.keepsF hy hgz).cell, hee0]; rfl
            have kc3 : ∀ y, Keep [z2] X6 y → y.cell? ⟨g, 3, none⟩ = some (.int .i64 (bad : Int)) := fun y hy => by rw [(hI.row.keepsF hy hgz).cell, hbad0]; rfl
            have hee : ¬ ((ee : Nat) : Int) = 0 := by have := HEE.out; omega
            have hee2 : (((ee : Nat) : Int) != 0) = true := by simpa using hee
            go_upto_region 18 with fail
            clear hee hee2 c2
            refine wp_reliesI (⟨Keep.of_below, Keep.trans⟩ : KOk (Keep [z2])) (fun _ y => RowC y z2 (rpA 0 (.slice none 0 0) (.slice none 0 0) (.slice none 0 0))) [9] [none, none, none, none, none, none, none, none, none, some (0, [], []), none] [Fx (.agg (rpA 0 (.slice none 0 0) (.slice none 0 0) (.slice none 0 0))), Fx (.pointer (some ⟨g, 0, none⟩)), Fx (.pointer (some ⟨g, 0, none⟩)), Fx (.pointer (some ⟨g, 3, none⟩)), Fx (.int .i64 (bad : Int)), Fx (.pointer (some ⟨g, 0, none⟩)), Fx (.pointer (some ⟨g, 0, none⟩)), Fx (.pointer (some ⟨g, 2, none⟩)), Fx (.int .i64 (ee : Int)), (fun _ _ => True), Fx (.int .i64 (bad : Int))] rfl (by decide) rfl (by kernel_rfl) (by kernel_rfl) (by kernel_rfl) rs (fun _ _ _ h9 hb => h9.kept hb) ?_ ?_ ?_ ?_
            · repeat' (first | exact all_nil | apply all_cons)
              all_goals intro v y y' hv hb
              all_goals first | exact Fx_mono _ _ _ _ hv hb | exact trivial
            · intro i9 f9 hf9 hl9 v y y' hv hb
              rcases i9 with _ | i9
              · first | (cases hl9; done) | (cases hf9; first | exact hv | exact trivial)
              rcases i9 with _ | i9
              · first | (cases hl9; done) | (cases hf9; first | exact hv | exact trivial)
              rcases i9 with _ | i9
              · first | (cases hl9; done) | (cases hf9; first | exact hv | exact trivial)
              rcases i9 with _ | i9
              · first | (cases hl9; done) | (cases hf9; first | exact hv | exact trivial)
              rcases i9 with _ | i9
              · first | (cases hl9; done) | (cases hf9; first | exact hv | exact trivial)
              rcases i9 with _ | i9
              · first | (cases hl9; done) | (cases hf9; first | exact hv | exact trivial)
              rcases i9 with _ | i9
              · first | (cases hl9; done) | (cases hf9; first | exact hv | exact trivial)
              rcases i9 with _ | i9
              · first | (cases hl9; done) | (cases hf9; first | exact hv | exact trivial)
              rcases i9 with _ | i9
              · first | (cases hl9; done) | (cases hf9; first | exact hv | exact trivial)
              rcases i9 with _ | i9
              · first | (cases hl9; done) | (cases hf9; first | exact hv | exact trivial)
              rcases i9 with _ | i9
              · first | (cases hl9; done) | (cases hf9; first | exact hv | exact trivial)
              · simp at hf9
            · refine ⟨?_, ?_, ?_, ?_, ?_, ?_, ?_, ?_, ?_, ?_, ?_, trivial⟩
              all_goals
                intro ρ x9 hk hat ρc ρg ρf ho hd
                have o5 : ρ (.tmp 5) = .pointer (some ⟨g, 0, none⟩) := ho 5 rfl
                have o2 : ρ (.tmp 2) = .pointer (some ⟨z2, 0, none⟩) := ho 2 rfl
                clear ho
                have c2 := kc2 x9 hk
                have c3 := kc3 x9 hk
                simp only [depsR, depR, slotR, Fx, List.getElem?_cons_succ, List.getElem?_cons_zero, Region.binds, forall_const] at hd
                simp only [guardR, List.contains_cons, List.contains_nil, List.elem_cons, List.elem_nil, Nat.reduceBEq, Bool.or_false, Bool.false_or, Bool.or_true, Bool.true_or, cond_true, cond_false]
                go_split_ands
              · go_simp
              · go_simp
              · go_simp
              · go_simp
              · go_simp
              · go_simp
              · go_simp
              · go_simp
              · go_simp
              · have hst := run_store_rp x9 z2 (rpA 0 (.slice none 0 0) (.slice none 0 0) (.slice none 0 0)) hat.1 (by rw [hat.2]; rfl) rfl (rpA_one _ _ _ _ _ _ _ _ _ _)
                go_simp
                exact ⟨⟨trivial, ⟨rowL_setRow_same _ _ _ hat.1, rowAt_setRow_L _ _ _ hat.1⟩⟩, Keep.mine1 x9 z2 _⟩
              · go_simp
            · intro us x1 hk hw hI9
              simp only [owed, Fx] at hw
              obtain ⟨e0, e1, e2, e3, e4, e5, e6, e7, e8, e9, e10, -⟩ := hw
              simp only [List.length_cons, List.length_nil, List.take_succ_cons, List.take_zero, List.drop_succ_cons, List.drop_zero, asg, List.cons_append, List.nil_append, e0, e1, e2, e3, e4, e5, e6, e7, e8, e10]
              clear e0 e1 e2 e3 e4 e5 e6 e7 e8 e10 e9
              have HX : Hid (RowC x1 z2 (rpA 0 (.slice none 0 0) (.slice none 0 0) (.slice none 0 0))) := hI9
              have Y4 : Hid (Below w.heap.size w x1) := below_kg HB.out hk (by have := ZZ.out; omega) (Nat.le_refl _)
              clear out rs hI HB hI9 hk kc2 kc3
              go_wp2
              refine rp_ret3 2 3 4 z2 _ rfl rfl rfl HX.out rfl ⟨Y4.out, ?_⟩
              have hg := getRs_is b
              cases hm : getM b with
              | ok r =>
                rw [hm] at hg
                exfalso
                have h9 := hg.2
                rw [HSS.out] at h9
                exact HEE.out h9
              | error p =>
                obtain ⟨a, cd⟩ := p
                rw [hm] at hg
                have h9 := hg.2
                rw [HSS.out] at h9
                have e1 : ee = cd := congrArg Prod.fst h9
                have e2 : bad = a := congrArg Prod.snd h9
                rw [← e1, ← e2]
                rfl
        · obtain ⟨ee, hee0⟩ : ∃ z : Nat, z = e7 := ⟨_, rfl⟩
          obtain ⟨bad, hbad0⟩ : ∃ z : Nat, z = d7 := ⟨_, rfl⟩
          have h7' : ¬ ((e7 : Nat) : Int) = 0 := by omega
          have HSS : Hid ((getRs b).2.2 = (ee, bad)) := by
            show _ = _
            have e8 : smS b (i6, e6, d6) = (i7, e7, d7) := by
              unfold smS
              simp only [HSM.out]
              rw [if_neg (fun h9 => h7 h9.1)]
            rw [HGS.out, e8, rsS_no (S := (i7, e7, d7)) h7, hee0, hbad0]
          have HEE : Hid (ee ≠ 0) := by show _ ≠ _; rw [hee0]; exact h7
          subst hee0 hbad0
          clear c2
          have c2 : X4.cell? ⟨g, 2, none⟩ = some (.int .i64 (ee : Int)) := by rw [hI.row.cell]; rfl
          have hgz : g ∉ [z2] := by have := ZZ.out; simp; omega
          have kc2 : ∀ y, Keep [z2] X4 y → y.cell? ⟨g, 2, none⟩ = some (.int .i64 (ee : Int)) := fun y hy => by rw [(hI.row.keepsF hy hgz).cell]; rfl
          have kc3 : ∀ y, Keep [z2] X4 y → y.cell? ⟨g, 3, none⟩ = some (.int .i64 (bad : Int)) := fun y hy => by rw [(hI.row.keepsF hy hgz).cell]; rfl
          have hee : ¬ ((ee : Nat) : Int) = 0 := by have := HEE.out; omega
          have hee2 : (((ee : Nat) : Int) != 0) = true := by simpa using hee
          go_upto_region 18 with fail
          clear hee hee2 c2
          refine wp_reliesI (⟨Keep.of_below, Keep.trans⟩ : KOk (Keep [z2])) (fun _ y => RowC y z2 (rpA 0 (.slice none 0 0) (.slice none 0 0) (.slice none 0 0))) [9] [none, none, none, none, none, none, none, none, none, some (0, [], []), none] [Fx (.agg (rpA 0 (.slice none 0 0) (.slice none 0 0) (.slice none 0 0))), Fx (.pointer (some ⟨g, 0, none⟩)), Fx (.pointer (some ⟨g, 0, none⟩)), Fx (.pointer (some ⟨g, 3, none⟩)), Fx (.int .i64 (bad : Int)), Fx (.pointer (some ⟨g, 0, none⟩)), Fx (.pointer (some ⟨g, 0, none⟩)), Fx (.pointer (some ⟨g, 2, none⟩)), Fx (.int .i64 (ee : Int)), (fun _ _ => True), Fx (.int .i64 (bad : Int))] rfl (by decide) rfl (by kernel_rfl) (by kernel_rfl) (by kernel_rfl) rs (fun _ _ _ h9 hb => h9.kept hb) ?_ ?_ ?_ ?_
          · repeat' (first | exact all_nil | apply all_cons)
            all_goals intro v y y' hv hb
            all_goals first | exact Fx_mono _ _ _ _ hv hb | exact trivial
          · intro i9 f9 hf9 hl9 v y y' hv hb
            rcases i9 with _ | i9
            · first | (cases hl9; done) | (cases hf9; first | exact hv | exact trivial)
            rcases i9 with _ | i9
            · first | (cases hl9; done) | (cases hf9; first | exact hv | exact trivial)
            rcases i9 with _ | i9
            · first | (cases hl9; done) | (cases hf9; first | exact hv | exact trivial)
            rcases i9 with _ | i9
            · first | (cases hl9; done) | (cases hf9; first | exact hv | exact trivial)
            rcases i9 with _ | i9
            · first | (cases hl9; done) | (cases hf9; first | exact hv | exact trivial)
            rcases i9 with _ | i9
            · first | (cases hl9; done) | (cases hf9; first | exact hv | exact trivial)
            rcases i9 with _ | i9
            · first | (cases hl9; done) | (cases hf9; first | exact hv | exact trivial)
            rcases i9 with _ | i9
            · first | (cases hl9; done) | (cases hf9; first | exact hv | exact trivial)
            rcases i9 with _ | i9
            · first | (cases hl9; done) | (cases hf9; first | exact hv | exact trivial)
            rcases i9 with _ | i9
            · first | (cases hl9; done) | (cases hf9; first | exact hv | exact trivial)
            rcases i9 with _ | i9
            · first | (cases hl9; done) | (cases hf9; first | exact hv | exact trivial)
            · simp at hf9
          · refine ⟨?_, ?_, ?_, ?_, ?_, ?_, ?_, ?_, ?_, ?_, ?_, trivial⟩
            all_goals
              intro ρ x9 hk hat ρc ρg ρf ho hd
              have o5 : ρ (.tmp 5) = .pointer (some ⟨g, 0, none⟩) := ho 5 rfl
              have o2 : ρ (.tmp 2) = .pointer (some ⟨z2, 0, none⟩) := ho 2 rfl
              clear ho
              have c2 := kc2 x9 hk
              have c3 := kc3 x9 hk
              simp only [depsR, depR, slotR, Fx, List.getElem?_cons_succ, List.getElem?_cons_zero, Region.binds, forall_const] at hd
              simp only [guardR, List.contains_cons, List.contains_nil, List.elem_cons, List.elem_nil, Nat.reduceBEq, Bool.or_false, Bool.false_or, Bool.or_true, Bool.true_or, cond_true, cond_false]
              go_split_ands
            · go_simp
            · go_simp
            · go_simp
            · go_simp
            · go_simp
            · go_simp
            · go_simp
            · go_simp
            · go_simp
            · have hst := run_store_rp x9 z2 (rpA 0 (.slice none 0 0) (.slice none 0 0) (.slice none 0 0)) hat.1 (by rw [hat.2]; rfl) rfl (rpA_one _ _ _ _ _ _ _ _ _ _)
              go_simp
              exact ⟨⟨trivial, ⟨rowL_setRow_same _ _ _ hat.1, rowAt_setRow_L _ _ _ hat.1⟩⟩, Keep.mine1 x9 z2 _⟩
            · go_simp
          · intro us x1 hk hw hI9
            simp only [owed, Fx] at hw
            obtain ⟨e0, e1, e2, e3, e4, e5, e6, e7, e8, e9, e10, -⟩ := hw
            simp only [List.length_cons, List.length_nil, List.take_succ_cons, List.take_zero, List.drop_succ_cons, List.drop_zero, asg, List.cons_append, List.nil_append, e0, e1, e2, e3, e4, e5, e6, e7, e8, e10]
            clear e0 e1 e2 e3 e4 e5 e6 e7 e8 e10 e9
            have HX : Hid (RowC x1 z2 (rpA 0 (.slice none 0 0) (.slice none 0 0) (.slice none 0 0))) := hI9
            have Y4 : Hid (Below w.heap.size w x1) := below_kg HB.out hk (by have := ZZ.out; omega) (Nat.le_refl _)
            clear out rs hI HB hI9 hk kc2 kc3
            go_wp2
            refine rp_ret3 2 3 4 z2 _ rfl rfl rfl HX.out rfl ⟨Y4.out, ?_⟩
            have hg := getRs_is b
            cases hm : getM b with
            | ok r =>
              rw [hm] at hg
              exfalso
              have h9 := hg.2
              rw [HSS.out] at h9
              exact HEE.out h9
            | error p =>
              obtain ⟨a, cd⟩ := p
              rw [hm] at hg
              have h9 := hg.2
              rw [HSS.out] at h9
              have e1 : ee = cd := congrArg Prod.fst h9
              have e2 : bad = a := congrArg Prod.snd h9
              rw [← e1, ← e2]
              rfl
  · have HT3 : Hid (¬ t3 = headB) := h3
    have h3' : (t3 == [65, 82, 1]) = false := beq_eq_false_iff_ne.2 h3
    have hFd := refFail22 w1 g x n c b S1 11 0 hI
    clear h3
    go_wp2_with fail
    refine hFd.mono ?_
    rintro e w2 ⟨rfl, hI9, k9⟩
    have rs := rs1.keepsF k9 (by have := ZG.out; simp; omega)
    have HB : Hid (Below w.heap.size w w2) := below_kg HB1.out k9 (by have := ZG.out; omega) (Nat.le_refl _)
    have cb9 : w2.cell? ⟨gb, o + 3, none⟩ = some (.int .u8 (z : Int)) := by
      have hne : gb ∉ [g] := by have := hyf _ rfl; simpa using this
      unfold World.cell? at cb0 ⊢
      rw [k9.block gb hgb hne]
      exact cb0
    clear hFd hI rs1 HB1 k9 cb0 hst h3'
    have hI := hI9
    have cb0 := cb9
    clear hI9 cb9
    have hst1 := hst0
    have st9 := run_store_rp (w2.alloc (.cells (rpA 0 (.slice none 0 0) (.slice none 0 0) (.slice none 0 0)) 32)) w2.heap.size (rpA st (.slice none 0 0) (.slice none 0 0) (.slice none 0 0)) (RowC.new w2 _ _).1 (by rw [(RowC.new w2 _ _).2]; rfl) rfl (rpA_one _ _ _ _ _ _ _ _ _ _)
    have bZ := below_alloc w2 (.cells (rpA st (.slice none 0 0) (.slice none 0 0) (.slice none 0 0)) 32)
    have out9 := RowC.new w2 (rpA st (.slice none 0 0) (.slice none 0 0) (.slice none 0 0)) 32
    have rs9 := rs.kept bZ
    have hI9 := hI.later bZ
    have HB9 : Hid (Below w.heap.size w (w2.alloc (.cells (rpA st (.slice none 0 0) (.slice none 0 0) (.slice none 0 0)) 32))) := HB.out.trans (bZ.mono HB.out.size)
    have ZZ9 : Hid (z2 = w.heap.size ∧ g = w.heap.size + 1 ∧ g < w2.heap.size ∧ z2 ≠ g ∧ z2 ≠ w2.heap.size ∧ w.heap.size ≤ w2.heap.size) := ⟨ZG.out.1, ZG.out.2, hI.row.lt, by have := ZG.out; omega, by have := rs.lt; omega, HB.out.size⟩
    clear hI rs HB bZ
    go_upto_region 6 with fail
    clear st9 cb0
    obtain ⟨zo, hzo⟩ : ∃ z, w2.heap.size = z := ⟨_, rfl⟩
    rw [hzo] at out9 ZZ9
    try simp only [hzo]
    generalize w2.alloc (.cells (rpA st (.slice none 0 0) (.slice none 0 0) (.slice none 0 0)) 32) = W2 at out9 rs9 hI9 HB9 ⊢
    clear hzo hst1
    have out := out9
    have rs := rs9
    have hI := hI9
    have HB := HB9
    have ZZ := ZZ9
    clear out9 rs9 hI9 HB9 ZZ9
    have cst : W2.cell? ⟨zo, 0, none⟩ = some (.int .i64 st) := by rw [out.cell]; rfl
    cases hok : okSt st
    · obtain ⟨S3, hS3⟩ : ∃ z, failS 1 3 (failS 11 0 S1) = z := ⟨_, rfl⟩
      have HS3 : Hid (hdS b = S3) := by
        show _ = _
        unfold hdS
        simp only [H4.out, HH3.out, if_neg HT3.out]
        rw [HZS.out, hok]
        exact hS3
      have hsi : ¬ st = 1 ∧ ¬ st = 2 := ⟨(fun h9 => by rw [h9] at hok; cases hok), (fun h9 => by rw [h9] at hok; cases hok)⟩
      have q1 : (st != 1) = true := by simp [hsi.1]
      have q2 : (st != 2) = true := by simp [hsi.2]
      have hFc := refFail22 W2 g x n c b (failS 11 0 S1) 1 3 hI
      rw [hS3] at hFc
      clear hok hsi hS3
      go_wp2_with fail
      refine hFc.mono ?_
      rintro e W4 ⟨rfl, hI9, k9⟩
      clear hFc cst q1 q2
      have out9 := out.keepsF k9 (by have := ZZ.out; simp; omega)
      have rs9 := rs.keepsF k9 (by have := ZZ.out; simp; omega)
      have HB9 : Hid (Below w.heap.size w W4) := below_kg HB.out k9 (by have := ZZ.out; omega) (Nat.le_refl _)
      clear out rs hI HB k9
      have out := out9
      have rs := rs9
      have hI := hI9
      have HB := HB9
      clear out9 rs9 hI9 HB9
      have hF := refFindings22 W4 g x n c b S3 hI
      go_wp2_with fail
      refine hF.mono ?_
      rintro e u1 ⟨v1, rfl, O1, hI9, k9⟩
      clear hF
      obtain ⟨xa, ca, hv⟩ := (O1.isK fdE_ok).len
      obtain ⟨na, hnn⟩ : ∃ z, (listS (bdF b) b S3).1.length = z := ⟨_, rfl⟩
      rw [hnn] at hv
      subst hv
      have out9 := out.keepsF k9 (by have := ZZ.out; simp; omega)
      have rs9 := rs.keepsF k9 (by have := ZZ.out; simp; omega)
      have zc : u1.cell? ⟨zo, 1, none⟩ = some (.slice none 0 0) := by rw [out9.cell]; rfl
      have fz := out9.frozen 1
      have kz := Keep.cell1 u1 zo 1 (.slice xa na ca)
      have qo : RowC (u1.setCell ⟨zo, 1, none⟩ (.slice xa na ca)) zo (rpA st (.slice xa na ca) (.slice none 0 0) (.slice none 0 0)) := out9.set 1 _
      have qs := rs9.keepsF kz (by have := ZZ.out; simp; omega)
      have qI := hI9.keepZ kz (by have := ZZ.out; omega)
      have lto := out.lt
      have HB9 : Hid (Below w.heap.size w (u1.setCell ⟨zo, 1, none⟩ (.slice xa na ca))) := (below_kg HB.out k9 (by have := ZZ.out; omega) (Nat.le_refl _)).setCell (by show w.heap.size ≤ zo; have := ZZ.out; omega) _
      have P1 : Hid (OwnK fdE (u1.setCell ⟨zo, 1, none⟩ (.slice xa na ca)) w.heap.size (.slice xa na ca) (listS (bdF b) b S3).1 ∧ ∀ z, (.slice xa na ca : Value).ownBlock = some z → z ≠ g ∧ z ≠ zo ∧ z ≠ z2) := by
        have hlt : ∀ z, (.slice xa na ca : Value).ownBlock = some z → W4.heap.size ≤ z := fun z hz => (World.ownsRow.lt O1 z hz).1
        refine ⟨OwnK.le (OwnK.keeps O1 kz (fun z hz => by have := hlt z hz; simp; omega)) HB.out.size, fun z hz => by have := hlt z hz; have := ZZ.out; have h1 := hI.row.lt; have h2 := rs.lt; omega⟩
      clear O1 hI9 k9 out9 rs9 kz lto hI out rs HB hnn
      go_upto_region 9 with fail
      clear zc fz
      generalize u1.setCell ⟨zo, 1, none⟩ (.slice xa na ca) = X1 at qo qs qI HB9 P1  ⊢
      have out := qo
      have rs := qs
      have hI := qI
      have HB := HB9
      clear qo qs qI HB9
      obtain ⟨S4, hS4⟩ : ∃ z, (listS (bdF b) b S3).2 = z := ⟨_, rfl⟩
      have HS4 : Hid _ := hS4
      rw [hS4] at hI
      clear hS4
      have hF := refFetch22 X1 g x n c b S4 hI
      go_wp2_with fail
      refine hF.mono ?_
      rintro e u2 ⟨v2, rfl, O2, hI9, k9⟩
      clear hF
      obtain ⟨xb, cb, hv⟩ := (O2.isK dgE_ok).len
      obtain ⟨nb, hnn⟩ : ∃ z, (listS (bdD b) b S4).1.length = z := ⟨_, rfl⟩
      rw [hnn] at hv
      subst hv
      have out9 := out.keepsF k9 (by have := ZZ.out; simp; omega)
      have rs9 := rs.keepsF k9 (by have := ZZ.out; simp; omega)
      have zc : u2.cell? ⟨zo, 2, none⟩ = some (.slice none 0 0) := by rw [out9.cell]; rfl
      have fz := out9.frozen 2
      have kz := Keep.cell1 u2 zo 2 (.slice xb nb cb)
      have qo : RowC (u2.setCell ⟨zo, 2, none⟩ (.slice xb nb cb)) zo (rpA st (.slice xa na ca) (.slice xb nb cb) (.slice none 0 0)) := out9.set 2 _
      have qs := rs9.keepsF kz (by have := ZZ.out; simp; omega)
      have qI := hI9.keepZ kz (by have := ZZ.out; omega)
      have lto := out.lt
      have HB9 : Hid (Below w.heap.size w (u2.setCell ⟨zo, 2, none⟩ (.slice xb nb cb))) := (below_kg HB.out k9 (by have := ZZ.out; omega) (Nat.le_refl _)).setCell (by show w.heap.size ≤ zo; have := ZZ.out; omega) _
      have P2 : Hid (OwnK dgE (u2.setCell ⟨zo, 2, none⟩ (.slice xb nb cb)) w.heap.size (.slice xb nb cb) (listS (bdD b) b S4).1 ∧ ∀ z, (.slice xb nb cb : Value).ownBlock = some z → z ≠ g ∧ z ≠ zo ∧ z ≠ z2) := by
        have hlt : ∀ z, (.slice xb nb cb : Value).ownBlock = some z → X1.heap.size ≤ z := fun z hz => (World.ownsRow.lt O2 z hz).1
        refine ⟨OwnK.le (OwnK.keeps O2 kz (fun z hz => by have := hlt z hz; simp; omega)) HB.out.size, fun z hz => by have := hlt z hz; have := ZZ.out; have h1 := hI.row.lt; have h2 := rs.lt; omega⟩
      have P1' : Hid (OwnK fdE (u2.setCell ⟨zo, 2, none⟩ (.slice xb nb cb)) w.heap.size (.slice xa na ca) (listS (bdF b) b S3).1 ∧ ∀ z, (.slice xa na ca : Value).ownBlock = some z → z ≠ g ∧ z ≠ zo ∧ z ≠ z2) := ⟨OwnK.keeps (OwnK.keeps P1.out.1 k9 (fun z hz => by have := (P1.out.2 z hz).1; simpa using this)) kz (fun z hz => by have := (P1.out.2 z hz).2.1; simpa using this), P1.out.2⟩
      clear P1
      clear O2 hI9 k9 out9 rs9 kz lto hI out rs HB hnn
      go_upto_region 10 with fail
      clear zc fz
      generalize u2.setCell ⟨zo, 2, none⟩ (.slice xb nb cb) = X2 at qo qs qI HB9 P2 P1' ⊢
      have out := qo
      have rs := qs
      have hI := qI
      have HB := HB9
      clear qo qs qI HB9
      have P1 := P1'
      clear P1'
      obtain ⟨S5, hS5⟩ : ∃ z, (listS (bdD b) b S4).2 = z := ⟨_, rfl⟩
      have HS5 : Hid _ := hS5
      rw [hS5] at hI
      clear hS5
      have hF := refDropped22 X2 g x n c b S5 hI
      go_wp2_with fail
      refine hF.mono ?_
      rintro e u3 ⟨v3, rfl, O3, hI9, k9⟩
      clear hF
      obtain ⟨xc, cc, hv⟩ := (OwnG.isG O3).len
      obtain ⟨nc, hnn⟩ : ∃ z, (inV (listS (bdI b) b S5).1).length = z := ⟨_, rfl⟩
      rw [hnn] at hv
      subst hv
      have out9 := out.keepsF k9 (by have := ZZ.out; simp; omega)
      have rs9 := rs.keepsF k9 (by have := ZZ.out; simp; omega)
      have zc : u3.cell? ⟨zo, 3, none⟩ = some (.slice none 0 0) := by rw [out9.cell]; rfl
      have fz := out9.frozen 3
      have kz := Keep.cell1 u3 zo 3 (.slice xc nc cc)
      have qo : RowC (u3.setCell ⟨zo, 3, none⟩ (.slice xc nc cc)) zo (rpA st (.slice xa na ca) (.slice xb nb cb) (.slice xc nc cc)) := out9.set 3 _
      have qs := rs9.keepsF kz (by have := ZZ.out; simp; omega)
      have qI := hI9.keepZ kz (by have := ZZ.out; omega)
      have lto := out.lt
      have HB9 : Hid (Below w.heap.size w (u3.setCell ⟨zo, 3, none⟩ (.slice xc nc cc))) := (below_kg HB.out k9 (by have := ZZ.out; omega) (Nat.le_refl _)).setCell (by show w.heap.size ≤ zo; have := ZZ.out; omega) _
      have P3 : Hid (OwnI (u3.setCell ⟨zo, 3, none⟩ (.slice xc nc cc)) w.heap.size (.slice xc nc cc) (listS (bdI b) b S5).1 ∧ ∀ z, (.slice xc nc cc : Value).ownBlock = some z → z ≠ g ∧ z ≠ zo ∧ z ≠ z2) := by
        have hlt : ∀ z, (.slice xc nc cc : Value).ownBlock = some z → X2.heap.size ≤ z := fun z hz => (World.ownsRow.lt O3 z hz).1
        refine ⟨OwnG.le (OwnG.keepsF O3 kz (fun z hz => by have := hlt z hz; simp; omega)) HB.out.size, fun z hz => by have := hlt z hz; have := ZZ.out; have h1 := hI.row.lt; have h2 := rs.lt; omega⟩
      have P1' : Hid (OwnK fdE (u3.setCell ⟨zo, 3, none⟩ (.slice xc nc cc)) w.heap.size (.slice xa na ca) (listS (bdF b) b S3).1 ∧ ∀ z, (.slice xa na ca : Value).ownBlock = some z → z ≠ g ∧ z ≠ zo ∧ z ≠ z2) := ⟨OwnK.keeps (OwnK.keeps P1.out.1 k9 (fun z hz => by have := (P1.out.2 z hz).1; simpa using this)) kz (fun z hz => by have := (P1.out.2 z hz).2.1; simpa using this), P1.out.2⟩
      clear P1
      have P2' : Hid (OwnK dgE (u3.setCell ⟨zo, 3, none⟩ (.slice xc nc cc)) w.heap.size (.slice xb nb cb) (listS (bdD b) b S4).1 ∧ ∀ z, (.slice xb nb cb : Value).ownBlock = some z → z ≠ g ∧ z ≠ zo ∧ z ≠ z2) := ⟨OwnK.keeps (OwnK.keeps P2.out.1 k9 (fun z hz => by have := (P2.out.2 z hz).1; simpa using this)) kz (fun z hz => by have := (P2.out.2 z hz).2.1; simpa using this), P2.out.2⟩
      clear P2
      clear O3 hI9 k9 out9 rs9 kz lto hI out rs HB hnn
      go_upto_region 11 with fail
      clear zc fz
      generalize u3.setCell ⟨zo, 3, none⟩ (.slice xc nc cc) = X3 at qo qs qI HB9 P3 P1' P2' ⊢
      have out := qo
      have rs := qs
      have hI := qI
      have HB := HB9
      clear qo qs qI HB9
      have P1 := P1'
      clear P1'
      have P2 := P2'
      clear P2'
      obtain ⟨S6, hS6⟩ : ∃ z, (listS (bdI b) b S5).2 = z := ⟨_, rfl⟩
      have HS6 : Hid _ := hS6
      rw [hS6] at hI
      clear hS6
      have HFS : Hid ((getRs b).1.st = st ∧ (getRs b).1.fs = (listS (bdF b) b S3).1 ∧ (getRs b).1.ds = (listS (bdD b) b S4).1 ∧ (getRs b).1.dr = (listS (bdI b) b S5).1) := by
        unfold getRs
        simp only [HS3.out, HS4.out, HS5.out]
        refine ⟨HST.out, ?_, ?_, ?_⟩ <;> first | trivial | rfl
      have HGS : Hid ((getRs b).2 = rsS b (smS b S6)) := by
        show _ = _
        unfold getRs
        simp only [HS3.out, HS4.out, HS5.out, HS6.out]
      obtain ⟨i6, e6, d6⟩ := S6
      obtain ⟨sm, S7, hsm⟩ : ∃ sm S7, numS 4 b (i6, e6, d6) = (sm, S7) := ⟨_, _, rfl⟩
      have hsl := numS_lt 4 b (i6, e6, d6)
      rw [hsm] at hsl
      have HSM : Hid _ := hsm
      have HI6 : Hid (i6 ≤ n) := hI.le
      have c1 : X3.cell? ⟨g, 1, none⟩ = some (.int .i64 (i6 : Int)) := by rw [hI.row.cell]; rfl
      have hNb := refNumber22 X3 g x n c b (i6, e6, d6) 4 (by omega) hI
      rw [hsm] at hNb
      clear hsm
      go_wp2_with fail
      refine hNb.mono ?_
      rintro e X4 ⟨rfl, hI9, k9⟩
      clear hNb
      have out9 := out.keepsF k9 (by have := ZZ.out; simp; omega)
      have rs9 := rs.keepsF k9 (by have := ZZ.out; simp; omega)
      have HB9 : Hid (Below w.heap.size w X4) := below_kg HB.out k9 (by have := ZZ.out; omega) (Nat.le_refl _)
      have P1' : Hid (OwnK fdE X4 w.heap.size (.slice xa na ca) (listS (bdF b) b S3).1 ∧ _) := ⟨OwnK.keeps P1.out.1 k9 (fun z hz => by have := (P1.out.2 z hz).1; simpa using this), P1.out.2⟩
      have P2' : Hid (OwnK dgE X4 w.heap.size (.slice xb nb cb) (listS (bdD b) b S4).1 ∧ _) := ⟨OwnK.keeps P2.out.1 k9 (fun z hz => by have := (P2.out.2 z hz).1; simpa using this), P2.out.2⟩
      have P3' : Hid (OwnI X4 w.heap.size (.slice xc nc cc) (listS (bdI b) b S5).1 ∧ _) := ⟨OwnG.keepsF P3.out.1 k9 (fun z hz => by have := (P3.out.2 z hz).1; simpa using this), P3.out.2⟩
      clear hI out rs HB P1 P2 P3
      have hI := hI9
      have out := out9
      have rs := rs9
      have HB := HB9
      have P1 := P1'
      have P2 := P2'
      have P3 := P3'
      clear hI9 out9 rs9 HB9 P1' P2' P3' k9
      clear c1
      obtain ⟨i7, e7, d7⟩ := S7
      have c2 : X4.cell? ⟨g, 2, none⟩ = some (.int .i64 (e7 : Int)) := by rw [hI.row.cell]; rfl
      by_cases h7 : e7 = 0
      · subst h7
        have hfr := hI.isb.front9 i6 (by have := HI6.out; have := hI.len; omega)
        have i6c : (i6 : Int) ≤ (c : Int) := by have := HI6.out; have := hI.cap; omega
        have i60 : (0 : Int) ≤ (i6 : Int) := by omega
        have hCr := refCrc22 (.slice x i6 c) (b.take i6) X4 (by unfold maxLen; have := HI6.out; have := hI.small; rw [List.length_take]; omega) hfr
        have cm : ((sm : Nat) : Int) % 4294967296 = (sm : Int) := by omega
        obtain ⟨cr, hcr⟩ : ∃ z, (sumL (b.take i6)).toNat = z := ⟨_, rfl⟩
        rw [hcr] at hCr
        have HCR : Hid _ := hcr
        clear hcr hfr
        go_wp2_with fail
        refine hCr.mono ?_
        rintro e X5 ⟨rfl, rfl⟩
        clear hCr
        by_cases hne : sm = cr
        · have HS8 : Hid (smS b (i6, e6, d6) = (i7, 0, d7)) := by
            show _ = _
            unfold smS
            simp only [HSM.out]
            rw [if_neg (fun h9 => h9.2 (by rw [HCR.out]; exact hne))]
          have c1 : X5.cell? ⟨g, 1, none⟩ = some (.int .i64 (i7 : Int)) := by rw [hI.row.cell]; rfl
          subst hne
          have q2 : (((sm : Nat) : Int) != (sm : Int)) = false := by simp
          by_cases hl7 : i7 < n
          · have l7 : (i7 : Int) < (n : Int) := by omega
            obtain ⟨ee, hee0⟩ : ∃ z : Nat, z = 14 := ⟨_, rfl⟩
            obtain ⟨bad, hbad0⟩ : ∃ z : Nat, z = i7 := ⟨_, rfl⟩
            have HSS : Hid ((getRs b).2.2 = (ee, bad)) := by
              show _ = _
              rw [HGS.out, HS8.out]
              unfold rsS
              rw [if_pos ⟨rfl, by have := hI.len; simp only; omega⟩, hee0, hbad0]
              rfl
            have HEE : Hid (ee ≠ 0) := by show _ ≠ _; omega
            have hFb := refFail22 X5 g x n c b (i7, 0, d7) 14 i7 hI
            go_wp2_with fail
            refine hFb.mono ?_
            rintro e X6 ⟨rfl, hI9, k9⟩
            clear hFb
            have out9 := out.keepsF k9 (by have := ZZ.out; simp; omega)
            have rs9 := rs.keepsF k9 (by have := ZZ.out; simp; omega)
            have HB9 : Hid (Below w.heap.size w X6) := below_kg HB.out k9 (by have := ZZ.out; omega) (Nat.le_refl _)
            have P1' : Hid (OwnK fdE X6 w.heap.size (.slice xa na ca) (listS (bdF b) b S3).1 ∧ _) := ⟨OwnK.keeps P1.out.1 k9 (fun z hz => by have := (P1.out.2 z hz).1; simpa using this), P1.out.2⟩
            have P2' : Hid (OwnK dgE X6 w.heap.size (.slice xb nb cb) (listS (bdD b) b S4).1 ∧ _) := ⟨OwnK.keeps P2.out.1 k9 (fun z hz => by have := (P2.out.2 z hz).1; simpa using this), P2.out.2⟩
            have P3' : Hid (OwnI X6 w.heap.size (.slice xc nc cc) (listS (bdI b) b S5).1 ∧ _) := ⟨OwnG.keepsF P3.out.1 k9 (fun z hz => by have := (P3.out.2 z hz).1; simpa using this), P3.out.2⟩
            clear hI out rs HB P1 P2 P3
            have hI := hI9
            have out := out9
            have rs := rs9
            have HB := HB9
            have P1 := P1'
            have P2 := P2'
            have P3 := P3'
            clear hI9 out9 rs9 HB9 P1' P2' P3' k9
            clear c1 c2 l7
            have c2 : X6.cell? ⟨g, 2, none⟩ = some (.int .i64 (ee : Int)) := by rw [hI.row.cell, hee0]; rfl
            have hgz : g ∉ [z2] := by have := ZZ.out; simp; omega
            have kc2 : ∀ y, Keep [z2] X6 y → y.cell? ⟨g, 2, none⟩ = some (.int .i64 (ee : Int)) := fun y hy => by rw [(hI.row.keepsF hy hgz).cell, hee0]; rfl
            have kc3 : ∀ y, Keep [z2] X6 y → y.cell? ⟨g, 3, none⟩ = some (.int .i64 (bad : Int)) := fun y hy => by rw [(hI.row.keepsF hy hgz).cell, hbad0]; rfl
            have hee : ¬ ((ee : Nat) : Int) = 0 := by have := HEE.out; omega
            have hee2 : (((ee : Nat) : Int) != 0) = true := by simpa using hee
            go_upto_region 18 with fail
            clear hee hee2 c2
            refine wp_reliesI (⟨Keep.of_below, Keep.trans⟩ : KOk (Keep [z2])) (fun _ y => RowC y z2 (rpA 0 (.slice none 0 0) (.slice none 0 0) (.slice none 0 0))) [9] [none, none, none, none, none, none, none, none, none, some (0, [], []), none] [Fx (.agg (rpA 0 (.slice none 0 0) (.slice none 0 0) (.slice none 0 0))), Fx (.pointer (some ⟨g, 0, none⟩)), Fx (.pointer (some ⟨g, 0, none⟩)), Fx (.pointer (some ⟨g, 3, none⟩)), Fx (.int .i64 (bad : Int)), Fx (.pointer (some ⟨g, 0, none⟩)), Fx (.pointer (some ⟨g, 0, none⟩)), Fx (.pointer (some ⟨g, 2, none⟩)), Fx (.int .i64 (ee : Int)), (fun _ _ => True), Fx (.int .i64 (bad : Int))] rfl (by decide) rfl (by kernel_rfl) (by kernel_rfl) (by kernel_rfl) rs (fun _ _ _ h9 hb => h9.kept hb) ?_ ?_ ?_ ?_
            · repeat' (first | exact all_nil | apply all_cons)
              all_goals intro v y y' hv hb
              all_goals first | exact Fx_mono _ _ _ _ hv hb | exact trivial
            · intro i9 f9 hf9 hl9 v y y' hv hb
              rcases i9 with _ | i9
              · first | (cases hl9; done) | (cases hf9; first | exact hv | exact trivial)
              rcases i9 with _ | i9
              · first | (cases hl9; done) | (cases hf9; first | exact hv | exact trivial)
              rcases i9 with _ | i9
              · first | (cases hl9; done) | (cases hf9; first | exact hv | exact trivial)
              rcases i9 with _ | i9
              · first | (cases hl9; done) | (cases hf9; first | exact hv | exact trivial)
              rcases i9 with _ | i9
              · first | (cases hl9; done) | (cases hf9; first | exact hv | exact trivial)
              rcases i9 with _ | i9
              · first | (cases hl9; done) | (cases hf9; first | exact hv | exact trivial)
              rcases i9 with _ | i9
              · first | (cases hl9; done) | (cases hf9; first | exact hv | exact trivial)
              rcases i9 with _ | i9
              · first | (cases hl9; done) | (cases hf9; first | exact hv | exact trivial)
              rcases i9 with _ | i9
              · first | (cases hl9; done) | (cases hf9; first | exact hv | exact trivial)
              rcases i9 with _ | i9
              · first | (cases hl9; done) | (cases hf9; first | exact hv | exact trivial)
              rcases i9 with _ | i9
              · first | (cases hl9; done) | (cases hf9; first | exact hv | exact trivial)
              · simp at hf9
            · refine ⟨?_, ?_, ?_, ?_, ?_, ?_, ?_, ?_, ?_, ?_, ?_, trivial⟩
              all_goals
                intro ρ x9 hk hat ρc ρg ρf ho hd
                have o5 : ρ (.tmp 5) = .pointer (some ⟨g, 0, none⟩) := ho 5 rfl
                have o2 : ρ (.tmp 2) = .pointer (some ⟨z2, 0, none⟩) := ho 2 rfl
                clear ho
                have c2 := kc2 x9 hk
                have c3 := kc3 x9 hk
                simp only [depsR, depR, slotR, Fx, List.getElem?_cons_succ, List.getElem?_cons_zero, Region.binds, forall_const] at hd
                simp only [guardR, List.contains_cons, List.contains_nil, List.elem_cons, List.elem_nil, Nat.reduceBEq, Bool.or_false, Bool.false_or, Bool.or_true, Bool.true_or, cond_true, cond_false]
                go_split_ands
              · go_simp
              · go_simp
              · go_simp
              · go_simp
              · go_simp
              · go_simp
              · go_simp
              · go_simp
              · go_simp
              · have hst := run_store_rp x9 z2 (rpA 0 (.slice none 0 0) (.slice none 0 0) (.slice none 0 0)) hat.1 (by rw [hat.2]; rfl) rfl (rpA_one _ _ _ _ _ _ _ _ _ _)
                go_simp
                exact ⟨⟨trivial, ⟨rowL_setRow_same _ _ _ hat.1, rowAt_setRow_L _ _ _ hat.1⟩⟩, Keep.mine1 x9 z2 _⟩
              · go_simp
            · intro us x1 hk hw hI9
              simp only [owed, Fx] at hw
              obtain ⟨e0, e1, e2, e3, e4, e5, e6, e7, e8, e9, e10, -⟩ := hw
              simp only [List.length_cons, List.length_nil, List.take_succ_cons, List.take_zero, List.drop_succ_cons, List.drop_zero, asg, List.cons_append, List.nil_append, e0, e1, e2, e3, e4, e5, e6, e7, e8, e10]
              clear e0 e1 e2 e3 e4 e5 e6 e7 e8 e10 e9
              have HX : Hid (RowC x1 z2 (rpA 0 (.slice none 0 0) (.slice none 0 0) (.slice none 0 0))) := hI9
              have Y4 : Hid (Below w.heap.size w x1) := below_kg HB.out hk (by have := ZZ.out; omega) (Nat.le_refl _)
              clear out rs hI HB hI9 hk kc2 kc3
              go_wp2
              refine rp_ret3 2 3 4 z2 _ rfl rfl rfl HX.out rfl ⟨Y4.out, ?_⟩
              have hg := getRs_is b
              cases hm : getM b with
              | ok r =>
                rw [hm] at hg
                exfalso
                have h9 := hg.2
                rw [HSS.out] at h9
                exact HEE.out h9
              | error p =>
                obtain ⟨a, cd⟩ := p
                rw [hm] at hg
                have h9 := hg.2
                rw [HSS.out] at h9
                have e1 : ee = cd := congrArg Prod.fst h9
                have e2 : bad = a := congrArg Prod.snd h9
                rw [← e1, ← e2]
                rfl
          · have l7 : ¬ (i7 : Int) < (n : Int) := by omega
            have HEZ : Hid ((getRs b).2.2.1 = 0) := by
              show _ = _
              rw [HGS.out, HS8.out]
              unfold rsS
              rw [if_neg (fun h9 => by have h8 := h9.2; have := hI.len; simp only at h8; omega)]
            have ld := run_load_rp X5 zo out.1 (by rw [out.2]; rfl)
            rw [out.2] at ld
            have st9 := run_store_rp X5 z2 (rpA st (.slice xa na ca) (.slice xb nb cb) (.slice xc nc cc)) rs.1 (by rw [rs.2]; rfl) rfl (rpA_one _ _ _ _ _ _ _ _ _ _)
            have HX : Hid (RowC (X5.setRow z2 (rpA st (.slice xa na ca) (.slice xb nb cb) (.slice xc nc cc))) z2 (rpA st (.slice xa na ca) (.slice xb nb cb) (.slice xc nc cc))) := ⟨rowL_setRow_same _ _ _ rs.1, rowAt_setRow_L _ _ _ rs.1⟩
            have kr := Keep.mine1 X5 z2 (rpA st (.slice xa na ca) (.slice xb nb cb) (.slice xc nc cc))
            have Y1 : Hid (OwnK fdE (X5.setRow z2 (rpA st (.slice xa na ca) (.slice xb nb cb) (.slice xc nc cc))) w.heap.size (.slice xa na ca) (getRs b).1.fs) := by
              show OwnK _ _ _ _ _
              rw [HFS.out.2.1]
              exact OwnK.keeps P1.out.1 kr (fun z hz => by have := (P1.out.2 z hz).2.2; simpa using this)
            have Y2 : Hid (OwnK dgE (X5.setRow z2 (rpA st (.slice xa na ca) (.slice xb nb cb) (.slice xc nc cc))) w.heap.size (.slice xb nb cb) (getRs b).1.ds) := by
              show OwnK _ _ _ _ _
              rw [HFS.out.2.2.1]
              exact OwnK.keeps P2.out.1 kr (fun z hz => by have := (P2.out.2 z hz).2.2; simpa using this)
            have Y3 : Hid (OwnI (X5.setRow z2 (rpA st (.slice xa na ca) (.slice xb nb cb) (.slice xc nc cc))) w.heap.size (.slice xc nc cc) (getRs b).1.dr) := by
              show OwnI _ _ _ _
              rw [HFS.out.2.2.2]
              exact OwnG.keepsF P3.out.1 kr (fun z hz => by have := (P3.out.2 z hz).2.2; simpa using this)
            have Y4 : Hid (Below w.heap.size w (X5.setRow z2 (rpA st (.slice xa na ca) (.slice xb nb cb) (.slice xc nc cc)))) := below_row HB.out (by have := ZZ.out; omega) _
            clear out rs hI kr HB
            go_wp2
            refine rp_ret3 2 3 4 z2 _ rfl rfl rfl HX.out rfl ⟨Y4.out, ?_⟩
            have hg := getRs_is b
            cases hm : getM b with
            | ok r =>
              rw [hm] at hg
              obtain ⟨hg, -⟩ := hg
              subst hg
              have hst : (getRs b).1.st = st := HFS.out.1
              refine ⟨xa, na, ca, xb, nb, cb, xc, nc, cc, ?_, Y1.out, Y2.out, Y3.out⟩
              rw [hst]
              rfl
            | error p =>
              obtain ⟨a, cd⟩ := p
              rw [hm] at hg
              exfalso
              have h9 := hg.2
              have h8 := HEZ.out
              rw [h9] at h8
              exact hg.1 h8
        · have q1 : ¬ ((sm : Nat) : Int) = (cr : Int) := by omega
          have q2 : (((sm : Nat) : Int) != (cr : Int)) = true := bne_iff_ne.2 q1
          have HS8 : Hid (smS b (i6, e6, d6) = (i7, 12, i6)) := by
            show _ = _
            unfold smS
            simp only [HSM.out]
            rw [if_pos ⟨trivial, by rw [HCR.out]; exact hne⟩]
            rfl
          obtain ⟨ee, hee0⟩ : ∃ z : Nat, z = 12 := ⟨_, rfl⟩
          obtain ⟨bad, hbad0⟩ : ∃ z : Nat, z = i6 := ⟨_, rfl⟩
          have HSS : Hid ((getRs b).2.2 = (ee, bad)) := by
            show _ = _
            rw [HGS.out, HS8.out, rsS_no (by simp), hee0, hbad0]
          have HEE : Hid (ee ≠ 0) := by show _ ≠ _; omega
          have hFb := refFail22 X5 g x n c b (i7, 0, d7) 12 i6 hI
          clear hne
          go_wp2_with fail
          refine hFb.mono ?_
          rintro e X6 ⟨rfl, hI9, k9⟩
          clear hFb
          have out9 := out.keepsF k9 (by have := ZZ.out; simp; omega)
          have rs9 := rs.keepsF k9 (by have := ZZ.out; simp; omega)
          have HB9 : Hid (Below w.heap.size w X6) := below_kg HB.out k9 (by have := ZZ.out; omega) (Nat.le_refl _)
          have P1' : Hid (OwnK fdE X6 w.heap.size (.slice xa na ca) (listS (bdF b) b S3).1 ∧ _) := ⟨OwnK.keeps P1.out.1 k9 (fun z hz => by have := (P1.out.2 z hz).1; simpa using this), P1.out.2⟩
          have P2' : Hid (OwnK dgE X6 w.heap.size (.slice xb nb cb) (listS (bdD b) b S4).1 ∧ _) := ⟨OwnK.keeps P2.out.1 k9 (fun z hz => by have := (P2.out.2 z hz).1; simpa using this), P2.out.2⟩
          have P3' : Hid (OwnI X6 w.heap.size (.slice xc nc cc) (listS (bdI b) b S5).1 ∧ _) := ⟨OwnG.keepsF P3.out.1 k9 (fun z hz => by have := (P3.out.2 z hz).1; simpa using this), P3.out.2⟩
          clear hI out rs HB P1 P2 P3
          have hI := hI9
          have out := out9
          have rs := rs9
          have HB := HB9
          have P1 := P1'
          have P2 := P2'
          have P3 := P3'
          clear hI9 out9 rs9 HB9 P1' P2' P3' k9
          clear c2
          have c2 : X6.cell? ⟨g, 2, none⟩ = some (.int .i64 (ee : Int)) := by rw [hI.row.cell, hee0]; rfl
          have hgz : g ∉ [z2] := by have := ZZ.out; simp; omega
          have kc2 : ∀ y, Keep [z2] X6 y → y.cell? ⟨g, 2, none⟩ = some (.int .i64 (ee : Int)) := fun y hy => by rw [(hI.row.keepsF hy hgz).cell, hee0]; rfl
          have kc3 : ∀ y, Keep [z2] X6 y → y.cell? ⟨g, 3, none⟩ = some (.int .i64 (bad : Int)) := fun y hy => by rw [(hI.row.keepsF hy hgz).cell, hbad0]; rfl
          have hee : ¬ ((ee : Nat) : Int) = 0 := by have := HEE.out; omega
          have hee2 : (((ee : Nat) : Int) != 0) = true := by simpa using hee
          go_upto_region 18 with fail
          clear hee hee2 c2
          refine wp_reliesI (⟨Keep.of_below, Keep.trans⟩ : KOk (Keep [z2])) (fun _ y => RowC y z2 (rpA 0 (.slice none 0 0) (.slice none 0 0) (.slice none 0 0))) [9] [none, none, none, none, none, none, none, none, none, some (0, [], []), none] [Fx (.agg (rpA 0 (.slice none 0 0) (.slice none 0 0) (.slice none 0 0))), Fx (.pointer (some ⟨g, 0, none⟩)), Fx (.pointer (some ⟨g, 0, none⟩)), Fx (.pointer (some ⟨g, 3, none⟩)), Fx (.int .i64 (bad : Int)), Fx (.pointer (some ⟨g, 0, none⟩)), Fx (.pointer (some ⟨g, 0, none⟩)), Fx (.pointer (some ⟨g, 2, none⟩)), Fx (.int .i64 (ee : Int)), (fun _ _ => True), Fx (.int .i64 (bad : Int))] rfl (by decide) rfl (by kernel_rfl) (by kernel_rfl) (by kernel_rfl) rs (fun _ _ _ h9 hb => h9.kept hb) ?_ ?_ ?_ ?_
          · repeat' (first | exact all_nil | apply all_cons)
            all_goals intro v y y' hv hb
            all_goals first | exact Fx_mono _ _ _ _ hv hb | exact trivial
          · intro i9 f9 hf9 hl9 v y y' hv hb
            rcases i9 with _ | i9
            · first | (cases hl9; done) | (cases hf9; first | exact hv | exact trivial)
            rcases i9 with _ | i9
            · first | (cases hl9; done) | (cases hf9; first | exact hv | exact trivial)
            rcases i9 with _ | i9
            · first | (cases hl9; done) | (cases hf9; first | exact hv | exact trivial)
            rcases i9 with _ | i9
            · first | (cases hl9; done) | (cases hf9; first | exact hv | exact trivial)
            rcases i9 with _ | i9
            · first | (cases hl9; done) | (cases hf9; first | exact hv | exact trivial)
            rcases i9 with _ | i9
            · first | (cases hl9; done) | (cases hf9; first | exact hv | exact trivial)
            rcases i9 with _ | i9
            · first | (cases hl9; done) | (cases hf9; first | exact hv | exact trivial)
            rcases i9 with _ | i9
            · first | (cases hl9; done) | (cases hf9; first | exact hv | exact trivial)
            rcases i9 with _ | i9
            · first | (cases hl9; done) | (cases hf9; first | exact hv | exact trivial)
            rcases i9 with _ | i9
            · first | (cases hl9; done) | (cases hf9; first | exact hv | exact trivial)
            rcases i9 with _ | i9
            · first | (cases hl9; done) | (cases hf9; first | exact hv | exact trivial)
            · simp at hf9
          · refine ⟨?_, ?_, ?_, ?_, ?_, ?_, ?_, ?_, ?_, ?_, ?_, trivial⟩
            all_goals
              intro ρ x9 hk hat ρc ρg ρf ho hd
              have o5 : ρ (.tmp 5) = .pointer (some ⟨g, 0, none⟩) := ho 5 rfl
              have o2 : ρ (.tmp 2) = .pointer (some ⟨z2, 0, none⟩) := ho 2 rfl
              clear ho
              have c2 := kc2 x9 hk
              have c3 := kc3 x9 hk
              simp only [depsR, depR, slotR, Fx, List.getElem?_cons_succ, List.getElem?_cons_zero, Region.binds, forall_const] at hd
              simp only [guardR, List.contains_cons, List.contains_nil, List.elem_cons, List.elem_nil, Nat.reduceBEq, Bool.or_false, Bool.false_or, Bool.or_true, Bool.true_or, cond_true, cond_false]
              go_split_ands
            · go_simp
            · go_simp
            · go_simp
            · go_simp
            · go_simp
            · go_simp
            · go_simp
            · go_simp
            · go_simp
            · have hst := run_store_rp x9 z2 (rpA 0 (.slice none 0 0) (.slice none 0 0) (.slice none 0 0)) hat.1 (by rw [hat.2]; rfl) rfl (rpA_one _ _ _ _ _ _ _ _ _ _)
              go_simp
              exact ⟨⟨trivial, ⟨rowL_setRow_same _ _ _ hat.1, rowAt_setRow_L _ _ _ hat.1⟩⟩, Keep.mine1 x9 z2 _⟩
            · go_simp
          · intro us x1 hk hw hI9
            simp only [owed, Fx] at hw
            obtain ⟨e0, e1, e2, e3, e4, e5, e6, e7, e8, e9, e10, -⟩ := hw
            simp only [List.length_cons, List.length_nil, List.take_succ_cons, List.take_zero, List.drop_succ_cons, List.drop_zero, asg, List.cons_append, List.nil_append, e0, e1, e2, e3, e4, e5, e6, e7, e8, e10]
            clear e0 e1 e2 e3 e4 e5 e6 e7 e8 e10 e9
            have HX : Hid (RowC x1 z2 (rpA 0 (.slice none 0 0) (.slice none 0 0) (.slice none 0 0))) := hI9
            have Y4 : Hid (Below w.heap.size w x1) := below_kg HB.out hk (by have := ZZ.out; omega) (Nat.le_refl _)
            clear out rs hI HB hI9 hk kc2 kc3
            go_wp2
            refine rp_ret3 2 3 4 z2 _ rfl rfl rfl HX.out rfl ⟨Y4.out, ?_⟩
            have hg := getRs_is b
            cases hm : getM b with
            | ok r =>
              rw [hm] at hg
              exfalso
              have h9 := hg.2
              rw [HSS.out] at h9
              exact HEE.out h9
            | error p =>
              obtain ⟨a, cd⟩ := p
              rw [hm] at hg
              have h9 := hg.2
              rw [HSS.out] at h9
              have e1 : ee = cd := congrArg Prod.fst h9
              have e2 : bad = a := congrArg Prod.snd h9
              rw [← e1, ← e2]
              rfl
      · obtain ⟨ee, hee0⟩ : ∃ z : Nat, z = e7 := ⟨_, rfl⟩
        obtain ⟨bad, hbad0⟩ : ∃ z : Nat, z = d7 := ⟨_, rfl⟩
        have h7' : ¬ ((e7 : Nat) : Int) = 0 := by omega
        have HSS : Hid ((getRs b).2.2 = (ee, bad)) := by
          show _ = _
          have e8 : smS b (i6, e6, d6) = (i7, e7, d7) := by
            unfold smS
            simp only [HSM.out]
            rw [if_neg (fun h9 => h7 h9.1)]
          rw [HGS.out, e8, rsS_no (S := (i7, e7, d7)) h7, hee0, hbad0]
        have HEE : Hid (ee ≠ 0) := by show _ ≠ _; rw [hee0]; exact h7
        subst hee0 hbad0
        clear c2
        have c2 : X4.cell? ⟨g, 2, none⟩ = some (.int .i64 (ee : Int)) := by rw [hI.row.cell]; rfl
        have hgz : g ∉ [z2] := by have := ZZ.out; simp; omega
        have kc2 : ∀ y, Keep [z2] X4 y → y.cell? ⟨g, 2, none⟩ = some (.int .i64 (ee : Int)) := fun y hy => by rw [(hI.row.keepsF hy hgz).cell]; rfl
        have kc3 : ∀ y, Keep [z2] X4 y → y.cell? ⟨g, 3, none⟩ = some (.int .i64 (bad : Int)) := fun y hy => by rw [(hI.row.keepsF hy hgz).cell]; rfl
        have hee : ¬ ((ee : Nat) : Int) = 0 := by have := HEE.out; omega
        have hee2 : (((ee : Nat) : Int) != 0) = true := by simpa using hee
        go_upto_region 18 with fail
        clear hee hee2 c2
        refine wp_reliesI (⟨Keep.of_below, Keep.trans⟩ : KOk (Keep [z2])) (fun _ y => RowC y z2 (rpA 0 (.slice none 0 0) (.slice none 0 0) (.slice none 0 0))) [9] [none, none, none, none, none, none, none, none, none, some (0, [], []), none] [Fx (.agg (rpA 0 (.slice none 0 0) (.slice none 0 0) (.slice none 0 0))), Fx (.pointer (some ⟨g, 0, none⟩)), Fx (.pointer (some ⟨g, 0, none⟩)), Fx (.pointer (some ⟨g, 3, none⟩)), Fx (.int .i64 (bad : Int)), Fx (.pointer (some ⟨g, 0, none⟩)), Fx (.pointer (some ⟨g, 0, none⟩)), Fx (.pointer (some ⟨g, 2, none⟩)), Fx (.int .i64 (ee : Int)), (fun _ _ => True), Fx (.int .i64 (bad : Int))] rfl (by decide) rfl (by kernel_rfl) (by kernel_rfl) (by kernel_rfl) rs (fun _ _ _ h9 hb => h9.kept hb) ?_ ?_ ?_ ?_
        · repeat' (first | exact all_nil | apply all_cons)
          all_goals intro v y y' hv hb
          all_goals first | exact Fx_mono _ _ _ _ hv hb | exact trivial
        · intro i9 f9 hf9 hl9 v y y' hv hb
          rcases i9 with _ | i9
          · first | (cases hl9; done) | (cases hf9; first | exact hv | exact trivial)
          rcases i9 with _ | i9
          · first | (cases hl9; done) | (cases hf9; first | exact hv | exact trivial)
          rcases i9 with _ | i9
          · first | (cases hl9; done) | (cases hf9; first | exact hv | exact trivial)
          rcases i9 with _ | i9
          · first | (cases hl9; done) | (cases hf9; first | exact hv | exact trivial)
          rcases i9 with _ | i9
          · first | (cases hl9; done) | (cases hf9; first | exact hv | exact trivial)
          rcases i9 with _ | i9
          · first | (cases hl9; done) | (cases hf9; first | exact hv | exact trivial)
          rcases i9 with _ | i9
          · first | (cases hl9; done) | (cases hf9; first | exact hv | exact trivial)
          rcases i9 with _ | i9
          · first | (cases hl9; done) | (cases hf9; first | exact hv | exact trivial)
          rcases i9 with _ | i9
          · first | (cases hl9; done) | (cases hf9; first | exact hv | exact trivial)
          rcases i9 with _ | i9
          · first | (cases hl9; done) | (cases hf9; first | exact hv | exact trivial)
          rcases i9 with _ | i9
          · first | (cases hl9; done) | (cases hf9; first | exact hv | exact trivial)
          · simp at hf9
        · refine ⟨?_, ?_, ?_, ?_, ?_, ?_, ?_, ?_, ?_, ?_, ?_, trivial⟩
          all_goals
            intro ρ x9 hk hat ρc ρg ρf ho hd
            have o5 : ρ (.tmp 5) = .pointer (some ⟨g, 0, none⟩) := ho 5 rfl
            have o2 : ρ (.tmp 2) = .pointer (some ⟨z2, 0, none⟩) := ho 2 rfl
            clear ho
            have c2 := kc2 x9 hk
            have c3 := kc3 x9 hk
            simp only [depsR, depR, slotR, Fx, List.getElem?_cons_succ, List.getElem?_cons_zero, Region.binds, forall_const] at hd
            simp only [guardR, List.contains_cons, List.contains_nil, List.elem_cons, List.elem_nil, Nat.reduceBEq, Bool.or_false, Bool.false_or, Bool.or_true, Bool.true_or, cond_true, cond_false]
            go_split_ands
          · go_simp
          · go_simp
          · go_simp
          · go_simp
          · go_simp
          · go_simp
          · go_simp
          · go_simp
          · go_simp
          · have hst := run_store_rp x9 z2 (rpA 0 (.slice none 0 0) (.slice none 0 0) (.slice none 0 0)) hat.1 (by rw [hat.2]; rfl) rfl (rpA_one _ _ _ _ _ _ _ _ _ _)
            go_simp
            exact ⟨⟨trivial, ⟨rowL_setRow_same _ _ _ hat.1, rowAt_setRow_L _ _ _ hat.1⟩⟩, Keep.mine1 x9 z2 _⟩
          · go_simp
        · intro us x1 hk hw hI9
          simp only [owed, Fx] at hw
          obtain ⟨e0, e1, e2, e3, e4, e5, e6, e7, e8, e9, e10, -⟩ := hw
          simp only [List.length_cons, List.length_nil, List.take_succ_cons, List.take_zero, List.drop_succ_cons, List.drop_zero, asg, List.cons_append, List.nil_append, e0, e1, e2, e3, e4, e5, e6, e7, e8, e10]
          clear e0 e1 e2 e3 e4 e5 e6 e7 e8 e10 e9
          have HX : Hid (RowC x1 z2 (rpA 0 (.slice none 0 0) (.slice none 0 0) (.slice none 0 0))) := hI9
          have Y4 : Hid (Below w.heap.size w x1) := below_kg HB.out hk (by have := ZZ.out; omega) (Nat.le_refl _)
          clear out rs hI HB hI9 hk kc2 kc3
          go_wp2
          refine rp_ret3 2 3 4 z2 _ rfl rfl rfl HX.out rfl ⟨Y4.out, ?_⟩
          have hg := getRs_is b
          cases hm : getM b with
          | ok r =>
            rw [hm] at hg
            exfalso
            have h9 := hg.2
            rw [HSS.out] at h9
            exact HEE.out h9
          | error p =>
            obtain ⟨a, cd⟩ := p
            rw [hm] at hg
            have h9 := hg.2
            rw [HSS.out] at h9
            have e1 : ee = cd := congrArg Prod.fst h9
            have e2 : bad = a := congrArg Prod.snd h9
            rw [← e1, ← e2]
            rfl
    · obtain ⟨S3, hS3⟩ : ∃ z, (failS 11 0 S1) = z := ⟨_, rfl⟩
      have HS3 : Hid (hdS b = S3) := by
        show _ = _
        unfold hdS
        simp only [H4.out, HH3.out, if_neg HT3.out]
        rw [HZS.out, hok]
        exact hS3
      rw [hS3] at hI
      have hq : st = 1 ∨ st = 2 := by unfold okSt at hok; simpa using hok
      clear hok hS3
      rcases hq with rfl | rfl
      · clear cst
        have cst : W2.cell? ⟨zo, 0, none⟩ = some (.int .i64 1) := by rw [out.cell]; rfl
        have hF := refFindings22 W2 g x n c b S3 hI
        go_wp2_with fail
        refine hF.mono ?_
        rintro e u1 ⟨v1, rfl, O1, hI9, k9⟩
        clear hF
        obtain ⟨xa, ca, hv⟩ := (O1.isK fdE_ok).len
        obtain ⟨na, hnn⟩ : ∃ z, (listS (bdF b) b S3).1.length = z := ⟨_, rfl⟩
        rw [hnn] at hv
        subst hv
        have out9 := out.keepsF k9 (by have := ZZ.out; simp; omega)
        have rs9 := rs.keepsF k9 (by have := ZZ.out; simp; omega)
        have zc : u1.cell? ⟨zo, 1, none⟩ = some (.slice none 0 0) := by rw [out9.cell]; rfl
        have fz := out9.frozen 1
        have kz := Keep.cell1 u1 zo 1 (.slice xa na ca)
        have qo : RowC (u1.setCell ⟨zo, 1, none⟩ (.slice xa na ca)) zo (rpA 1 (.slice xa na ca) (.slice none 0 0) (.slice none 0 0)) := out9.set 1 _
        have qs := rs9.keepsF kz (by have := ZZ.out; simp; omega)
        have qI := hI9.keepZ kz (by have := ZZ.out; omega)
        have lto := out.lt
        have HB9 : Hid (Below w.heap.size w (u1.setCell ⟨zo, 1, none⟩ (.slice xa na ca))) := (below_kg HB.out k9 (by have := ZZ.out; omega) (Nat.le_refl _)).setCell (by show w.heap.size ≤ zo; have := ZZ.out; omega) _
        have P1 : Hid (OwnK fdE (u1.setCell ⟨zo, 1, none⟩ (.slice xa na ca)) w.heap.size (.slice xa na ca) (listS (bdF b) b S3).1 ∧ ∀ z, (.slice xa na ca : Value).ownBlock = some z → z ≠ g ∧ z ≠ zo ∧ z ≠ z2) := by
          have hlt : ∀ z, (.slice xa na ca : Value).ownBlock = some z → W2.heap.size ≤ z := fun z hz => (World.ownsRow.lt O1 z hz).1
          refine ⟨OwnK.le (OwnK.keeps O1 kz (fun z hz => by have := hlt z hz; simp; omega)) HB.out.size, fun z hz => by have := hlt z hz; have := ZZ.out; have h1 := hI.row.lt; have h2 := rs.lt; omega⟩
        clear O1 hI9 k9 out9 rs9 kz lto hI out rs HB hnn
        go_upto_region 9 with fail
        clear zc fz
        generalize u1.setCell ⟨zo, 1, none⟩ (.slice xa na ca) = X1 at qo qs qI HB9 P1  ⊢
        have out := qo
        have rs := qs
        have hI := qI
        have HB := HB9
        clear qo qs qI HB9
        obtain ⟨S4, hS4⟩ : ∃ z, (listS (bdF b) b S3).2 = z := ⟨_, rfl⟩
        have HS4 : Hid _ := hS4
        rw [hS4] at hI
        clear hS4
        have hF := refFetch22 X1 g x n c b S4 hI
        go_wp2_with fail
        refine hF.mono ?_
        rintro e u2 ⟨v2, rfl, O2, hI9, k9⟩
        clear hF
        obtain ⟨xb, cb, hv⟩ := (O2.isK dgE_ok).len
        obtain ⟨nb, hnn⟩ : ∃ z, (listS (bdD b) b S4).1.length = z := ⟨_, rfl⟩
        rw [hnn] at hv
        subst hv
        have out9 := out.keepsF k9 (by have := ZZ.out; simp; omega)
        have rs9 := rs.keepsF k9 (by have := ZZ.out; simp; omega)
        have zc : u2.cell? ⟨zo, 2, none⟩ = some (.slice none 0 0) := by rw [out9.cell]; rfl
        have fz := out9.frozen 2
        have kz := Keep.cell1 u2 zo 2 (.slice xb nb cb)
        have qo : RowC (u2.setCell ⟨zo, 2, none⟩ (.slice xb nb cb)) zo (rpA 1 (.slice xa na ca) (.slice xb nb cb) (.slice none 0 0)) := out9.set 2 _
        have qs := rs9.keepsF kz (by have := ZZ.out; simp; omega)
        have qI := hI9.keepZ kz (by have := ZZ.out; omega)
        have lto := out.lt
        have HB9 : Hid (Below w.heap.size w (u2.setCell ⟨zo, 2, none⟩ (.slice xb nb cb))) := (below_kg HB.out k9 (by have := ZZ.out; omega) (Nat.le_refl _)).setCell (by show w.heap.size ≤ zo; have := ZZ.out; omega) _
        have P2 : Hid (OwnK dgE (u2.setCell ⟨zo, 2, none⟩ (.slice xb nb cb)) w.heap.size (.slice xb nb cb) (listS (bdD b) b S4).1 ∧ ∀ z, (.slice xb nb cb : Value).ownBlock = some z → z ≠ g ∧ z ≠ zo ∧ z ≠ z2) := by
          have hlt : ∀ z, (.slice xb nb cb : Value).ownBlock = some z → X1.heap.size ≤ z := fun z hz => (World.ownsRow.lt O2 z hz).1
          refine ⟨OwnK.le (OwnK.keeps O2 kz (fun z hz => by have := hlt z hz; simp; omega)) HB.out.size, fun z hz => by have := hlt z hz; have := ZZ.out; have h1 := hI.row.lt; have h2 := rs.lt; omega⟩
        have P1' : Hid (OwnK fdE (u2.setCell ⟨zo, 2, none⟩ (.slice xb nb cb)) w.heap.size (.slice xa na ca) (listS (bdF b) b S3).1 ∧ ∀ z, (.slice xa na ca : Value).ownBlock = some z → z ≠ g ∧ z ≠ zo ∧ z ≠ z2) := ⟨OwnK.keeps (OwnK.keeps P1.out.1 k9 (fun z hz => by have := (P1.out.2 z hz).1; simpa using this)) kz (fun z hz => by have := (P1.out.2 z hz).2.1; simpa using this), P1.out.2⟩
        clear P1
        clear O2 hI9 k9 out9 rs9 kz lto hI out rs HB hnn
        go_upto_region 10 with fail
        clear zc fz
        generalize u2.setCell ⟨zo, 2, none⟩ (.slice xb nb cb) = X2 at qo qs qI HB9 P2 P1' ⊢
        have out := qo
        have rs := qs
        have hI := qI
        have HB := HB9
        clear qo qs qI HB9
        have P1 := P1'
        clear P1'
        obtain ⟨S5, hS5⟩ : ∃ z, (listS (bdD b) b S4).2 = z := ⟨_, rfl⟩
        have HS5 : Hid _ := hS5
        rw [hS5] at hI
        clear hS5
        have hF := refDropped22 X2 g x n c b S5 hI
        go_wp2_with fail
        refine hF.mono ?_
        rintro e u3 ⟨v3, rfl, O3, hI9, k9⟩
        clear hF
        obtain ⟨xc, cc, hv⟩ := (OwnG.isG O3).len
        obtain ⟨nc, hnn⟩ : ∃ z, (inV (listS (bdI b) b S5).1).length = z := ⟨_, rfl⟩
        rw [hnn] at hv
        subst hv
        have out9 := out.keepsF k9 (by have := ZZ.out; simp; omega)
        have rs9 := rs.keepsF k9 (by have := ZZ.out; simp; omega)
        have zc : u3.cell? ⟨zo, 3, none⟩ = some (.slice none 0 0) := by rw [out9.cell]; rfl
        have fz := out9.frozen 3
        have kz := Keep.cell1 u3 zo 3 (.slice xc nc cc)
        have qo : RowC (u3.setCell ⟨zo, 3, none⟩ (.slice xc nc cc)) zo (rpA 1 (.slice xa na ca) (.slice xb nb cb) (.slice xc nc cc)) := out9.set 3 _
        have qs := rs9.keepsF kz (by have := ZZ.out; simp; omega)
        have qI := hI9.keepZ kz (by have := ZZ.out; omega)
        have lto := out.lt
        have HB9 : Hid (Below w.heap.size w (u3.setCell ⟨zo, 3, none⟩ (.slice xc nc cc))) := (below_kg HB.out k9 (by have := ZZ.out; omega) (Nat.le_refl _)).setCell (by show w.heap.size ≤ zo; have := ZZ.out; omega) _
        have P3 : Hid (OwnI (u3.setCell ⟨zo, 3, none⟩ (.slice xc nc cc)) w.heap.size (.slice xc nc cc) (listS (bdI b) b S5).1 ∧ ∀ z, (.slice xc nc cc : Value).ownBlock = some z → z ≠ g ∧ z ≠ zo ∧ z ≠ z2) := by
          have hlt : ∀ z, (.slice xc nc cc : Value).ownBlock = some z → X2.heap.size ≤ z := fun z hz => (World.ownsRow.lt O3 z hz).1
          refine ⟨OwnG.le (OwnG.keepsF O3 kz (fun z hz => by have := hlt z hz; simp; omega)) HB.out.size, fun z hz => by have := hlt z hz; have := ZZ.out; have h1 := hI.row.lt; have h2 := rs.lt; omega⟩
        have P1' : Hid (OwnK fdE (u3.setCell ⟨zo, 3, none⟩ (.slice xc nc cc)) w.heap.size (.slice xa na ca) (listS (bdF b) b S3).1 ∧ ∀ z, (.slice xa na ca : Value).ownBlock = some z → z ≠ g ∧ z ≠ zo ∧ z ≠ z2) := ⟨OwnK.keeps (OwnK.keeps P1.out.1 k9 (fun z hz => by have := (P1.out.2 z hz).1; simpa using this)) kz (fun z hz => by have := (P1.out.2 z hz).2.1; simpa using this), P1.out.2⟩
        clear P1
        have P2' : Hid (OwnK dgE (u3.setCell ⟨zo, 3, none⟩ (.slice xc nc cc)) w.heap.size (.slice xb nb cb) (listS (bdD b) b S4).1 ∧ ∀ z, (.slice xb nb cb : Value).ownBlock = some z → z ≠ g ∧ z ≠ zo ∧ z ≠ z2) := ⟨OwnK.keeps (OwnK.keeps P2.out.1 k9 (fun z hz => by have := (P2.out.2 z hz).1; simpa using this)) kz (fun z hz => by have := (P2.out.2 z hz).2.1; simpa using this), P2.out.2⟩
        clear P2
        clear O3 hI9 k9 out9 rs9 kz lto hI out rs HB hnn
        go_upto_region 11 with fail
        clear zc fz
        generalize u3.setCell ⟨zo, 3, none⟩ (.slice xc nc cc) = X3 at qo qs qI HB9 P3 P1' P2' ⊢
        have out := qo
        have rs := qs
        have hI := qI
        have HB := HB9
        clear qo qs qI HB9
        have P1 := P1'
        clear P1'
        have P2 := P2'
        clear P2'
        obtain ⟨S6, hS6⟩ : ∃ z, (listS (bdI b) b S5).2 = z := ⟨_, rfl⟩
        have HS6 : Hid _ := hS6
        rw [hS6] at hI
        clear hS6
        have HFS : Hid ((getRs b).1.st = 1 ∧ (getRs b).1.fs = (listS (bdF b) b S3).1 ∧ (getRs b).1.ds = (listS (bdD b) b S4).1 ∧ (getRs b).1.dr = (listS (bdI b) b S5).1) := by
          unfold getRs
          simp only [HS3.out, HS4.out, HS5.out]
          refine ⟨HST.out, ?_, ?_, ?_⟩ <;> first | trivial | rfl
        have HGS : Hid ((getRs b).2 = rsS b (smS b S6)) := by
          show _ = _
          unfold getRs
          simp only [HS3.out, HS4.out, HS5.out, HS6.out]
        obtain ⟨i6, e6, d6⟩ := S6
        obtain ⟨sm, S7, hsm⟩ : ∃ sm S7, numS 4 b (i6, e6, d6) = (sm, S7) := ⟨_, _, rfl⟩
        have hsl := numS_lt 4 b (i6, e6, d6)
        rw [hsm] at hsl
        have HSM : Hid _ := hsm
        have HI6 : Hid (i6 ≤ n) := hI.le
        have c1 : X3.cell? ⟨g, 1, none⟩ = some (.int .i64 (i6 : Int)) := by rw [hI.row.cell]; rfl
        have hNb := refNumber22 X3 g x n c b (i6, e6, d6) 4 (by omega) hI
        rw [hsm] at hNb
        clear hsm
        go_wp2_with fail
        refine hNb.mono ?_
        rintro e X4 ⟨rfl, hI9, k9⟩
        clear hNb
        have out9 := out.keepsF k9 (by have := ZZ.out; simp; omega)
        have rs9 := rs.keepsF k9 (by have := ZZ.out; simp; omega)
        have HB9 : Hid (Below w.heap.size w X4) := below_kg HB.out k9 (by have := ZZ.out; omega) (Nat.le_refl _)
        have P1' : Hid (OwnK fdE X4 w.heap.size (.slice xa na ca) (listS (bdF b) b S3).1 ∧ _) := ⟨OwnK.keeps P1.out.1 k9 (fun z hz => by have := (P1.out.2 z hz).1; simpa using this), P1.out.2⟩
        have P2' : Hid (OwnK dgE X4 w.heap.size (.slice xb nb cb) (listS (bdD b) b S4).1 ∧ _) := ⟨OwnK.keeps P2.out.1 k9 (fun z hz => by have := (P2.out.2 z hz).1; simpa using this), P2.out.2⟩
        have P3' : Hid (OwnI X4 w.heap.size (.slice xc nc cc) (listS (bdI b) b S5).1 ∧ _) := ⟨OwnG.keepsF P3.out.1 k9 (fun z hz => by have := (P3.out.2 z hz).1; simpa using this), P3.out.2⟩
        clear hI out rs HB P1 P2 P3
        have hI := hI9
        have out := out9
        have rs := rs9
        have HB := HB9
        have P1 := P1'
        have P2 := P2'
        have P3 := P3'
        clear hI9 out9 rs9 HB9 P1' P2' P3' k9
        clear c1
        obtain ⟨i7, e7, d7⟩ := S7
        have c2 : X4.cell? ⟨g, 2, none⟩ = some (.int .i64 (e7 : Int)) := by rw [hI.row.cell]; rfl
        by_cases h7 : e7 = 0
        · subst h7
          have hfr := hI.isb.front9 i6 (by have := HI6.out; have := hI.len; omega)
          have i6c : (i6 : Int) ≤ (c : Int) := by have := HI6.out; have := hI.cap; omega
          have i60 : (0 : Int) ≤ (i6 : Int) := by omega
          have hCr := refCrc22 (.slice x i6 c) (b.take i6) X4 (by unfold maxLen; have := HI6.out; have := hI.small; rw [List.length_take]; omega) hfr
          have cm : ((sm : Nat) : Int) % 4294967296 = (sm : Int) := by omega
          obtain ⟨cr, hcr⟩ : ∃ z, (sumL (b.take i6)).toNat = z := ⟨_, rfl⟩
          rw [hcr] at hCr
          have HCR : Hid _ := hcr
          clear hcr hfr
          go_wp2_with fail
          refine hCr.mono ?_
          rintro e X5 ⟨rfl, rfl⟩
          clear hCr
          by_cases hne : sm = cr
          · have HS8 : Hid (smS b (i6, e6, d6) = (i7, 0, d7)) := by
              show _ = _
              unfold smS
              simp only [HSM.out]
              rw [if_neg (fun h9 => h9.2 (by rw [HCR.out]; exact hne))]
            have c1 : X5.cell? ⟨g, 1, none⟩ = some (.int .i64 (i7 : Int)) := by rw [hI.row.cell]; rfl
            subst hne
            have q2 : (((sm : Nat) : Int) != (sm : Int)) = false := by simp
            by_cases hl7 : i7 < n
            · have l7 : (i7 : Int) < (n : Int) := by omega
              obtain ⟨ee, hee0⟩ : ∃ z : Nat, z = 14 := ⟨_, rfl⟩
              obtain ⟨bad, hbad0⟩ : ∃ z : Nat, z = i7 := ⟨_, rfl⟩
              have HSS : Hid ((getRs b).2.2 = (ee, bad)) := by
                show _ = _
                rw [HGS.out, HS8.out]
                unfold rsS
                rw [if_pos ⟨rfl, by have := hI.len; simp only; omega⟩, hee0, hbad0]
                rfl
              have HEE : Hid (ee ≠ 0) := by show _ ≠ _; omega
              have hFb := refFail22 X5 g x n c b (i7, 0, d7) 14 i7 hI
              go_wp2_with fail
              refine hFb.mono ?_
              rintro e X6 ⟨rfl, hI9, k9⟩
              clear hFb
              have out9 := out.keepsF k9 (by have := ZZ.out; simp; omega)
              have rs9 := rs.keepsF k9 (by have := ZZ.out; simp; omega)
              have HB9 : Hid (Below w.heap.size w X6) := below_kg HB.out k9 (by have := ZZ.out; omega) (Nat.le_refl _)
              have P1' : Hid (OwnK fdE X6 w.heap.size (.slice xa na ca) (listS (bdF b) b S3).1 ∧ _) := ⟨OwnK.keeps P1.out.1 k9 (fun z hz => by have := (P1.out.2 z hz).1; simpa using this), P1.out.2⟩
              have P2' : Hid (OwnK dgE X6 w.heap.size (.slice xb nb cb) (listS (bdD b) b S4).1 ∧ _) := ⟨OwnK.keeps P2.out.1 k9 (fun z hz => by have := (P2.out.2 z hz).1; simpa using this), P2.out.2⟩
              have P3' : Hid (OwnI X6 w.heap.size (.slice xc nc cc) (listS (bdI b) b S5).1 ∧ _) := ⟨OwnG.keepsF P3.out.1 k9 (fun z hz => by have := (P3.out.2 z hz).1; simpa using this), P3.out.2⟩
              clear hI out rs HB P1 P2 P3
              have hI := hI9
              have out := out9
              have rs := rs9
              have HB := HB9
              have P1 := P1'
              have P2 := P2'
              have P3 := P3'
              clear hI9 out9 rs9 HB9 P1' P2' P3' k9
              clear c1 c2 l7
              have c2 : X6.cell? ⟨g, 2, none⟩ = some (.int .i64 (ee : Int)) := by rw [hI.row.cell, hee0]; rfl
              have hgz : g ∉ [z2] := by have := ZZ.out; simp; omega
              have kc2 : ∀ y, Keep [z2] X6 y → y.cell? ⟨g, 2, none⟩ = some (.int .i64 (ee : Int)) := fun y hy => by rw [(hI.row.keepsF hy hgz).cell, hee0]; rfl
              have kc3 : ∀ y, Keep [z2] X6 y → y.cell? ⟨g, 3, none⟩ = some (.int .i64 (bad : Int)) := fun y hy => by rw [(hI.row.keepsF hy hgz).cell, hbad0]; rfl
              have hee : ¬ ((ee : Nat) : Int) = 0 := by have := HEE.out; omega
              have hee2 : (((ee : Nat) : Int) != 0) = true := by simpa using hee
              go_upto_region 18 with fail
              clear hee hee2 c2
              refine wp_reliesI (⟨Keep.of_below, Keep.trans⟩ : KOk (Keep [z2])) (fun _ y => RowC y z2 (rpA 0 (.slice none 0 0) (.slice none 0 0) (.slice none 0 0))) [9] [none, none, none, none, none, none, none, none, none, some (0, [], []), none] [Fx (.agg (rpA 0 (.slice none 0 0) (.slice none 0 0) (.slice none 0 0))), Fx (.pointer (some ⟨g, 0, none⟩)), Fx (.pointer (some ⟨g, 0, none⟩)), Fx (.pointer (some ⟨g, 3, none⟩)), Fx (.int .i64 (bad : Int)), Fx (.pointer (some ⟨g, 0, none⟩)), Fx (.pointer (some ⟨g, 0, none⟩)), Fx (.pointer (some ⟨g, 2, none⟩)), Fx (.int .i64 (ee : Int)), (fun _ _ => True), Fx (.int .i64 (bad : Int))] rfl (by decide) rfl (by kernel_rfl) (by kernel_rfl) (by kernel_rfl) rs (fun _ _ _ h9 hb => h9.kept hb) ?_ ?_ ?_ ?_
              · repeat' (first | exact all_nil | apply all_cons)
                all_goals intro v y y' hv hb
                all_goals first | exact Fx_mono _ _ _ _ hv hb | exact trivial
              · intro i9 f9 hf9 hl9 v y y' hv hb
                rcases i9 with _ | i9
                · first | (cases hl9; done) | (cases hf9; first | exact hv | exact trivial)
                rcases i9 with _ | i9
                · first | (cases hl9; done) | (cases hf9; first | exact hv | exact trivial)
                rcases i9 with _ | i9
                · first | (cases hl9; done) | (cases hf9; first | exact hv | exact trivial)
                rcases i9 with _ | i9
                · first | (cases hl9; done) | (cases hf9; first | exact hv | exact trivial)
                rcases i9 with _ | i9
                · first | (cases hl9; done) | (cases hf9; first | exact hv | exact trivial)
                rcases i9 with _ | i9
                · first | (cases hl9; done) | (cases hf9; first | exact hv | exact trivial)
                rcases i9 with _ | i9
                · first | (cases hl9; done) | (cases hf9; first | exact hv | exact trivial)
                rcases i9 with _ | i9
                · first | (cases hl9; done) | (cases hf9; first | exact hv | exact trivial)
                rcases i9 with _ | i9
                · first | (cases hl9; done) | (cases hf9; first | exact hv | exact trivial)
                rcases i9 with _ | i9
                · first | (cases hl9; done) | (cases hf9; first | exact hv | exact trivial)
                rcases i9 with _ | i9
                · first | (cases hl9; done) | (cases hf9; first | exact hv | exact trivial)
                · simp at hf9
              · refine ⟨?_, ?_, ?_, ?_, ?_, ?_, ?_, ?_, ?_, ?_, ?_, trivial⟩
                all_goals
                  intro ρ x9 hk hat ρc ρg ρf ho hd
                  have o5 : ρ (.tmp 5) = .pointer (some ⟨g, 0, none⟩) := ho 5 rfl
                  have o2 : ρ (.tmp 2) = .pointer (some ⟨z2, 0, none⟩) := ho 2 rfl
                  clear ho
                  have c2 := kc2 x9 hk
                  have c3 := kc3 x9 hk
                  simp only [depsR, depR, slotR, Fx, List.getElem?_cons_succ, List.getElem?_cons_zero, Region.binds, forall_const] at hd
                  simp only [guardR, List.contains_cons, List.contains_nil, List.elem_cons, List.elem_nil, Nat.reduceBEq, Bool.or_false, Bool.false_or, Bool.or_true, Bool.true_or, cond_true, cond_false]
                  go_split_ands
                · go_simp
                · go_simp
                · go_simp
                · go_simp
                · go_simp
                · go_simp
                · go_simp
                · go_simp
                · go_simp
                · have hst := run_store_rp x9 z2 (rpA 0 (.slice none 0 0) (.slice none 0 0) (.slice none 0 0)) hat.1 (by rw [hat.2]; rfl) rfl (rpA_one _ _ _ _ _ _ _ _ _ _)
                  go_simp
                  exact ⟨⟨trivial, ⟨rowL_setRow_same _ _ _ hat.1, rowAt_setRow_L _ _ _ hat.1⟩⟩, Keep.mine1 x9 z2 _⟩
                · go_simp
              · intro us x1 hk hw hI9
                simp only [owed, Fx] at hw
                obtain ⟨e0, e1, e2, e3, e4, e5, e6, e7, e8, e9, e10, -⟩ := hw
                simp only [List.length_cons, List.length_nil, List.take_succ_cons, List.take_zero, List.drop_succ_cons, List.drop_zero, asg, List.cons_append, List.nil_append, e0, e1, e2, e3, e4, e5, e6, e7, e8, e10]
                clear e0 e1 e2 e3 e4 e5 e6 e7 e8 e10 e9
                have HX : Hid (RowC x1 z2 (rpA 0 (.slice none 0 0) (.slice none 0 0) (.slice none 0 0))) := hI9
                have Y4 : Hid (Below w.heap.size w x1) := below_kg HB.out hk (by have := ZZ.out; omega) (Nat.le_refl _)
                clear out rs hI HB hI9 hk kc2 kc3
                go_wp2
                refine rp_ret3 2 3 4 z2 _ rfl rfl rfl HX.out rfl ⟨Y4.out, ?_⟩
                have hg := getRs_is b
                cases hm : getM b with
                | ok r =>
                  rw [hm] at hg
                  exfalso
                  have h9 := hg.2
                  rw [HSS.out] at h9
                  exact HEE.out h9
                | error p =>
                  obtain ⟨a, cd⟩ := p
                  rw [hm] at hg
                  have h9 := hg.2
                  rw [HSS.out] at h9
                  have e1 : ee = cd := congrArg Prod.fst h9
                  have e2 : bad = a := congrArg Prod.snd h9
                  rw [← e1, ← e2]
                  rfl
            · have l7 : ¬ (i7 : Int) < (n : Int) := by omega
              have HEZ : Hid ((getRs b).2.2.1 = 0) := by
                show _ = _
                rw [HGS.out, HS8.out]
                unfold rsS
                rw [if_neg (fun h9 => by have h8 := h9.2; have := hI.len; simp only at h8; omega)]
              have ld := run_load_rp X5 zo out.1 (by rw [out.2]; rfl)
              rw [out.2] at ld
              have st9 := run_store_rp X5 z2 (rpA 1 (.slice xa na ca) (.slice xb nb cb) (.slice xc nc cc)) rs.1 (by rw [rs.2]; rfl) rfl (rpA_one _ _ _ _ _ _ _ _ _ _)
              have HX : Hid (RowC (X5.setRow z2 (rpA 1 (.slice xa na ca) (.slice xb nb cb) (.slice xc nc cc))) z2 (rpA 1 (.slice xa na ca) (.slice xb nb cb) (.slice xc nc cc))) := ⟨rowL_setRow_same _ _ _ rs.1, rowAt_setRow_L _ _ _ rs.1⟩
              have kr := Keep.mine1 X5 z2 (rpA 1 (.slice xa na ca) (.slice xb nb cb) (.slice xc nc cc))
              have Y1 : Hid (OwnK fdE (X5.setRow z2 (rpA 1 (.slice xa na ca) (.slice xb nb cb) (.slice xc nc cc))) w.heap.size (.slice xa na ca) (getRs b).1.fs) := by
                show OwnK _ _ _ _ _
                rw [HFS.out.2.1]
                exact OwnK.keeps P1.out.1 kr (fun z hz => by have := (P1.out.2 z hz).2.2; simpa using this)
              have Y2 : Hid (OwnK dgE (X5.setRow z2 (rpA 1 (.slice xa na ca) (.slice xb nb cb) (.slice xc nc cc))) w.heap.size (.slice xb nb cb) (getRs b).1.ds) := by
                show OwnK _ _ _ _ _
                rw [HFS.out.2.2.1]
                exact OwnK.keeps P2.out.1 kr (fun z hz => by have := (P2.out.2 z hz).2.2; simpa using this)
              have Y3 : Hid (OwnI (X5.setRow z2 (rpA 1 (.slice xa na ca) (.slice xb nb cb) (.slice xc nc cc))) w.heap.size (.slice xc nc cc) (getRs b).1.dr) := by
                show OwnI _ _ _ _
                rw [HFS.out.2.2.2]
                exact OwnG.keepsF P3.out.1 kr (fun z hz => by have := (P3.out.2 z hz).2.2; simpa using this)
              have Y4 : Hid (Below w.heap.size w (X5.setRow z2 (rpA 1 (.slice xa na ca) (.slice xb nb cb) (.slice xc nc cc)))) := below_row HB.out (by have := ZZ.out; omega) _
              clear out rs hI kr HB
              go_wp2
              refine rp_ret3 2 3 4 z2 _ rfl rfl rfl HX.out rfl ⟨Y4.out, ?_⟩
              have hg := getRs_is b
              cases hm : getM b with
              | ok r =>
                rw [hm] at hg
                obtain ⟨hg, -⟩ := hg
                subst hg
                have hst : (getRs b).1.st = 1 := HFS.out.1
                refine ⟨xa, na, ca, xb, nb, cb, xc, nc, cc, ?_, Y1.out, Y2.out, Y3.out⟩
                rw [hst]
                rfl
              | error p =>
                obtain ⟨a, cd⟩ := p
                rw [hm] at hg
                exfalso
                have h9 := hg.2
                have h8 := HEZ.out
                rw [h9] at h8
                exact hg.1 h8
          · have q1 : ¬ ((sm : Nat) : Int) = (cr : Int) := by omega
            have q2 : (((sm : Nat) : Int) != (cr : Int)) = true := bne_iff_ne.2 q1
            have HS8 : Hid (smS b (i6, e6, d6) = (i7, 12, i6)) := by
              show _ = _
              unfold smS
              simp only [HSM.out]
              rw [if_pos ⟨trivial, by rw [HCR.out]; exact hne⟩]
              rfl
            obtain ⟨ee, hee0⟩ : ∃ z : Nat, z = 12 := ⟨_, rfl⟩
            obtain ⟨bad, hbad0⟩ : ∃ z : Nat, z = i6 := ⟨_, rfl⟩
            have HSS : Hid ((getRs b).2.2 = (ee, bad)) := by
              show _ = _
              rw [HGS.out, HS8.out, rsS_no (by simp), hee0, hbad0]
            have HEE : Hid (ee ≠ 0) := by show _ ≠ _; omega
            have hFb := refFail22 X5 g x n c b (i7, 0, d7) 12 i6 hI
            clear hne
            go_wp2_with fail
            refine hFb.mono ?_
            rintro e X6 ⟨rfl, hI9, k9⟩
            clear hFb
            have out9 := out.keepsF k9 (by have := ZZ.out; simp; omega)
            have rs9 := rs.keepsF k9 (by have := ZZ.out; simp; omega)
            have HB9 : Hid (Below w.heap.size w X6) := below_kg HB.out k9 (by have := ZZ.out; omega) (Nat.le_refl _)
            have P1' : Hid (OwnK fdE X6 w.heap.size (.slice xa na ca) (listS (bdF b) b S3).1 ∧ _) := ⟨OwnK.keeps P1.out.1 k9 (fun z hz => by have := (P1.out.2 z hz).1; simpa using this), P1.out.2⟩
            have P2' : Hid (OwnK dgE X6 w.heap.size (.slice xb nb cb) (listS (bdD b) b S4).1 ∧ _) := ⟨OwnK.keeps P2.out.1 k9 (fun z hz => by have := (P2.out.2 z hz).1; simpa using this), P2.out.2⟩
            have P3' : Hid (OwnI X6 w.heap.size (.slice xc nc cc) (listS (bdI b) b S5).1 ∧ _) := ⟨OwnG.keepsF P3.out.1 k9 (fun z hz => by have := (P3.out.2 z hz).1; simpa using this), P3.out.2⟩
            clear hI out rs HB P1 P2 P3
            have hI := hI9
            have out := out9
            have rs := rs9
            have HB := HB9
            have P1 := P1'
            have P2 := P2'
            have P3 := P3'
            clear hI9 out9 rs9 HB9 P1' P2' P3' k9
            clear c2
            have c2 : X6.cell? ⟨g, 2, none⟩ = some (.int .i64 (ee : Int)) := by rw [hI.row.cell, hee0]; rfl
            have hgz : g ∉ [z2] := by have := ZZ.out; simp; omega
            have kc2 : ∀ y, Keep [z2] X6 y → y.cell? ⟨g, 2, none⟩ = some (.int .i64 (ee : Int)) := fun y hy => by rw [(hI.row.keepsF hy hgz).cell, hee0]; rfl
            have kc3 : ∀ y, Keep [z2] X6 y → y.cell? ⟨g, 3, none⟩ = some (.int .i64 (bad : Int)) := fun y hy => by rw [(hI.row.keepsF hy hgz).cell, hbad0]; rfl
            have hee : ¬ ((ee : Nat) : Int) = 0 := by have := HEE.out; omega
            have hee2 : (((ee : Nat) : Int) != 0) = true := by simpa using hee
            go_upto_region 18 with fail
            clear hee hee2 c2
            refine wp_reliesI (⟨Keep.of_below, Keep.trans⟩ : KOk (Keep [z2])) (fun _ y => RowC y z2 (rpA 0 (.slice none 0 0) (.slice none 0 0) (.slice none 0 0))) [9] [none, none, none, none, none, none, none, none, none, some (0, [], []), none] [Fx (.agg (rpA 0 (.slice none 0 0) (.slice none 0 0) (.slice none 0 0))), Fx (.pointer (some ⟨g, 0, none⟩)), Fx (.pointer (some ⟨g, 0, none⟩)), Fx (.pointer (some ⟨g, 3, none⟩)), Fx (.int .i64 (bad : Int)), Fx (.pointer (some ⟨g, 0, none⟩)), Fx (.pointer (some ⟨g, 0, none⟩)), Fx (.pointer (some ⟨g, 2, none⟩)), Fx (.int .i64 (ee : Int)), (fun _ _ => True), Fx (.int .i64 (bad : Int))] rfl (by decide) rfl (by kernel_rfl) (by kernel_rfl) (by kernel_rfl) rs (fun _ _ _ h9 hb => h9.kept hb) ?_ ?_ ?_ ?_
            · repeat' (first | exact all_nil | apply all_cons)
              all_goals intro v y y' hv hb
              all_goals first | exact Fx_mono _ _ _ _ hv hb | exact trivial
            · intro i9 f9 hf9 hl9 v y y' hv hb
              rcases i9 with _ | i9
              · first | (cases hl9; done) | (cases hf9; first | exact hv | exact trivial)
              rcases i9 with _ | i9
              · first | (cases hl9; done) | (cases hf9; first | exact hv | exact trivial)
              rcases i9 with _ | i9
              · first | (cases hl9; done) | (cases hf9; first | exact hv | exact trivial)
              rcases i9 with _ | i9
              · first | (cases hl9; done) | (cases hf9; first | exact hv | exact trivial)
              rcases i9 with _ | i9
              · first | (cases hl9; done) | (cases hf9; first | exact hv | exact trivial)
              rcases i9 with _ | i9
              · first | (cases hl9; done) | (cases hf9; first | exact hv | exact trivial)
              rcases i9 with _ | i9
              · first | (cases hl9; done) | (cases hf9; first | exact hv | exact trivial)
              rcases i9 with _ | i9
              · first | (cases hl9; done) | (cases hf9; first | exact hv | exact trivial)
              rcases i9 with _ | i9
              · first | (cases hl9; done) | (cases hf9; first | exact hv | exact trivial)
              rcases i9 with _ | i9
              · first | (cases hl9; done) | (cases hf9; first | exact hv | exact trivial)
              rcases i9 with _ | i9
              · first | (cases hl9; done) | (cases hf9; first | exact hv | exact trivial)
              · simp at hf9
            · refine ⟨?_, ?_, ?_, ?_, ?_, ?_, ?_, ?_, ?_, ?_, ?_, trivial⟩
              all_goals
                intro ρ x9 hk hat ρc ρg ρf ho hd
                have o5 : ρ (.tmp 5) = .pointer (some ⟨g, 0, none⟩) := ho 5 rfl
                have o2 : ρ (.tmp 2) = .pointer (some ⟨z2, 0, none⟩) := ho 2 rfl
                clear ho
                have c2 := kc2 x9 hk
                have c3 := kc3 x9 hk
                simp only [depsR, depR, slotR, Fx, List.getElem?_cons_succ, List.getElem?_cons_zero, Region.binds, forall_const] at hd
                simp only [guardR, List.contains_cons, List.contains_nil, List.elem_cons, List.elem_nil, Nat.reduceBEq, Bool.or_false, Bool.false_or, Bool.or_true, Bool.true_or, cond_true, cond_false]
                go_split_ands
              · go_simp
              · go_simp
              · go_simp
              · go_simp
              · go_simp
              · go_simp
              · go_simp
              · go_simp
              · go_simp
              · have hst := run_store_rp x9 z2 (rpA 0 (.slice none 0 0) (.slice none 0 0) (.slice none 0 0)) hat.1 (by rw [hat.2]; rfl) rfl (rpA_one _ _ _ _ _ _ _ _ _ _)
                go_simp
                exact ⟨⟨trivial, ⟨rowL_setRow_same _ _ _ hat.1, rowAt_setRow_L _ _ _ hat.1⟩⟩, Keep.mine1 x9 z2 _⟩
              · go_simp
            · intro us x1 hk hw hI9
              simp only [owed, Fx] at hw
              obtain ⟨e0, e1, e2, e3, e4, e5, e6, e7, e8, e9, e10, -⟩ := hw
              simp only [List.length_cons, List.length_nil, List.take_succ_cons, List.take_zero, List.drop_succ_cons, List.drop_zero, asg, List.cons_append, List.nil_append, e0, e1, e2, e3, e4, e5, e6, e7, e8, e10]
              clear e0 e1 e2 e3 e4 e5 e6 e7 e8 e10 e9
              have HX : Hid (RowC x1 z2 (rpA 0 (.slice none 0 0) (.slice none 0 0) (.slice none 0 0))) := hI9
              have Y4 : Hid (Below w.heap.size w x1) := below_kg HB.out hk (by have := ZZ.out; omega) (Nat.le_refl _)
              clear out rs hI HB hI9 hk kc2 kc3
              go_wp2
              refine rp_ret3 2 3 4 z2 _ rfl rfl rfl HX.out rfl ⟨Y4.out, ?_⟩
              have hg := getRs_is b
              cases hm : getM b with
              | ok r =>
                rw [hm] at hg
                exfalso
                have h9 := hg.2
                rw [HSS.out] at h9
                exact HEE.out h9
              | error p =>
                obtain ⟨a, cd⟩ := p
                rw [hm] at hg
                have h9 := hg.2
                rw [HSS.out] at h9
                have e1 : ee = cd := congrArg Prod.fst h9
                have e2 : bad = a := congrArg Prod.snd h9
                rw [← e1, ← e2]
                rfl
        · obtain ⟨ee, hee0⟩ : ∃ z : Nat, z = e7 := ⟨_, rfl⟩
          obtain ⟨bad, hbad0⟩ : ∃ z : Nat, z = d7 := ⟨_, rfl⟩
          have h7' : ¬ ((e7 : Nat) : Int) = 0 := by omega
          have HSS : Hid ((getRs b).2.2 = (ee, bad)) := by
            show _ = _
            have e8 : smS b (i6, e6, d6) = (i7, e7, d7) := by
              unfold smS
              simp only [HSM.out]
              rw [if_neg (fun h9 => h7 h9.1)]
            rw [HGS.out, e8, rsS_no (S := (i7, e7, d7)) h7, hee0, hbad0]
          have HEE : Hid (ee ≠ 0) := by show _ ≠ _; rw [hee0]; exact h7
          subst hee0 hbad0
          clear c2
          have c2 : X4.cell? ⟨g, 2, none⟩ = some (.int .i64 (ee : Int)) := by rw [hI.row.cell]; rfl
          have hgz : g ∉ [z2] := by have := ZZ.out; simp; omega
          have kc2 : ∀ y, Keep [z2] X4 y → y.cell? ⟨g, 2, none⟩ = some (.int .i64 (ee : Int)) := fun y hy => by rw [(hI.row.keepsF hy hgz).cell]; rfl
          have kc3 : ∀ y, Keep [z2] X4 y → y.cell? ⟨g, 3, none⟩ = some (.int .i64 (bad : Int)) := fun y hy => by rw [(hI.row.keepsF hy hgz).cell]; rfl
          have hee : ¬ ((ee : Nat) : Int) = 0 := by have := HEE.out; omega
          have hee2 : (((ee : Nat) : Int) != 0) = true := by simpa using hee
          go_upto_region 18 with fail
          clear hee hee2 c2
          refine wp_reliesI (⟨Keep.of_below, Keep.trans⟩ : KOk (Keep [z2])) (fun _ y => RowC y z2 (rpA 0 (.slice none 0 0) (.slice none 0 0) (.slice none 0 0))) [9] [none, none, none, none, none, none, none, none, none, some (0, [], []), none] [Fx (.agg (rpA 0 (.slice none 0 0) (.slice none 0 0) (.slice none 0 0))), Fx (.pointer (some ⟨g, 0, none⟩)), Fx (.pointer (some ⟨g, 0, none⟩)), Fx (.pointer (some ⟨g, 3, none⟩)), Fx (.int .i64 (bad : Int)), Fx (.pointer (some ⟨g, 0, none⟩)), Fx (.pointer (some ⟨g, 0, none⟩)), Fx (.pointer (some ⟨g, 2, none⟩)), Fx (.int .i64 (ee : Int)), (fun _ _ => True), Fx (.int .i64 (bad : Int))] rfl (by decide) rfl (by kernel_rfl) (by kernel_rfl) (by kernel_rfl) rs (fun _ _ _ h9 hb => h9.kept hb) ?_ ?_ ?_ ?_
          · repeat' (first | exact all_nil | apply all_cons)
            all_goals intro v y y' hv hb
            all_goals first | exact Fx_mono _ _ _ _ hv hb | exact trivial
          · intro i9 f9 hf9 hl9 v y y' hv hb
            rcases i9 with _ | i9
            · first | (cases hl9; done) | (cases hf9; first | exact hv | exact trivial)
            rcases i9 with _ | i9
            · first | (cases hl9; done) | (cases hf9; first | exact hv | exact trivial)
            rcases i9 with _ | i9
            · first | (cases hl9; done) | (cases hf9; first | exact hv | exact trivial)
            rcases i9 with _ | i9
            · first | (cases hl9; done) | (cases hf9; first | exact hv | exact trivial)
            rcases i9 with _ | i9
            · first | (cases hl9; done) | (cases hf9; first | exact hv | exact trivial)
            rcases i9 with _ | i9
            · first | (cases hl9; done) | (cases hf9; first | exact hv | exact trivial)
            rcases i9 with _ | i9
            · first | (cases hl9; done) | (cases hf9; first | exact hv | exact trivial)
            rcases i9 with _ | i9
            · first | (cases hl9; done) | (cases hf9; first | exact hv | exact trivial)
            rcases i9 with _ | i9
            · first | (cases hl9; done) | (cases hf9; first | exact hv | exact trivial)
            rcases i9 with _ | i9
            · first | (cases hl9; done) | (cases hf9; first | exact hv | exact trivial)
            rcases i9 with _ | i9
            · first | (cases hl9; done) | (cases hf9; first | exact hv | exact trivial)
            · simp at hf9
          · refine ⟨?_, ?_, ?_, ?_, ?_, ?_, ?_, ?_, ?_, ?_, ?_, trivial⟩
            all_goals
              intro ρ x9 hk hat ρc ρg ρf ho hd
              have o5 : ρ (.tmp 5) = .pointer (some ⟨g, 0, none⟩) := ho 5 rfl
              have o2 : ρ (.tmp 2) = .pointer (some ⟨z2, 0, none⟩) := ho 2 rfl
              clear ho
              have c2 := kc2 x9 hk
              have c3 := kc3 x9 hk
              simp only [depsR, depR, slotR, Fx, List.getElem?_cons_succ, List.getElem?_cons_zero, Region.binds, forall_const] at hd
              simp only [guardR, List.contains_cons, List.contains_nil, List.elem_cons, List.elem_nil, Nat.reduceBEq, Bool.or_false, Bool.false_or, Bool.or_true, Bool.true_or, cond_true, cond_false]
              go_split_ands
            · go_simp
            · go_simp
            · go_simp
            · go_simp
            · go_simp
            · go_simp
            · go_simp
            · go_simp
            · go_simp
            · have hst := run_store_rp x9 z2 (rpA 0 (.slice none 0 0) (.slice none 0 0) (.slice none 0 0)) hat.1 (by rw [hat.2]; rfl) rfl (rpA_one _ _ _ _ _ _ _ _ _ _)
              go_simp
              exact ⟨⟨trivial, ⟨rowL_setRow_same _ _ _ hat.1, rowAt_setRow_L _ _ _ hat.1⟩⟩, Keep.mine1 x9 z2 _⟩
            · go_simp
          · intro us x1 hk hw hI9
            simp only [owed, Fx] at hw
            obtain ⟨e0, e1, e2, e3, e4, e5, e6, e7, e8, e9, e10, -⟩ := hw
            simp only [List.length_cons, List.length_nil, List.take_succ_cons, List.take_zero, List.drop_succ_cons, List.drop_zero, asg, List.cons_append, List.nil_append, e0, e1, e2, e3, e4, e5, e6, e7, e8, e10]
            clear e0 e1 e2 e3 e4 e5 e6 e7 e8 e10 e9
            have HX : Hid (RowC x1 z2 (rpA 0 (.slice none 0 0) (.slice none 0 0) (.slice none 0 0))) := hI9
            have Y4 : Hid (Below w.heap.size w x1) := below_kg HB.out hk (by have := ZZ.out; omega) (Nat.le_refl _)
            clear out rs hI HB hI9 hk kc2 kc3
            go_wp2
            refine rp_ret3 2 3 4 z2 _ rfl rfl rfl HX.out rfl ⟨Y4.out, ?_⟩
            have hg := getRs_is b
            cases hm : getM b with
            | ok r =>
              rw [hm] at hg
              exfalso
              have h9 := hg.2
              rw [HSS.out] at h9
              exact HEE.out h9
            | error p =>
              obtain ⟨a, cd⟩ := p
              rw [hm] at hg
              have h9 := hg.2
              rw [HSS.out] at h9
              have e1 : ee = cd := congrArg Prod.fst h9
              have e2 : bad = a := congrArg Prod.snd h9
              rw [← e1, ← e2]
              rfl
      · clear cst
        have cst : W2.cell? ⟨zo, 0, none⟩ = some (.int .i64 2) := by rw [out.cell]; rfl
        have hF := refFindings22 W2 g x n c b S3 hI
        go_wp2_with fail
        refine hF.mono ?_
        rintro e u1 ⟨v1, rfl, O1, hI9, k9⟩
        clear hF
        obtain ⟨xa, ca, hv⟩ := (O1.isK fdE_ok).len
        obtain ⟨na, hnn⟩ : ∃ z, (listS (bdF b) b S3).1.length = z := ⟨_, rfl⟩
        rw [hnn] at hv
        subst hv
        have out9 := out.keepsF k9 (by have := ZZ.out; simp; omega)
        have rs9 := rs.keepsF k9 (by have := ZZ.out; simp; omega)
        have zc : u1.cell? ⟨zo, 1, none⟩ = some (.slice none 0 0) := by rw [out9.cell]; rfl
        have fz := out9.frozen 1
        have kz := Keep.cell1 u1 zo 1 (.slice xa na ca)
        have qo : RowC (u1.setCell ⟨zo, 1, none⟩ (.slice xa na ca)) zo (rpA 2 (.slice xa na ca) (.slice none 0 0) (.slice none 0 0)) := out9.set 1 _
        have qs := rs9.keepsF kz (by have := ZZ.out; simp; omega)
        have qI := hI9.keepZ kz (by have := ZZ.out; omega)
        have lto := out.lt
        have HB9 : Hid (Below w.heap.size w (u1.setCell ⟨zo, 1, none⟩ (.slice xa na ca))) := (below_kg HB.out k9 (by have := ZZ.out; omega) (Nat.le_refl _)).setCell (by show w.heap.size ≤ zo; have := ZZ.out; omega) _
        have P1 : Hid (OwnK fdE (u1.setCell ⟨zo, 1, none⟩ (.slice xa na ca)) w.heap.size (.slice xa na ca) (listS (bdF b) b S3).1 ∧ ∀ z, (.slice xa na ca : Value).ownBlock = some z → z ≠ g ∧ z ≠ zo ∧ z ≠ z2) := by
          have hlt : ∀ z, (.slice xa na ca : Value).ownBlock = some z → W2.heap.size ≤ z := fun z hz => (World.ownsRow.lt O1 z hz).1
          refine ⟨OwnK.le (OwnK.keeps O1 kz (fun z hz => by have := hlt z hz; simp; omega)) HB.out.size, fun z hz => by have := hlt z hz; have := ZZ.out; have h1 := hI.row.lt; have h2 := rs.lt; omega⟩
        clear O1 hI9 k9 out9 rs9 kz lto hI out rs HB hnn
        go_upto_region 9 with fail
        clear zc fz
        generalize u1.setCell ⟨zo, 1, none⟩ (.slice xa na ca) = X1 at qo qs qI HB9 P1  ⊢
        have out := qo
        have rs := qs
        have hI := qI
        have HB := HB9
        clear qo qs qI HB9
        obtain ⟨S4, hS4⟩ : ∃ z, (listS (bdF b) b S3).2 = z := ⟨_, rfl⟩
        have HS4 : Hid _ := hS4
        rw [hS4] at hI
        clear hS4
        have hF := refFetch22 X1 g x n c b S4 hI
        go_wp2_with fail
        refine hF.mono ?_
        rintro e u2 ⟨v2, rfl, O2, hI9, k9⟩
        clear hF
        obtain ⟨xb, cb, hv⟩ := (O2.isK dgE_ok).len
        obtain ⟨nb, hnn⟩ : ∃ z, (listS (bdD b) b S4).1.length = z := ⟨_, rfl⟩
        rw [hnn] at hv
        subst hv
        have out9 := out.keepsF k9 (by have := ZZ.out; simp; omega)
        have rs9 := rs.keepsF k9 (by have := ZZ.out; simp; omega)
        have zc : u2.cell? ⟨zo, 2, none⟩ = some (.slice none 0 0) := by rw [out9.cell]; rfl
        have fz := out9.frozen 2
        have kz := Keep.cell1 u2 zo 2 (.slice xb nb cb)
        have qo : RowC (u2.setCell ⟨zo, 2, none⟩ (.slice xb nb cb)) zo (rpA 2 (.slice xa na ca) (.slice xb nb cb) (.slice none 0 0)) := out9.set 2 _
        have qs := rs9.keepsF kz (by have := ZZ.out; simp; omega)
        have qI := hI9.keepZ kz (by have := ZZ.out; omega)
        have lto := out.lt
        have HB9 : Hid (Below w.heap.size w (u2.setCell ⟨zo, 2, none⟩ (.slice xb nb cb))) := (below_kg HB.out k9 (by have := ZZ.out; omega) (Nat.le_refl _)).setCell (by show w.heap.size ≤ zo; have := ZZ.out; omega) _
        have P2 : Hid (OwnK dgE (u2.setCell ⟨zo, 2, none⟩ (.slice xb nb cb)) w.heap.size (.slice xb nb cb) (listS (bdD b) b S4).1 ∧ ∀ z, (.slice xb nb cb : Value).ownBlock = some z → z ≠ g ∧ z ≠ zo ∧ z ≠ z2) := by
          have hlt : ∀ z, (.slice xb nb cb : Value).ownBlock = some z → X1.heap.size ≤ z := fun z hz => (World.ownsRow.lt O2 z hz).1
          refine ⟨OwnK.le (OwnK.keeps O2 kz (fun z hz => by have := hlt z hz; simp; omega)) HB.out.size, fun z hz => by have := hlt z hz; have := ZZ.out; have h1 := hI.row.lt; have h2 := rs.lt; omega⟩
        have P1' : Hid (OwnK fdE (u2.setCell ⟨zo, 2, none⟩ (.slice xb nb cb)) w.heap.size (.slice xa na ca) (listS (bdF b) b S3).1 ∧ ∀ z, (.slice xa na ca : Value).ownBlock = some z → z ≠ g ∧ z ≠ zo ∧ z ≠ z2) := ⟨OwnK.keeps (OwnK.keeps P1.out.1 k9 (fun z hz => by have := (P1.out.2 z hz).1; simpa using this)) kz (fun z hz => by have := (P1.out.2 z hz).2.1; simpa using this), P1.out.2⟩
        clear P1
        clear O2 hI9 k9 out9 rs9 kz lto hI out rs HB hnn
        go_upto_region 10 with fail
        clear zc fz
        generalize u2.setCell ⟨zo, 2, none⟩ (.slice xb nb cb) = X2 at qo qs qI HB9 P2 P1' ⊢
        have out := qo
        have rs := qs
        have hI := qI
        have HB := HB9
        clear qo qs qI HB9
        have P1 := P1'
        clear P1'
        obtain ⟨S5, hS5⟩ : ∃ z, (listS (bdD b) b S4).2 = z := ⟨_, rfl⟩
        have HS5 : Hid _ := hS5
        rw [hS5] at hI
        clear hS5
        have hF := refDropped22 X2 g x n c b S5 hI
        go_wp2_with fail
        refine hF.mono ?_
        rintro e u3 ⟨v3, rfl, O3, hI9, k9⟩
        clear hF
        obtain ⟨xc, cc, hv⟩ := (OwnG.isG O3).len
        obtain ⟨nc, hnn⟩ : ∃ z, (inV (listS (bdI b) b S5).1).length = z := ⟨_, rfl⟩
        rw [hnn] at hv
        subst hv
        have out9 := out.keepsF k9 (by have := ZZ.out; simp; omega)
        have rs9 := rs.keepsF k9 (by have := ZZ.out; simp; omega)
        have zc : u3.cell? ⟨zo, 3, none⟩ = some (.slice none 0 0) := by rw [out9.cell]; rfl
        have fz := out9.frozen 3
        have kz := Keep.cell1 u3 zo 3 (.slice xc nc cc)
        have qo : RowC (u3.setCell ⟨zo, 3, none⟩ (.slice xc nc cc)) zo (rpA 2 (.slice xa na ca) (.slice xb nb cb) (.slice xc nc cc)) := out9.set 3 _
        have qs := rs9.keepsF kz (by have := ZZ.out; simp; omega)
        have qI := hI9.keepZ kz (by have := ZZ.out; omega)
        have lto := out.lt
        have HB9 : Hid (Below w.heap.size w (u3.setCell ⟨zo, 3, none⟩ (.slice xc nc cc))) := (below_kg HB.out k9 (by have := ZZ.out; omega) (Nat.le_refl _)).setCell (by show w.heap.size ≤ zo; have := ZZ.out; omega) _
        have P3 : Hid (OwnI (u3.setCell ⟨zo, 3, none⟩ (.slice xc nc cc)) w.heap.size (.slice xc nc cc) (listS (bdI b) b S5).1 ∧ ∀ z, (.slice xc nc cc : Value).ownBlock = some z → z ≠ g ∧ z ≠ zo ∧ z ≠ z2) := by
          have hlt : ∀ z, (.slice xc nc cc : Value).ownBlock = some z → X2.heap.size ≤ z := fun z hz => (World.ownsRow.lt O3 z hz).1
          refine ⟨OwnG.le (OwnG.keepsF O3 kz (fun z hz => by have := hlt z hz; simp; omega)) HB.out.size, fun z hz => by have := hlt z hz; have := ZZ.out; have h1 := hI.row.lt; have h2 := rs.lt; omega⟩
        have P1' : Hid (OwnK fdE (u3.setCell ⟨zo, 3, none⟩ (.slice xc nc cc)) w.heap.size (.slice xa na ca) (listS (bdF b) b S3).1 ∧ ∀ z, (.slice xa na ca : Value).ownBlock = some z → z ≠ g ∧ z ≠ zo ∧ z ≠ z2) := ⟨OwnK.keeps (OwnK.keeps P1.out.1 k9 (fun z hz => by have := (P1.out.2 z hz).1; simpa using this)) kz (fun z hz => by have := (P1.out.2 z hz).2.1; simpa using this), P1.out.2⟩
        clear P1
        have P2' : Hid (OwnK dgE (u3.setCell ⟨zo, 3, none⟩ (.slice xc nc cc)) w.heap.size (.slice xb nb cb) (listS (bdD b) b S4).1 ∧ ∀ z, (.slice xb nb cb : Value).ownBlock = some z → z ≠ g ∧ z ≠ zo ∧ z ≠ z2) := ⟨OwnK.keeps (OwnK.keeps P2.out.1 k9 (fun z hz => by have := (P2.out.2 z hz).1; simpa using this)) kz (fun z hz => by have := (P2.out.2 z hz).2.1; simpa using this), P2.out.2⟩
        clear P2
        clear O3 hI9 k9 out9 rs9 kz lto hI out rs HB hnn
        go_upto_region 11 with fail
        clear zc fz
        generalize u3.setCell ⟨zo, 3, none⟩ (.slice xc nc cc) = X3 at qo qs qI HB9 P3 P1' P2' ⊢
        have out := qo
        have rs := qs
        have hI := qI
        have HB := HB9
        clear qo qs qI HB9
        have P1 := P1'
        clear P1'
        have P2 := P2'
        clear P2'
        obtain ⟨S6, hS6⟩ : ∃ z, (listS (bdI b) b S5).2 = z := ⟨_, rfl⟩
        have HS6 : Hid _ := hS6
        rw [hS6] at hI
        clear hS6
        have HFS : Hid ((getRs b).1.st = 2 ∧ (getRs b).1.fs = (listS (bdF b) b S3).1 ∧ (getRs b).1.ds = (listS (bdD b) b S4).1 ∧ (getRs b).1.dr = (listS (bdI b) b S5).1) := by
          unfold getRs
          simp only [HS3.out, HS4.out, HS5.out]
          refine ⟨HST.out, ?_, ?_, ?_⟩ <;> first | trivial | rfl
        have HGS : Hid ((getRs b).2 = rsS b (smS b S6)) := by
          show _ = _
          unfold getRs
          simp only [HS3.out, HS4.out, HS5.out, HS6.out]
        obtain ⟨i6, e6, d6⟩ := S6
        obtain ⟨sm, S7, hsm⟩ : ∃ sm S7, numS 4 b (i6, e6, d6) = (sm, S7) := ⟨_, _, rfl⟩
        have hsl := numS_lt 4 b (i6, e6, d6)
        rw [hsm] at hsl
        have HSM : Hid _ := hsm
        have HI6 : Hid (i6 ≤ n) := hI.le
        have c1 : X3.cell? ⟨g, 1, none⟩ = some (.int .i64 (i6 : Int)) := by rw [hI.row.cell]; rfl
        have hNb := refNumber22 X3 g x n c b (i6, e6, d6) 4 (by omega) hI
        rw [hsm] at hNb
        clear hsm
        go_wp2_with fail
        refine hNb.mono ?_
        rintro e X4 ⟨rfl, hI9, k9⟩
        clear hNb
        have out9 := out.keepsF k9 (by have := ZZ.out; simp; omega)
        have rs9 := rs.keepsF k9 (by have := ZZ.out; simp; omega)
        have HB9 : Hid (Below w.heap.size w X4) := below_kg HB.out k9 (by have := ZZ.out; omega) (Nat.le_refl _)
        have P1' : Hid (OwnK fdE X4 w.heap.size (.slice xa na ca) (listS (bdF b) b S3).1 ∧ _) := ⟨OwnK.keeps P1.out.1 k9 (fun z hz => by have := (P1.out.2 z hz).1; simpa using this), P1.out.2⟩
        have P2' : Hid (OwnK dgE X4 w.heap.size (.slice xb nb cb) (listS (bdD b) b S4).1 ∧ _) := ⟨OwnK.keeps P2.out.1 k9 (fun z hz => by have := (P2.out.2 z hz).1; simpa using this), P2.out.2⟩
        have P3' : Hid (OwnI X4 w.heap.size (.slice xc nc cc) (listS (bdI b) b S5).1 ∧ _) := ⟨OwnG.keepsF P3.out.1 k9 (fun z hz => by have := (P3.out.2 z hz).1; simpa using this), P3.out.2⟩
        clear hI out rs HB P1 P2 P3
        have hI := hI9
        have out := out9
        have rs := rs9
        have HB := HB9
        have P1 := P1'
        have P2 := P2'
        have P3 := P3'
        clear hI9 out9 rs9 HB9 P1' P2' P3' k9
        clear c1
        obtain ⟨i7, e7, d7⟩ := S7
        have c2 : X4.cell? ⟨g, 2, none⟩ = some (.int .i64 (e7 : Int)) := by rw [hI.row.cell]; rfl
        by_cases h7 : e7 = 0
        · subst h7
          have hfr := hI.isb.front9 i6 (by have := HI6.out; have := hI.len; omega)
          have i6c : (i6 : Int) ≤ (c : Int) := by have := HI6.out; have := hI.cap; omega
          have i60 : (0 : Int) ≤ (i6 : Int) := by omega
          have hCr := refCrc22 (.slice x i6 c) (b.take i6) X4 (by unfold maxLen; have := HI6.out; have := hI.small; rw [List.length_take]; omega) hfr
          have cm : ((sm : Nat) : Int) % 4294967296 = (sm : Int) := by omega
          obtain ⟨cr, hcr⟩ : ∃ z, (sumL (b.take i6)).toNat = z := ⟨_, rfl⟩
          rw [hcr] at hCr
          have HCR : Hid _ := hcr
          clear hcr hfr
          go_wp2_with fail
          refine hCr.mono ?_
          rintro e X5 ⟨rfl, rfl⟩
          clear hCr
          by_cases hne : sm = cr
          · have HS8 : Hid (smS b (i6, e6, d6) = (i7, 0, d7)) := by
              show _ = _
              unfold smS
              simp only [HSM.out]
              rw [if_neg (fun h9 => h9.2 (by rw [HCR.out]; exact hne))]
            have c1 : X5.cell? ⟨g, 1, none⟩ = some (.int .i64 (i7 : Int)) := by rw [hI.row.cell]; rfl
            subst hne
            have q2 : (((sm : Nat) : Int) != (sm : Int)) = false := by simp
            by_cases hl7 : i7 < n
            · have l7 : (i7 : Int) < (n : Int) := by omega
              obtain ⟨ee, hee0⟩ : ∃ z : Nat, z = 14 := ⟨_, rfl⟩
              obtain ⟨bad, hbad0⟩ : ∃ z : Nat, z = i7 := ⟨_, rfl⟩
              have HSS : Hid ((getRs b).2.2 = (ee, bad)) := by
                show _ = _
                rw [HGS.out, HS8.out]
                unfold rsS
                rw [if_pos ⟨rfl, by have := hI.len; simp only; omega⟩, hee0, hbad0]
                rfl
              have HEE : Hid (ee ≠ 0) := by show _ ≠ _; omega
              have hFb := refFail22 X5 g x n c b (i7, 0, d7) 14 i7 hI
              go_wp2_with fail
              refine hFb.mono ?_
              rintro e X6 ⟨rfl, hI9, k9⟩
              clear hFb
              have out9 := out.keepsF k9 (by have := ZZ.out; simp; omega)
              have rs9 := rs.keepsF k9 (by have := ZZ.out; simp; omega)
              have HB9 : Hid (Below w.heap.size w X6) := below_kg HB.out k9 (by have := ZZ.out; omega) (Nat.le_refl _)
              have P1' : Hid (OwnK fdE X6 w.heap.size (.slice xa na ca) (listS (bdF b) b S3).1 ∧ _) := ⟨OwnK.keeps P1.out.1 k9 (fun z hz => by have := (P1.out.2 z hz).1; simpa using this), P1.out.2⟩
              have P2' : Hid (OwnK dgE X6 w.heap.size (.slice xb nb cb) (listS (bdD b) b S4).1 ∧ _) := ⟨OwnK.keeps P2.out.1 k9 (fun z hz => by have := (P2.out.2 z hz).1; simpa using this), P2.out.2⟩
              have P3' : Hid (OwnI X6 w.heap.size (.slice xc nc cc) (listS (bdI b) b S5).1 ∧ _) := ⟨OwnG.keepsF P3.out.1 k9 (fun z hz => by have := (P3.out.2 z hz).1; simpa using this), P3.out.2⟩
              clear hI out rs HB P1 P2 P3
              have hI := hI9
              have out := out9
              have rs := rs9
              have HB := HB9
              have P1 := P1'
              have P2 := P2'
              have P3 := P3'
              clear hI9 out9 rs9 HB9 P1' P2' P3' k9
              clear c1 c2 l7
              have c2 : X6.cell? ⟨g, 2, none⟩ = some (.int .i64 (ee : Int)) := by rw [hI.row.cell, hee0]; rfl
              have hgz : g ∉ [z2] := by have := ZZ.out; simp; omega
              have kc2 : ∀ y, Keep [z2] X6 y → y.cell? ⟨g, 2, none⟩ = some (.int .i64 (ee : Int)) := fun y hy => by rw [(hI.row.keepsF hy hgz).cell, hee0]; rfl
              have kc3 : ∀ y, Keep [z2] X6 y → y.cell? ⟨g, 3, none⟩ = some (.int .i64 (bad : Int)) := fun y hy => by rw [(hI.row.keepsF hy hgz).cell, hbad0]; rfl
              have hee : ¬ ((ee : Nat) : Int) = 0 := by have := HEE.out; omega
              have hee2 : (((ee : Nat) : Int) != 0) = true := by simpa using hee
              go_upto_region 18 with fail
              clear hee hee2 c2
              refine wp_reliesI (⟨Keep.of_below, Keep.trans⟩ : KOk (Keep [z2])) (fun _ y => RowC y z2 (rpA 0 (.slice none 0 0) (.slice none 0 0) (.slice none 0 0))) [9] [none, none, none, none, none, none, none, none, none, some (0, [], []), none] [Fx (.agg (rpA 0 (.slice none 0 0) (.slice none 0 0) (.slice none 0 0))), Fx (.pointer (some ⟨g, 0, none⟩)), Fx (.pointer (some ⟨g, 0, none⟩)), Fx (.pointer (some ⟨g, 3, none⟩)), Fx (.int .i64 (bad : Int)), Fx (.pointer (some ⟨g, 0, none⟩)), Fx (.pointer (some ⟨g, 0, none⟩)), Fx (.pointer (some ⟨g, 2, none⟩)), Fx (.int .i64 (ee : Int)), (fun _ _ => True), Fx (.int .i64 (bad : Int))] rfl (by decide) rfl (by kernel_rfl) (by kernel_rfl) (by kernel_rfl) rs (fun _ _ _ h9 hb => h9.kept hb) ?_ ?_ ?_ ?_
              · repeat' (first | exact all_nil | apply all_cons)
                all_goals intro v y y' hv hb
                all_goals first | exact Fx_mono _ _ _ _ hv hb | exact trivial
              · intro i9 f9 hf9 hl9 v y y' hv hb
                rcases i9 with _ | i9
                · first | (cases hl9; done) | (cases hf9; first | exact hv | exact trivial)
                rcases i9 with _ | i9
                · first | (cases hl9; done) | (cases hf9; first | exact hv | exact trivial)
                rcases i9 with _ | i9
                · first | (cases hl9; done) | (cases hf9; first | exact hv | exact trivial)
                rcases i9 with _ | i9
                · first | (cases hl9; done) | (cases hf9; first | exact hv | exact trivial)
                rcases i9 with _ | i9
                · first | (cases hl9; done) | (cases hf9; first | exact hv | exact trivial)
                rcases i9 with _ | i9
                · first | (cases hl9; done) | (cases hf9; first | exact hv | exact trivial)
                rcases i9 with _ | i9
                · first | (cases hl9; done) | (cases hf9; first | exact hv | exact trivial)
                rcases i9 with _ | i9
                · first | (cases hl9; done) | (cases hf9; first | exact hv | exact trivial)
                rcases i9 with _ | i9
                · first | (cases hl9; done) | (cases hf9; first | exact hv | exact trivial)
                rcases i9 with _ | i9
                · first | (cases hl9; done) | (cases hf9; first | exact hv | exact trivial)
                rcases i9 with _ | i9
                · first | (cases hl9; done) | (cases hf9; first | exact hv | exact trivial)
                · simp at hf9
              · refine ⟨?_, ?_, ?_, ?_, ?_, ?_, ?_, ?_, ?_, ?_, ?_, trivial⟩
                all_goals
                  intro ρ x9 hk hat ρc ρg ρf ho hd
                  have o5 : ρ (.tmp 5) = .pointer (some ⟨g, 0, none⟩) := ho 5 rfl
                  have o2 : ρ (.tmp 2) = .pointer (some ⟨z2, 0, none⟩) := ho 2 rfl
                  clear ho
                  have c2 := kc2 x9 hk
                  have c3 := kc3 x9 hk
                  simp only [depsR, depR, slotR, Fx, List.getElem?_cons_succ, List.getElem?_cons_zero, Region.binds, forall_const] at hd
                  simp only [guardR, List.contains_cons, List.contains_nil, List.elem_cons, List.elem_nil, Nat.reduceBEq, Bool.or_false, Bool.false_or, Bool.or_true, Bool.true_or, cond_true, cond_false]
                  go_split_ands
                · go_simp
                · go_simp
                · go_simp
                · go_simp
                · go_simp
                · go_simp
                · go_simp
                · go_simp
                · go_simp
                · have hst := run_store_rp x9 z2 (rpA 0 (.slice none 0 0) (.slice none 0 0) (.slice none 0 0)) hat.1 (by rw [hat.2]; rfl) rfl (rpA_one _ _ _ _ _ _ _ _ _ _)
                  go_simp
                  exact ⟨⟨trivial, ⟨rowL_setRow_same _ _ _ hat.1, rowAt_setRow_L _ _ _ hat.1⟩⟩, Keep.mine1 x9 z2 _⟩
                · go_simp
              · intro us x1 hk hw hI9
                simp only [owed, Fx] at hw
                obtain ⟨e0, e1, e2, e3, e4, e5, e6, e7, e8, e9, e10, -⟩ := hw
                simp only [List.length_cons, List.length_nil, List.take_succ_cons, List.take_zero, List.drop_succ_cons, List.drop_zero, asg, List.cons_append, List.nil_append, e0, e1, e2, e3, e4, e5, e6, e7, e8, e10]
                clear e0 e1 e2 e3 e4 e5 e6 e7 e8 e10 e9
                have HX : Hid (RowC x1 z2 (rpA 0 (.slice none 0 0) (.slice none 0 0) (.slice none 0 0))) := hI9
                have Y4 : Hid (Below w.heap.size w x1) := below_kg HB.out hk (by have := ZZ.out; omega) (Nat.le_refl _)
                clear out rs hI HB hI9 hk kc2 kc3
                go_wp2
                refine rp_ret3 2 3 4 z2 _ rfl rfl rfl HX.out rfl ⟨Y4.out, ?_⟩
                have hg := getRs_is b
                cases hm : getM b with
                | ok r =>
                  rw [hm] at hg
                  exfalso
                  have h9 := hg.2
                  rw [HSS.out] at h9
                  exact HEE.out h9
                | error p =>
                  obtain ⟨a, cd⟩ := p
                  rw [hm] at hg
                  have h9 := hg.2
                  rw [HSS.out] at h9
                  have e1 : ee = cd := congrArg Prod.fst h9
                  have e2 : bad = a := congrArg Prod.snd h9
                  rw [← e1, ← e2]
                  rfl
            · have l7 : ¬ (i7 : Int) < (n : Int) := by omega
              have HEZ : Hid ((getRs b).2.2.1 = 0) := by
                show _ = _
                rw [HGS.out, HS8.out]
                unfold rsS
                rw [if_neg (fun h9 => by have h8 := h9.2; have := hI.len; simp only at h8; omega)]
              have ld := run_load_rp X5 zo out.1 (by rw [out.2]; rfl)
              rw [out.2] at ld
              have st9 := run_store_rp X5 z2 (rpA 2 (.slice xa na ca) (.slice xb nb cb) (.slice xc nc cc)) rs.1 (by rw [rs.2]; rfl) rfl (rpA_one _ _ _ _ _ _ _ _ _ _)
              have HX : Hid (RowC (X5.setRow z2 (rpA 2 (.slice xa na ca) (.slice xb nb cb) (.slice xc nc cc))) z2 (rpA 2 (.slice xa na ca) (.slice xb nb cb) (.slice xc nc cc))) := ⟨rowL_setRow_same _ _ _ rs.1, rowAt_setRow_L _ _ _ rs.1⟩
              have kr := Keep.mine1 X5 z2 (rpA 2 (.slice xa na ca) (.slice xb nb cb) (.slice xc nc cc))
              have Y1 : Hid (OwnK fdE (X5.setRow z2 (rpA 2 (.slice xa na ca) (.slice xb nb cb) (.slice xc nc cc))) w.heap.size (.slice xa na ca) (getRs b).1.fs) := by
                show OwnK _ _ _ _ _
                rw [HFS.out.2.1]
                exact OwnK.keeps P1.out.1 kr (fun z hz => by have := (P1.out.2 z hz).2.2; simpa using this)
              have Y2 : Hid (OwnK dgE (X5.setRow z2 (rpA 2 (.slice xa na ca) (.slice xb nb cb) (.slice xc nc cc))) w.heap.size (.slice xb nb cb) (getRs b).1.ds) := by
                show OwnK _ _ _ _ _
                rw [HFS.out.2.2.1]
                exact OwnK.keeps P2.out.1 kr (fun z hz => by have := (P2.out.2 z hz).2.2; simpa using this)
              have Y3 : Hid (OwnI (X5.setRow z2 (rpA 2 (.slice xa na ca) (.slice xb nb cb) (.slice xc nc cc))) w.heap.size (.slice xc nc cc) (getRs b).1.dr) := by
                show OwnI _ _ _ _
                rw [HFS.out.2.2.2]
                exact OwnG.keepsF P3.out.1 kr (fun z hz => by have := (P3.out.2 z hz).2.2; simpa using this)
              have Y4 : Hid (Below w.heap.size w (X5.setRow z2 (rpA 2 (.slice xa na ca) (.slice xb nb cb) (.slice xc nc cc)))) := below_row HB.out (by have := ZZ.out; omega) _
              clear out rs hI kr HB
              go_wp2
              refine rp_ret3 2 3 4 z2 _ rfl rfl rfl HX.out rfl ⟨Y4.out, ?_⟩
              have hg := getRs_is b
              cases hm : getM b with
              | ok r =>
                rw [hm] at hg
                obtain ⟨hg, -⟩ := hg
                subst hg
                have hst : (getRs b).1.st = 2 := HFS.out.1
                refine ⟨xa, na, ca, xb, nb, cb, xc, nc, cc, ?_, Y1.out, Y2.out, Y3.out⟩
                rw [hst]
                rfl
              | error p =>
                obtain ⟨a, cd⟩ := p
                rw [hm] at hg
                exfalso
                have h9 := hg.2
                have h8 := HEZ.out
                rw [h9] at h8
                exact hg.1 h8
          · have q1 : ¬ ((sm : Nat) : Int) = (cr : Int) := by omega
            have q2 : (((sm : Nat) : Int) != (cr : Int)) = true := bne_iff_ne.2 q1
            have HS8 : Hid (smS b (i6, e6, d6) = (i7, 12, i6)) := by
              show _ = _
              unfold smS
              simp only [HSM.out]
              rw [if_pos ⟨trivial, by rw [HCR.out]; exact hne⟩]
              rfl
            obtain ⟨ee, hee0⟩ : ∃ z : Nat, z = 12 := ⟨_, rfl⟩
            obtain ⟨bad, hbad0⟩ : ∃ z : Nat, z = i6 := ⟨_, rfl⟩
            have HSS : Hid ((getRs b).2.2 = (ee, bad)) := by
              show _ = _
              rw [HGS.out, HS8.out, rsS_no (by simp), hee0, hbad0]
            have HEE : Hid (ee ≠ 0) := by show _ ≠ _; omega
            have hFb := refFail22 X5 g x n c b (i7, 0, d7) 12 i6 hI
            clear hne
            go_wp2_with fail
            refine hFb.mono ?_
            rintro e X6 ⟨rfl, hI9, k9⟩
            clear hFb
            have out9 := out.keepsF k9 (by have := ZZ.out; simp; omega)
            have rs9 := rs.keepsF k9 (by have := ZZ.out; simp; omega)
            have HB9 : Hid (Below w.heap.size w X6) := below_kg HB.out k9 (by have := ZZ.out; omega) (Nat.le_refl _)
            have P1' : Hid (OwnK fdE X6 w.heap.size (.slice xa na ca) (listS (bdF b) b S3).1 ∧ _) := ⟨OwnK.keeps P1.out.1 k9 (fun z hz => by have := (P1.out.2 z hz).1; simpa using this), P1.out.2⟩
            have P2' : Hid (OwnK dgE X6 w.heap.size (.slice xb nb cb) (listS (bdD b) b S4).1 ∧ _) := ⟨OwnK.keeps P2.out.1 k9 (fun z hz => by have := (P2.out.2 z hz).1; simpa using this), P2.out.2⟩
            have P3' : Hid (OwnI X6 w.heap.size (.slice xc nc cc) (listS (bdI b) b S5).1 ∧ _) := ⟨OwnG.keepsF P3.out.1 k9 (fun z hz => by have := (P3.out.2 z hz).1; simpa using this), P3.out.2⟩
            clear hI out rs HB P1 P2 P3
            have hI := hI9
            have out := out9
            have rs := rs9
            have HB := HB9
            have P1 := P1'
            have P2 := P2'
            have P3 := P3'
            clear hI9 out9 rs9 HB9 P1' P2' P3' k9
            clear c2
            have c2 : X6.cell? ⟨g, 2, none⟩ = some (.int .i64 (ee : Int)) := by rw [hI.row.cell, hee0]; rfl
            have hgz : g ∉ [z2] := by have := ZZ.out; simp; omega
            have kc2 : ∀ y, Keep [z2] X6 y → y.cell? ⟨g, 2, none⟩ = some (.int .i64 (ee : Int)) := fun y hy => by rw [(hI.row.keepsF hy hgz).cell, hee0]; rfl
            have kc3 : ∀ y, Keep [z2] X6 y → y.cell? ⟨g, 3, none⟩ = some (.int .i64 (bad : Int)) := fun y hy => by rw [(hI.row.keepsF hy hgz).cell, hbad0]; rfl
            have hee : ¬ ((ee : Nat) : Int) = 0 := by have := HEE.out; omega
            have hee2 : (((ee : Nat) : Int) != 0) = true := by simpa using hee
            go_upto_region 18 with fail
            clear hee hee2 c2
            refine wp_reliesI (⟨Keep.of_below, Keep.trans⟩ : KOk (Keep [z2])) (fun _ y => RowC y z2 (rpA 0 (.slice none 0 0) (.slice none 0 0) (.slice none 0 0))) [9] [none, none, none, none, none, none, none, none, none, some (0, [], []), none] [Fx (.agg (rpA 0 (.slice none 0 0) (.slice none 0 0) (.slice none 0 0))), Fx (.pointer (some ⟨g, 0, none⟩)), Fx (.pointer (some ⟨g, 0, none⟩)), Fx (.pointer (some ⟨g, 3, none⟩)), Fx (.int .i64 (bad : Int)), Fx (.pointer (some ⟨g, 0, none⟩)), Fx (.pointer (some ⟨g, 0, none⟩)), Fx (.pointer (some ⟨g, 2, none⟩)), Fx (.int .i64 (ee : Int)), (fun _ _ => True), Fx (.int .i64 (bad : Int))] rfl (by decide) rfl (by kernel_rfl) (by kernel_rfl) (by kernel_rfl) rs (fun _ _ _ h9 hb => h9.kept hb) ?_ ?_ ?_ ?_
            · repeat' (first | exact all_nil | apply all_cons)
              all_goals intro v y y' hv hb
              all_goals first | exact Fx_mono _ _ _ _ hv hb | exact trivial
            · intro i9 f9 hf9 hl9 v y y' hv hb
              rcases i9 with _ | i9
              · first | (cases hl9; done) | (cases hf9; first | exact hv | exact trivial)
              rcases i9 with _ | i9
              · first | (cases hl9; done) | (cases hf9; first | exact hv | exact trivial)
              rcases i9 with _ | i9
              · first | (cases hl9; done) | (cases hf9; first | exact hv | exact trivial)
              rcases i9 with _ | i9
              · first | (cases hl9; done) | (cases hf9; first | exact hv | exact trivial)
              rcases i9 with _ | i9
              · first | (cases hl9; done) | (cases hf9; first | exact hv | exact trivial)
              rcases i9 with _ | i9
              · first | (cases hl9; done) | (cases hf9; first | exact hv | exact trivial)
              rcases i9 with _ | i9
              · first | (cases hl9; done) | (cases hf9; first | exact hv | exact trivial)
              rcases i9 with _ | i9
              · first | (cases hl9; done) | (cases hf9; first | exact hv | exact trivial)
              rcases i9 with _ | i9
              · first | (cases hl9; done) | (cases hf9; first | exact hv | exact trivial)
              rcases i9 with _ | i9
              · first | (cases hl9; done) | (cases hf9; first | exact hv | exact trivial)
              rcases i9 with _ | i9
              · first | (cases hl9; done) | (cases hf9; first | exact hv | exact trivial)
              · simp at hf9
            · refine ⟨?_, ?_, ?_, ?_, ?_, ?_, ?_, ?_, ?_, ?_, ?_, trivial⟩
              all_goals
                intro ρ x9 hk hat ρc ρg ρf ho hd
                have o5 : ρ (.tmp 5) = .pointer (some ⟨g, 0, none⟩) := ho 5 rfl
                have o2 : ρ (.tmp 2) = .pointer (some ⟨z2, 0, none⟩) := ho 2 rfl
                clear ho
                have c2 := kc2 x9 hk
                have c3 := kc3 x9 hk
                simp only [depsR, depR, slotR, Fx, List.getElem?_cons_succ, List.getElem?_cons_zero, Region.binds, forall_const] at hd
                simp only [guardR, List.contains_cons, List.contains_nil, List.elem_cons, List.elem_nil, Nat.reduceBEq, Bool.or_false, Bool.false_or, Bool.or_true, Bool.true_or, cond_true, cond_false]
                go_split_ands
              · go_simp
              · go_simp
              · go_simp
              · go_simp
              · go_simp
              · go_simp
              · go_simp
              · go_simp
              · go_simp
              · have hst := run_store_rp x9 z2 (rpA 0 (.slice none 0 0) (.slice none 0 0) (.slice none 0 0)) hat.1 (by rw [hat.2]; rfl) rfl (rpA_one _ _ _ _ _ _ _ _ _ _)
                go_simp
                exact ⟨⟨trivial, ⟨rowL_setRow_same _ _ _ hat.1, rowAt_setRow_L _ _ _ hat.1⟩⟩, Keep.mine1 x9 z2 _⟩
              · go_simp
            · intro us x1 hk hw hI9
              simp only [owed, Fx] at hw
              obtain ⟨e0, e1, e2, e3, e4, e5, e6, e7, e8, e9, e10, -⟩ := hw
              simp only [List.length_cons, List.length_nil, List.take_succ_cons, List.take_zero, List.drop_succ_cons, List.drop_zero, asg, List.cons_append, List.nil_append, e0, e1, e2, e3, e4, e5, e6, e7, e8, e10]
              clear e0 e1 e2 e3 e4 e5 e6 e7 e8 e10 e9
              have HX : Hid (RowC x1 z2 (rpA 0 (.slice none 0 0) (.slice none 0 0) (.slice none 0 0))) := hI9
              have Y4 : Hid (Below w.heap.size w x1) := below_kg HB.out hk (by have := ZZ.out; omega) (Nat.le_refl _)
              clear out rs hI HB hI9 hk kc2 kc3
              go_wp2
              refine rp_ret3 2 3 4 z2 _ rfl rfl rfl HX.out rfl ⟨Y4.out, ?_⟩
              have hg := getRs_is b
              cases hm : getM b with
              | ok r =>
                rw [hm] at hg
                exfalso
                have h9 := hg.2
                rw [HSS.out] at h9
                exact HEE.out h9
              | error p =>
                obtain ⟨a, cd⟩ := p
                rw [hm] at hg
                have h9 := hg.2
                rw [HSS.out] at h9
                have e1 : ee = cd := congrArg Prod.fst h9
                have e2 : bad = a := congrArg Prod.snd h9
                rw [← e1, ← e2]
                rfl
        · obtain ⟨ee, hee0⟩ : ∃ z : Nat, z = e7 := ⟨_, rfl⟩
          obtain ⟨bad, hbad0⟩ : ∃ z : Nat, z = d7 := ⟨_, rfl⟩
          have h7' : ¬ ((e7 : Nat) : Int) = 0 := by omega
          have HSS : Hid ((getRs b).2.2 = (ee, bad)) := by
            show _ = _
            have e8 : smS b (i6, e6, d6) = (i7, e7, d7) := by
              unfold smS
              simp only [HSM.out]
              rw [if_neg (fun h9 => h7 h9.1)]
            rw [HGS.out, e8, rsS_no (S := (i7, e7, d7)) h7, hee0, hbad0]
          have HEE : Hid (ee ≠ 0) := by show _ ≠ _; rw [hee0]; exact h7
          subst hee0 hbad0
          clear c2
          have c2 : X4.cell? ⟨g, 2, none⟩ = some (.int .i64 (ee : Int)) := by rw [hI.row.cell]; rfl
          have hgz : g ∉ [z2] := by have := ZZ.out; simp; omega
          have kc2 : ∀ y, Keep [z2] X4 y → y.cell? ⟨g, 2, none⟩ = some (.int .i64 (ee : Int)) := fun y hy => by rw [(hI.row.keepsF hy hgz).cell]; rfl
          have kc3 : ∀ y, Keep [z2] X4 y → y.cell? ⟨g, 3, none⟩ = some (.int .i64 (bad : Int)) := fun y hy => by rw [(hI.row.keepsF hy hgz).cell]; rfl
          have hee : ¬ ((ee : Nat) : Int) = 0 := by have := HEE.out; omega
          have hee2 : (((ee : Nat) : Int) != 0) = true := by simpa using hee
          go_upto_region 18 with fail
          clear hee hee2 c2
          refine wp_reliesI (⟨Keep.of_below, Keep.trans⟩ : KOk (Keep [z2])) (fun _ y => RowC y z2 (rpA 0 (.slice none 0 0) (.slice none 0 0) (.slice none 0 0))) [9] [none, none, none, none, none, none, none, none, none, some (0, [], []), none] [Fx (.agg (rpA 0 (.slice none 0 0) (.slice none 0 0) (.slice none 0 0))), Fx (.pointer (some ⟨g, 0, none⟩)), Fx (.pointer (some ⟨g, 0, none⟩)), Fx (.pointer (some ⟨g, 3, none⟩)), Fx (.int .i64 (bad : Int)), Fx (.pointer (some ⟨g, 0, none⟩)), Fx (.pointer (some ⟨g, 0, none⟩)), Fx (.pointer (some ⟨g, 2, none⟩)), Fx (.int .i64 (ee : Int)), (fun _ _ => True), Fx (.int .i64 (bad : Int))] rfl (by decide) rfl (by kernel_rfl) (by kernel_rfl) (by kernel_rfl) rs (fun _ _ _ h9 hb => h9.kept hb) ?_ ?_ ?_ ?_
          · repeat' (first | exact all_nil | apply all_cons)
            all_goals intro v y y' hv hb
            all_goals first | exact Fx_mono _ _ _ _ hv hb | exact trivial
          · intro i9 f9 hf9 hl9 v y y' hv hb
            rcases i9 with _ | i9
            · first | (cases hl9; done) | (cases hf9; first | exact hv | exact trivial)
            rcases i9 with _ | i9
            · first | (cases hl9; done) | (cases hf9; first | exact hv | exact trivial)
            rcases i9 with _ | i9
            · first | (cases hl9; done) | (cases hf9; first | exact hv | exact trivial)
            rcases i9 with _ | i9
            · first | (cases hl9; done) | (cases hf9; first | exact hv | exact trivial)
            rcases i9 with _ | i9
            · first | (cases hl9; done) | (cases hf9; first | exact hv | exact trivial)
            rcases i9 with _ | i9
            · first | (cases hl9; done) | (cases hf9; first | exact hv | exact trivial)
            rcases i9 with _ | i9
            · first | (cases hl9; done) | (cases hf9; first | exact hv | exact trivial)
            rcases i9 with _ | i9
            · first | (cases hl9; done) | (cases hf9; first | exact hv | exact trivial)
            rcases i9 with _ | i9
            · first | (cases hl9; done) | (cases hf9; first | exact hv | exact trivial)
            rcases i9 with _ | i9
            · first | (cases hl9; done) | (cases hf9; first | exact hv | exact trivial)
            rcases i9 with _ | i9
            · first | (cases hl9; done) | (cases hf9; first | exact hv | exact trivial)
            · simp at hf9
          · refine ⟨?_, ?_, ?_, ?_, ?_, ?_, ?_, ?_, ?_, ?_, ?_, trivial⟩
            all_goals
              intro ρ x9 hk hat ρc ρg ρf ho hd
              have o5 : ρ (.tmp 5) = .pointer (some ⟨g, 0, none⟩) := ho 5 rfl
              have o2 : ρ (.tmp 2) = .pointer (some ⟨z2, 0, none⟩) := ho 2 rfl
              clear ho
              have c2 := kc2 x9 hk
              have c3 := kc3 x9 hk
              simp only [depsR, depR, slotR, Fx, List.getElem?_cons_succ, List.getElem?_cons_zero, Region.binds, forall_const] at hd
              simp only [guardR, List.contains_cons, List.contains_nil, List.elem_cons, List.elem_nil, Nat.reduceBEq, Bool.or_false, Bool.false_or, Bool.or_true, Bool.true_or, cond_true, cond_false]
              go_split_ands
            · go_simp
            · go_simp
            · go_simp
            · go_simp
            · go_simp
            · go_simp
            · go_simp
            · go_simp
            · go_simp
            · have hst := run_store_rp x9 z2 (rpA 0 (.slice none 0 0) (.slice none 0 0) (.slice none 0 0)) hat.1 (by rw [hat.2]; rfl) rfl (rpA_one _ _ _ _ _ _ _ _ _ _)
              go_simp
              exact ⟨⟨trivial, ⟨rowL_setRow_same _ _ _ hat.1, rowAt_setRow_L _ _ _ hat.1⟩⟩, Keep.mine1 x9 z2 _⟩
            · go_simp
          · intro us x1 hk hw hI9
            simp only [owed, Fx] at hw
            obtain ⟨e0, e1, e2, e3, e4, e5, e6, e7, e8, e9, e10, -⟩ := hw
            simp only [List.length_cons, List.length_nil, List.take_succ_cons, List.take_zero, List.drop_succ_cons, List.drop_zero, asg, List.cons_append, List.nil_append, e0, e1, e2, e3, e4, e5, e6, e7, e8, e10]
            clear e0 e1 e2 e3 e4 e5 e6 e7 e8 e10 e9
            have HX : Hid (RowC x1 z2 (rpA 0 (.slice none 0 0) (.slice none 0 0) (.slice none 0 0))) := hI9
            have Y4 : Hid (Below w.heap.size w x1) := below_kg HB.out hk (by have := ZZ.out; omega) (Nat.le_refl _)
            clear out rs hI HB hI9 hk kc2 kc3
            go_wp2
            refine rp_ret3 2 3 4 z2 _ rfl rfl rfl HX.out rfl ⟨Y4.out, ?_⟩
            have hg := getRs_is b
            cases hm : getM b with
            | ok r =>
              rw [hm] at hg
              exfalso
              have h9 := hg.2
              rw [HSS.out] at h9
              exact HEE.out h9
            | error p =>
              obtain ⟨a, cd⟩ := p
              rw [hm] at hg
              have h9 := hg.2
              rw [HSS.out] at h9
              have e1 : ee = cd := congrArg Prod.fst h9
              have e2 : bad = a := congrArg Prod.snd h9
              rw [← e1, ← e2]
              rfl
end Go.Proofs.YtklbdhpnbjhgkaaGreatDoor
