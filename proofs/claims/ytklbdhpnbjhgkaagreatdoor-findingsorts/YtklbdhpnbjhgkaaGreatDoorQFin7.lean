import Derived.Test.YtklbdhpnbjhgkaaGreatDoorQFin6
namespace Go.Proofs.YtklbdhpnbjhgkaaGreatDoor
open Go.RowKit Go.Sort

/-! The reader: lists -/
theorem intsElt : Elt 30 3 8 := ⟨Tryz.underlying30, by
  have h : (Tryz.prog.info? 3).map (fun i => (i.zero, i.size, i.bytes)) = some (some (.int .i64 0), 1, 8) := by kernel_rfl
  obtain ⟨i, hi, hz⟩ := Option.map_eq_some_iff.1 h
  simp only [Prod.mk.injEq] at hz
  exact ⟨i, _, hi, hz.1, hz.2.1, hz.2.2, rfl⟩⟩
def inV (l : List Int) : List Value := l.map fun i => Value.int .i64 i
theorem inV_len (l : List Int) : (inV l).length = l.length := by simp [inV]
theorem inV_app (l m : List Int) : inV (l ++ m) = inV l ++ inV m := by simp [inV]
theorem inV_get (l : List Int) (i : Nat) (k : Int) (h : l[i]? = some k) : (inV l)[i]? = some (.int .i64 k) := by simp [inV, h]
/-- A list of numbers of one's own. -/
def OwnI (w : World) (B : Nat) (v : Value) (l : List Int) : Prop := OwnG 3 w B v (inV l)
/-- What a list of the reader's leaves. -/
def LsQ {α : Type} (Own : World → Nat → Value → List α → Prop) (w : World) (g : Nat) (x : Option Addr) (n c : Nat) (b : List UInt8) (r : Except (Nat × Nat) (List α × Nat)) (e : Ending) (w' : World) : Prop := Keep [g] w w' ∧ match r with
  | .ok (l, j) => ∃ v, e = .returned (.tuple #[v, .pointer none]) ∧ Own w' w.heap.size v l ∧ RdI w' g x n c b j
  | .error (a, cd) => ∃ q, e = .returned (.tuple #[.slice none 0 0, .pointer (some ⟨q, 0, none⟩)]) ∧ w.heap.size ≤ q ∧ RowC w' q (ftA a cd)
theorem rdL_err {α : Type} {one : RdT α} {lt : α → α → Bool} {n : Nat} {l : List α} {b : List UInt8} {j : Nat} {p : Nat × Nat} (hn : 0 < n) (h : one b j = .error p) : rdL one lt n l b j = .error p := by
  obtain ⟨m, rfl⟩ : ∃ m, n = m + 1 := ⟨n - 1, by omega⟩
  unfold rdL; rw [h]
theorem rdL_bad {α : Type} {one : RdT α} {lt : α → α → Bool} {n : Nat} {l : List α} {b : List UInt8} {j : Nat} {v : α} {j' : Nat} (hn : 0 < n) (h : one b j = .ok (v, j')) (hb : behO lt l.getLast? v = false) : rdL one lt n l b j = .error (j, 11) := by
  obtain ⟨m, rfl⟩ : ∃ m, n = m + 1 := ⟨n - 1, by omega⟩
  unfold rdL; rw [h]; dsimp only; rw [hb]; rfl
theorem rdL_step {α : Type} {one : RdT α} {lt : α → α → Bool} {n : Nat} {l : List α} {b : List UInt8} {j : Nat} {v : α} {j' : Nat} (hn : 0 < n) (h : one b j = .ok (v, j')) (hb : behO lt l.getLast? v = true) : rdL one lt n l b j = rdL one lt (n - 1) (l ++ [v]) b j' := by
  obtain ⟨m, rfl⟩ : ∃ m, n = m + 1 := ⟨n - 1, by omega⟩
  rw [rdL, h]; dsimp only; rw [hb]; rfl
theorem okAny_of (v : Nat) : (fun _ : Int => true) (v : Int) = okAny v := rfl
theorem cmpF_le (u v : Fd) : decide (0 ≤ cmpF u v) = !ltF u v := by
  have := cmpF_lt u v
  cases h : ltF u v
  · rw [h] at this; simp; simp at this; omega
  · rw [h] at this; simp; simp at this; omega
theorem dcmp_le (u v : Dg) : decide (0 ≤ dcmp u v) = !ltD u v := by
  unfold dcmp ltD
  by_cases h : dnum u 32 < dnum v 32
  · simp [h]
  · simp only [h, if_false, decide_false, Bool.not_false]
    split <;> simp
theorem cmpI_le (u v : Int) : decide (0 ≤ cmpI u v) = !ltI u v := by
  have := cmpI_lt u v
  unfold ltI
  by_cases h : u < v
  · simp only [h, iff_true] at this; simp [h]; omega
  · simp only [h, iff_false] at this; simp [h]; omega
theorem last_get {α : Type} (l : List α) (k : Nat) (hk : l.length = k) (h0 : 0 < k) : ∃ u, l[k - 1]? = some u ∧ l.getLast? = some u := by
  rw [List.getLast?_eq_getElem?, hk]
  obtain ⟨u, hu⟩ : ∃ u, l[k - 1]? = some u := ⟨_, List.getElem?_eq_getElem (by omega)⟩
  exact ⟨u, hu, hu⟩
theorem grownB_below {w w' : World} {B : Nat} {row : Option Nat} (hg : w.grownBy w' row) (hb : B ≤ w.heap.size) (hr : ∀ k, row = some k → B ≤ k) : Below B w w' := (Below.refl B w).grown hg hb hr
theorem row_range {w : World} {g : Nat} {c : Array Value} (h : RowC w g c) : w.rangeAt g 0 c.toList := fun j u hu => by rw [Nat.zero_add, h.cell]; rw [Array.getElem?_toList] at hu; exact hu
theorem below_of_grow {w w' : World} (h : ∃ q os, w' = grow (w.drewN q) os) : Below w.heap.size w w' := by
  obtain ⟨q, os, rfl⟩ := h
  exact (BelD.of_grow w q os).1
theorem OwnI.keep {w w' : World} {B : Nat} {v : Value} {l : List Int} (h : OwnI w B v l) (hb : Below w.heap.size w w') : OwnI w' B v l := OwnG.keep h hb
theorem Keep.appB {F : List Nat} {w w1 w2 : World} (h : Keep F w w1) (hb : Below w.heap.size w1 w2) : Keep F w w2 :=
  ⟨hb.os.trans h.os, hb.tape.trans h.tape, hb.output.trans h.output, Nat.le_trans h.size hb.size, fun k hk hn => (hb.block k hk).trans (h.block k hk hn)⟩
theorem RdI.belowB {w w' : World} {B g : Nat} {x : Option Addr} {n c : Nat} {b : List UInt8} {i : Nat} (h : RdI w g x n c b i) (hb : Below B w w') (hg : g < B) (hx : 0 < n → ∀ a, x = some a → a.block < B) (h0 : 0 < n) : RdI w' g x n c b i :=
  ⟨h.row.block (hb.block g hg), h.isb.below hb (fun y _ _ he _ => by cases he; exact hx h0 y rfl), h.len, h.cap, h.far, h.small, h.le⟩
set_option linter.unusedSimpArgs false in
set_option maxRecDepth 100000 in
set_option maxHeartbeats 4000000 in
theorem list_fd22 (w : World) (g : Nat) (x : Option Addr) (n c : Nat) (b : List UInt8) (i : Nat) (h : RdI w g x n c b i) :
    Calls Tryz.prog 43 #[.pointer (some ⟨g, 0, none⟩), .func (.func 44) #[.pointer (some ⟨g, 0, none⟩)] #[], .func (.func 23) #[] #[]] w fun e w' => LsQ (OwnK fdE) w g x n c b (rdC rdF ltF b i) e w' := by
  have hn := number22 w g x n c b i 2 (.inr rfl) _ _ _ anyNum22 okAny_of enN22 h
  have en1 : ∀ args w, (callFunc 44 args).run Tryz.prog w = .ok (.enter 44 args) w := enters_of Tryz.func44 (by kernel_rfl) rfl
  have en2 : ∀ args w, (callFunc 23 args).run Tryz.prog w = .ok (.enter 23 args) w := enters_of Tryz.func23 (by kernel_rfl) rfl
  have hgl := h.row.lt
  have hxl := h.old
  cases hr : rdN 2 okAny b i with
  | error p =>
    have hs : rdC rdF ltF b i = .error p := by unfold rdC; rw [hr]
    rw [hs]
    rw [hr] at hn
    clear hr hs h hxl
    go_enter Tryz.func43, Tryz.ntmps43
    go_wp2_with fail
    refine hn.mono ?_
    rintro e w1 ⟨hK, q, rfl, hq, hR⟩
    clear hn
    go_wp2
    go_ret2
    exact ⟨hK, q, rfl, hq, hR⟩
  | ok p =>
    obtain ⟨m, j0⟩ := p
    have hs : rdC rdF ltF b i = rdL rdF ltF m [] b j0 := by unfold rdC; rw [hr]
    have hm : m < 65536 := by
      obtain ⟨-, p2, -, -⟩ := rdN_ok hr
      rw [← p2]; exact numN_lt _ _ 2
    have h0 : 0 < n := by have := (rdN_ok hr).1; have := h.len; omega
    rw [hs]
    rw [hr] at hn
    obtain ⟨RES, hres⟩ : ∃ r, rdL rdF ltF m [] b j0 = r := ⟨_, rfl⟩
    rw [hres]
    have HRES : Hid (rdL rdF ltF m [] b j0 = RES) := hres
    have HG : Hid (g < w.heap.size) := hgl
    have HX : Hid (0 < n → ∀ a, x = some a → a.block < w.heap.size) := hxl
    have H0 : Hid (0 < n) := h0
    have HM : Hid (m < 65536) := hm
    clear hr hs h hxl hres hgl h0 hm
    go_enter Tryz.func43, Tryz.ntmps43
    go_wp2_with fail
    refine hn.mono ?_
    rintro e w1 ⟨hK, rfl, hR⟩
    clear hn
    go_wp2_with fail
    go_loopw [10, 24] (fun lv kv wr => ∃ (lv0 : Value) (k : Nat) (l : List Fd) (j : Nat), lv0 = lv ∧ k ≤ m ∧ kv = .int .i64 k ∧ OwnK fdE wr w.heap.size lv l ∧ l.length = k ∧ RdI wr g x n c b j ∧ Keep [g] w wr ∧ rdL rdF ltF m [] b j0 = rdL rdF ltF (m - k) l b j) (fun _ kv _ => m - (intOf kv).toNat)
    case atStart => exact ⟨_, 0, [], j0, rfl, by omega, rfl, OwnK.nil _ _ _, rfl, hR, hK, rfl⟩
    case round =>
      clear hR hK
      obtain ⟨lv, k, l, j, rfl, hk, rfl, hO, hlk, hR, hK, hE⟩ := hrel
      by_cases hlt : k < m
      · have i0 : (k : Int) < (m : Int) := by omega
        have wk2 : IntKind.i64.wrap ((k : Int) + 1) = (k : Int) + 1 := by rw [IntKind.wrap_i64]; have := HM.out; omega
        have c1 : wr.cell? ⟨g, 1, none⟩ = some (.int .i64 (j : Int)) := by rw [hR.row.cell]; rfl
        have h1 := finding22 wr g x n c b j hR
        cases hr1 : rdF b j with
        | error p =>
          rw [hr1] at h1
          have HE : Hid (RES = .error p) := by show _ = _; rw [← HRES.out, hE]; exact rdL_err (by omega) hr1
          have HK : Hid (Keep [g] w wr) := hK
          clear hr1 hE hR hO hK hlk
          go_wp2_with fail
          refine h1.mono ?_
          rintro e w2 ⟨hK2, q, rfl, hq, hRq⟩
          clear h1
          have HQ : Hid (w.heap.size ≤ q) := Nat.le_trans HK.out.size hq
          have HK2 : Hid (Keep [g] w w2) := HK.out.trans hK2
          have hzq : q < w2.heap.size := hRq.lt
          have hRq3 : Hid (RowC (w2.alloc (.cells (fdA fdZ) 25)) q (ftA p.1 p.2)) := hRq.kept (below_alloc _ _)
          have HK3 : Hid (Keep [g] w (w2.alloc (.cells (fdA fdZ) 25))) := HK2.out.trans (Keep.of_below (below_alloc _ _))
          have st := run_store_fd (w2.alloc (.cells (fdA fdZ) 25)) w2.heap.size (fdA fdZ) (by rw [(RowC.new w2 _ _).1]) (by rw [(RowC.new w2 _ _).2]; rfl) rfl (fdA_one _)
          clear hK2 hq hRq hzq
          go_wp2
          go_ret2
          rw [HE.out]
          exact ⟨HK3.out, q, rfl, HQ.out, hRq3.out⟩
        | ok p =>
          obtain ⟨v, j'⟩ := p
          rw [hr1] at h1
          have HR1 : Hid (rdF b j = .ok (v, j')) := hr1
          have HE : Hid _ := hE
          have HL : Hid (l.length = k) := hlk
          have HK : Hid (Keep [g] w wr) := hK
          have HO : Hid (OwnK fdE wr w.heap.size lv l) := hO
          clear hr1 hE hR hK hlk hO
          go_wp2_with fail
          refine h1.mono ?_
          rintro e w2 ⟨hK2, rfl, hR2⟩
          clear h1
          have HK2 : Hid (Keep [g] w w2) := HK.out.trans hK2
          have HO2 : Hid (OwnK fdE w2 w.heap.size lv l) := OwnK.keeps HO.out hK2 (fun q hq => by have := (World.ownsRow.lt HO.out q hq).1; have := HG.out; simp; omega)
          clear HO HK hK2
          have st := run_store_fd (w2.alloc (.cells (fdA fdZ) 25)) w2.heap.size (fdA v) (by rw [(RowC.new w2 _ _).1]) (by rw [(RowC.new w2 _ _).2]; rfl) rfl (fdA_one _)
          have bS := below_alloc w2 (.cells (fdA v) 25)
          have hV := RowC.new w2 (fdA v) 25
          go_upto_region 12 with fail
          obtain ⟨zv, hzv⟩ : ∃ z, w2.heap.size = z := ⟨_, rfl⟩
          try simp only [hzv]
          rw [hzv] at bS hV
          clear st
          generalize w2.alloc (.cells (fdA v) 25) = W at bS hV ⊢
          have HV : Hid (RowC W zv (fdA v)) := hV
          have HZ : Hid (w2.heap.size = zv) := hzv
          clear hzv
          have bS9 : Below w2.heap.size w2 W := by rw [HZ.out]; exact bS
          have HK3 : Hid (Keep [g] w W) := HK2.out.trans (Keep.of_below bS9)
          have HR3 : Hid (RdI W g x n c b j') := hR2.later bS9
          have HO3 : Hid (OwnK fdE W w.heap.size lv l) := HO2.out.keep bS9
          have CV : Hid (∀ y, Below W.heap.size W y → (bigLoad 25 (.pointer (some ⟨zv, 0, none⟩))).run Tryz.prog y = .ok (.value (.agg (fdA v))) y) := fun y hy => by
            have h9 := run_load_fd y zv (hV.kept hy).1 (by rw [(hV.kept hy).2]; rfl)
            rw [(hV.kept hy).2] at h9
            exact h9
          clear hV bS bS9 HV
          clear hR2 HK2 HO2 HZ c1
          by_cases hk0 : k = 0
          · subst hk0
            have HB9 : Hid (false = !behO ltF l.getLast? v) := by
              show _ = _
              have : l = [] := List.length_eq_zero_iff.1 HL.out
              rw [this]; rfl
            refine wp_reliesT [Fx (.int .i64 (0 : Int)), Fx (.bool false), Fx (.bool false), Fx (undef), Fx (undef), Fx (undef), Fx (undef), Fx (undef), Fx (undef), Fx (undef), Fx (undef), Fx (undef)] (by kernel_rfl) (by kernel_rfl) ?_ ?_ ?_
            · repeat' (first | exact all_nil | apply all_cons)
              all_goals intro v y y' hv hb
              all_goals first | exact Fx_mono _ _ _ _ hv hb
            · refine ⟨?_, ?_, ?_, ?_, ?_, ?_, ?_, ?_, ?_, ?_, ?_, ?_, trivial⟩
              all_goals
                intro ρ y9 hp ρc ρg ρf ho hd
                have o11 : ρ (.tmp 11) = .int .i64 (0 : Int) := ho 11 rfl
                clear ho
                simp only [depsR, depR, slotR, Fx, List.getElem?_cons_succ, List.getElem?_cons_zero, Region.binds, forall_const] at hd
                simp only [guardR]
                go_split_ands
              · go_simp
              · go_simp
              · go_simp
              · refine ⟨fun hy => ?_, fun _ => rfl⟩
                exfalso; simp [yieldR, slotR, undef, *] at hy
              · refine ⟨fun hy => ?_, fun _ => rfl⟩
                exfalso; simp [yieldR, slotR, undef, *] at hy
              · refine ⟨fun hy => ?_, fun _ => rfl⟩
                exfalso; simp [yieldR, slotR, undef, *] at hy
              · refine ⟨fun hy => ?_, fun _ => rfl⟩
                exfalso; simp [yieldR, slotR, undef, *] at hy
              · refine ⟨fun hy => ?_, fun _ => rfl⟩
                exfalso; simp [yieldR, slotR, undef, *] at hy
              · refine ⟨fun hy => ?_, fun _ => rfl⟩
                exfalso; simp [yieldR, slotR, undef, *] at hy
              · refine ⟨fun hy => ?_, fun _ => rfl⟩
                exfalso; simp [yieldR, slotR, undef, *] at hy
              · refine ⟨fun hy => ?_, fun _ => rfl⟩
                exfalso; simp [yieldR, slotR, undef, *] at hy
              · refine ⟨fun hy => ?_, fun _ => rfl⟩
                exfalso; simp [yieldR, slotR, undef, *] at hy
            · intro us x1 hp1 hw
              simp only [owed, Fx] at hw
              obtain ⟨e0, e1, e2, e3, e4, e5, e6, e7, e8, e9, e10, e11, -⟩ := hw
              simp only [List.length_cons, List.length_nil, List.take_succ_cons, List.take_zero, List.drop_succ_cons, List.drop_zero, asg, List.cons_append, List.nil_append, e0, e1, e2, e3, e4, e5, e6, e7, e8, e9, e10, e11]
              clear e0 e1 e2 e3 e4 e5 e6 e7 e8 e9 e10 e11
              have LV : Hid True := trivial
              cases hb : behO ltF l.getLast? v
              · have h9 := HB9.out
                rw [hb] at h9
                cases h9
              · have HEr : Hid (rdL rdF ltF m [] b j0 = rdL rdF ltF (m - (0 + 1)) (l ++ [v]) b j') := by
                  show _ = _; rw [HE.out, rdL_step (by omega) HR1.out hb, Nat.sub_sub]
                have bA := below_alloc x1 (.cells (fdA v) 25)
                have bW : Below W.heap.size W (x1.alloc (.cells (fdA v) 25)) := hp1.trans (bA.mono hp1.size)
                have HK4 : Hid (Keep [g] w (x1.alloc (.cells (fdA v) 25))) := HK3.out.appB (bW.mono HK3.out.size)
                have HR4 : Hid (RdI (x1.alloc (.cells (fdA v) 25)) g x n c b j') := HR3.out.later bW
                have HO4 : OwnK fdE (x1.alloc (.cells (fdA v) 25)) w.heap.size lv l := HO3.out.keep bW
                obtain ⟨g9, c9, w9, hra, hO9, -, hg9, -⟩ := run_app1K fdE_ok (x1.alloc (.cells (fdA v) 25)) w.heap.size x1.heap.size lv l v 22 HO4 (by rw [fdE_enc]; exact row_range (RowC.new x1 _ _)) (by simp) (by show (l.length + 1) * 16 ≤ 140737488355328; have := HL.out; have := HM.out; omega) (by unfold maxLen; have := HL.out; have := HM.out; omega) HK4.out.size
                obtain ⟨v9, hv9⟩ : ∃ z, Value.slice (some ⟨g9, 0, none⟩) (l.length + 1) c9 = z := ⟨_, rfl⟩
                rw [hv9] at hra hO9
                clear hv9
                have b9 : Below w.heap.size (x1.alloc (.cells (fdA v) 25)) w9 := grownB_below hg9 HK4.out.size (fun q hq => (World.ownsRow.lt HO4 q hq).1)
                have HK9 : Hid (Keep [g] w w9) := HK4.out.appB b9
                have HR9 : Hid (RdI w9 g x n c b j') := HR4.out.belowB b9 HG.out HX.out H0.out
                have HO9 : Hid (OwnK fdE w9 w.heap.size v9 (l ++ [v])) := hO9
                have ld := CV.out x1 hp1
                have HLT : Hid (0 < m) := hlt
                clear hO9 hg9 b9 HO4 bW bA hp1 hb
                go_wp2_with (first | (at_builtin; refine wpL_appG 22 rfl _ _ rfl _ w9 (by exact hra) ?_))
                clear ld
                go_roundw
                case rel => first | exact ⟨_, 0 + 1, l ++ [v], j', rfl, by have := HLT.out; omega, by go_num, HO9.out, by simp [HL.out], HR9.out, HK9.out, HEr.out⟩ | ((repeat apply Exists.intro); refine ⟨⟨_, 0 + 1, l ++ [v], j', rfl, by have := HLT.out; omega, ?_, HO9.out, by simp [HL.out], HR9.out, HK9.out, HEr.out⟩, rfl⟩; go_num)
                case measure => have := HLT.out; simp [intOf]; omega
          · obtain ⟨u, hu, hla⟩ := last_get l k HL.out (by omega)
            obtain ⟨x9, cl, hlv⟩ := (OwnK.isK fdE_ok HO3.out).len
            obtain ⟨gl, rfl, hgl⟩ := OwnK.form (hlv ▸ HO3.out) (by have := HL.out; omega)
            rw [HL.out] at hlv
            subst hlv
            have CL : Hid (∀ y, Below W.heap.size W y → (bigLoad 25 (.pointer (some ⟨gl, (k - 1) * 2, none⟩))).run Tryz.prog y = .ok (.value (.agg (fdA u))) y) := fun y hy => by
              obtain ⟨b', o', he, -, -, -, k1, k2⟩ := fd_at ((OwnK.isK fdE_ok HO3.out).kept hy) (k - 1) u hu
              cases he
              rw [Nat.zero_add] at k1 k2
              have h9 := run_fd_mid y gl ((k - 1) * 2) k1
              rw [k2] at h9
              exact h9
            have HB9 : Hid ((!ltF u v) = !behO ltF l.getLast? v) := by show _ = _; rw [hla]; rfl
            have leB := cmpF_le u v
            have wk1 : IntKind.i64.wrap ((k : Int) - 1) = ((k - 1 : Nat) : Int) := by rw [IntKind.wrap_i64]; have := HM.out; omega
            have q0 : (0 : Int) < (k : Int) := by omega
            have q1 : ((k - 1 : Nat) : Int) < (k : Int) := by omega
            have q2 : (0 : Int) ≤ ((k - 1 : Nat) : Int) := by omega
            clear hu hla hgl
            refine wp_reliesT [Fx (.int .i64 (k : Int)), Fx (.bool true), Fx (.bool true), Fx (.func (.func 23) #[] #[]), Fx (.slice (some ⟨gl, 0, none⟩) k cl), Fx (.int .i64 (k : Int)), Fx (.int .i64 (((k - 1 : Nat)) : Int)), Fx (.pointer (some ⟨gl, (k - 1) * 2, none⟩)), Fx (.agg (fdA u)), Fx (.agg (fdA v)), Fx (.int .i64 (cmpF u v)), Fx (.bool (!ltF u v))] (by kernel_rfl) (by kernel_rfl) ?_ ?_ ?_
            · repeat' (first | exact all_nil | apply all_cons)
              all_goals intro v y y' hv hb
              all_goals first | exact Fx_mono _ _ _ _ hv hb
            · refine ⟨?_, ?_, ?_, ?_, ?_, ?_, ?_, ?_, ?_, ?_, ?_, ?_, trivial⟩
              all_goals
                intro ρ y9 hp ρc ρg ρf ho hd
                have o2 : ρ (.tmp 2) = .func (.func 23) #[] #[] := ho 2 rfl
                have o10 : ρ (.tmp 10) = .slice (some ⟨gl, 0, none⟩) k cl := ho 10 rfl
                have o11 : ρ (.tmp 11) = .int .i64 (k : Int) := ho 11 rfl
                have o13 : ρ (.tmp 13) = .pointer (some ⟨zv, 0, none⟩) := ho 13 rfl
                clear ho
                have z9 := CV.out y9 hp
                simp only [depsR, depR, slotR, Fx, List.getElem?_cons_succ, List.getElem?_cons_zero, Region.binds, forall_const] at hd
                simp only [guardR]
                go_split_ands
              · go_simp
              · go_simp
                try (unfold Fx; simp; omega)
              · go_simp
              · refine ⟨fun _ => ?_, fun hy => absurd (by simp [yieldR, slotR, *]) hy⟩
                go_simp
              · refine ⟨fun _ => ?_, fun hy => absurd (by simp [yieldR, slotR, *]) hy⟩
                go_simp
              · refine ⟨fun _ => ?_, fun hy => absurd (by simp [yieldR, slotR, *]) hy⟩
                go_simp
              · refine ⟨fun _ => ?_, fun hy => absurd (by simp [yieldR, slotR, *]) hy⟩
                go_simp
                try exact wk1
              · refine ⟨fun _ => ?_, fun hy => absurd (by simp [yieldR, slotR, *]) hy⟩
                go_simp
              · refine ⟨fun _ => ?_, fun hy => absurd (by simp [yieldR, slotR, *]) hy⟩
                have z1 := CL.out y9 hp
                go_simp
              · refine ⟨fun _ => ?_, fun hy => absurd (by simp [yieldR, slotR, *]) hy⟩
                go_simp
              · refine ⟨fun _ => ?_, fun hy => absurd (by simp [yieldR, slotR, *]) hy⟩
                go_simp
                exact (byKind22 _ _ _).mono fun e w' ⟨q1, q2⟩ => ⟨_, q1, rfl, below_of_grow q2⟩
              · refine ⟨fun _ => ?_, fun hy => absurd (by simp [yieldR, slotR, *]) hy⟩
                go_simp
                try exact leB
            · intro us x1 hp1 hw
              simp only [owed, Fx] at hw
              obtain ⟨e0, e1, e2, e3, e4, e5, e6, e7, e8, e9, e10, e11, -⟩ := hw
              simp only [List.length_cons, List.length_nil, List.take_succ_cons, List.take_zero, List.drop_succ_cons, List.drop_zero, asg, List.cons_append, List.nil_append, e0, e1, e2, e3, e4, e5, e6, e7, e8, e9, e10, e11]
              clear e0 e1 e2 e3 e4 e5 e6 e7 e8 e9 e10 e11
              cases hb : behO ltF l.getLast? v
              · have HEr : Hid (RES = .error (j, 11)) := by show _ = _; rw [← HRES.out, HE.out]; exact rdL_bad (by omega) HR1.out hb
                rw [HB9.out, hb]
                have HK9 : Hid (Keep [g] w (x1.alloc (.cells (ftA (j : Int) 11) 72))) := (HK3.out.appB (hp1.mono HK3.out.size)).appB ((below_alloc _ _).mono (Nat.le_trans HK3.out.size hp1.size))
                have HQ : Hid (w.heap.size ≤ x1.heap.size) := Nat.le_trans HK3.out.size hp1.size
                have HN : Hid (RowC (x1.alloc (.cells (ftA (j : Int) 11) 72)) x1.heap.size (ftA (j : Int) 11)) := RowC.new _ _ _
                clear hp1 hb
                go_wp2
                go_ret2
                rw [HEr.out]
                exact ⟨HK9.out, _, rfl, HQ.out, HN.out⟩
              · have HEr : Hid (rdL rdF ltF m [] b j0 = rdL rdF ltF (m - (k + 1)) (l ++ [v]) b j') := by
                  show _ = _; rw [HE.out, rdL_step (by omega) HR1.out hb, Nat.sub_sub]
                rw [HB9.out, hb]
                have bA := below_alloc x1 (.cells (fdA v) 25)
                have bW : Below W.heap.size W (x1.alloc (.cells (fdA v) 25)) := hp1.trans (bA.mono hp1.size)
                have HK4 : Hid (Keep [g] w (x1.alloc (.cells (fdA v) 25))) := HK3.out.appB (bW.mono HK3.out.size)
                have HR4 : Hid (RdI (x1.alloc (.cells (fdA v) 25)) g x n c b j') := HR3.out.later bW
                have HO4 : OwnK fdE (x1.alloc (.cells (fdA v) 25)) w.heap.size (.slice (some ⟨gl, 0, none⟩) k cl) l := HO3.out.keep bW
                obtain ⟨g9, c9, w9, hra, hO9, -, hg9, -⟩ := run_app1K fdE_ok (x1.alloc (.cells (fdA v) 25)) w.heap.size x1.heap.size (.slice (some ⟨gl, 0, none⟩) k cl) l v 22 HO4 (by rw [fdE_enc]; exact row_range (RowC.new x1 _ _)) (by simp) (by show (l.length + 1) * 16 ≤ 140737488355328; have := HL.out; have := HM.out; omega) (by unfold maxLen; have := HL.out; have := HM.out; omega) HK4.out.size
                obtain ⟨v9, hv9⟩ : ∃ z, Value.slice (some ⟨g9, 0, none⟩) (l.length + 1) c9 = z := ⟨_, rfl⟩
                rw [hv9] at hra hO9
                clear hv9
                have b9 : Below w.heap.size (x1.alloc (.cells (fdA v) 25)) w9 := grownB_below hg9 HK4.out.size (fun q hq => (World.ownsRow.lt HO4 q hq).1)
                have HK9 : Hid (Keep [g] w w9) := HK4.out.appB b9
                have HR9 : Hid (RdI w9 g x n c b j') := HR4.out.belowB b9 HG.out HX.out H0.out
                have HO9 : Hid (OwnK fdE w9 w.heap.size v9 (l ++ [v])) := hO9
                have ld := CV.out x1 hp1
                have HLT : Hid (k < m) := hlt
                clear hO9 hg9 b9 HO4 bW bA hp1 hb
                go_wp2_with (first | (at_builtin; refine wpL_appG 22 rfl _ _ rfl _ w9 (by exact hra) ?_))
                clear ld
                go_roundw
                case rel => first | exact ⟨_, k + 1, l ++ [v], j', rfl, by have := HLT.out; omega, by go_num, HO9.out, by simp [HL.out], HR9.out, HK9.out, HEr.out⟩ | ((repeat apply Exists.intro); refine ⟨⟨_, k + 1, l ++ [v], j', rfl, by have := HLT.out; omega, ?_, HO9.out, by simp [HL.out], HR9.out, HK9.out, HEr.out⟩, rfl⟩; go_num)
                case measure => have := HLT.out; simp [intOf]; omega
      · obtain rfl : k = m := by omega
        have HEr : Hid (RES = .ok (l, j)) := by show _ = _; rw [← HRES.out, hE, Nat.sub_self]; rfl
        have i0 : ¬ (k : Int) < (k : Int) := by omega
        clear hE hlk
        go_wp2
        go_ret2
        rw [HEr.out]
        exact ⟨hK, _, rfl, hO, hR⟩
set_option linter.unusedSimpArgs false in
set_option maxRecDepth 100000 in
set_option maxHeartbeats 4000000 in
theorem list_dg22 (w : World) (g : Nat) (x : Option Addr) (n c : Nat) (b : List UInt8) (i : Nat) (h : RdI w g x n c b i) :
    Calls Tryz.prog 45 #[.pointer (some ⟨g, 0, none⟩), .func (.func 46) #[.pointer (some ⟨g, 0, none⟩)] #[], .func (.func 47) #[] #[]] w fun e w' => LsQ (OwnK dgE) w g x n c b (rdC rdD ltD b i) e w' := by
  have hn := number22 w g x n c b i 2 (.inr rfl) _ _ _ anyNum22 okAny_of enN22 h
  have en1 : ∀ args w, (callFunc 46 args).run Tryz.prog w = .ok (.enter 46 args) w := enters_of Tryz.func46 (by kernel_rfl) rfl
  have en2 : ∀ args w, (callFunc 47 args).run Tryz.prog w = .ok (.enter 47 args) w := enters_of Tryz.func47 (by kernel_rfl) rfl
  have hgl := h.row.lt
  have hxl := h.old
  cases hr : rdN 2 okAny b i with
  | error p =>
    have hs : rdC rdD ltD b i = .error p := by unfold rdC; rw [hr]
    rw [hs]
    rw [hr] at hn
    clear hr hs h hxl
    go_enter Tryz.func45, Tryz.ntmps45
    go_wp2_with fail
    refine hn.mono ?_
    rintro e w1 ⟨hK, q, rfl, hq, hR⟩
    clear hn
    go_wp2
    go_ret2
    exact ⟨hK, q, rfl, hq, hR⟩
  | ok p =>
    obtain ⟨m, j0⟩ := p
    have hs : rdC rdD ltD b i = rdL rdD ltD m [] b j0 := by unfold rdC; rw [hr]
    have hm : m < 65536 := by
      obtain ⟨-, p2, -, -⟩ := rdN_ok hr
      rw [← p2]; exact numN_lt _ _ 2
    have h0 : 0 < n := by have := (rdN_ok hr).1; have := h.len; omega
    rw [hs]
    rw [hr] at hn
    obtain ⟨RES, hres⟩ : ∃ r, rdL rdD ltD m [] b j0 = r := ⟨_, rfl⟩
    rw [hres]
    have HRES : Hid (rdL rdD ltD m [] b j0 = RES) := hres
    have HG : Hid (g < w.heap.size) := hgl
    have HX : Hid (0 < n → ∀ a, x = some a → a.block < w.heap.size) := hxl
    have H0 : Hid (0 < n) := h0
    have HM : Hid (m < 65536) := hm
    clear hr hs h hxl hres hgl h0 hm
    go_enter Tryz.func45, Tryz.ntmps45
    go_wp2_with fail
    refine hn.mono ?_
    rintro e w1 ⟨hK, rfl, hR⟩
    clear hn
    go_wp2_with fail
    go_loopw [10, 24] (fun lv kv wr => ∃ (lv0 : Value) (k : Nat) (l : List Dg) (j : Nat), lv0 = lv ∧ k ≤ m ∧ kv = .int .i64 k ∧ OwnK dgE wr w.heap.size lv l ∧ l.length = k ∧ RdI wr g x n c b j ∧ Keep [g] w wr ∧ rdL rdD ltD m [] b j0 = rdL rdD ltD (m - k) l b j) (fun _ kv _ => m - (intOf kv).toNat)
    case atStart => exact ⟨_, 0, [], j0, rfl, by omega, rfl, OwnK.nil _ _ _, rfl, hR, hK, rfl⟩
    case round =>
      clear hR hK
      obtain ⟨lv, k, l, j, rfl, hk, rfl, hO, hlk, hR, hK, hE⟩ := hrel
      by_cases hlt : k < m
      · have i0 : (k : Int) < (m : Int) := by omega
        have wk2 : IntKind.i64.wrap ((k : Int) + 1) = (k : Int) + 1 := by rw [IntKind.wrap_i64]; have := HM.out; omega
        have c1 : wr.cell? ⟨g, 1, none⟩ = some (.int .i64 (j : Int)) := by rw [hR.row.cell]; rfl
        have h1 := digest22 wr g x n c b j hR
        cases hr1 : rdD b j with
        | error p =>
          rw [hr1] at h1
          have HE : Hid (RES = .error p) := by show _ = _; rw [← HRES.out, hE]; exact rdL_err (by omega) hr1
          have HK : Hid (Keep [g] w wr) := hK
          clear hr1 hE hR hO hK hlk
          go_wp2_with fail
          refine h1.mono ?_
          rintro e w2 ⟨hK2, q, rfl, hq, hRq⟩
          clear h1
          have HQ : Hid (w.heap.size ≤ q) := Nat.le_trans HK.out.size hq
          have HK2 : Hid (Keep [g] w w2) := HK.out.trans hK2
          have hzq : q < w2.heap.size := hRq.lt
          have hRq3 : Hid (RowC (w2.alloc (.cells (dg_secA dg_secZ) 50)) q (ftA p.1 p.2)) := hRq.kept (below_alloc _ _)
          have HK3 : Hid (Keep [g] w (w2.alloc (.cells (dg_secA dg_secZ) 50))) := HK2.out.trans (Keep.of_below (below_alloc _ _))
          have st := dg_run_secStore (w2.alloc (.cells (dg_secA dg_secZ) 50)) w2.heap.size (dg_secZ) (RowC.new w2 _ _).dg.1
          clear hK2 hq hRq hzq
          go_wp2
          go_ret2
          rw [HE.out]
          exact ⟨HK3.out, q, rfl, HQ.out, hRq3.out⟩
        | ok p =>
          obtain ⟨v, j'⟩ := p
          rw [hr1] at h1
          have HR1 : Hid (rdD b j = .ok (v, j')) := hr1
          have HE : Hid _ := hE
          have HL : Hid (l.length = k) := hlk
          have HK : Hid (Keep [g] w wr) := hK
          have HO : Hid (OwnK dgE wr w.heap.size lv l) := hO
          clear hr1 hE hR hK hlk hO
          go_wp2_with fail
          refine h1.mono ?_
          rintro e w2 ⟨hK2, rfl, hR2⟩
          clear h1
          have HK2 : Hid (Keep [g] w w2) := HK.out.trans hK2
          have HO2 : Hid (OwnK dgE w2 w.heap.size lv l) := OwnK.keeps HO.out hK2 (fun q hq => by have := (World.ownsRow.lt HO.out q hq).1; have := HG.out; simp; omega)
          clear HO HK hK2
          have st := dg_run_secStore (w2.alloc (.cells (dg_secA dg_secZ) 50)) w2.heap.size (v) (RowC.new w2 _ _).dg.1
          have bS := below_alloc w2 (.cells (dg_secA v) 50)
          have hV := RowC.new w2 (dg_secA v) 50
          go_upto_region 12 with fail
          obtain ⟨zv, hzv⟩ : ∃ z, w2.heap.size = z := ⟨_, rfl⟩
          try simp only [hzv]
          rw [hzv] at bS hV
          clear st
          generalize w2.alloc (.cells (dg_secA v) 50) = W at bS hV ⊢
          have HV : Hid (RowC W zv (dg_secA v)) := hV
          have HZ : Hid (w2.heap.size = zv) := hzv
          clear hzv
          have bS9 : Below w2.heap.size w2 W := by rw [HZ.out]; exact bS
          have HK3 : Hid (Keep [g] w W) := HK2.out.trans (Keep.of_below bS9)
          have HR3 : Hid (RdI W g x n c b j') := hR2.later bS9
          have HO3 : Hid (OwnK dgE W w.heap.size lv l) := HO2.out.keep bS9
          have CV : Hid (∀ y, Below W.heap.size W y → (dg_secLoad (.pointer (some ⟨zv, 0, none⟩))).run Tryz.prog y = .ok (.value (.agg (dg_secA v))) y) := fun y hy => by
            have h9 := dg_run_secLoad y zv (hV.kept hy).dg.1
            rw [(hV.kept hy).dg.2] at h9
            exact h9
          clear hV bS bS9 HV
          clear hR2 HK2 HO2 HZ c1
          by_cases hk0 : k = 0
          · subst hk0
            have HB9 : Hid (false = !behO ltD l.getLast? v) := by
              show _ = _
              have : l = [] := List.length_eq_zero_iff.1 HL.out
              rw [this]; rfl
            refine wp_reliesT [Fx (.int .i64 (0 : Int)), Fx (.bool false), Fx (.bool false), Fx (undef), Fx (undef), Fx (undef), Fx (undef), Fx (undef), Fx (undef), Fx (undef), Fx (undef), Fx (undef)] (by kernel_rfl) (by kernel_rfl) ?_ ?_ ?_
            · repeat' (first | exact all_nil | apply all_cons)
              all_goals intro v y y' hv hb
              all_goals first | exact Fx_mono _ _ _ _ hv hb
            · refine ⟨?_, ?_, ?_, ?_, ?_, ?_, ?_, ?_, ?_, ?_, ?_, ?_, trivial⟩
              all_goals
                intro ρ y9 hp ρc ρg ρf ho hd
                have o11 : ρ (.tmp 11) = .int .i64 (0 : Int) := ho 11 rfl
                clear ho
                simp only [depsR, depR, slotR, Fx, List.getElem?_cons_succ, List.getElem?_cons_zero, Region.binds, forall_const] at hd
                simp only [guardR]
                go_split_ands
              · go_simp
              · go_simp
              · go_simp
              · refine ⟨fun hy => ?_, fun _ => rfl⟩
                exfalso; simp [yieldR, slotR, undef, *] at hy
              · refine ⟨fun hy => ?_, fun _ => rfl⟩
                exfalso; simp [yieldR, slotR, undef, *] at hy
              · refine ⟨fun hy => ?_, fun _ => rfl⟩
                exfalso; simp [yieldR, slotR, undef, *] at hy
              · refine ⟨fun hy => ?_, fun _ => rfl⟩
                exfalso; simp [yieldR, slotR, undef, *] at hy
              · refine ⟨fun hy => ?_, fun _ => rfl⟩
                exfalso; simp [yieldR, slotR, undef, *] at hy
              · refine ⟨fun hy => ?_, fun _ => rfl⟩
                exfalso; simp [yieldR, slotR, undef, *] at hy
              · refine ⟨fun hy => ?_, fun _ => rfl⟩
                exfalso; simp [yieldR, slotR, undef, *] at hy
              · refine ⟨fun hy => ?_, fun _ => rfl⟩
                exfalso; simp [yieldR, slotR, undef, *] at hy
              · refine ⟨fun hy => ?_, fun _ => rfl⟩
                exfalso; simp [yieldR, slotR, undef, *] at hy
            · intro us x1 hp1 hw
              simp only [owed, Fx] at hw
              obtain ⟨e0, e1, e2, e3, e4, e5, e6, e7, e8, e9, e10, e11, -⟩ := hw
              simp only [List.length_cons, List.length_nil, List.take_succ_cons, List.take_zero, List.drop_succ_cons, List.drop_zero, asg, List.cons_append, List.nil_append, e0, e1, e2, e3, e4, e5, e6, e7, e8, e9, e10, e11]
              clear e0 e1 e2 e3 e4 e5 e6 e7 e8 e9 e10 e11
              have LV : Hid True := trivial
              cases hb : behO ltD l.getLast? v
              · have h9 := HB9.out
                rw [hb] at h9
                cases h9
              · have HEr : Hid (rdL rdD ltD m [] b j0 = rdL rdD ltD (m - (0 + 1)) (l ++ [v]) b j') := by
                  show _ = _; rw [HE.out, rdL_step (by omega) HR1.out hb, Nat.sub_sub]
                have bA := below_alloc x1 (.cells (dg_secA v) 50)
                have bW : Below W.heap.size W (x1.alloc (.cells (dg_secA v) 50)) := hp1.trans (bA.mono hp1.size)
                have HK4 : Hid (Keep [g] w (x1.alloc (.cells (dg_secA v) 50))) := HK3.out.appB (bW.mono HK3.out.size)
                have HR4 : Hid (RdI (x1.alloc (.cells (dg_secA v) 50)) g x n c b j') := HR3.out.later bW
                have HO4 : OwnK dgE (x1.alloc (.cells (dg_secA v) 50)) w.heap.size lv l := HO3.out.keep bW
                obtain ⟨g9, c9, w9, hra, hO9, -, hg9, -⟩ := run_app1K dgE_ok (x1.alloc (.cells (dg_secA v) 50)) w.heap.size x1.heap.size lv l v 29 HO4 (by rw [dgE_enc]; exact row_range (RowC.new x1 _ _)) (by simp) (by show (l.length + 1) * 32 ≤ 140737488355328; have := HL.out; have := HM.out; omega) (by unfold maxLen; have := HL.out; have := HM.out; omega) HK4.out.size
                obtain ⟨v9, hv9⟩ : ∃ z, Value.slice (some ⟨g9, 0, none⟩) (l.length + 1) c9 = z := ⟨_, rfl⟩
                rw [hv9] at hra hO9
                clear hv9
                have b9 : Below w.heap.size (x1.alloc (.cells (dg_secA v) 50)) w9 := grownB_below hg9 HK4.out.size (fun q hq => (World.ownsRow.lt HO4 q hq).1)
                have HK9 : Hid (Keep [g] w w9) := HK4.out.appB b9
                have HR9 : Hid (RdI w9 g x n c b j') := HR4.out.belowB b9 HG.out HX.out H0.out
                have HO9 : Hid (OwnK dgE w9 w.heap.size v9 (l ++ [v])) := hO9
                have ld := CV.out x1 hp1
                have HLT : Hid (0 < m) := hlt
                clear hO9 hg9 b9 HO4 bW bA hp1 hb
                go_wp2_with (first | (at_builtin; refine wpL_appG 29 rfl _ _ rfl _ w9 (by exact hra) ?_))
                clear ld
                go_roundw
                case rel => first | exact ⟨_, 0 + 1, l ++ [v], j', rfl, by have := HLT.out; omega, by go_num, HO9.out, by simp [HL.out], HR9.out, HK9.out, HEr.out⟩ | ((repeat apply Exists.intro); refine ⟨⟨_, 0 + 1, l ++ [v], j', rfl, by have := HLT.out; omega, ?_, HO9.out, by simp [HL.out], HR9.out, HK9.out, HEr.out⟩, rfl⟩; go_num)
                case measure => have := HLT.out; simp [intOf]; omega
          · obtain ⟨u, hu, hla⟩ := last_get l k HL.out (by omega)
            obtain ⟨x9, cl, hlv⟩ := (OwnK.isK dgE_ok HO3.out).len
            obtain ⟨gl, rfl, hgl⟩ := OwnK.form (hlv ▸ HO3.out) (by have := HL.out; omega)
            rw [HL.out] at hlv
            subst hlv
            have CL : Hid (∀ y, Below W.heap.size W y → (dg_secLoad (.pointer (some ⟨gl, (k - 1) * 32, none⟩))).run Tryz.prog y = .ok (.value (.agg (dg_secA u))) y) := fun y hy => by
              obtain ⟨b', o', he, -, k1, k2⟩ := dg_at ((OwnK.isK dgE_ok HO3.out).kept hy) (k - 1) u hu
              cases he
              rw [Nat.zero_add] at k1 k2
              have h9 := run_dg_mid y gl ((k - 1) * 32) k1
              rw [k2] at h9
              exact h9
            have HB9 : Hid ((!ltD u v) = !behO ltD l.getLast? v) := by show _ = _; rw [hla]; rfl
            have leB := dcmp_le u v
            have wk1 : IntKind.i64.wrap ((k : Int) - 1) = ((k - 1 : Nat) : Int) := by rw [IntKind.wrap_i64]; have := HM.out; omega
            have q0 : (0 : Int) < (k : Int) := by omega
            have q1 : ((k - 1 : Nat) : Int) < (k : Int) := by omega
            have q2 : (0 : Int) ≤ ((k - 1 : Nat) : Int) := by omega
            clear hu hla hgl
            refine wp_reliesT [Fx (.int .i64 (k : Int)), Fx (.bool true), Fx (.bool true), Fx (.func (.func 47) #[] #[]), Fx (.slice (some ⟨gl, 0, none⟩) k cl), Fx (.int .i64 (k : Int)), Fx (.int .i64 (((k - 1 : Nat)) : Int)), Fx (.pointer (some ⟨gl, (k - 1) * 32, none⟩)), Fx (.agg (dg_secA u)), Fx (.agg (dg_secA v)), Fx (.int .i64 (dcmp u v)), Fx (.bool (!ltD u v))] (by kernel_rfl) (by kernel_rfl) ?_ ?_ ?_
            · repeat' (first | exact all_nil | apply all_cons)
              all_goals intro v y y' hv hb
              all_goals first | exact Fx_mono _ _ _ _ hv hb
            · refine ⟨?_, ?_, ?_, ?_, ?_, ?_, ?_, ?_, ?_, ?_, ?_, ?_, trivial⟩
              all_goals
                intro ρ y9 hp ρc ρg ρf ho hd
                have o2 : ρ (.tmp 2) = .func (.func 47) #[] #[] := ho 2 rfl
                have o10 : ρ (.tmp 10) = .slice (some ⟨gl, 0, none⟩) k cl := ho 10 rfl
                have o11 : ρ (.tmp 11) = .int .i64 (k : Int) := ho 11 rfl
                have o13 : ρ (.tmp 13) = .pointer (some ⟨zv, 0, none⟩) := ho 13 rfl
                clear ho
                have z9 := CV.out y9 hp
                simp only [depsR, depR, slotR, Fx, List.getElem?_cons_succ, List.getElem?_cons_zero, Region.binds, forall_const] at hd
                simp only [guardR]
                go_split_ands
              · go_simp
              · go_simp
                try (unfold Fx; simp; omega)
              · go_simp
              · refine ⟨fun _ => ?_, fun hy => absurd (by simp [yieldR, slotR, *]) hy⟩
                go_simp
              · refine ⟨fun _ => ?_, fun hy => absurd (by simp [yieldR, slotR, *]) hy⟩
                go_simp
              · refine ⟨fun _ => ?_, fun hy => absurd (by simp [yieldR, slotR, *]) hy⟩
                go_simp
              · refine ⟨fun _ => ?_, fun hy => absurd (by simp [yieldR, slotR, *]) hy⟩
                go_simp
                try exact wk1
              · refine ⟨fun _ => ?_, fun hy => absurd (by simp [yieldR, slotR, *]) hy⟩
                go_simp
              · refine ⟨fun _ => ?_, fun hy => absurd (by simp [yieldR, slotR, *]) hy⟩
                have z1 := CL.out y9 hp
                go_simp
              · refine ⟨fun _ => ?_, fun hy => absurd (by simp [yieldR, slotR, *]) hy⟩
                go_simp
              · refine ⟨fun _ => ?_, fun hy => absurd (by simp [yieldR, slotR, *]) hy⟩
                go_simp
                exact (byBytes22 _ _ _).mono fun e w' ⟨q1, q2⟩ => ⟨_, q1, rfl, q2⟩
              · refine ⟨fun _ => ?_, fun hy => absurd (by simp [yieldR, slotR, *]) hy⟩
                go_simp
                try exact leB
            · intro us x1 hp1 hw
              simp only [owed, Fx] at hw
              obtain ⟨e0, e1, e2, e3, e4, e5, e6, e7, e8, e9, e10, e11, -⟩ := hw
              simp only [List.length_cons, List.length_nil, List.take_succ_cons, List.take_zero, List.drop_succ_cons, List.drop_zero, asg, List.cons_append, List.nil_append, e0, e1, e2, e3, e4, e5, e6, e7, e8, e9, e10, e11]
              clear e0 e1 e2 e3 e4 e5 e6 e7 e8 e9 e10 e11
              cases hb : behO ltD l.getLast? v
              · have HEr : Hid (RES = .error (j, 11)) := by show _ = _; rw [← HRES.out, HE.out]; exact rdL_bad (by omega) HR1.out hb
                rw [HB9.out, hb]
                have HK9 : Hid (Keep [g] w (x1.alloc (.cells (ftA (j : Int) 11) 72))) := (HK3.out.appB (hp1.mono HK3.out.size)).appB ((below_alloc _ _).mono (Nat.le_trans HK3.out.size hp1.size))
                have HQ : Hid (w.heap.size ≤ x1.heap.size) := Nat.le_trans HK3.out.size hp1.size
                have HN : Hid (RowC (x1.alloc (.cells (ftA (j : Int) 11) 72)) x1.heap.size (ftA (j : Int) 11)) := RowC.new _ _ _
                clear hp1 hb
                go_wp2
                go_ret2
                rw [HEr.out]
                exact ⟨HK9.out, _, rfl, HQ.out, HN.out⟩
              · have HEr : Hid (rdL rdD ltD m [] b j0 = rdL rdD ltD (m - (k + 1)) (l ++ [v]) b j') := by
                  show _ = _; rw [HE.out, rdL_step (by omega) HR1.out hb, Nat.sub_sub]
                rw [HB9.out, hb]
                have bA := below_alloc x1 (.cells (dg_secA v) 50)
                have bW : Below W.heap.size W (x1.alloc (.cells (dg_secA v) 50)) := hp1.trans (bA.mono hp1.size)
                have HK4 : Hid (Keep [g] w (x1.alloc (.cells (dg_secA v) 50))) := HK3.out.appB (bW.mono HK3.out.size)
                have HR4 : Hid (RdI (x1.alloc (.cells (dg_secA v) 50)) g x n c b j') := HR3.out.later bW
                have HO4 : OwnK dgE (x1.alloc (.cells (dg_secA v) 50)) w.heap.size (.slice (some ⟨gl, 0, none⟩) k cl) l := HO3.out.keep bW
                obtain ⟨g9, c9, w9, hra, hO9, -, hg9, -⟩ := run_app1K dgE_ok (x1.alloc (.cells (dg_secA v) 50)) w.heap.size x1.heap.size (.slice (some ⟨gl, 0, none⟩) k cl) l v 29 HO4 (by rw [dgE_enc]; exact row_range (RowC.new x1 _ _)) (by simp) (by show (l.length + 1) * 32 ≤ 140737488355328; have := HL.out; have := HM.out; omega) (by unfold maxLen; have := HL.out; have := HM.out; omega) HK4.out.size
                obtain ⟨v9, hv9⟩ : ∃ z, Value.slice (some ⟨g9, 0, none⟩) (l.length + 1) c9 = z := ⟨_, rfl⟩
                rw [hv9] at hra hO9
                clear hv9
                have b9 : Below w.heap.size (x1.alloc (.cells (dg_secA v) 50)) w9 := grownB_below hg9 HK4.out.size (fun q hq => (World.ownsRow.lt HO4 q hq).1)
                have HK9 : Hid (Keep [g] w w9) := HK4.out.appB b9
                have HR9 : Hid (RdI w9 g x n c b j') := HR4.out.belowB b9 HG.out HX.out H0.out
                have HO9 : Hid (OwnK dgE w9 w.heap.size v9 (l ++ [v])) := hO9
                have ld := CV.out x1 hp1
                have HLT : Hid (k < m) := hlt
                clear hO9 hg9 b9 HO4 bW bA hp1 hb
                go_wp2_with (first | (at_builtin; refine wpL_appG 29 rfl _ _ rfl _ w9 (by exact hra) ?_))
                clear ld
                go_roundw
                case rel => first | exact ⟨_, k + 1, l ++ [v], j', rfl, by have := HLT.out; omega, by go_num, HO9.out, by simp [HL.out], HR9.out, HK9.out, HEr.out⟩ | ((repeat apply Exists.intro); refine ⟨⟨_, k + 1, l ++ [v], j', rfl, by have := HLT.out; omega, ?_, HO9.out, by simp [HL.out], HR9.out, HK9.out, HEr.out⟩, rfl⟩; go_num)
                case measure => have := HLT.out; simp [intOf]; omega
      · obtain rfl : k = m := by omega
        have HEr : Hid (RES = .ok (l, j)) := by show _ = _; rw [← HRES.out, hE, Nat.sub_self]; rfl
        have i0 : ¬ (k : Int) < (k : Int) := by omega
        clear hE hlk
        go_wp2
        go_ret2
        rw [HEr.out]
        exact ⟨hK, _, rfl, hO, hR⟩
set_option linter.unusedSimpArgs false in
set_option maxRecDepth 100000 in
set_option maxHeartbeats 4000000 in
theorem list_in22 (w : World) (g : Nat) (x : Option Addr) (n c : Nat) (b : List UInt8) (i : Nat) (h : RdI w g x n c b i) :
    Calls Tryz.prog 48 #[.pointer (some ⟨g, 0, none⟩), .func (.func 49) #[.pointer (some ⟨g, 0, none⟩)] #[], .func (.func 50) #[] #[]] w fun e w' => LsQ (OwnI) w g x n c b (rdC rdS ltI b i) e w' := by
  have hn := number22 w g x n c b i 2 (.inr rfl) _ _ _ anyNum22 okAny_of enN22 h
  have en1 : ∀ args w, (callFunc 49 args).run Tryz.prog w = .ok (.enter 49 args) w := enters_of Tryz.func49 (by kernel_rfl) rfl
  have en2 : ∀ args w, (callFunc 50 args).run Tryz.prog w = .ok (.enter 50 args) w := enters_of Tryz.func50 (by kernel_rfl) rfl
  have hgl := h.row.lt
  have hxl := h.old
  cases hr : rdN 2 okAny b i with
  | error p =>
    have hs : rdC rdS ltI b i = .error p := by unfold rdC; rw [hr]
    rw [hs]
    rw [hr] at hn
    clear hr hs h hxl
    go_enter Tryz.func48, Tryz.ntmps48
    go_wp2_with fail
    refine hn.mono ?_
    rintro e w1 ⟨hK, q, rfl, hq, hR⟩
    clear hn
    go_wp2
    go_ret2
    exact ⟨hK, q, rfl, hq, hR⟩
  | ok p =>
    obtain ⟨m, j0⟩ := p
    have hs : rdC rdS ltI b i = rdL rdS ltI m [] b j0 := by unfold rdC; rw [hr]
    have hm : m < 65536 := by
      obtain ⟨-, p2, -, -⟩ := rdN_ok hr
      rw [← p2]; exact numN_lt _ _ 2
    have h0 : 0 < n := by have := (rdN_ok hr).1; have := h.len; omega
    rw [hs]
    rw [hr] at hn
    obtain ⟨RES, hres⟩ : ∃ r, rdL rdS ltI m [] b j0 = r := ⟨_, rfl⟩
    rw [hres]
    have HRES : Hid (rdL rdS ltI m [] b j0 = RES) := hres
    have HG : Hid (g < w.heap.size) := hgl
    have HX : Hid (0 < n → ∀ a, x = some a → a.block < w.heap.size) := hxl
    have H0 : Hid (0 < n) := h0
    have HM : Hid (m < 65536) := hm
    clear hr hs h hxl hres hgl h0 hm
    go_enter Tryz.func48, Tryz.ntmps48
    go_wp2_with fail
    refine hn.mono ?_
    rintro e w1 ⟨hK, rfl, hR⟩
    clear hn
    go_wp2_with fail
    go_loopw [10, 24] (fun lv kv wr => ∃ (lv0 : Value) (k : Nat) (l : List Int) (j : Nat), lv0 = lv ∧ k ≤ m ∧ kv = .int .i64 k ∧ OwnI wr w.heap.size lv l ∧ l.length = k ∧ RdI wr g x n c b j ∧ Keep [g] w wr ∧ rdL rdS ltI m [] b j0 = rdL rdS ltI (m - k) l b j) (fun _ kv _ => m - (intOf kv).toNat)
    case atStart => exact ⟨_, 0, [], j0, rfl, by omega, rfl, OwnG.nil _ _ _, rfl, hR, hK, rfl⟩
    case round =>
      clear hR hK
      obtain ⟨lv, k, l, j, rfl, hk, rfl, hO, hlk, hR, hK, hE⟩ := hrel
      by_cases hlt : k < m
      · have i0 : (k : Int) < (m : Int) := by omega
        have wk2 : IntKind.i64.wrap ((k : Int) + 1) = (k : Int) + 1 := by rw [IntKind.wrap_i64]; have := HM.out; omega
        have c1 : wr.cell? ⟨g, 1, none⟩ = some (.int .i64 (j : Int)) := by rw [hR.row.cell]; rfl
        have h1 := slot22 wr g x n c b j hR
        cases hr1 : rdS b j with
        | error p =>
          rw [hr1] at h1
          have HE : Hid (RES = .error p) := by show _ = _; rw [← HRES.out, hE]; exact rdL_err (by omega) hr1
          have HK : Hid (Keep [g] w wr) := hK
          clear hr1 hE hR hO hK hlk
          go_wp2_with fail
          refine h1.mono ?_
          rintro e w2 ⟨hK2, q, rfl, hq, hRq⟩
          clear h1
          have HQ : Hid (w.heap.size ≤ q) := Nat.le_trans HK.out.size hq
          have HK2 : Hid (Keep [g] w w2) := HK.out.trans hK2
          go_wp2
          go_ret2
          rw [HE.out]
          exact ⟨HK2.out, q, rfl, HQ.out, hRq⟩
        | ok p =>
          obtain ⟨v, j'⟩ := p
          rw [hr1] at h1
          have HR1 : Hid (rdS b j = .ok (v, j')) := hr1
          have HE : Hid _ := hE
          have HL : Hid (l.length = k) := hlk
          have HK : Hid (Keep [g] w wr) := hK
          have HO : Hid (OwnI wr w.heap.size lv l) := hO
          clear hr1 hE hR hK hlk hO
          go_wp2_with fail
          refine h1.mono ?_
          rintro e w2 ⟨hK2, rfl, hR2⟩
          clear h1
          have HK2 : Hid (Keep [g] w w2) := HK.out.trans hK2
          have HO2 : Hid (OwnI w2 w.heap.size lv l) := OwnG.keepsF HO.out hK2 (fun q hq => by have := (OwnG.lt HO.out q hq).1; have := HG.out; simp; omega)
          clear HO HK hK2
          have bS := Below.refl w2.heap.size w2
          go_upto_region 12 with fail
          generalize w2 = W at bS HK2 HO2 hR2 ⊢
          have HZ : Hid (w2.heap.size = w2.heap.size) := rfl
          have HK3 : Hid (Keep [g] w W) := HK2
          have HR3 : Hid (RdI W g x n c b j') := hR2
          have HO3 : Hid (OwnI W w.heap.size lv l) := HO2
          clear bS
          clear hR2 HK2 HO2 HZ c1
          by_cases hk0 : k = 0
          · subst hk0
            have HB9 : Hid (false = !behO ltI l.getLast? v) := by
              show _ = _
              have : l = [] := List.length_eq_zero_iff.1 HL.out
              rw [this]; rfl
            refine wp_plainsT [Fx (.int .i64 (0 : Int)), Fx (.bool false), Fx (.bool false), Fx (undef), Fx (undef), Fx (undef), Fx (undef), Fx (undef), Fx (undef), Fx (undef), Fx (undef), Fx (undef)] (by kernel_rfl) (by kernel_rfl) ?_ ?_ ?_
            · repeat' (first | exact all_nil | apply all_cons)
              all_goals intro v y y' hv hb
              all_goals first | exact Fx_mono _ _ _ _ hv hb
            · refine ⟨?_, ?_, ?_, ?_, ?_, ?_, ?_, ?_, ?_, ?_, ?_, ?_, trivial⟩
              all_goals
                intro ρ y9 hp ρc ρg ρf ho hd
                have o11 : ρ (.tmp 11) = .int .i64 (0 : Int) := ho 11 rfl
                clear ho
                simp only [depsR, depR, slotR, Fx, List.getElem?_cons_succ, List.getElem?_cons_zero, Region.binds, forall_const] at hd
                simp only [guardR]
                go_split_ands
              · go_simp
              · go_simp
              · go_simp
              · refine ⟨fun hy => ?_, fun _ => rfl⟩
                exfalso; simp [yieldR, slotR, undef, *] at hy
              · refine ⟨fun hy => ?_, fun _ => rfl⟩
                exfalso; simp [yieldR, slotR, undef, *] at hy
              · refine ⟨fun hy => ?_, fun _ => rfl⟩
                exfalso; simp [yieldR, slotR, undef, *] at hy
              · refine ⟨fun hy => ?_, fun _ => rfl⟩
                exfalso; simp [yieldR, slotR, undef, *] at hy
              · refine ⟨fun hy => ?_, fun _ => rfl⟩
                exfalso; simp [yieldR, slotR, undef, *] at hy
              · refine ⟨fun hy => ?_, fun _ => rfl⟩
                exfalso; simp [yieldR, slotR, undef, *] at hy
              · refine ⟨fun hy => ?_, fun _ => rfl⟩
                exfalso; simp [yieldR, slotR, undef, *] at hy
              · refine ⟨fun hy => ?_, fun _ => rfl⟩
                exfalso; simp [yieldR, slotR, undef, *] at hy
              · refine ⟨fun hy => ?_, fun _ => rfl⟩
                exfalso; simp [yieldR, slotR, undef, *] at hy
            · intro us x1 hp1 hw
              simp only [owed, Fx] at hw
              obtain ⟨e0, e1, e2, e3, e4, e5, e6, e7, e8, e9, e10, e11, -⟩ := hw
              simp only [List.length_cons, List.length_nil, List.take_succ_cons, List.take_zero, List.drop_succ_cons, List.drop_zero, asg, List.cons_append, List.nil_append, e0, e1, e2, e3, e4, e5, e6, e7, e8, e9, e10, e11]
              clear e0 e1 e2 e3 e4 e5 e6 e7 e8 e9 e10 e11
              have LV : Hid True := trivial
              cases hb : behO ltI l.getLast? v
              · have h9 := HB9.out
                rw [hb] at h9
                cases h9
              · have HEr : Hid (rdL rdS ltI m [] b j0 = rdL rdS ltI (m - (0 + 1)) (l ++ [v]) b j') := by
                  show _ = _; rw [HE.out, rdL_step (by omega) HR1.out hb, Nat.sub_sub]
                have bA := below_alloc x1 (.cells (#[.int .i64 v]) 3)
                have bW : Below W.heap.size W (x1.alloc (.cells (#[.int .i64 v]) 3)) := hp1.trans (bA.mono hp1.size)
                have HK4 : Hid (Keep [g] w (x1.alloc (.cells (#[.int .i64 v]) 3))) := HK3.out.appB (bW.mono HK3.out.size)
                have HR4 : Hid (RdI (x1.alloc (.cells (#[.int .i64 v]) 3)) g x n c b j') := HR3.out.later bW
                have HO4 : OwnI (x1.alloc (.cells (#[.int .i64 v]) 3)) w.heap.size lv l := HO3.out.keep bW
                obtain ⟨v9, w9, hra, hO9, hg9, -⟩ := run_app1G intsElt (x1.alloc (.cells (#[.int .i64 v]) 3)) w.heap.size x1.heap.size 1 lv (inV l) (.int .i64 v) 30 HO4 (by simp) rfl (by rw [inV_len]; have := HL.out; have := HM.out; omega) (by unfold maxLen; rw [inV_len]; have := HL.out; have := HM.out; omega) HK4.out.size
                have hO9 : OwnI w9 w.heap.size v9 (l ++ [v]) := by unfold OwnI; rw [inV_app]; exact hO9
                have b9 : Below w.heap.size (x1.alloc (.cells (#[.int .i64 v]) 3)) w9 := grownB_below hg9 HK4.out.size (fun q hq => (OwnG.lt HO4 q hq).1)
                have HK9 : Hid (Keep [g] w w9) := HK4.out.appB b9
                have HR9 : Hid (RdI w9 g x n c b j') := HR4.out.belowB b9 HG.out HX.out H0.out
                have HO9 : Hid (OwnI w9 w.heap.size v9 (l ++ [v])) := hO9
                have HLT : Hid (0 < m) := hlt
                clear hO9 hg9 b9 HO4 bW bA hp1 hb
                go_wp2_with (first | (at_builtin; refine wpL_appG 30 rfl _ _ rfl _ w9 (by exact hra) ?_))
                go_roundw
                case rel => first | exact ⟨_, 0 + 1, l ++ [v], j', rfl, by have := HLT.out; omega, by go_num, HO9.out, by simp [HL.out], HR9.out, HK9.out, HEr.out⟩ | ((repeat apply Exists.intro); refine ⟨⟨_, 0 + 1, l ++ [v], j', rfl, by have := HLT.out; omega, ?_, HO9.out, by simp [HL.out], HR9.out, HK9.out, HEr.out⟩, rfl⟩; go_num)
                case measure => have := HLT.out; simp [intOf]; omega
          · obtain ⟨u, hu, hla⟩ := last_get l k HL.out (by omega)
            obtain ⟨gl, cl, hlv, -, hgl, -, -⟩ := OwnG.form HO3.out (by intro e; have := congrArg List.length e; rw [inV_len] at this; simp at this; have := HL.out; subst this; simp_all)
            rw [inV_len, HL.out] at hlv
            subst hlv
            have CL : Hid (∀ y, Below W.heap.size W y → y.cell? ⟨gl, k - 1, none⟩ = some (.int .i64 u)) := fun y hy => cell_later hy (OwnG.cell HO3.out (k - 1) _ (inV_get l _ u hu))
            have HB9 : Hid ((!ltI u v) = !behO ltI l.getLast? v) := by show _ = _; rw [hla]; rfl
            have leB := cmpI_le u v
            have wk1 : IntKind.i64.wrap ((k : Int) - 1) = ((k - 1 : Nat) : Int) := by rw [IntKind.wrap_i64]; have := HM.out; omega
            have q0 : (0 : Int) < (k : Int) := by omega
            have q1 : ((k - 1 : Nat) : Int) < (k : Int) := by omega
            have q2 : (0 : Int) ≤ ((k - 1 : Nat) : Int) := by omega
            clear hu hla hgl
            refine wp_plainsT [Fx (.int .i64 (k : Int)), Fx (.bool true), Fx (.bool true), Fx (.func (.func 50) #[] #[]), Fx (.slice (some ⟨gl, 0, none⟩) k cl), Fx (.int .i64 (k : Int)), Fx (.int .i64 (((k - 1 : Nat)) : Int)), Fx (.pointer (some ⟨gl, k - 1, none⟩)), Fx (.int .i64 u), Fx (.int .i64 v), Fx (.int .i64 (cmpI u v)), Fx (.bool (!ltI u v))] (by kernel_rfl) (by kernel_rfl) ?_ ?_ ?_
            · repeat' (first | exact all_nil | apply all_cons)
              all_goals intro v y y' hv hb
              all_goals first | exact Fx_mono _ _ _ _ hv hb
            · refine ⟨?_, ?_, ?_, ?_, ?_, ?_, ?_, ?_, ?_, ?_, ?_, ?_, trivial⟩
              all_goals
                intro ρ y9 hp ρc ρg ρf ho hd
                have o2 : ρ (.tmp 2) = .func (.func 50) #[] #[] := ho 2 rfl
                have o10 : ρ (.tmp 10) = .slice (some ⟨gl, 0, none⟩) k cl := ho 10 rfl
                have o11 : ρ (.tmp 11) = .int .i64 (k : Int) := ho 11 rfl
                have o13 : ρ (.tmp 13) = .int .i64 v := ho 13 rfl
                clear ho
                simp only [depsR, depR, slotR, Fx, List.getElem?_cons_succ, List.getElem?_cons_zero, Region.binds, forall_const] at hd
                simp only [guardR]
                go_split_ands
              · go_simp
              · go_simp
                try (unfold Fx; simp; omega)
              · go_simp
              · refine ⟨fun _ => ?_, fun hy => absurd (by simp [yieldR, slotR, *]) hy⟩
                go_simp
              · refine ⟨fun _ => ?_, fun hy => absurd (by simp [yieldR, slotR, *]) hy⟩
                go_simp
              · refine ⟨fun _ => ?_, fun hy => absurd (by simp [yieldR, slotR, *]) hy⟩
                go_simp
              · refine ⟨fun _ => ?_, fun hy => absurd (by simp [yieldR, slotR, *]) hy⟩
                go_simp
                try exact wk1
              · refine ⟨fun _ => ?_, fun hy => absurd (by simp [yieldR, slotR, *]) hy⟩
                go_simp
              · refine ⟨fun _ => ?_, fun hy => absurd (by simp [yieldR, slotR, *]) hy⟩
                have z1 := CL.out y9 hp
                go_simp
              · refine ⟨fun _ => ?_, fun hy => absurd (by simp [yieldR, slotR, *]) hy⟩
                go_simp
              · refine ⟨fun _ => ?_, fun hy => absurd (by simp [yieldR, slotR, *]) hy⟩
                go_simp
                exact (bySlot22 _ _ _).mono fun e w' ⟨q1, q2⟩ => ⟨_, q1, rfl, q2⟩
              · refine ⟨fun _ => ?_, fun hy => absurd (by simp [yieldR, slotR, *]) hy⟩
                go_simp
                try exact leB
            · intro us x1 hp1 hw
              simp only [owed, Fx] at hw
              obtain ⟨e0, e1, e2, e3, e4, e5, e6, e7, e8, e9, e10, e11, -⟩ := hw
              simp only [List.length_cons, List.length_nil, List.take_succ_cons, List.take_zero, List.drop_succ_cons, List.drop_zero, asg, List.cons_append, List.nil_append, e0, e1, e2, e3, e4, e5, e6, e7, e8, e9, e10, e11]
              clear e0 e1 e2 e3 e4 e5 e6 e7 e8 e9 e10 e11
              cases hb : behO ltI l.getLast? v
              · have HEr : Hid (RES = .error (j, 11)) := by show _ = _; rw [← HRES.out, HE.out]; exact rdL_bad (by omega) HR1.out hb
                rw [HB9.out, hb]
                have HK9 : Hid (Keep [g] w (x1.alloc (.cells (ftA (j : Int) 11) 72))) := (HK3.out.appB (hp1.mono HK3.out.size)).appB ((below_alloc _ _).mono (Nat.le_trans HK3.out.size hp1.size))
                have HQ : Hid (w.heap.size ≤ x1.heap.size) := Nat.le_trans HK3.out.size hp1.size
                have HN : Hid (RowC (x1.alloc (.cells (ftA (j : Int) 11) 72)) x1.heap.size (ftA (j : Int) 11)) := RowC.new _ _ _
                clear hp1 hb
                go_wp2
                go_ret2
                rw [HEr.out]
                exact ⟨HK9.out, _, rfl, HQ.out, HN.out⟩
              · have HEr : Hid (rdL rdS ltI m [] b j0 = rdL rdS ltI (m - (k + 1)) (l ++ [v]) b j') := by
                  show _ = _; rw [HE.out, rdL_step (by omega) HR1.out hb, Nat.sub_sub]
                rw [HB9.out, hb]
                have bA := below_alloc x1 (.cells (#[.int .i64 v]) 3)
                have bW : Below W.heap.size W (x1.alloc (.cells (#[.int .i64 v]) 3)) := hp1.trans (bA.mono hp1.size)
                have HK4 : Hid (Keep [g] w (x1.alloc (.cells (#[.int .i64 v]) 3))) := HK3.out.appB (bW.mono HK3.out.size)
                have HR4 : Hid (RdI (x1.alloc (.cells (#[.int .i64 v]) 3)) g x n c b j') := HR3.out.later bW
                have HO4 : OwnI (x1.alloc (.cells (#[.int .i64 v]) 3)) w.heap.size (.slice (some ⟨gl, 0, none⟩) k cl) l := HO3.out.keep bW
                obtain ⟨v9, w9, hra, hO9, hg9, -⟩ := run_app1G intsElt (x1.alloc (.cells (#[.int .i64 v]) 3)) w.heap.size x1.heap.size 1 (.slice (some ⟨gl, 0, none⟩) k cl) (inV l) (.int .i64 v) 30 HO4 (by simp) rfl (by rw [inV_len]; have := HL.out; have := HM.out; omega) (by unfold maxLen; rw [inV_len]; have := HL.out; have := HM.out; omega) HK4.out.size
                have hO9 : OwnI w9 w.heap.size v9 (l ++ [v]) := by unfold OwnI; rw [inV_app]; exact hO9
                have b9 : Below w.heap.size (x1.alloc (.cells (#[.int .i64 v]) 3)) w9 := grownB_below hg9 HK4.out.size (fun q hq => (OwnG.lt HO4 q hq).1)
                have HK9 : Hid (Keep [g] w w9) := HK4.out.appB b9
                have HR9 : Hid (RdI w9 g x n c b j') := HR4.out.belowB b9 HG.out HX.out H0.out
                have HO9 : Hid (OwnI w9 w.heap.size v9 (l ++ [v])) := hO9
                have HLT : Hid (k < m) := hlt
                clear hO9 hg9 b9 HO4 bW bA hp1 hb
                go_wp2_with (first | (at_builtin; refine wpL_appG 30 rfl _ _ rfl _ w9 (by exact hra) ?_))
                go_roundw
                case rel => first | exact ⟨_, k + 1, l ++ [v], j', rfl, by have := HLT.out; omega, by go_num, HO9.out, by simp [HL.out], HR9.out, HK9.out, HEr.out⟩ | ((repeat apply Exists.intro); refine ⟨⟨_, k + 1, l ++ [v], j', rfl, by have := HLT.out; omega, ?_, HO9.out, by simp [HL.out], HR9.out, HK9.out, HEr.out⟩, rfl⟩; go_num)
                case measure => have := HLT.out; simp [intOf]; omega
      · obtain rfl : k = m := by omega
        have HEr : Hid (RES = .ok (l, j)) := by show _ = _; rw [← HRES.out, hE, Nat.sub_self]; rfl
        have i0 : ¬ (k : Int) < (k : Int) := by omega
        clear hE hlk
        go_wp2
        go_ret2
        rw [HEr.out]
        exact ⟨hK, _, rfl, hO, hR⟩
end Go.Proofs.YtklbdhpnbjhgkaaGreatDoor
