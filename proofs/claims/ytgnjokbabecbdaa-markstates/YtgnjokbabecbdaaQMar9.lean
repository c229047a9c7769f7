import Derived.Test.YtgnjokbabecbdaaQMar5
import Derived.Test.YtgnjokbabecbdaaQRelk
import Derived.Test.YtgnjokbabecbdaaQKbs
namespace Go.Proofs.Ytgnjokbabecbdaa
open Go.RowKit

/-! MarkStates -/
def ovW (l : List Wr) (d : Wr) : Nat → List Wr
  | 0 => l
  | k + 1 => (ovW l d k).set k d
@[simp] theorem ovW_len (l : List Wr) (d : Wr) : ∀ k, (ovW l d k).length = l.length
  | 0 => rfl
  | k + 1 => by rw [ovW, List.length_set, ovW_len l d k]
theorem ovW_get (l : List Wr) (d : Wr) : ∀ k i, i < k → k ≤ l.length → (ovW l d k)[i]? = some d
  | 0, i, h, _ => by omega
  | k + 1, i, h, hk => by
    rw [ovW, List.getElem?_set]
    by_cases e : k = i
    · subst e; rw [if_pos rfl, if_pos (by rw [ovW_len]; omega)]
    · rw [if_neg e]; exact ovW_get l d k i (by omega) (by omega)
theorem wr_st9 {w : World} {B g n c : Nat} {ms : List Wr} (h : OwnK wrE w B (.slice (some ⟨g, 0, none⟩) n c) ms) (k : Nat) (d : Wr) (hk : k < n) : (wrStore (.pointer (some ⟨g, k * 65, none⟩)) (.agg (wrA d))).run Try.prog w = .ok .skip (w.setCells g (k * 65) (wrE.enc d)) := by
  have hst := h.store wrE_ok k d hk
  rw [wrE_arr] at hst
  have h9 : (Instr.storeAt 34 (.pointer (some ⟨g, k * 65, none⟩)) (.agg (wrA d))).run Try.prog w = .ok () (w.setCells g (k * 65) (wrE.enc d)) := hst
  simp only [wrStore, Sem.run_bind, h9, Result.andThen_ok]
  rfl
theorem mStL_le (s : Sc) (j : List Sc) (n : Int) : (mStL s j n).length ≤ 8 := by
  unfold mStL
  cases mComm s j n
  · simp
  · show (stA s j).length ≤ 8
    unfold stA
    rw [stL_len]
    exact stN8_le s
theorem at9 {w : World} {y : Option Addr} {n c i : Nat} {l : List Wr} {a : Int} {s : Sc} (h : IsK wrE w (.slice y n c) l) (hi : l[i]? = some (a, s)) : ∃ b o, y = some ⟨b, o, none⟩ ∧ w.cell? ⟨b, o + i * 65, none⟩ = some (.int .i64 a) := by
  obtain ⟨b, o, e, -, hr⟩ := h.at i _ hi
  exact ⟨b, o, e, (wr_at hr).1⟩
def incS (l : List Sc) : Nat → List Sc
  | 0 => l
  | k + 1 => (incS l k).set k (upd ((incS l k).getD k secZ) (k % 64) ((incS l k).getD k secZ (k % 64) + 1))
@[simp] theorem incS_len (l : List Sc) : ∀ k, (incS l k).length = l.length
  | 0 => rfl
  | k + 1 => by rw [incS, List.length_set, incS_len l k]
theorem secE_set (x : Sc) (j : Nat) (b : UInt8) (hj : j < 64) : (secE.enc x).set j (.int .u8 (b.toNat : Int)) = secE.enc (upd x j b) := by
  rw [secE_enc, secE_enc, ← secA_set x j b hj, Array.toList_setIfInBounds]
theorem sec_cell9 {w : World} {b o : Nat} {x : Sc} (h : w.rangeAt b o (secE.enc x)) (j : Nat) (hj : j < 64) : w.cell? ⟨b, o + j, none⟩ = some (.int .u8 ((x j).toNat : Int)) := by
  rw [secE_enc] at h
  exact h j _ (by rw [Array.getElem?_toList]; exact secA_get x j hj)
def CpI9 (B L : Nat) (l : List Sc) : List Value → World → Prop
  | [], _ => True
  | [v], x => OwnK secE x B v []
  | _ :: v :: _, x => ∃ y c, v = .slice y L c ∧ OwnK secE x B (.slice y L c) l
theorem CpI9_later (B L : Nat) (l : List Sc) : ∀ vs w w', CpI9 B L l vs w → Below w.heap.size w w' → CpI9 B L l vs w'
  | [], _, _, _, _ => trivial
  | [_], _, _, h, hb => OwnK.keep h hb
  | _ :: _ :: _, _, _, ⟨y, c, h1, h2⟩, hb => ⟨y, c, h1, OwnK.keep h2 hb⟩
def TupF9 (B : Nat) (K : Int) (Q : Nat) (l : List Wr) (v : Value) (x : World) : Prop := ∃ y c, v = .tuple #[.int .i64 K, .slice y Q c] ∧ OwnK wrE x B (.slice y Q c) l
def SlF9 (B : Nat) (Q : Nat) (l : List Wr) (v : Value) (x : World) : Prop := ∃ y c, v = .slice y Q c ∧ OwnK wrE x B (.slice y Q c) l
theorem TupF9.keep {B : Nat} {K : Int} {Q : Nat} {l : List Wr} {v : Value} {x x' : World} (h : TupF9 B K Q l v x) (hb : Below x.heap.size x x') : TupF9 B K Q l v x' := by
  obtain ⟨y, c, h1, h2⟩ := h
  exact ⟨y, c, h1, OwnK.keep h2 hb⟩
theorem SlF9.keep {B : Nat} {Q : Nat} {l : List Wr} {v : Value} {x x' : World} (h : SlF9 B Q l v x) (hb : Below x.heap.size x x') : SlF9 B Q l v x' := by
  obtain ⟨y, c, h1, h2⟩ := h
  exact ⟨y, c, h1, OwnK.keep h2 hb⟩
set_option linter.unusedSimpArgs false in
set_option maxRecDepth 100000 in
set_option maxHeartbeats 4000000 in
theorem lawMarkStates_any (hP : MPutOk) (hS : MStOk) (s : Sc) (j : List Sc) (x : Option Addr) (L c : Nat) (n : Int) (w : World) (hL : j.length = L) (hL9 : L ≤ 2199023255488) (hj : IsK secE w (.slice x L c) j) (hn : i64w n) :
    Calls Try.prog 5 #[.agg (secA s), .slice x L c, .int .i64 n] w fun r w' => r = .returned (.bool true) ∧ Below w.heap.size w w' := by
  have ht := fun w => taken9_any hP hS w
  have r1 := fun x c w hi => rState9_any s j x L c n w hL (by omega) hi hn
  have s1 := fun x c w hi => hS s j x L c n w hL (by omega) hi hn
  have hQ8 := mStL_le s j n
  generalize mStK s j n = K at r1 s1
  obtain ⟨Ls, hLs⟩ : ∃ q, mStL s j n = q := ⟨_, rfl⟩
  rw [hLs] at hQ8
  simp only [hLs] at r1 s1
  clear hLs
  obtain ⟨Q, hQ⟩ : ∃ q, Ls.length = q := ⟨_, rfl⟩
  simp only [hQ] at r1 s1 hQ8
  go_enter Try.func5, Try.ntmps5
  go_upto_region 1 with fail
  have h3 : ScR (w.alloc (.cells (secA s) 28)) w.heap.size s := ScR.new w s 28
  have hB : Below w.heap.size w (w.alloc (.cells (secA s) 28)) := below_alloc w _
  obtain ⟨g3, hg3⟩ : ∃ g, w.heap.size = g := ⟨_, rfl⟩
  rw [hg3] at h3
  simp only [hg3]
  generalize w.alloc (.cells (secA s) 28) = X0 at h3 hB ⊢
  go_wp2_with fail
  go_at_call 6
  refine (ht _).mono ?_
  rintro r w1 ⟨rfl, hb⟩
  replace h3 := h3.kept hb
  replace hB := hB.trans (hb.mono hB.size)
  clear ht hb
  go_upto_region 3 with fail
  go_wp2_with fail
  go_at_call 13
  refine (sectors9_any x L c j w1 hL (hj.kept hB) (by omega)).mono ?_
  rintro r w2 ⟨g, c', rfl, hO, hb⟩
  have hgne : g ≠ g3 := by
    have q1 := OwnK.ge hO
    have q2 := h3.lt
    omega
  replace hO := OwnK.le hO hB.size
  replace h3 := h3.kept hb
  replace hB := hB.trans (hb.mono hB.size)
  clear hb
  go_upto_region 4 with fail
  have h3' := h3
  obtain ⟨e3, k3⟩ := h3'
  go_wp2_with fail
  go_at_call 14
  refine (r1 _ _ _ (hj.kept hB)).mono ?_
  rintro r w3 ⟨yl, cl, rfl, hl, hb⟩
  clear e3 k3
  replace hO := OwnK.keep hO hb
  replace h3 := h3.kept hb
  have hglt : g < w3.heap.size := (World.ownsRow.lt hO g rfl).2
  have hg3lt : g3 < w3.heap.size := ScR.lt h3
  replace hB := hB.trans (hb.mono hB.size)
  clear hb
  go_upto_region 5 with fail
  have h3' := h3
  obtain ⟨e3, k3⟩ := h3'
  go_wp2_with fail
  go_at_call 8
  refine (s1 _ _ _ (lentIs secE_ok hO hL)).mono ?_
  rintro r w4 ⟨yx, cx, rfl, hx, hb⟩
  clear e3 k3
  replace hO := OwnK.keep hO hb
  replace hl := OwnK.keep hl hb
  replace h3 := h3.kept hb
  have hw3 : w.heap.size ≤ w3.heap.size := hB.size
  have hw34 : w3.heap.size ≤ w4.heap.size := hb.size
  replace hB := hB.trans (hb.mono hB.size)
  clear hb
  go_upto_region 6 with fail
  have h3' := h3
  obtain ⟨e3, k3⟩ := h3'
  go_wp2_with fail
  go_at_call 8
  refine (s1 _ _ _ (lentIs secE_ok hO hL)).mono ?_
  rintro r w5 ⟨yy, cy, rfl, hy, hb⟩
  clear e3 k3
  have hxlt : ∀ q, (Value.slice yx Q cx).ownBlock = some q → q < w4.heap.size := fun q hq => (World.ownsRow.lt hx q hq).2
  replace hO := OwnK.keep hO hb
  replace hl := OwnK.keep hl hb
  replace hx := OwnK.keep hx hb
  replace h3 := h3.kept hb
  have hw45 : w4.heap.size ≤ w5.heap.size := hb.size
  replace hB := hB.trans (hb.mono hB.size)
  clear hb
  go_upto_region 7 with fail
  have s7 := sameW9_any yx yl cx cl Q Q Ls Ls w5 hQ hQ (OwnK.isK wrE_ok hx) (OwnK.isK wrE_ok hl) (by omega)
  rw [decide_eq_true rfl] at s7
  go_wp2_with fail
  go_at_call 9
  refine s7.mono ?_
  rintro r w6 ⟨rfl, hb⟩
  have hw56 := hb.size
  clear s7
  replace hO := OwnK.keep hO hb
  replace hl := OwnK.keep hl hb
  replace hx := OwnK.keep hx hb
  replace hy := OwnK.keep hy hb
  replace h3 := h3.kept hb
  replace hB := hB.trans (hb.mono hB.size)
  clear hb
  have s8 := sameW9_any yy yl cy cl Q Q Ls Ls w6 hQ hQ (OwnK.isK wrE_ok hy) (OwnK.isK wrE_ok hl) (by omega)
  rw [decide_eq_true rfl] at s8
  go_wp2_with fail
  go_at_call 9
  refine s8.mono ?_
  rintro r w7 ⟨rfl, hb⟩
  clear s8
  replace hO := OwnK.keep hO hb
  replace hx := OwnK.keep hx hb
  replace hy := OwnK.keep hy hb
  replace h3 := h3.kept hb
  replace hB := hB.trans (hb.mono hB.size)
  have hw7 : w4.heap.size ≤ w7.heap.size := by have := hb.size; omega
  clear hb hl
  have hcap : L + 1 ≤ c' := by obtain ⟨-, -, -, -, hle, -⟩ := OwnK.heap hO; omega
  have hcap' : ((L : Int) + 1) ≤ (c' : Int) := by omega
  have hw1 : IntKind.i64.wrap ((L : Int) + 1) = ((L + 1 : Nat) : Int) := by rw [IntKind.wrap_i64]; omega
  obtain ⟨okL, rgL⟩ := rg_of (OwnK.range secE_ok hO L sec7 (by rw [List.getElem?_append_right (by omega), hL]; simp)) (secE_ok.len _)
  rw [secE_arr, secE_k] at rgL
  rw [secE_k] at okL
  have hLL : (L : Int) < ((L + 1 : Nat) : Int) := by omega
  have hLL2 : L < L + 1 := by omega
  have h77 := secEq_refl9 sec7
  have HO : Hid _ := hO
  have HB : Hid _ := hB
  have HX : Hid _ := hx
  have HY : Hid _ := hy
  have H3 : Hid _ := h3
  clear hO hB hx hy h3
  go_upto_region 9 with fail
  clear okL rgL hcap hcap' hw1 hLL hLL2
  go_wp2_with fail
  go_loopw [14] (fun iv wr => ∃ k : Nat, k ≤ L ∧ iv = .int .i64 k ∧ Below w7.heap.size w7 wr) (fun iv _ => L - (intOf iv).toNat)
  case atStart => exact ⟨0, by omega, rfl, Below.refl _ _⟩
  case round =>
    obtain ⟨k, hk, rfl, hBr⟩ := hrel
    by_cases hlt : k < L
    · have hlt' : (k : Int) < (L : Int) := by omega
      have hg : j[k]? = some (j.getD k secZ) := by rw [List.getD_eq_getElem?_getD, List.getElem?_eq_getElem (by omega)]; rfl
      obtain ⟨D, hD⟩ : ∃ d, j.getD k secZ = d := ⟨_, rfl⟩
      rw [hD] at hg
      obtain ⟨bj, oj, rfl, hbj, -⟩ := (hj.kept (HB.out.trans (hBr.mono (Below.size HB.out)))).at k D hg
      have rj : ∀ X, Below wr.heap.size wr X → rgOk X bj (oj + k * 64) 64 = true ∧ rg X bj (oj + k * 64) 64 = secA D := fun X hX => by
        obtain ⟨b, o, e, -, hr⟩ := ((hj.kept (HB.out.trans (hBr.mono (Below.size HB.out)))).kept hX).at k D hg
        simp only [Option.some.injEq, Addr.mk.injEq, and_true] at e
        obtain ⟨rfl, rfl⟩ := e
        have := rg_of hr (secE_ok.len _)
        rw [secE_arr, secE_k] at this
        exact this
      have ro : ∀ X, Below wr.heap.size wr X → rgOk X g (k * 64) 64 = true ∧ rg X g (k * 64) 64 = secA D := fun X hX => by
        have := rg_of (OwnK.range secE_ok (OwnK.keep (OwnK.keep HO.out hBr) hX) k D (by rw [List.getElem?_append_left (by omega)]; exact hg)) (secE_ok.len _)
        rw [secE_arr, secE_k] at this
        exact this
      have hDD := secEq_refl9 D
      have FK : Hid ((k : Int) < (L : Int)) := hlt'
      clear hg hD hlt'
      have hlt2 := FK.out
      go_upto_region 12 with fail
      clear hlt2
      refine wp_relies [Fx (.slice (some ⟨g, 0, none⟩) L c'), Fx (.int .i64 ((k : Int))), Fx (.pointer (some ⟨g, k * 64, none⟩)), Fx (.agg (secA D)), Fx (.slice (some ⟨bj, oj, none⟩) L c), Fx (.int .i64 ((k : Int))), Fx (.pointer (some ⟨bj, oj + k * 64, none⟩)), Fx (.agg (secA D)), Fx (.bool false)] (by kernel_rfl) (by kernel_rfl) ?_ ?_ ?_
      · repeat' (first | exact all_nil | apply all_cons)
        all_goals intro v y y' hv hb
        all_goals first | exact Fx_mono _ _ _ _ hv hb
      · refine ⟨?_, ?_, ?_, ?_, ?_, ?_, ?_, ?_, ?_, trivial⟩
        all_goals
          intro ρ x hp ρc ρg ρf ho hd
          have o7 : ρ (.tmp 7) = .slice (some ⟨g, 0, none⟩) L c' := ho 7 rfl
          have o1 : ρ (.tmp 1) = .slice (some ⟨bj, oj, none⟩) L c := ho 1 rfl
          have o14 : ρ (.tmp 14) = .int .i64 ((k : Int)) := ho 14 rfl
          clear ho
          simp only [depsR, depR, slotR, Fx, List.getElem?_cons_succ, List.getElem?_cons_zero, Region.binds, forall_const] at hd
          simp only [guardR]
          go_split_ands
        · go_simp
        · go_simp
        · have hq := FK.out
          go_simp
        · obtain ⟨ok9, rg9⟩ := ro x hp
          go_simp
        · go_simp
        · go_simp
        · have hq := FK.out
          go_simp
        · obtain ⟨ok9, rg9⟩ := rj x hp
          go_simp
        · go_simp
      · intro vs x1 hp hw
        simp only [owed, Fx] at hw
        obtain ⟨e0, e1, e2, e3, e4, e5, e6, e7, e8, -⟩ := hw
        simp only [List.length_cons, List.length_nil, List.take_succ_cons, List.take_nil, List.drop_succ_cons, List.drop_nil, asg, List.cons_append, List.nil_append, e0, e1, e2, e3, e4, e5, e6, e7, e8]
        clear e0 e1 e2 e3 e4 e5 e6 e7 e8
        clear rj ro FK
        have HBr : Hid (Below w7.heap.size w7 x1) := hBr.trans (hp.mono hBr.size)
        clear hBr hp
        go_wp2_with fail
        go_roundw
        case rel => exact ⟨k + 1, by omega, by go_num, HBr.out⟩
        case measure => simp [intOf]; omega
    · obtain rfl : k = L := by omega
      have hlt' : ¬ (k : Int) < (k : Int) := by omega
      have hO := OwnK.keep HO.out hBr
      have hx := OwnK.keep HX.out hBr
      have hy := OwnK.keep HY.out hBr
      have h3 := ScR.kept H3.out hBr
      have hB := HB.out.trans (hBr.mono (Below.size HB.out))
      have hw5r : w4.heap.size ≤ wr.heap.size := Nat.le_trans hw7 hBr.size
      clear HO HX HY H3 HB hBr
      generalize w3.heap.size = N3 at *
      generalize w4.heap.size = N4 at *
      obtain ⟨L9, hL9e⟩ : ∃ q, k = q := ⟨_, rfl⟩
      rw [hL9e] at hO
      go_upto_region 14 with fail
      go_wp2_with fail
      go_loopw [15] (fun iv wr => ∃ k : Nat, k ≤ Q ∧ iv = .int .i64 k ∧ OwnK secE wr w.heap.size (.slice (some ⟨g, 0, none⟩) (L9 + 1) c') (j ++ [sec7]) ∧ OwnK wrE wr N3 (.slice yx Q cx) (ovW Ls (-1, secZ) k) ∧ OwnK wrE wr N4 (.slice yy Q cy) (ovW Ls (-2, secZ) k) ∧ ScR wr g3 s ∧ Below w.heap.size w wr ∧ N4 ≤ wr.heap.size) (fun iv _ => Q - (intOf iv).toNat)
      case atStart => exact ⟨0, by omega, rfl, hO, hx, hy, h3, hB, hw5r⟩
      case round =>
        clear hO hx hy h3 hB hw5r
        obtain ⟨i, hi, rfl, hO, hx, hy, h3, hB, hsz⟩ := hrel
        by_cases hlq : i < Q
        · have hlq' : (i : Int) < (Q : Int) := by omega
          obtain ⟨gx, rfl, -⟩ := OwnK.form hx (by rw [ovW_len, hQ]; omega)
          obtain ⟨gy, rfl, -⟩ := OwnK.form hy (by rw [ovW_len, hQ]; omega)
          have hgx := OwnK.ge hx
          have hgx4 := hxlt gx rfl
          have hgy := OwnK.ge hy
          have hst := wr_st9 hx i (-1, secZ) hlq
          have hx1 : OwnK wrE (wr.setCells gx (i * 65) (wrE.enc (-1, secZ))) N3 (.slice (some ⟨gx, 0, none⟩) Q cx) (ovW Ls (-1, secZ) (i + 1)) := hx.put wrE_ok i (-1, secZ) hlq
          have hgr := grown_setC wr gx (i * 65) (wrE.enc (-1, secZ))
          have hy1 := World.ownsRow.kept hy hgr (.inr (by show (some gy : Option Nat) ≠ some gx; intro e; cases e; omega))
          have hb1 : Below N3 wr (wr.setCells gx (i * 65) (wrE.enc (-1, secZ))) := hx.below hgr (by omega)
          have hO1 := OwnK.under hO hb1 (fun q hq => by cases hq; exact hglt)
          have h31 := ScR.below9 h3 hb1 hg3lt
          have hB1 := hB.trans (hb1.mono hw3)
          have hsz1 : N4 ≤ (wr.setCells gx (i * 65) (wrE.enc (-1, secZ))).heap.size := Nat.le_trans hsz hgr.size
          clear hO hx hy h3 hB hsz hb1 hgr
          go_upto_region 18 with fail
          clear hst
          generalize wr.setCells gx (i * 65) (wrE.enc (-1, secZ)) = W1 at hx1 hy1 hO1 h31 hB1 hsz1 ⊢
          have hst := wr_st9 hy1 i (-2, secZ) hlq
          have hy2 : OwnK wrE (W1.setCells gy (i * 65) (wrE.enc (-2, secZ))) N4 (.slice (some ⟨gy, 0, none⟩) Q cy) (ovW Ls (-2, secZ) (i + 1)) := OwnK.put wrE_ok hy1 i (-2, secZ) hlq
          have hgr := grown_setC W1 gy (i * 65) (wrE.enc (-2, secZ))
          have hb1 : Below N4 W1 (W1.setCells gy (i * 65) (wrE.enc (-2, secZ))) := OwnK.below hy1 hgr hsz1
          have hO2 := OwnK.under hO1 hb1 (fun q hq => by cases hq; show g < N4; omega)
          have hx2 := OwnK.under hx1 hb1 (fun q hq => by cases hq; show gx < N4; omega)
          have h32 := ScR.below9 h31 hb1 (by omega)
          have hB2 := hB1.trans (hb1.mono (by omega))
          have hsz2 : N4 ≤ (W1.setCells gy (i * 65) (wrE.enc (-2, secZ))).heap.size := Nat.le_trans hsz1 hgr.size
          have H : Hid (_ ∧ _ ∧ _ ∧ _ ∧ _ ∧ _) := ⟨hO2, hx2, hy2, h32, hB2, hsz2⟩
          clear hO1 hx1 hy1 h31 hB1 hsz1 hb1 hgr hO2 hx2 hy2 h32 hB2 hsz2
          go_wp2_with fail
          go_roundw
          case rel => exact ⟨i + 1, by omega, by go_num, H.out⟩
          case measure => simp [intOf]; omega
        · obtain rfl : Q = i := by omega
          have hlq' : ¬ (Q : Int) < (Q : Int) := by omega
          have hxl : (ovW Ls (-1, secZ) Q).length = Q := by rw [ovW_len, hQ]
          have hyl : (ovW Ls (-2, secZ) Q).length = Q := by rw [ovW_len, hQ]
          have hxg := ovW_get Ls (-1, secZ) Q
          have hyg := ovW_get Ls (-2, secZ) Q
          generalize ovW Ls (-1, secZ) Q = xs at hx hxl hxg
          generalize ovW Ls (-2, secZ) Q = ys at hy hyl hyg
          obtain ⟨N5, hN5⟩ : ∃ q, wr.heap.size = q := ⟨_, rfl⟩
          have hN45 : N4 ≤ N5 := by omega
          have hylt : ∀ q, (Value.slice yy Q cy).ownBlock = some q → N4 ≤ q ∧ q < N5 := fun q hq => hN5 ▸ World.ownsRow.lt hy q hq
          go_upto_region 21 with fail
          go_wp2_with fail
          go_loopw [16, 18] (fun pv iv wr => ∃ k : Nat, k ≤ 9 ∧ iv = .int .i64 k ∧ OwnK wrE wr N3 pv (xs ++ List.replicate k (-1, secZ)) ∧ (∀ q, pv.ownBlock = some q → q < N4 ∨ N5 ≤ q) ∧ OwnK secE wr w.heap.size (.slice (some ⟨g, 0, none⟩) (L9 + 1) c') (j ++ [sec7]) ∧ OwnK wrE wr N3 (.slice yx Q cx) xs ∧ OwnK wrE wr N4 (.slice yy Q cy) ys ∧ ScR wr g3 s ∧ Below w.heap.size w wr ∧ N5 ≤ wr.heap.size) (fun _ iv _ => 9 - (intOf iv).toNat)
          case atStart => exact ⟨0, by omega, rfl, by simpa using hx, fun q hq => .inl (hxlt q hq), hO, hx, hy, h3, hB, by omega⟩
          case round =>
            clear hO hx hy h3 hB hsz hN5
            obtain ⟨m, hm, rfl, hp, hpq, hO, hx, hy, h3, hB, hsz⟩ := hrel
            by_cases hm9 : m < 9
            · have hm9' : (m : Int) < 9 := by omega
              have hA := below_alloc wr (.cells (wrA (-1, secZ)) 34)
              have hlen : (xs ++ List.replicate m ((-1, secZ) : Wr)).length = Q + m := by rw [List.length_append, hxl, List.length_replicate]
              have hnew : (wr.alloc (.cells (wrA (-1, secZ)) 34)).rangeAt wr.heap.size 0 (wrE.enc (-1, secZ)) := fun i u hu => by
                rw [Nat.zero_add, cell_of_row _ _ i _ _ _ (heap_alloc_last wr _)]
                rw [wrE_enc, Array.getElem?_toList] at hu; exact hu
              obtain ⟨g6, c6, w6', hr6, o1, o2, o3, o4⟩ := run_app1K wrE_ok (wr.alloc (.cells (wrA (-1, secZ)) 34)) N3 wr.heap.size _ (xs ++ List.replicate m (-1, secZ)) (-1, secZ) 22 (OwnK.keep hp hA) hnew (by simp) (by rw [hlen]; show (Q + m + 1) * 72 ≤ _; omega) (by rw [hlen]; unfold maxLen; omega) (by simp; omega)
              have hTS : wrE.S = 22 := rfl
              rw [hTS, hlen] at hr6
              rw [hlen, List.append_assoc, ← List.replicate_succ'] at o1
              have hx6 := OwnK.beside wrE_ok (OwnK.keep hx hA) (OwnK.keep hp hA) o2 o3
              have hb6 := OwnK.below (OwnK.keep hp hA) o3 (by simp; omega)
              have hp3 := fun q hq => (World.ownsRow.lt hp q hq).1
              have hy6 := World.ownsRow.kept (OwnK.keep hy hA) o3 (by
                by_cases e : (Value.slice yy Q cy).ownBlock = none
                · exact .inl e
                · refine .inr (fun e2 => ?_)
                  obtain ⟨q, hq⟩ := Option.ne_none_iff_exists'.1 e
                  have h1 := hylt q hq
                  have h2 := hpq q (e2 ▸ hq)
                  omega)
              have hO6 := OwnK.under (OwnK.keep hO hA) hb6 (fun q hq => by cases hq; exact hglt)
              have h36 := ScR.below9 (h3.kept hA) hb6 hg3lt
              have hB6 := (hB.trans (hA.mono hB.size)).trans (hb6.mono hw3)
              have hsz6 : N5 ≤ w6'.heap.size := by have := o3.size; simp at this; omega
              have hpq6 : ∀ q, (Value.slice (some ⟨g6, 0, none⟩) (Q + m + 1) c6).ownBlock = some q → q < N4 ∨ N5 ≤ q := fun q hq => by
                cases hq
                show g6 < N4 ∨ N5 ≤ g6
                rcases o4 with e | e
                · exact hpq _ e
                · simp at e; omega
              have H : Hid (_ ∧ _ ∧ _ ∧ _ ∧ _ ∧ _ ∧ _ ∧ _) := ⟨o1, hpq6, hO6, hx6, hy6, h36, hB6, hsz6⟩
              clear hp hpq hO hx hy h3 hB hsz hA hnew o1 o2 o3 o4 hx6 hb6 hp3 hy6 hO6 h36 hB6 hsz6 hpq6
              go_wp2_with (at_builtin; refine wpL_appT 22 rfl _ _ rfl _ w6' (by exact hr6) ?_)
              go_roundw
              case rel => exact ⟨m + 1, by omega, by go_num, H.out⟩
              case measure => simp [intOf]; omega
            · obtain rfl : m = 9 := by omega
              have hpg : ∀ i, i < Q → (xs ++ List.replicate 9 ((-1, secZ) : Wr))[i]? = some (-1, secZ) := fun i hi => by
                rw [List.getElem?_append_left (by omega)]
                exact hxg i hi (by omega)
              have hpl : (xs ++ List.replicate 9 ((-1, secZ) : Wr)).length = Q + 9 := by rw [List.length_append, hxl, List.length_replicate]
              obtain ⟨yp, cp, rfl⟩ := (OwnK.isK wrE_ok hp).len
              rw [hpl] at hp hpq ⊢
              generalize xs ++ List.replicate 9 ((-1, secZ) : Wr) = zs at hp hpg hpl
              obtain ⟨N6, hN6⟩ : ∃ q, wr.heap.size = q := ⟨_, rfl⟩
              have hN56 : N5 ≤ N6 := by omega
              have hplt : ∀ q, (Value.slice yp (Q + 9) cp).ownBlock = some q → q < N6 := fun q hq => hN6 ▸ (World.ownsRow.lt hp q hq).2
              go_upto_region 25 with fail
              rw [show ((9 : Nat) : Int) = (9 : Int) from rfl]
              go_wp2_with fail
              go_loopw [17, 19] (fun qv iv wr => ∃ k : Nat, k ≤ 9 ∧ iv = .int .i64 k ∧ OwnK wrE wr N4 qv (ys ++ List.replicate k (-2, secZ)) ∧ (∀ q, qv.ownBlock = some q → q < N5 ∨ N6 ≤ q) ∧ OwnK wrE wr N3 (.slice yp (Q + 9) cp) zs ∧ OwnK secE wr w.heap.size (.slice (some ⟨g, 0, none⟩) (L9 + 1) c') (j ++ [sec7]) ∧ OwnK wrE wr N3 (.slice yx Q cx) xs ∧ OwnK wrE wr N4 (.slice yy Q cy) ys ∧ ScR wr g3 s ∧ Below w.heap.size w wr ∧ N6 ≤ wr.heap.size) (fun _ iv _ => 9 - (intOf iv).toNat)
              case atStart => exact ⟨0, by omega, rfl, by simpa using hy, fun q hq => .inl (hylt q hq).2, hp, hO, hx, hy, h3, hB, by omega⟩
              case round =>
                clear hp hO hx hy h3 hB hsz hN6
                obtain ⟨m, hm, rfl, hq, hqq, hp, hO, hx, hy, h3, hB, hsz⟩ := hrel
                by_cases hm9 : m < 9
                · have hm9' : (m : Int) < 9 := by omega
                  have hA := below_alloc wr (.cells (wrA (-2, secZ)) 34)
                  have hlen : (ys ++ List.replicate m ((-2, secZ) : Wr)).length = Q + m := by rw [List.length_append, hyl, List.length_replicate]
                  have hnew : (wr.alloc (.cells (wrA (-2, secZ)) 34)).rangeAt wr.heap.size 0 (wrE.enc (-2, secZ)) := fun i u hu => by
                    rw [Nat.zero_add, cell_of_row _ _ i _ _ _ (heap_alloc_last wr _)]
                    rw [wrE_enc, Array.getElem?_toList] at hu; exact hu
                  obtain ⟨g6, c6, w6', hr6, o1, o2, o3, o4⟩ := run_app1K wrE_ok (wr.alloc (.cells (wrA (-2, secZ)) 34)) N4 wr.heap.size _ (ys ++ List.replicate m (-2, secZ)) (-2, secZ) 22 (OwnK.keep hq hA) hnew (by simp) (by rw [hlen]; show (Q + m + 1) * 72 ≤ _; omega) (by rw [hlen]; unfold maxLen; omega) (by simp; omega)
                  have hTS : wrE.S = 22 := rfl
                  rw [hTS, hlen] at hr6
                  rw [hlen, List.append_assoc, ← List.replicate_succ'] at o1
                  have hy6 := OwnK.beside wrE_ok (OwnK.keep hy hA) (OwnK.keep hq hA) o2 o3
                  have hb6 := OwnK.below (OwnK.keep hq hA) o3 (by simp; omega)
                  have hq4 := fun q hq9 => (World.ownsRow.lt hq q hq9).1
                  have hp6 := World.ownsRow.kept (OwnK.keep hp hA) o3 (by
                    by_cases e : (Value.slice yp (Q + 9) cp).ownBlock = none
                    · exact .inl e
                    · refine .inr (fun e2 => ?_)
                      obtain ⟨q, hq9⟩ := Option.ne_none_iff_exists'.1 e
                      have h1 := hpq q hq9
                      have h2 := hqq q (e2 ▸ hq9)
                      have h3 := hq4 q (e2 ▸ hq9)
                      have h4 := hplt q hq9
                      omega)
                  have hO6 := OwnK.under (OwnK.keep hO hA) hb6 (fun q hq => by cases hq; show g < N4; omega)
                  have hx6 := OwnK.under (OwnK.keep hx hA) hb6 hxlt
                  have h36 := ScR.below9 (h3.kept hA) hb6 (by omega)
                  have hB6 := (hB.trans (hA.mono hB.size)).trans (hb6.mono (by omega))
                  have hsz6 : N6 ≤ w6'.heap.size := by have := o3.size; simp at this; omega
                  have hqq6 : ∀ q, (Value.slice (some ⟨g6, 0, none⟩) (Q + m + 1) c6).ownBlock = some q → q < N5 ∨ N6 ≤ q := fun q hq => by
                    cases hq
                    show g6 < N5 ∨ N6 ≤ g6
                    rcases o4 with e | e
                    · exact hqq _ e
                    · simp at e; omega
                  have H : Hid (_ ∧ _ ∧ _ ∧ _ ∧ _ ∧ _ ∧ _ ∧ _ ∧ _) := ⟨o1, hqq6, hp6, hO6, hx6, hy6, h36, hB6, hsz6⟩
                  clear hq hqq hp hO hx hy h3 hB hsz hA hnew o1 o2 o3 o4 hx6 hb6 hq4 hp6 hy6 hO6 h36 hB6 hsz6 hqq6
                  go_wp2_with (at_builtin; refine wpL_appT 22 rfl _ _ rfl _ w6' (by exact hr6) ?_)
                  go_roundw
                  case rel => exact ⟨m + 1, by omega, by go_num, H.out⟩
                  case measure => simp [intOf]; omega
                · obtain rfl : m = 9 := by omega
                  have hjl : j.length = L9 := by omega
                  have hql : (ys ++ List.replicate 9 ((-2, secZ) : Wr)).length = Q + 9 := by rw [List.length_append, hyl, List.length_replicate]
                  have hqg : ∀ i, i < Q → (ys ++ List.replicate 9 ((-2, secZ) : Wr))[i]? = some (-2, secZ) := fun i hi => by
                    rw [List.getElem?_append_left (by omega)]
                    exact hyg i hi (by omega)
                  obtain ⟨yq, cq, rfl⟩ := (OwnK.isK wrE_ok hq).len
                  rw [hql] at hq ⊢
                  generalize ys ++ List.replicate 9 ((-2, secZ) : Wr) = zq at hq hqg hql
                  have HX : Hid (∀ i, i < Q → ∃ b o, yx = some ⟨b, o, none⟩ ∧ wr.cell? ⟨b, o + i * 65, none⟩ = some (.int .i64 (-1))) := fun i hi => at9 (OwnK.isK wrE_ok hx) (hxg i hi (by omega))
                  have HY : Hid (∀ i, i < Q → ∃ b o, yy = some ⟨b, o, none⟩ ∧ wr.cell? ⟨b, o + i * 65, none⟩ = some (.int .i64 (-2))) := fun i hi => at9 (OwnK.isK wrE_ok hy) (hyg i hi (by omega))
                  have HP : Hid (∀ i, i < Q → ∃ b o, yp = some ⟨b, o, none⟩ ∧ wr.cell? ⟨b, o + i * 65, none⟩ = some (.int .i64 (-1))) := fun i hi => at9 (OwnK.isK wrE_ok hp) (hpg i hi)
                  have HQ9 : Hid (∀ i, i < Q → ∃ b o, yq = some ⟨b, o, none⟩ ∧ wr.cell? ⟨b, o + i * 65, none⟩ = some (.int .i64 (-2))) := fun i hi => at9 (OwnK.isK wrE_ok hq) (hqg i hi)
                  have HO : Hid (OwnK secE wr w.heap.size (.slice (some ⟨g, 0, none⟩) (L9 + 1) c') (j ++ [sec7])) := hO
                  have H3 : Hid (ScR wr g3 s) := h3
                  have HB : Hid (Below w.heap.size w wr) := hB
                  clear hq hqq hp hO hx hy h3 hB hsz hm9 hm hqg hql hxg hyg hpg hpl hplt hpq hylt hxlt
                  obtain ⟨Q9, hQ9⟩ : ∃ q, Q + 9 = q := ⟨_, rfl⟩
                  rw [hQ9]
                  obtain ⟨V, rfl⟩ : ∃ V, V = wr := ⟨_, rfl⟩
                  go_upto_region 29 with fail
                  rw [show ((9 : Nat) : Int) = (9 : Int) from rfl]
                  go_wp2_with fail
                  go_loopw [20] (fun iv wv => ∃ k : Nat, k ≤ Q ∧ iv = .int .i64 k ∧ wv = V) (fun iv _ => Q - (intOf iv).toNat)
                  case atStart => exact ⟨0, by omega, rfl, rfl⟩
                  case round =>
                    obtain ⟨k, hk, rfl, rfl⟩ := hrel
                    by_cases hkQ : k < Q
                    · have hkQ' : (k : Int) < (Q : Int) := by omega
                      have hkQ9 : (k : Int) < (Q9 : Int) := by omega
                      obtain ⟨b1, o1, rfl, e1⟩ := HX.out k hkQ
                      obtain ⟨b2, o2, rfl, e2⟩ := HY.out k hkQ
                      obtain ⟨b3, o3, rfl, e3⟩ := HP.out k hkQ
                      obtain ⟨b4, o4, rfl, e4⟩ := HQ9.out k hkQ
                      clear HX HY HP HQ9
                      have H9 : Hid (Q + 9 = Q9) := hQ9
                      clear hQ9
                      go_wp2_with fail
                      go_roundw
                      case rel => exact ⟨k + 1, by omega, by go_num, by first | rfl | trivial⟩
                      case measure => simp [intOf]; omega
                    · obtain rfl : k = Q := by omega
                      have hkQ' : ¬ (k : Int) < (k : Int) := by omega
                      clear HX HY HP HQ9 hQ9
                      go_upto_region 34 with fail
                      obtain ⟨l2, hl2e⟩ : ∃ l, j ++ [sec7] = l := ⟨_, rfl⟩
                      have hl2 : l2.length = L9 + 1 := by rw [← hl2e, List.length_append, hjl]; rfl
                      rw [hl2e] at HO
                      clear hl2e
                      go_wp2_with fail
                      go_loopw [21] (fun iv wr => ∃ k : Nat, k ≤ L9 ∧ iv = .int .i64 k ∧ OwnK secE wr w.heap.size (.slice (some ⟨g, 0, none⟩) (L9 + 1) c') (incS l2 k) ∧ ScR wr g3 s ∧ Below w.heap.size w wr) (fun iv _ => L9 - (intOf iv).toNat)
                      case atStart => exact ⟨0, by omega, rfl, HO.out, H3.out, HB.out⟩
                      case round =>
                        clear HO H3 HB
                        obtain ⟨k, hk, rfl, hO, h3, hB⟩ := hrel
                        by_cases hlt : k < L9
                        · have hlt' : (k : Int) < (L9 : Int) := by omega
                          have hge := OwnK.ge hO
                          have hd : (incS l2 k)[k]? = some ((incS l2 k).getD k secZ) := by
                            rw [List.getD_eq_getElem?_getD, List.getElem?_eq_getElem (by rw [incS_len]; omega)]; rfl
                          have hI0 : incS l2 (k + 1) = (incS l2 k).set k (upd ((incS l2 k).getD k secZ) (k % 64) ((incS l2 k).getD k secZ (k % 64) + 1)) := rfl
                          obtain ⟨dd, hdd⟩ : ∃ d, (incS l2 k).getD k secZ = d := ⟨_, rfl⟩
                          rw [hdd] at hd hI0
                          clear hdd
                          have cc0 := sec_cell9 (OwnK.range secE_ok hO k _ hd) (k % 64) (by omega)
                          rw [secE_k] at cc0
                          have hu := u8_inc (dd (k % 64))
                          obtain ⟨b, hb⟩ : ∃ b, dd (k % 64) = b := ⟨_, rfl⟩
                          rw [hb] at cc0 hu hI0
                          obtain ⟨q, hq⟩ : ∃ q, k % 64 = q := ⟨_, rfl⟩
                          have hq64 : q < 64 := by omega
                          have hrem : (k : Int) % 64 = (q : Int) := by omega
                          rw [hq] at cc0 hI0
                          have cc : wr.cell? ⟨g, k * 64 + q, none⟩ = some (.int .u8 (b.toNat : Int)) := cc0
                          have HI : Hid (incS l2 (k + 1) = (incS l2 k).set k (upd dd q (b + 1))) := hI0
                          have F1 : Hid (Int.tmod (k : Int) 64 = (q : Int)) := by show _ = _; rw [Int.tmod_eq_emod_of_nonneg (by omega)]; exact hrem
                          have F4 : Hid (IntKind.u8.wrap ((b.toNat : Int) + 1) = ((b + 1).toNat : Int)) := hu
                          have FK : Hid ((k : Int) < (L9 : Int)) := hlt'
                          have FJ : Hid ((0 : Int) ≤ (q : Int) ∧ (q : Int) < 64) := by show _ ∧ _; omega
                          have HO : Hid (OwnK secE wr w.heap.size (.slice (some ⟨g, 0, none⟩) (L9 + 1) c') (incS l2 k)) := hO
                          have H3 : Hid (ScR wr g3 s) := h3
                          have HB : Hid (Below w.heap.size w wr) := hB
                          have HD : Hid ((incS l2 k)[k]? = some dd) := hd
                          go_upto_region 37 with fail
                          clear hO h3 hB hd hI0 hu hrem hb hlt' cc0 hq
                          refine wp_reliesT [Fx (.slice (some ⟨g, 0, none⟩) L9 c'), Fx (.int .i64 ((k : Int))), Fx (.int .i64 ((k : Int))), Fx (.int .i64 ((q : Int))), Fx (.pointer (some ⟨g, k * 64, none⟩)), Fx (.pointer (some ⟨g, k * 64 + q, none⟩)), Fx (.int .u8 (b.toNat : Int)), Fx (.int .u8 ((b + 1).toNat : Int)), Fx (.pointer (some ⟨g, k * 64, none⟩)), Fx (.pointer (some ⟨g, k * 64 + q, none⟩))] (by kernel_rfl) (by kernel_rfl) ?_ ?_ ?_
                          · repeat' (first | exact all_nil | apply all_cons)
                            all_goals intro v y y' hv hb
                            all_goals first | exact Fx_mono _ _ _ _ hv hb
                          · refine ⟨?_, ?_, ?_, ?_, ?_, ?_, ?_, ?_, ?_, ?_, trivial⟩
                            all_goals
                              intro ρ x hp ρc ρg ρf ho hd
                              have o7 : ρ (.tmp 7) = .slice (some ⟨g, 0, none⟩) L9 c' := ho 7 rfl
                              have o21 : ρ (.tmp 21) = .int .i64 (k : Int) := ho 21 rfl
                              clear ho
                              have k1 := cell_later hp cc
                              simp only [depsR, depR, slotR, Fx, List.getElem?_cons_succ, List.getElem?_cons_zero, Region.binds, forall_const] at hd
                              simp only [guardR]
                              go_split_ands
                            · go_simp
                            · go_simp
                            · go_simp
                            · have hq := F1.out
                              go_simp
                            · have hq := FK.out
                              go_simp
                            · obtain ⟨z1, z2⟩ := FJ.out
                              go_simp
                            · go_simp
                            · have hq := F4.out
                              go_simp
                            · have hq := FK.out
                              go_simp
                            · obtain ⟨z1, z2⟩ := FJ.out
                              go_simp
                          · intro vs x1 hp hw
                            simp only [owed, Fx] at hw
                            obtain ⟨e0, e1, e2, e3, e4, e5, e6, e7, e8, e9, -⟩ := hw
                            simp only [List.length_cons, List.length_nil, List.take_succ_cons, List.take_zero, List.drop_succ_cons, List.drop_zero, asg, List.cons_append, List.nil_append, e0, e1, e2, e3, e4, e5, e6, e7, e8, e9]
                            clear e0 e1 e2 e3 e4 e5 e6 e7 e8 e9
                            have hO1 := OwnK.keep HO.out hp
                            have h31 := ScR.kept H3.out hp
                            have hB1 := HB.out.trans (hp.mono (Below.size HB.out))
                            have hc1 := cell_later hp cc
                            have hf1 := OwnK.frz hO1 (k * 64 + q)
                            have H2 : Hid (OwnK secE (x1.setCell ⟨g, k * 64 + q, none⟩ (.int .u8 ((b + 1).toNat : Int))) w.heap.size (.slice (some ⟨g, 0, none⟩) (L9 + 1) c') (incS l2 (k + 1))) := by
                              show OwnK _ _ _ _ _
                              have := OwnK.cellPut secE_ok hO1 k q _ _ _ HD.out (by show q < 64; omega) (secE_set _ q (b + 1) hq64)
                              rw [secE_k] at this
                              rw [HI.out]
                              exact this
                            have H32 : Hid (ScR (x1.setCell ⟨g, k * 64 + q, none⟩ (.int .u8 ((b + 1).toNat : Int))) g3 s) := h31.set_ne _ _ hgne
                            have HB2 : Hid (Below w.heap.size w (x1.setCell ⟨g, k * 64 + q, none⟩ (.int .u8 ((b + 1).toNat : Int)))) := hB1.setCell (p := ⟨g, k * 64 + q, none⟩) hge (.int .u8 ((b + 1).toNat : Int))
                            clear hO1 h31 hB1 hp HO H3 HB HD HI F1 F4 FK FJ cc
                            go_wp2_with fail
                            go_roundw
                            case rel => exact ⟨k + 1, by omega, by go_num, H2.out, H32.out, HB2.out⟩
                            case measure => simp [intOf]; omega
                        · obtain rfl : k = L9 := by omega
                          have hlt' : ¬ (k : Int) < (k : Int) := by omega
                          have hl3 : ((incS l2 k).take k).length = k := by rw [List.length_take, incS_len]; omega
                          have hO3 := OwnK.cut secE_ok hO k (by omega)
                          generalize (incS l2 k).take k = l3 at hl3 hO3
                          have r3 := fun y c1 w hi => rState9_any s l3 y k c1 n w hl3 (by omega) hi hn
                          have p3 := fun w hi => hS s l3 (some ⟨g, 0, none⟩) k c' n w hl3 (by omega) hi hn
                          have hQ3 := mStL_le s l3 n
                          generalize mStK s l3 n = K3 at r3 p3
                          obtain ⟨Ls3, hLs3⟩ : ∃ q, mStL s l3 n = q := ⟨_, rfl⟩
                          rw [hLs3] at hQ3
                          simp only [hLs3] at r3 p3
                          clear hLs3 hO
                          obtain ⟨Q3, hQ3e⟩ : ∃ q, Ls3.length = q := ⟨_, rfl⟩
                          simp only [hQ3e] at r3 p3 hQ3
                          go_upto_region 38 with fail
                          obtain ⟨V9, rfl⟩ : ∃ V, V = wr := ⟨_, rfl⟩
                          refine wp_reliesI (kokN9 (B := V9.heap.size)) (CpI9 V9.heap.size k l3) [1, 3] [none, some (0, [], []), none, some (1, [], []), none, some (2, [], []), some (2, [5], []), none, some (2, [6, 5], []), none] [Fx (.agg (secA s)), fun _ _ => True, Fx (.slice (some ⟨g, 0, none⟩) k c'), fun _ _ => True, Fx (.int .i64 (n)), TupF9 V9.heap.size K3 Q3 Ls3, TupF9 V9.heap.size K3 Q3 Ls3, Fx (.int .i64 (K3)), SlF9 V9.heap.size Q3 Ls3, Fx (.int .i64 (K3))] rfl (by decide) rfl (by kernel_rfl) (by kernel_rfl) (by kernel_rfl) trivial (CpI9_later _ _ _) ?_ ?_ ?_ ?_
                          · repeat' (first | exact all_nil | apply all_cons)
                            all_goals intro v y y' hv hb
                            all_goals first | exact Fx_mono _ _ _ _ hv hb | exact trivial | exact TupF9.keep hv hb | exact SlF9.keep hv hb
                          · intro i9 f9 hf9 hl9 v y y' hv hb
                            rcases i9 with _ | i9
                            · first | (cases hl9; done) | (cases hf9; first | exact hv | exact trivial)
                            rcases i9 with _ | i9
                            · first | (cases hl9; done) | (cases hf9; first | exact hv | exact trivial)
                            rcases i9 with _ | i9
                            · first | (cases hl9; done) | (cases hf9; first | exact hv | exact trivial)
                            rcases i9 with _ | i9
                            · first | (cases hl9; done) | (cases hf9; first | exact hv | exact trivial)
                            rcases i9 with _ | i9
                            · first | (cases hl9; done) | (cases hf9; first | exact hv | exact trivial)
                            rcases i9 with _ | i9
                            · first | (cases hl9; done) | (cases hf9; first | exact hv | exact trivial)
                            rcases i9 with _ | i9
                            · first | (cases hl9; done) | (cases hf9; first | exact hv | exact trivial)
                            rcases i9 with _ | i9
                            · first | (cases hl9; done) | (cases hf9; first | exact hv | exact trivial)
                            rcases i9 with _ | i9
                            · first | (cases hl9; done) | (cases hf9; first | exact hv | exact trivial)
                            rcases i9 with _ | i9
                            · first | (cases hl9; done) | (cases hf9; first | exact hv | exact trivial)
                            · simp at hf9
                          · refine ⟨?_, ?_, ?_, ?_, ?_, ?_, ?_, ?_, ?_, ?_, trivial⟩
                            all_goals
                              intro ρ x hk hat ρc ρg ρf ho hd
                              have o3 : ρ (.tmp 3) = .pointer (some ⟨g3, 0, none⟩) := ho 3 rfl
                              have o7 : ρ (.tmp 7) = .slice (some ⟨g, 0, none⟩) k c' := ho 7 rfl
                              have o2 : ρ (.tmp 2) = .int .i64 (n) := ho 2 rfl
                              clear ho
                              have q3 := ScR.kept h3 hk.below
                              obtain ⟨rk3, rv3⟩ := q3
                              simp only [depsR, depR, slotR, Fx, List.getElem?_cons_succ, List.getElem?_cons_zero, Region.binds, forall_const] at hd
                              simp only [guardR, List.contains_cons, List.contains_nil, List.elem_cons, List.elem_nil, Nat.reduceBEq, Bool.or_false, Bool.false_or, Bool.or_true, Bool.true_or, cond_true, cond_false]
                              go_split_ands
                            · go_simp
                            · go_simp
                              exact ⟨⟨trivial, (OwnK.lit0 secE x).le hk.below.size⟩, KN9.of_below (below_alloc _ _)⟩
                            · go_simp
                            · have hat2 : OwnK secE x V9.heap.size _ [] := hat
                              simp only [valR, slotR, List.getElem?_cons_succ, List.getElem?_cons_zero] at hat2
                              obtain ⟨y9, c9, x9, hr, o1, o2⟩ := run_copyK secE_ok x (ρ (.tmp 185)) (some ⟨g, 0, none⟩) c' l3 V9.heap.size 32 hat2 hk.below.size (by rw [hl3]; exact (OwnK.keep hO3 hk.below).isK secE_ok) (by rw [hl3]; show k * 64 ≤ _; omega) (by rw [hl3]; unfold maxLen; omega)
                              have hT : secE.S = 32 := rfl
                              rw [hT, hl3] at hr
                              rw [hl3] at o1
                              rw [BigFrame.execOp_builtin, BigFrame.builtin_append]
                              simp only [List.map_toArray, List.map_cons, List.map_nil, *, Sem.run_bind, Result.andThen_ok, Sem.run_pure, okUponD_some, okUponK_value]
                              exact ⟨⟨trivial, y9, c9, rfl, o1⟩, ⟨o2.os, o2.tape, o2.output, o2.size, fun q hq _ => o2.block q hq⟩⟩
                            · go_simp
                            · obtain ⟨y9, c9, hv9, o9⟩ := hat
                              simp only [valR, slotR, List.getElem?_cons_succ, List.getElem?_cons_zero] at hv9
                              go_simp
                              refine (r3 y9 c9 x (OwnK.isK secE_ok o9)).mono ?_
                              rintro e x' ⟨y8, c8, rfl, ho8, hw⟩
                              exact ⟨_, rfl, ⟨y8, c8, rfl, OwnK.le ho8 hk.size⟩, hw⟩
                            · obtain ⟨y8, c8, hv8, ho8⟩ : TupF9 V9.heap.size K3 Q3 Ls3 (ρ (.tmp 189)) x := by first | exact hd | exact hd.1 | assumption
                              go_simp
                              exact ⟨y8, c8, rfl, ho8⟩
                            · obtain ⟨y8, c8, hv8, ho8⟩ : TupF9 V9.heap.size K3 Q3 Ls3 (ρ (.tmp 183)) x := by first | exact hd | exact hd.1 | assumption
                              go_simp
                            · obtain ⟨y8, c8, hv8, ho8⟩ : TupF9 V9.heap.size K3 Q3 Ls3 (ρ (.tmp 183)) x := by first | exact hd | exact hd.1 | assumption
                              go_simp
                              exact ⟨y8, c8, rfl, ho8⟩
                            · go_simp
                          · intro vs x1 hk hw hI
                            simp only [owed, Fx] at hw
                            obtain ⟨e0, e1, e2, e3, e4, ⟨y5, c5, e5, -⟩, ⟨y6, c6, e6, -⟩, e7, ⟨y8, c8, e8, ho8⟩, e9, -⟩ := hw
                            simp only [List.length_cons, List.length_nil, List.take_succ_cons, List.take_zero, List.drop_succ_cons, List.drop_zero, asg, List.cons_append, List.nil_append, e0, e2, e4, e5, e6, e7, e8, e9]
                            clear e0 e2 e4 e5 e6 e7 e8 e9 e1 e3
                            have hO4 := OwnK.keep hO3 hk.below
                            have h34 := ScR.kept h3 hk.below
                            have hB4 := hB.trans (hk.below.mono hB.size)
                            clear hO3 h3 hB r3 hI
                            go_upto_region 39 with fail
                            obtain ⟨e3, k3⟩ := h34
                            go_wp2_with fail
                            go_at_call 8
                            refine (p3 x1 (OwnK.isK secE_ok hO4)).mono ?_
                            rintro r w10 ⟨yv, cv, rfl, hv, hb⟩
                            clear p3 hO4 e3 k3
                            have hu := OwnK.keep ho8 hb
                            have hB5 := hB4.trans (hb.mono hB4.size)
                            clear ho8 hb hB4
                            go_upto_region 40 with fail
                            have s7 := sameW9_any y8 yv c8 cv Q3 Q3 Ls3 Ls3 w10 hQ3e hQ3e (OwnK.isK wrE_ok hu) (OwnK.isK wrE_ok hv) (by omega)
                            rw [decide_eq_true rfl] at s7
                            go_wp2_with fail
                            go_at_call 9
                            refine s7.mono ?_
                            rintro r w11 ⟨rfl, hb⟩
                            have HB : Hid (Below w.heap.size w w11) := hB5.trans (hb.mono hB5.size)
                            clear s7 hu hv hB5 hb
                            go_wp2_with fail
                            go_ret
                            exact ⟨rfl, HB.out⟩
end Go.Proofs.Ytgnjokbabecbdaa
