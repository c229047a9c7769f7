
import Derived.Test.YtajmlfcbppnpgaaSha7
import Derived.Deep.RegionHeld3
namespace Go.Proofs.Ytajmlfcbppnpgaa
open Go.RowKit

/-! ShaPlays -/
structure OpV where
  kind : Int
  on : Int
  v : Value
  l : List UInt8
def OpAt (w : World) (b p : Nat) (o : OpV) : Prop :=
  w.cell? ⟨b, p, none⟩ = some (.int .i64 o.kind) ∧ w.cell? ⟨b, p + 1, none⟩ = some (.int .i64 o.on) ∧ w.cell? ⟨b, p + 2, none⟩ = some o.v ∧ IsB w o.v o.l ∧
  (-9223372036854775808 ≤ o.kind ∧ o.kind ≤ 9223372036854775807) ∧ (-9223372036854775808 ≤ o.on ∧ o.on ≤ 9223372036854775807)
def IsOps (w : World) (v : Value) (os : List OpV) : Prop := ∃ x c, v = .slice x os.length c ∧ ∀ (i : Nat) o, os[i]? = some o → ∃ b p, x = some ⟨b, p, none⟩ ∧ b < w.heap.size ∧ OpAt w b (p + i * 3) o
theorem OpAt.kept {w w1 : World} {b p : Nat} {o : OpV} (h : OpAt w b p o) (hb : Below w.heap.size w w1) (hlt : b < w.heap.size) : OpAt w1 b p o :=
  ⟨by rw [hb.cell hlt]; exact h.1, by rw [hb.cell hlt]; exact h.2.1, by rw [hb.cell hlt]; exact h.2.2.1, h.2.2.2.1.kept hb, h.2.2.2.2⟩
theorem IsOps.kept {w w1 : World} {v : Value} {os : List OpV} (h : IsOps w v os) (hb : Below w.heap.size w w1) : IsOps w1 v os := by
  obtain ⟨x, c, rfl, hc⟩ := h
  refine ⟨x, c, rfl, fun i o ho => ?_⟩
  obtain ⟨b, p, rfl, hlt, h⟩ := hc i o ho
  exact ⟨b, p, rfl, Nat.lt_of_lt_of_le hlt hb.size, h.kept hb hlt⟩
def totO : List OpV → Nat
  | [] => 0
  | o :: r => o.l.length + totO r
theorem totO_take : ∀ (os : List OpV) (i : Nat) (o : OpV), os[i]? = some o → totO (os.take (i + 1)) = totO (os.take i) + o.l.length
  | [], _, _, h => by simp at h
  | y :: r, 0, o, h => by simp at h; subst h; simp [totO]
  | y :: r, i + 1, o, h => by
    have := totO_take r i o (by simpa using h)
    simp only [List.take_succ_cons, totO, this]
    omega
theorem totO_le : ∀ (os : List OpV) (i : Nat), totO (os.take i) ≤ totO os
  | [], _ => by simp
  | y :: r, 0 => by simp [totO]
  | y :: r, i + 1 => by
    have := totO_le r i
    simp only [List.take_succ_cons, totO]
    omega
set_option linter.unusedSimpArgs false in
set_option maxRecDepth 100000 in
set_option maxHeartbeats 1600000 in
theorem lawShaPlays_any (xs : Option Addr) (cs : Nat) (os : List OpV) (w : World) (hs : IsOps w (.slice xs os.length cs) os) (hn : os.length ≤ 1048576) (ht : totO os ≤ 1048576) :
    Calls Try.prog 5 #[.slice xs os.length cs] w fun e w' => e = .returned (.bool true) ∧ Below w.heap.size w w' := by
  go_enter Try.func5, Try.ntmps5
  go_wp2_with fail
  refine (takenOk _).mono ?_
  rintro e w1 ⟨rfl, hw1⟩
  have hs1 := hs.kept hw1
  clear hs
  go_wp2_with fail
  refine (shaNew_any _).mono ?_
  rintro e w2 ⟨h0, F0, rfl, -, hh0, hF0, hw2⟩
  obtain ⟨g0, b0, rfl, rfl, hR0, hb0⟩ := hh0
  have hg0 : w1.heap.size ≤ g0 := hF0 g0 (by simp)
  have hs2 := hs1.kept hw2
  have hB2 : Below w.heap.size w w2 := hw1.trans (hw2.mono hw1.size)
  go_wp2_with fail
  have hB0 : Below w1.heap.size w1 (w2.alloc (.cells #[.pointer (some ⟨g0, 0, none⟩), .slice none 0 0] 37)) := hw2.alloc hw2.size _
  have hG0 : Game w1.heap.size (w2.alloc (.cells #[.pointer (some ⟨g0, 0, none⟩), .slice none 0 0] 37)) w2.heap.size 1 [⟨g0, .slice none 0 0, [], []⟩] := by
    have hlt := hR0.lt
    refine ⟨⟨rfl, .inr ⟨w2.heap.size, 1, _, rfl, hw2.size, heap_alloc_last w2 _, Nat.le_refl _, by unfold maxLen; omega, rfl, rfl⟩⟩, fun i x hx => ?_, fun i x hx => ?_, fun i j x y hx hy hij => ?_⟩
    · rcases i with _ | i
      · simp at hx; subst hx
        exact ⟨⟨g0, b0, rfl, rfl, hR0.kept (below_alloc _ _), hb0⟩, OwnB.nil _ _, hg0⟩
      · simp at hx
    · rcases i with _ | i
      · simp at hx; subst hx
        exact ⟨by show w2.heap.size ≠ g0; omega, by simp [Value.ownBlock], by simp [Value.ownBlock]⟩
      · simp at hx
    · rcases i with _ | i
      · rcases j with _ | j
        · exact absurd rfl hij
        · simp at hy
      · simp at hx
  clear hR0 hb0 hF0 hw2 hg0 hB2
  generalize w2.heap.size = gl0 at hG0 ⊢
  generalize w2.alloc (.cells #[.pointer (some ⟨g0, 0, none⟩), .slice none 0 0] 37) = X0 at hG0 hB0 ⊢
  clear hs2
  go_loopw [3, 4] (fun v i wr => ∃ (k gl c : Nat) (es : List Ent), k ≤ os.length ∧ i = .int .i64 k ∧ v = .slice (some ⟨gl, 0, none⟩) es.length c ∧ Game w1.heap.size wr gl c es ∧ (∀ (j : Nat) x, es[j]? = some x → x.e = x.f ∧ x.f.length ≤ totO (os.take k)) ∧ 1 ≤ es.length ∧ es.length ≤ 5 ∧ Below w1.heap.size w1 wr) (fun _ i _ => os.length - (intOf i).toNat)
  case atStart =>
    refine ⟨0, gl0, 1, _, Nat.zero_le _, rfl, rfl, hG0, fun j x hx => ?_, by simp, by simp, hB0⟩
    rcases j with _ | j
    · simp at hx; subst hx; exact ⟨rfl, Nat.zero_le _⟩
    · simp at hx
  case round =>
    clear hG0 hB0
    obtain ⟨k, gl, c, es, hk, rfl, rfl, hG, hf, hn1, hn5, hB⟩ := hrel
    by_cases hlt : k < os.length
    · obtain ⟨o, ho⟩ : ∃ o, os[k]? = some o := ⟨os[k], List.getElem?_eq_getElem hlt⟩
      obtain ⟨x2, c2, he, hat⟩ := hs1.kept hB
      simp only [Value.slice.injEq, true_and] at he
      obtain ⟨rfl, rfl⟩ := he
      obtain ⟨bo, po, rfl, hbo, hc1, hc2, hc3, hIB, hk1, ho1⟩ := hat k o ho
      have hIB1 : IsB w1 o.v o.l := by
        obtain ⟨_, _, _, hat3⟩ := hs1
        obtain ⟨_, _, _, _, h⟩ := hat3 k o ho
        exact h.2.2.2.1
      have htot := totO_take os k o ho
      have htle := totO_le os (k + 1)
      clear hat
      obtain ⟨kind, on, ov, l⟩ := o
      simp only at hc1 hc2 hc3 hIB hIB1 hk1 ho1 htot
      obtain ⟨yo, dd, rfl⟩ := hIB.len
      have hk0 : (0 : Int) ≤ (k : Int) := by omega
      have hkl : (k : Int) < (os.length : Int) := by omega
      have hll : l.length ≤ 1048576 := by omega
      have hGo := hG.grow (below_alloc wr (.cells #[.int .i64 kind, .int .i64 on, .slice yo l.length dd] 40))
      have hBo := hB.alloc hB.size (.cells #[.int .i64 kind, .int .i64 on, .slice yo l.length dd] 40)
      have hIo := hIB.kept (below_alloc wr (.cells #[.int .i64 kind, .int .i64 on, .slice yo l.length dd] 40))
      have hgo : gl ≠ wr.heap.size ∧ _ := hG.fresh (Nat.le_refl wr.heap.size)
      have hgB : w1.heap.size ≤ wr.heap.size := hB.size
      have ho0 : (wr.alloc (.cells #[.int .i64 kind, .int .i64 on, .slice yo l.length dd] 40)).cell? ⟨wr.heap.size, 0, none⟩ = some (.int .i64 kind) := World.cell?_alloc_at _ _ _ _ rfl
      have ho1' : (wr.alloc (.cells #[.int .i64 kind, .int .i64 on, .slice yo l.length dd] 40)).cell? ⟨wr.heap.size, 1, none⟩ = some (.int .i64 on) := World.cell?_alloc_at _ _ _ _ rfl
      have ho2 : (wr.alloc (.cells #[.int .i64 kind, .int .i64 on, .slice yo l.length dd] 40)).cell? ⟨wr.heap.size, 2, none⟩ = some (.slice yo l.length dd) := World.cell?_alloc_at _ _ _ _ rfl
      go_upto_region 9 with fail
      clear hG hB hIB hc1 hc2 hc3
      generalize wr.heap.size = go at hgo hgB ho0 ho1' ho2 ⊢
      generalize wr.alloc (.cells #[.int .i64 kind, .int .i64 on, .slice yo l.length dd] 40) = X at hGo hBo hIo ho0 ho1' ho2 ⊢
      have hgX := World.block_lt_of_cell? X _ ho0
      simp only at hgX
      rename_i K1 hK1 K0 hK0
      have key : ∀ (q : Nat) (x : Ent) (v26 v27 v28 v29 v30 v31 v32 v33 v34 v35 v36 v37 : Value), es[q]? = some x → K1 { tmps := #[.slice (some ⟨bo, po, none⟩) os.length cs, undef, u2, .slice (some ⟨gl, 0, none⟩) es.length c, .int .i64 (k : Int), .pointer (some ⟨go, 0, none⟩), .int .i64 (q : Int), u7, u8, u9, undef, .bool true, .bool false, .pointer (some ⟨g0, 0, none⟩), .agg #[.pointer (some ⟨g0, 0, none⟩), .slice none 0 0], .slice (some ⟨gl0, 0, none⟩) 1 1, .int .i64 (k : Int), .slice (some ⟨bo, po, none⟩) os.length cs, .int .i64 (os.length : Int), .bool true, u20, u21, .slice (some ⟨bo, po, none⟩) os.length cs, .int .i64 (k : Int), .pointer (some ⟨bo, po + k * 3, none⟩), .agg #[.int .i64 kind, .int .i64 on, .slice yo l.length dd], v26, v27, v28, v29, v30, v31, v32, v33, v34, v35, v36, v37, u38, u39, u40, u41, u42, u43, u44, u45, u46, u47, u48, u49, u50, u51, u52, u53, u54, u55, u56, u57, u58, u59, u60, u61, u62, u63, u64, u65, u66, u67, u68, u69, u70, u71, u72, u73, u74, u75, u76, u77, u78, u79, u80, u81, u82, u83, u84, u85, u86, u87, u88, u89, u90, u91, u92, u93, u94, u95, u96, u97, u98, u99, u100, u101, u102, u103, u104, u105, u106, u107, u108, u109, u110, undef, undef, undef, undef, undef, undef, undef, undef, undef, undef, undef, undef], defers := [] } X := by
        clear hK0
        intro q x v26 v27 v28 v29 v30 v31 v32 v33 v34 v35 v36 v37 hx
        apply hK1
        clear hK1
        have hql : q < es.length := (List.getElem?_eq_some_iff.1 hx).1
        have hq0 : (0 : Int) ≤ (q : Int) := by omega
        have hq1 : (q : Int) < (es.length : Int) := by omega
        obtain ⟨hcp, hcu⟩ := hGo.cell hx
        obtain ⟨hxe, hxl⟩ := hf q x hx
        obtain ⟨hxH, hxO, hxB⟩ := hGo.ok q x hx
        rcases (by omega : kind = 1 ∨ kind = 2 ∨ (kind ≠ 1 ∧ kind ≠ 2)) with rfl | rfl | ⟨hk1', hk2'⟩
        · go_wp2_with fail
          refine (told_any X x.h x.u x.e hxH (by rw [hxe]; exact hxO.isB) (by rw [hxe]; omega)).mono ?_
          rintro e X2 ⟨rfl, hX2⟩
          have HG : Hid _ := hGo.grow hX2
          have HB : Hid _ := hBo.trans (hX2.mono hBo.size)
          clear hGo hBo hX2 hcp hcu hxH hxO hIo ho0 ho1' ho2
          go_wp2
          go_roundw
          case rel => first | exact ⟨k + 1, gl, c, es, by omega, by go_num, rfl, HG.out, fun j y hy => ⟨(hf j y hy).1, by have := (hf j y hy).2; omega⟩, hn1, hn5, HB.out⟩ | ((repeat apply Exists.intro); refine ⟨⟨k + 1, gl, c, es, by omega, ?_, rfl, HG.out, fun j y hy => ⟨(hf j y hy).1, by have := (hf j y hy).2; omega⟩, hn1, hn5, HB.out⟩, rfl⟩; go_num)
          case measure => simp [intOf]; omega
        · go_wp2_with fail
          refine (shaCopy_any X _ x.e [x.h] hxH).mono ?_
          rintro e X2 ⟨g', rfl, hh', hg', hX2⟩
          have hG2 := hGo.grow hX2
          have hB2 : Below w1.heap.size w1 X2 := hBo.trans (hX2.mono hBo.size)
          have hg2 := hh'.lt1
          have hsX := hX2.size
          have hfr := hGo.fresh hg'
          clear hcp hcu hxH hxO hIo ho0 ho1' ho2
          obtain ⟨hcp, hcu⟩ := hG2.cell hx
          obtain ⟨-, hxO, -⟩ := hG2.ok q x hx
          by_cases h5 : es.length < 5
          · have h5' : (es.length : Int) < 5 := by omega
            obtain ⟨xh, xu, xe, xf⟩ := x
            simp only at hxe hxl hcp hcu hxO hh' hxB
            subst hxe
            obtain ⟨yu, cu, rfl⟩ := hxO.isB.len
            obtain ⟨v3, w3, hr1, hO3, hg3, hq3⟩ := run_app_more (X2.alloc (.cells #[] 5)) X2.heap.size (.slice (some ⟨X2.heap.size, 0, none⟩) 0 0) [] yu cu xe 22 (ownB_empty X2) (hxO.isB.kept (below_alloc _ _)) (by simp; omega) (by simp)
            rw [List.nil_append] at hO3
            have hB3 : Below X2.heap.size X2 w3 := (below_alloc X2 _).trans (below_by (ownB_empty X2) hg3 (by simp))
            have hs3 := hB3.size
            obtain ⟨y3, c3, rfl⟩ := hO3.isB.len
            have hlt3 := World.ownsRow.lt hO3
            have hG3 := hG2.grow hB3
            have hh3 := hh'.kept hB3
            have hB3w : Below w1.heap.size w1 w3 := hB2.trans (hB3.mono hB2.size)
            have hB4 := hB3w.alloc hB3w.size (.cells #[.pointer (some ⟨g', 0, none⟩), .slice y3 xe.length c3] 37)
            have hG4 := hG3.grow (below_alloc w3 (.cells #[.pointer (some ⟨g', 0, none⟩), .slice y3 xe.length c3] 37))
            have hy4 : EntOk w1.heap.size (w3.alloc (.cells #[.pointer (some ⟨g', 0, none⟩), .slice y3 xe.length c3] 37)) ⟨g', .slice y3 xe.length c3, xe, xe⟩ :=
              ⟨hh3.kept (below_alloc _ _), (hO3.keep (below_alloc _ _)).le hB2.size, by show w1.heap.size ≤ g'; have := hBo.size; omega⟩
            obtain ⟨gl', c', w5, hr2, hO5, hg5, hgl5⟩ := run_appE (w3.alloc (.cells #[.pointer (some ⟨g', 0, none⟩), .slice y3 xe.length c3] 37)) w1.heap.size gl c es ⟨g', .slice y3 xe.length c3, xe, xe⟩ w3.heap.size 38 rfl hG4.own (World.cell?_alloc_at _ _ _ _ rfl) (World.cell?_alloc_at _ _ _ _ rfl) (by omega) hB4.size
            have hub : ∀ p, (Value.slice y3 xe.length c3).ownBlock = some p → X2.heap.size ≤ p ∧ p < w3.heap.size := hlt3
            have HG : Hid (Game w1.heap.size w5 gl' c' (es ++ [⟨g', .slice y3 xe.length c3, xe, xe⟩])) := by
              refine hG4.more hy4 ⟨hfr.1, fun e => ?_, fun e => ?_⟩ (fun e => ?_) (fun i z hz => ⟨(hfr.2 i z hz).1, (hfr.2 i z hz).2, fun e => ?_, fun p hp hp' => ?_⟩) hO5 hg5 hgl5
              · have := hub _ e; have := hGo.lt; omega
              · have h9 : X2.heap.size ≤ g' ∧ g' < w3.heap.size := hub _ e; omega
              · have h9 := hub _ e; rw [World.size_alloc] at h9; omega
              · have := hub _ e; have := (hGo.ok i z hz).1.lt1; omega
              · have := hub _ hp'; have := World.ownsRow.lt (hGo.ok i z hz).2.1 p hp; omega
            have HB : Hid (Below w1.heap.size w1 w5) := hB4.trans ⟨hg5.os, hg5.tape, hg5.output, hg5.size, fun p hp => hg5.block p (Nat.lt_of_lt_of_le hp hB4.size) (fun e => by simp only [Option.some.injEq] at e; have := hGo.lt; omega)⟩
            have HF : Hid (∀ (j : Nat) z, (es ++ [(⟨g', .slice y3 xe.length c3, xe, xe⟩ : Ent)])[j]? = some z → z.e = z.f ∧ z.f.length ≤ totO (os.take (k + 1))) := fun j z hz => by
              by_cases hj : j < es.length
              · rw [List.getElem?_append_left hj] at hz
                exact ⟨(hf j z hz).1, by have := (hf j z hz).2; omega⟩
              · rw [List.getElem?_append_right (by omega)] at hz
                have hz' := List.mem_of_getElem? hz
                simp only [List.mem_singleton] at hz'
                subst hz'
                exact ⟨rfl, by show xe.length ≤ _; omega⟩
            clear hG2 hG3 hG4 hy4 hO5 hg5 hgl5 hB4 hB3w hB3 hB2 hh' hh3 hO3 hg3 hq3 hlt3 hub hGo hBo hX2 hxO hfr
            have hcuA := cell_later (below_alloc X2 (.cells #[] 5)) hcu
            have tok1 : True := trivial
            go_wp2_with (first | (at_builtin; have _t := tok1; refine wpL_app rfl _ _ rfl _ w3 (by exact hr1) ?_; clear tok1 hr1) | (at_builtin; refine wpL_appG 38 rfl _ _ rfl _ w5 (by exact hr2) ?_))
            go_roundw
            case rel => first | exact ⟨k + 1, gl', c', _, by omega, by go_num, by simp, HG.out, HF.out, by simp, by simp; omega, HB.out⟩ | ((repeat apply Exists.intro); refine ⟨⟨k + 1, gl', c', _, by omega, ?_, ?_, HG.out, HF.out, by simp, by simp; omega, HB.out⟩, rfl⟩; go_num; simp)
            case measure => simp [intOf]; omega
          · have h5' : ¬ (es.length : Int) < 5 := by omega
            have HG : Hid _ := hG2
            have HB : Hid _ := hB2
            clear hG2 hB2 hGo hBo hX2 hxO hh' hcp hcu
            go_wp2
            go_roundw
            case rel => first | exact ⟨k + 1, gl, c, es, by omega, by go_num, rfl, HG.out, fun j y hy => ⟨(hf j y hy).1, by have := (hf j y hy).2; omega⟩, hn1, hn5, HB.out⟩ | ((repeat apply Exists.intro); refine ⟨⟨k + 1, gl, c, es, by omega, ?_, rfl, HG.out, fun j y hy => ⟨(hf j y hy).1, by have := (hf j y hy).2; omega⟩, hn1, hn5, HB.out⟩, rfl⟩; go_num)
            case measure => simp [intOf]; omega
        · obtain ⟨v3, w3, hr1, hO3, hg3, hq3⟩ := run_app_more (X.alloc (.cells #[] 5)) X.heap.size (.slice (some ⟨X.heap.size, 0, none⟩) 0 0) [] yo dd l 22 (ownB_empty X) (hIo.kept (below_alloc _ _)) (by simp; omega) (by simp)
          rw [List.nil_append] at hO3
          have hB3 : Below X.heap.size X w3 := (below_alloc X _).trans (below_by (ownB_empty X) hg3 (by simp))
          have hs3 : X.heap.size + 1 ≤ w3.heap.size := by have := hg3.size; simpa using this
          obtain ⟨y3, c3, rfl⟩ := hO3.isB.len
          obtain ⟨gs, hgs, hgs2, hin⟩ : ∃ gs, X.heap.size ≤ gs ∧ gs < w3.heap.size ∧ InBlk (.slice y3 l.length c3) gs := by
            cases hv : (Value.slice y3 l.length c3).ownBlock with
            | none => exact ⟨X.heap.size, Nat.le_refl _, by omega, fun a n c e => by rw [e] at hv; simp [Value.ownBlock] at hv⟩
            | some p => exact ⟨p, (World.ownsRow.lt hO3 p hv).1, (World.ownsRow.lt hO3 p hv).2, fun a n c e => by rw [e] at hv; simpa [Value.ownBlock] using hv⟩
          have hcap3 : l.length ≤ c3 := by
            obtain ⟨_, ⟨he, hn0⟩ | ⟨p, cap, cur, he, _, _, hle, _⟩⟩ := hO3
            · simp only [Value.slice.injEq] at he; omega
            · simp only [Value.slice.injEq] at he; omega
          have ho2A := cell_later (below_alloc X (.cells #[] 5)) ho2
          have hfr := hGo.fresh hgs
          have hG3 := hGo.grow hB3
          have ho23 := cell_later hB3 ho2
          have hB3w : Below w1.heap.size w1 w3 := hBo.trans (hB3.mono hBo.size)
          obtain ⟨hcp3, -⟩ := hG3.cell hx
          obtain ⟨hxH3, -, -⟩ := hG3.ok q x hx
          obtain ⟨_, bb, heq, -, hR3, hbl3⟩ := hxH3
          simp only [Value.pointer.injEq, Option.some.injEq, Addr.mk.injEq, and_true] at heq
          subst heq
          have hgoh := (hgo.2 q x hx).1
          have hW := shaWrite_any x.h gs w3 x.e l bb (.slice y3 l.length c3) hR3 hbl3 hO3.isB (.mk hcap3) hin (fun e => (hfr.2 q x hx).1 e.symm) (by rw [hxe]; omega)
          clear hcp hcu hxH hxO
          go_upto_region 13 with (at_builtin; refine wpL_app rfl _ _ rfl _ w3 (by exact hr1) ?_)
          go_wp2_with fail
          refine hW.mono ?_
          rintro e w4 ⟨rfl, ⟨b4, hR4, hbl4⟩, hK4⟩
          have hG4 := hG3.wrote hx hK4 ⟨x.h, b4, rfl, rfl, hR4, hbl4⟩
          have hgsx : gs ≠ x.h := fun e => (hfr.2 q x hx).1 e.symm
          have hO4 : OwnB w4 X.heap.size (.slice y3 l.length c3) l := ownsRow_keeps hO3 hK4 (fun p hp => by
            cases y3 with
            | none => simp [Value.ownBlock] at hp
            | some a => have h9 := hin a _ _ rfl; simp only [Value.ownBlock, Option.some.injEq] at hp; simp; omega)
          have ho24 := keeps_cell hK4 (by simpa using fun e => hgoh e.symm) ho23
          have hB4w : Below w1.heap.size w1 w4 := hB3w.trans (hK4.below (fun p hp => by simp only [List.mem_singleton] at hp; subst hp; exact hxB) hB3w.size)
          have hs4 := hK4.size
          have hIB4 := hIB1.kept hB4w
          have hst1 := hO4.isB.str
          have hst2 := hIB4.str
          clear hW hR3 hbl3 hR4 hbl4 hG3 hO3 hB3w ho23 hcp3 hK4 hr1 ho2A hq3 hg3 hB3
          go_upto_region 16 with fail
          clear hst1 hst2
          obtain ⟨y, hxy, hy⟩ : ∃ y : Ent, ({ x with e := x.e ++ l } : Ent) = y ∧ (es.set q y)[q]? = some y := ⟨_, rfl, by rw [List.getElem?_set_self hql]⟩
          rw [hxy] at hG4
          obtain ⟨-, hcu4⟩ := hG4.cell hy
          obtain ⟨-, hyO, -⟩ := hG4.ok q y hy
          have hyu : y.u = x.u := by rw [← hxy]
          have hyf : y.f = x.f := by rw [← hxy]
          have hye : y.e = x.e ++ l := by rw [← hxy]
          have hyh : y.h = x.h := by rw [← hxy]
          obtain ⟨v6, w6, hr6, hO6, hg6, hq6⟩ := run_app_more w4.drew w1.heap.size y.u y.f yo dd l 22 hyO hIB4 (by rw [hyf]; omega) hB4w.size
          obtain ⟨y6, c6, rfl⟩ := hO6.isB.len
          obtain ⟨n6, hn6⟩ : ∃ n, (y.f ++ l).length = n := ⟨_, rfl⟩
          rw [hn6] at hr6 hO6 hq6
          have hG4d : Game w1.heap.size w4.drew gl c (es.set q y) := hG4.grow (Below.refl _ _).drew
          have hK6 := keeps_grown hg6
          have hub : ∀ p ∈ y.u.ownBlock.toList, p ≠ gl ∧ p ≠ go ∧ p ≠ gs := fun p hp => by
            have hp' : x.u.ownBlock = some p := by rw [← hyu]; simpa using hp
            refine ⟨fun e => ?_, fun e => ?_, fun e => ?_⟩
            · subst e; exact (hGo.one q x hx).2.1 hp'
            · subst e; exact (hgo.2 q x hx).2 hp'
            · subst e; exact (hfr.2 q x hx).2 hp'
          have hcu6 : w6.cell? ⟨gl, q * 2 + 1, none⟩ = some y.u := keeps_cell hK6 (fun h => (hub gl h).1 rfl) hcu4
          have hfz6 : w6.frozen? ⟨gl, q * 2 + 1, none⟩ = false := World.ownsRow.frozenAt (ownsRow_keeps hG4d.own hK6 (fun p hp => by simp only [Value.ownBlock, Option.some.injEq] at hp; subst hp; exact fun h => (hub gl h).1 rfl)) _
          have ho26 : w6.cell? ⟨go, 2, none⟩ = some (.slice yo l.length dd) := keeps_cell hK6 (fun h => (hub go h).2.1 rfl) ho24
          have ho27 : (w6.setCell ⟨gl, q * 2 + 1, none⟩ (.slice y6 n6 c6)).cell? ⟨go, 2, none⟩ = some (.slice yo l.length dd) := by
            rw [World.cell?_setCell_other (h := addr_ne (fun e => hgo.1 e.symm))]; exact ho26
          have HG7 : Hid _ := hG4d.stored hy hg6 hO6 hq6
          have HO7 : Hid (OwnB (w6.setCell ⟨gl, q * 2 + 1, none⟩ (.slice y6 n6 c6)) X.heap.size (.slice y3 l.length c3) l) := ownsRow_keeps (ownsRow_keeps (hO4.keep (Below.refl _ _).drew) hK6 (fun p hp h => by
            cases y3 with
            | none => simp [Value.ownBlock] at hp
            | some a => have h9 := hin a _ _ rfl; simp only [Value.ownBlock, Option.some.injEq] at hp; exact (hub p h).2.2 (by omega))) (keeps_setCell _ _ _ _) (fun p hp => by
            cases y3 with
            | none => simp [Value.ownBlock] at hp
            | some a => have h9 := hin a _ _ rfl; simp only [Value.ownBlock, Option.some.injEq] at hp; simp; intro e; exact hfr.1 (by omega))
          have hgl1 := hGo.lt
          have HB7 : Hid (Below w1.heap.size w1 (w6.setCell ⟨gl, q * 2 + 1, none⟩ (.slice y6 n6 c6))) := (hB4w.drew.trans (below_by hyO hg6 hB4w.size)).setCell (p := ⟨gl, q * 2 + 1, none⟩) hgl1.1 _
          clear hO4 hG4 hG4d hO6 hg6 hK6 hub hyO hIB4 hB4w
          rw [hyu] at hr6 hcu4 hcu6
          have HQ6 : Hid (∀ g, (Value.slice y6 n6 c6).ownBlock = some g → x.u.ownBlock = some g ∨ g = w4.drew.heap.size) := fun g hg => by have h9 := hq6 g hg; rw [hyu] at h9; exact h9
          have HYf : Hid _ := hyf
          have HYe : Hid _ := hye
          have HYh : Hid _ := hyh
          clear hq6 hyu hyf hye hyh hn6 hxy
          have hcu4d : w4.drew.cell? ⟨gl, q * 2 + 1, none⟩ = some x.u := hcu4
          have ho24d : w4.drew.cell? ⟨go, 2, none⟩ = some (.slice yo l.length dd) := ho24
          refine wp_region_held_drew (S := fun w' => w'.cell? ⟨go, 2, none⟩ = some (.slice yo l.length dd)) (by kernel_rfl) ho24d (fun hHeld => ?_)
          refine wpAnyH_take (i := 0) (v := .slice (some ⟨gl, 0, none⟩) es.length c) rfl (by kernel_rfl) (by kernel_rfl) (by kernel_rfl) (fun _ _ _ h => h) (Or.inl ⟨by rfl, fun w hSw => by go_simp⟩) hHeld ?_
          simp only [Act.put, List.setIfInBounds_toArray, List.set_cons_zero, List.set_cons_succ]
          refine wpAnyH_take (i := 1) (v := .int .i64 (q : Int)) rfl (by kernel_rfl) (by kernel_rfl) (by kernel_rfl) (fun _ _ _ h => h) (Or.inl ⟨by rfl, fun w hSw => by go_simp⟩) hHeld ?_
          simp only [Act.put, List.setIfInBounds_toArray, List.set_cons_zero, List.set_cons_succ]
          refine wpAnyH_take (i := 2) (v := .slice (some ⟨gl, 0, none⟩) es.length c) rfl (by kernel_rfl) (by kernel_rfl) (by kernel_rfl) (fun _ _ _ h => h) (Or.inl ⟨by rfl, fun w hSw => by go_simp⟩) hHeld ?_
          simp only [Act.put, List.setIfInBounds_toArray, List.set_cons_zero, List.set_cons_succ]
          refine wpAnyH_take (i := 3) (v := .int .i64 (q : Int)) rfl (by kernel_rfl) (by kernel_rfl) (by kernel_rfl) (fun _ _ _ h => h) (Or.inl ⟨by rfl, fun w hSw => by go_simp⟩) hHeld ?_
          simp only [Act.put, List.setIfInBounds_toArray, List.set_cons_zero, List.set_cons_succ]
          refine wpAnyH_take (i := 4) (v := .pointer (some ⟨gl, q * 2, none⟩)) rfl (by kernel_rfl) (by kernel_rfl) (by kernel_rfl) (fun _ _ _ h => h) (Or.inl ⟨by rfl, fun w hSw => by go_simp⟩) hHeld ?_
          simp only [Act.put, List.setIfInBounds_toArray, List.set_cons_zero, List.set_cons_succ]
          refine wpAnyH_take (i := 5) (v := .pointer (some ⟨gl, q * 2 + 1, none⟩)) rfl (by kernel_rfl) (by kernel_rfl) (by kernel_rfl) (fun _ _ _ h => h) (Or.inl ⟨by rfl, fun w hSw => by go_simp⟩) hHeld ?_
          simp only [Act.put, List.setIfInBounds_toArray, List.set_cons_zero, List.set_cons_succ]
          refine wpAnyH_take (i := 7) (v := .pointer (some ⟨go, 2, none⟩)) rfl (by kernel_rfl) (by kernel_rfl) (by kernel_rfl) (fun _ _ _ h => h) (Or.inl ⟨by rfl, fun w hSw => by go_simp⟩) hHeld ?_
          simp only [Act.put, List.setIfInBounds_toArray, List.set_cons_zero, List.set_cons_succ]
          refine wpAnyH_take (i := 8) (v := .slice yo l.length dd) rfl (by kernel_rfl) (by kernel_rfl) (by kernel_rfl) (fun _ _ _ h => h) (Or.inl ⟨by rfl, fun w hSw => by go_simp⟩) hHeld ?_
          simp only [Act.put, List.setIfInBounds_toArray, List.set_cons_zero, List.set_cons_succ]
          refine wpAnyH_ready (rs := [6]) (by kernel_rfl) (by simp) ?_
          refine AllReadyH.cons rfl (fun K hK => ?_) AllReadyH.nil
          go_simp
          refine hK.out _ _ ho24d (fun _ => ?_)
          clear hK K
          refine wpAnyH_ready (rs := [9]) (by kernel_rfl) (by simp) ?_
          refine AllReadyH.cons rfl (fun K hK => ?_) AllReadyH.nil
          rw [if_pos (by rfl)]
          refine wpO_app _ _ rfl _ w6 hr6 ?_
          simp only [Act.put, List.getElem_toArray, List.getElem_cons_succ, List.getElem_cons_zero, List.setIfInBounds_toArray, List.set_cons_zero, List.set_cons_succ]
          refine hK.out _ _ ho26 (fun _ => ?_)
          clear hK K
          refine wpAnyH_take (i := 10) (v := .pointer (some ⟨gl, q * 2, none⟩)) rfl (by kernel_rfl) (by kernel_rfl) (by kernel_rfl) (fun _ _ _ h => h) (Or.inl ⟨by rfl, fun w hSw => by go_simp⟩) ho26 ?_
          simp only [Act.put, List.setIfInBounds_toArray, List.set_cons_zero, List.set_cons_succ]
          refine wpAnyH_take (i := 11) (v := .pointer (some ⟨gl, q * 2 + 1, none⟩)) rfl (by kernel_rfl) (by kernel_rfl) (by kernel_rfl) (fun _ _ _ h => h) (Or.inl ⟨by rfl, fun w hSw => by go_simp⟩) ho26 ?_
          simp only [Act.put, List.setIfInBounds_toArray, List.set_cons_zero, List.set_cons_succ]
          refine wpAnyH_ready (rs := [12]) (by kernel_rfl) (by simp) ?_
          refine AllReadyH.cons rfl (fun K hK => ?_) AllReadyH.nil
          go_simp
          refine hK.out _ _ ho27 (fun _ => ?_)
          clear hK K hHeld
          refine wpAnyH_done (by kernel_rfl) ?_ _
          have HG8 : Hid (Game w1.heap.size (w6.setCell ⟨gl, q * 2 + 1, none⟩ (.slice y6 n6 c6)) gl c (es.set q ⟨y.h, .slice y6 n6 c6, y.e, y.f ++ l⟩)) := by
            have h9 := HG7.out
            rw [List.set_set] at h9
            exact h9
          clear HG7 hcu4d ho24d ho26 ho27 hcu6 hfz6 hr6 hcu4 ho24
          obtain ⟨es2, hes2⟩ : ∃ e2, es.set q ⟨y.h, .slice y6 n6 c6, y.e, y.f ++ l⟩ = e2 := ⟨_, rfl⟩
          rw [hes2] at HG8
          have HL2 : Hid (es2.length = es.length) := by show _ = _; rw [← hes2, List.length_set]
          have HF2 : Hid (∀ (j : Nat) z, es2[j]? = some z → z.e = z.f ∧ z.f.length ≤ totO (os.take (k + 1))) := fun j z hz => by
            rw [← hes2] at hz
            rcases set_get hx hz with ⟨rfl, rfl⟩ | ⟨hne, hz'⟩
            · refine ⟨?_, ?_⟩
              · show y.e = y.f ++ l
                rw [HYe.out, HYf.out, hxe]
              · show (y.f ++ l).length ≤ _
                rw [HYf.out, List.length_append]; omega
            · exact ⟨(hf j z hz').1, by have := (hf j z hz').2; omega⟩
          have HR2 : Hid (∀ (j : Nat) z, es2[j]? = some z → z.h ≠ gs ∧ z.u.ownBlock ≠ some gs) := fun j z hz => by
            rw [← hes2] at hz
            rcases set_get hx hz with ⟨rfl, rfl⟩ | ⟨hne, hz'⟩
            · refine ⟨?_, fun e => ?_⟩
              · show y.h ≠ gs
                rw [HYh.out]; exact (hfr.2 _ x hx).1
              · rcases HQ6.out gs e with h9 | h9
                · exact (hfr.2 _ x hx).2 h9
                · have h10 : w4.drew.heap.size = w4.heap.size := rfl
                  omega
            · exact hfr.2 j z hz'
          clear hes2 HYe HYf HYh HQ6
          generalize w6.setCell ⟨gl, q * 2 + 1, none⟩ (.slice y6 n6 c6) = Z at HG8 HO7 HB7 ⊢
          go_wp2_with fail
          go_loopw [9] (fun j wr => ∃ n : Nat, n ≤ l.length ∧ j = .int .i64 n ∧ Game w1.heap.size wr gl c es2 ∧ (∃ m : List UInt8, m.length = l.length ∧ OwnB wr X.heap.size (.slice y3 l.length c3) m) ∧ Below w1.heap.size w1 wr) (fun j _ => l.length - (intOf j).toNat)
          case atStart => exact ⟨0, Nat.zero_le _, rfl, HG8.out, ⟨l, rfl, HO7.out⟩, HB7.out⟩
          case round =>
            clear HG8 HO7 HB7
            obtain ⟨n, hnl, rfl, hGm, ⟨m, hml, hOm⟩, hBm⟩ := hrel
            by_cases hlt2 : n < l.length
            · rw [← hml] at hOm
              obtain ⟨p, cc, he, -⟩ := hOm.form (by intro e; rw [e] at hml; simp at hml; omega)
              simp only [Value.slice.injEq, true_and] at he
              obtain ⟨rfl, rfl⟩ := he
              have hps : p = gs := hin ⟨p, 0, none⟩ _ _ rfl
              subst hps
              have hbo2 : wr.cell? ⟨p, n, none⟩ = some (.int .u8 ((m[n]'(by omega)).toNat : Int)) := by rw [World.ownsRow.cellAt hOm n (by simp; omega), Array.getElem?_toList, bytesA_get m n (by omega)]
              have hfz2 := World.ownsRow.frozenAt hOm n
              have hO9 := hOm.set n 238
              have e238 : (((238 : UInt8).toNat : Nat) : Int) = 238 := rfl
              rw [e238, hml] at hO9
              have HO9 : Hid (∃ m : List UInt8, m.length = l.length ∧ OwnB (wr.setCell ⟨p, n, none⟩ (.int .u8 238)) X.heap.size (.slice (some ⟨p, 0, none⟩) l.length c3) m) := ⟨m.set n 238, by rw [List.length_set]; exact hml, hO9⟩
              have HG9 : Hid (Game w1.heap.size (wr.setCell ⟨p, n, none⟩ (.int .u8 238)) gl c es2) := hGm.keeps (keeps_setCell wr p n _) (by simpa using hfr.1) (fun j z hz => ⟨by simpa using (HR2.out j z hz).1, fun r hr => by have h9 := (HR2.out j z hz).2; rw [hr] at h9; simpa using h9⟩)
              have HB9 : Hid (Below w1.heap.size w1 (wr.setCell ⟨p, n, none⟩ (.int .u8 238))) := hBm.setCell (p := ⟨p, n, none⟩) (Nat.le_trans hBo.size hgs) _
              have hn0 : (0 : Int) ≤ (n : Int) := by omega
              have hn2 : (n : Int) < (l.length : Int) := by omega
              clear hO9 hOm hGm hBm e238
              go_wp2
              go_roundw
              case rel => first | exact ⟨n + 1, by omega, by go_num, HG9.out, HO9.out, HB9.out⟩ | ((repeat apply Exists.intro); refine ⟨⟨n + 1, by omega, ?_, HG9.out, HO9.out, HB9.out⟩, rfl⟩; go_num)
              case measure => simp [intOf]; omega
            · obtain rfl : n = l.length := by omega
              have HGe : Hid _ := hGm
              have HBe : Hid _ := hBm
              clear hGm hBm hOm
              go_wp2
              go_roundw
              case rel => first | exact ⟨k + 1, gl, c, es2, by omega, by go_num, by rw [HL2.out], HGe.out, HF2.out, by rw [HL2.out]; exact hn1, by rw [HL2.out]; exact hn5, HBe.out⟩ | ((repeat apply Exists.intro); refine ⟨⟨k + 1, gl, c, es2, by omega, ?_, by rw [HL2.out], HGe.out, HF2.out, by rw [HL2.out]; exact hn1, by rw [HL2.out]; exact hn5, HBe.out⟩, rfl⟩; go_num)
              case measure => simp [intOf]; omega
      clear hK1
      obtain ⟨x0, hx0⟩ : ∃ x, es[0]? = some x := ⟨es[0], List.getElem?_eq_getElem (by omega)⟩
      have hB1 : Hid _ := hBo
      have hG1 : Hid _ := hGo
      clear hBo hGo hIo ho0 ho2
      rcases (by omega : on ≤ 0 ∨ (0 < on ∧ (es.length : Int) ≤ on) ∨ (0 < on ∧ on < (es.length : Int))) with hon | ⟨hon, hon2⟩ | ⟨hon, hon2⟩
      · have hon' : ¬ (0 < on) := by omega
        go_wp2_with fail
        exact key 0 x0 _ _ _ _ _ _ _ _ _ _ _ _ hx0
      · have hon' : ¬ (on < (es.length : Int)) := by omega
        go_wp2_with fail
        exact key 0 x0 _ _ _ _ _ _ _ _ _ _ _ _ hx0
      · obtain ⟨q, rfl⟩ : ∃ q : Nat, on = (q : Int) := ⟨on.toNat, by omega⟩
        obtain ⟨x, hx⟩ : ∃ x, es[q]? = some x := ⟨es[q]'(by omega), List.getElem?_eq_getElem (by omega)⟩
        go_wp2_with fail
        exact key q x _ _ _ _ _ _ _ _ _ _ _ _ hx
    · obtain rfl : k = os.length := by omega
      have htl := totO_le os os.length
      clear hs1
      go_wp2_with fail
      go_loopw [10] (fun j wr => ∃ n : Nat, n ≤ es.length ∧ j = .int .i64 n ∧ Game w1.heap.size wr gl c es ∧ Below w1.heap.size w1 wr) (fun j _ => es.length - (intOf j).toNat)
      case atStart => exact ⟨0, Nat.zero_le _, rfl, hG, hB⟩
      case round =>
        clear hG hB
        obtain ⟨q, hq, rfl, hG, hB⟩ := hrel
        by_cases hlt2 : q < es.length
        · obtain ⟨x, hx⟩ : ∃ x, es[q]? = some x := ⟨es[q], List.getElem?_eq_getElem hlt2⟩
          have hq0 : (0 : Int) ≤ (q : Int) := by omega
          have hq1 : (q : Int) < (es.length : Int) := by omega
          obtain ⟨hcp, hcu⟩ := hG.cell hx
          obtain ⟨hxe, hxl⟩ := hf q x hx
          obtain ⟨hxH, hxO, hxB⟩ := hG.ok q x hx
          go_wp2_with fail
          refine (told_any wr x.h x.u x.e hxH (by rw [hxe]; exact hxO.isB) (by rw [hxe]; omega)).mono ?_
          rintro e X2 ⟨rfl, hX2⟩
          have HG : Hid _ := hG.grow hX2
          have HB : Hid _ := hB.trans (hX2.mono hB.size)
          clear hG hB hX2 hcp hcu hxH hxO
          go_wp2
          go_roundw
          case rel => first | exact ⟨q + 1, by omega, by go_num, HG.out, HB.out⟩ | ((repeat apply Exists.intro); refine ⟨⟨q + 1, by omega, ?_, HG.out, HB.out⟩, rfl⟩; go_num)
          case measure => simp [intOf]; omega
        · obtain rfl : q = es.length := by omega
          go_wp2
          go_ret
          exact ⟨rfl, hw1.trans (hB.mono hw1.size)⟩
end Go.Proofs.Ytajmlfcbppnpgaa
