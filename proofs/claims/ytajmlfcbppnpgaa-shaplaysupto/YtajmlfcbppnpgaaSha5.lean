
import Derived.Test.YtajmlfcbppnpgaaSha4
import Derived.Test.YtajmlfcbppnpgaaShaH
namespace Go.Proofs.Ytajmlfcbppnpgaa
open Go.RowKit

/-! The methods of a Hash -/
theorem stB_app (l m : List UInt8) : ∀ i, 64 * i ≤ l.length → stB (l ++ m) i = stB l i
  | 0, _ => rfl
  | i + 1, h => by
    rw [stB, stB, stB_app l m i (by omega), List.drop_append_of_le_length (by omega), List.take_append_of_le_length (by simp; omega)]
theorem Keeps.refl (F : List Nat) (w : World) : Keeps F w w := ⟨rfl, rfl, rfl, Nat.le_refl _, fun _ _ _ => rfl⟩
theorem Keeps.below_ {F : List Nat} {w x y : World} (h : Keeps F w x) (hb : Below x.heap.size x y) : Keeps F w y :=
  ⟨hb.os.trans h.os, hb.tape.trans h.tape, hb.output.trans h.output, Nat.le_trans h.size hb.size, fun k hk hn => by rw [hb.block k (Nat.lt_of_lt_of_le hk h.size)]; exact h.block k hk hn⟩
theorem Keeps.trans {F : List Nat} {w x y : World} (h : Keeps F w x) (hb : Keeps F x y) : Keeps F w y :=
  ⟨hb.os.trans h.os, hb.tape.trans h.tape, hb.output.trans h.output, Nat.le_trans h.size hb.size, fun k hk hn => by rw [hb.block k (Nat.lt_of_lt_of_le hk h.size) hn]; exact h.block k hk hn⟩
theorem Keeps.setRow_ {F : List Nat} {w x : World} (h : Keeps F w x) (g : Nat) (hg : g ∈ F) (c : Array Value) : Keeps F w (x.setRow g c) :=
  ⟨h.os, h.tape, h.output, by simpa using h.size, fun k hk hn => by rw [setRow_other x g k c (fun e => hn (by rw [e]; exact hg))]; exact h.block k hk hn⟩
theorem Keeps.setCell_ {F : List Nat} {w x : World} (h : Keeps F w x) (g i : Nat) (hg : g ∈ F) (v : Value) : Keeps F w (x.setCell ⟨g, i, none⟩ v) :=
  ⟨h.os, h.tape, h.output, by simpa [World.setCell] using h.size, fun k hk hn => by rw [heap_setCell_ne x g k i v (fun e => hn (by rw [← e]; exact hg))]; exact h.block k hk hn⟩
/-- What a Hash's bytes hold. -/
def HBl (l : List UInt8) (b : Nat → UInt8) : Prop := ∀ i, i < l.length % 64 → b i = l[64 * (l.length / 64) + i]?.getD 0
def HIs (w : World) (h : Value) (l : List UInt8) (F : List Nat) : Prop :=
  ∃ g b, h = .pointer (some ⟨g, 0, none⟩) ∧ F = [g] ∧ RowC w g (hsA (stB l (l.length / 64)) b l.length) ∧ HBl l b
theorem lay_mid (a b c d : List Value) (o : Nat) (h : o + d.length ≤ b.length) :
    (a ++ b ++ c).take (a.length + o) ++ d ++ (a ++ b ++ c).drop (a.length + o + d.length) = a ++ (b.take o ++ d ++ b.drop (o + d.length)) ++ c := by
  have e1 : (a ++ b ++ c).take (a.length + o) = a ++ b.take o := by
    rw [List.append_assoc, List.take_append, List.take_of_length_le (by omega), Nat.add_sub_cancel_left, List.take_append_of_le_length (by omega)]
  have e2 : (a ++ b ++ c).drop (a.length + o + d.length) = b.drop (o + d.length) ++ c := by
    rw [List.append_assoc, List.drop_append, List.drop_of_length_le (by omega), List.nil_append, show a.length + o + d.length - a.length = o + d.length by omega, List.drop_append_of_le_length (by omega)]
  rw [e1, e2]
  simp
theorem hsA_lay (s : S8) (b : Nat → UInt8) (n o : Nat) (l : List UInt8) (h : o + l.length ≤ 64) :
    ((hsA s b n).toList.take (8 + o) ++ (bytesA l).toList ++ (hsA s b n).toList.drop (8 + o + l.length)).toArray = hsA s (layL b o l) n := by
  have hd : (bytesA l).toList.length = l.length := by simp
  have e := lay_mid (wsV s.toL) (secA b).toList [Value.int .i64 (n : Int)] (bytesA l).toList o (by rw [hd, sec_len]; exact h)
  rw [w8_len, hd] at e
  unfold hsA
  rw [List.toList_toArray, e, ← secA_lay b o l h]
theorem run_copy_hash (w : World) (g o dl dc sl sc : Nat) (x : Addr) (ty : TypeId) (s : S8) (b : Nat → UInt8) (n : Nat) (l : List UInt8) (hg : RowC w g (hsA s b n))
    (hx : ∀ i (h : i < l.length), w.cell? (x.add i) = some (Value.int .u8 (l[i].toNat : Int))) (hm : l.length = Nat.min sl dl) (h : o + l.length ≤ 64) :
    (Builtin.copy_ #[22, 22] ty #[.slice (some ⟨g, 8 + o, none⟩) dl dc, .slice (some x) sl sc]).run Try.prog w = .ok (goInt l.length) (w.setRow g (hsA s (layL b o l) n)) := by
  obtain ⟨h1, h2⟩ := hg
  obtain ⟨tg, hg'⟩ := row_of_L h1
  rw [h2] at hg'
  have hl : (bytesA l).toList.length = l.length := by simp
  have := run_copy_row (P := Try.prog) w 22 22 ty 5 g (8 + o) dl dc x sl sc (hsA s b n) tg (bytesA l).toList Try.underlying22 (by kernel_rfl) hg' (by rw [hl]; exact hm)
    (fun j v hv => by
      have hj : j < l.length := by have := (List.getElem?_eq_some_iff.1 hv).1; simpa using this
      rw [Array.getElem?_toList, bytesA_get l j hj] at hv
      rw [hx j hj]; exact hv) (by rw [hl, hsA_size]; omega) (fun v hv => by
      simp only [bytesA, List.mem_map] at hv
      obtain ⟨b, _, rfl⟩ := hv
      rfl)
  rw [this, hl, hsA_lay s b n o l h]
/-- 'block[a:]' of a Hash. -/
theorem run_sliceAt_hash (w : World) (g a : Nat) (h : a < 64) :
    (Instr.sliceAt 46 (.pointer (some ⟨g, 8, none⟩)) (some (.int .i64 (a : Int))) none none).run Try.prog w = .ok (.slice (some ⟨g, 8 + a, none⟩) (64 - a) (64 - a)) w := by
  have hadd : (⟨g, 8, none⟩ : Addr).add a = ⟨g, 8 + a, none⟩ := by unfold Addr.add; split <;> simp_all
  have hc : (a : Int) ≤ 64 := by omega
  have hne : ¬ 64 = a := by omega
  simp [Instr.sliceAt, Instr.sureAddr, run_underlying Try.underlying46, Instr.sliceBounds, run_sliceBound, hc, hadd, hne]
/-- What is eaten, piece by piece. -/
theorem eat_bl (l r : List UInt8) (b : Nat → UInt8) (n : Nat) (hb : HBl l b) (hn : n ≤ r.length) (_ha : l.length % 64 + n ≤ 64) (i : Nat) (hi : i < l.length % 64 + n) :
    layL b (l.length % 64) (r.take n) i = (l ++ r.take n)[64 * (l.length / 64) + i]?.getD 0 := by
  unfold layL
  have hlt : (r.take n).length = n := by simp; omega
  by_cases h : l.length % 64 ≤ i
  · rw [dif_pos ⟨h, by omega⟩, List.getElem?_append_right (by omega), show 64 * (l.length / 64) + i - l.length = i - l.length % 64 by omega, List.getElem?_eq_getElem (by omega)]
    rfl
  · rw [dif_neg (by omega), List.getElem?_append_left (by omega)]
    exact hb i (by omega)
theorem eat_part (l r : List UInt8) (b : Nat → UInt8) (n : Nat) (hb : HBl l b) (hn : n ≤ r.length) (ha : l.length % 64 + n < 64) :
    HBl (l ++ r.take n) (layL b (l.length % 64) (r.take n)) ∧ stB (l ++ r.take n) ((l ++ r.take n).length / 64) = stB l (l.length / 64) ∧ (l ++ r.take n).length = l.length + n := by
  have hL : (l ++ r.take n).length = l.length + n := by simp; omega
  have hq : (l.length + n) / 64 = l.length / 64 := by omega
  refine ⟨fun i hi => ?_, ?_, hL⟩
  · rw [hL] at hi ⊢
    rw [hq]
    exact eat_bl l r b n hb hn (by omega) i (by omega)
  · rw [hL, hq, stB_app l _ _ (by omega)]
theorem eat_full (l r : List UInt8) (b : Nat → UInt8) (n : Nat) (hb : HBl l b) (hn : n ≤ r.length) (ha : l.length % 64 + n = 64) :
    HBl (l ++ r.take n) (layL b (l.length % 64) (r.take n)) ∧ stB (l ++ r.take n) ((l ++ r.take n).length / 64) = stepB (stB l (l.length / 64)) (secB (layL b (l.length % 64) (r.take n))) ∧ (l ++ r.take n).length = l.length + n := by
  have hL : (l ++ r.take n).length = l.length + n := by simp; omega
  have hq : (l.length + n) / 64 = l.length / 64 + 1 := by omega
  refine ⟨fun i hi => ?_, ?_, hL⟩
  · rw [hL] at hi
    omega
  · rw [hL, hq, stB, stB_app l _ _ (by omega)]
    congr 1
    apply List.ext_getElem?
    intro i
    by_cases hi : i < 64
    · have h := eat_bl l r b n hb hn (by omega) i (by omega)
      have h1 : 64 * (l.length / 64) + i < (l ++ r.take n).length := by omega
      rw [List.getElem?_take, if_pos hi, List.getElem?_drop, List.getElem?_eq_getElem h1]
      rw [List.getElem?_eq_getElem h1] at h
      simp only [secB, List.getElem?_map, List.getElem?_range hi, Option.map_some, Option.some.injEq]
      exact h.symm
    · rw [List.getElem?_eq_none (by simp; omega), List.getElem?_eq_none (by rw [secB_len]; omega)]
theorem lt_min3 (a n r N : Nat) (_h : 64 * (N / 64) + a = N) (_ha : a < 64) (hn : n = min (64 - a) r) (hr : 0 < r) : 0 < n ∧ n ≤ r ∧ a + n ≤ 64 ∧ (a + n = 64 ∨ n = r) := by omega
set_option linter.unusedSimpArgs false in
set_option maxHeartbeats 800000 in
theorem shaWrite_any (g gs : Nat) (w : World) (l m : List UInt8) (b : Nat → UInt8) (v : Value) (hR : RowC w g (hsA (stB l (l.length / 64)) b l.length)) (hb : HBl l b) (hv : IsB w v m) (hcap : CapB v) (hin : InBlk v gs) (hne : gs ≠ g) (hlen : l.length + m.length ≤ 281474976710656) :
    Calls Try.prog 8 #[.pointer (some ⟨g, 0, none⟩), v] w fun e w' => e = .returned (.tuple #[]) ∧ (∃ b', RowC w' g (hsA (stB (l ++ m) ((l ++ m).length / 64)) b' (l ++ m).length) ∧ HBl (l ++ m) b') ∧ Keeps [g] w w' := by
  obtain ⟨x, c, rfl⟩ := hv.len
  have hc : m.length ≤ c := hcap _ _ _ rfl
  go_enter Try.func8, Try.ntmps8
  go_wp2_with fail
  go_loopw [1] (fun v wr => ∃ (k r : Nat) (y : Option Addr) (d : Nat) (b : Nat → UInt8), k + r = m.length ∧ v = .slice y r d ∧ IsB wr (.slice y r d) (m.drop k) ∧ r ≤ d ∧ InBlk (.slice y r d) gs ∧ RowC wr g (hsA (stB (l ++ m.take k) ((l ++ m.take k).length / 64)) b (l ++ m.take k).length) ∧ HBl (l ++ m.take k) b ∧ Keeps [g] w wr) (fun v _ => vlen v)
  case atStart => exact ⟨0, m.length, x, c, b, by omega, rfl, hv, hc, hin, by simpa using hR, by simpa using hb, Keeps.refl _ _⟩
  case round =>
    clear hR hb hv hcap hin hc
    obtain ⟨k, r, y, d, b, hkr, rfl, hI, hrd, hin, hR, hb, hK⟩ := hrel
    by_cases hlt : 0 < r
    · have hlr : (m.drop k).length = r := by simp; omega
      have hLl : (l ++ m.take k).length = l.length + k := by simp; omega
      obtain ⟨N, hN⟩ : ∃ N, l.length + k = N := ⟨_, rfl⟩
      obtain ⟨a, ha⟩ : ∃ a, N % 64 = a := ⟨_, rfl⟩
      obtain ⟨n, hn⟩ : ∃ n, n = min (64 - a) r := ⟨_, rfl⟩
      obtain ⟨hn0, hnr, han, hor⟩ := lt_min3 a n r N (by omega) (by omega) hn hlt
      have ha64 : a < 64 := by omega
      have hNb : N + n ≤ 281474976710656 := by omega
      have hnd : n ≤ d := by omega
      obtain ⟨bb, ob, rfl, hbb, -⟩ := (hlr ▸ hI : IsB wr (.slice y (m.drop k).length d) (m.drop k)).spot 0 (by omega)
      have hln : ((m.drop k).take n).length = n := by simp; omega
      have htk : (l ++ m.take k) ++ (m.drop k).take n = l ++ m.take (k + n) := by rw [List.append_assoc, List.take_add]
      have hcx : ∀ i (h : i < ((m.drop k).take n).length), wr.cell? ((⟨bb, ob, none⟩ : Addr).add i) = some (.int .u8 (((m.drop k).take n)[i].toNat : Int)) := fun i h => by
        rw [hln] at h
        rcases hI with ⟨h1, _⟩ | ⟨y2, d2, he, hcc⟩
        · cases h1
        · simp only [Value.slice.injEq, Option.some.injEq] at he
          obtain ⟨rfl, _, rfl⟩ := he
          rw [hcc i (by omega)]; simp
      have hep : a + n < 64 → _ := fun h => eat_part (l ++ m.take k) (m.drop k) b n hb (by omega) (by rw [hLl, hN, ha]; exact h)
      have hef : a + n = 64 → _ := fun h => eat_full (l ++ m.take k) (m.drop k) b n hb (by omega) (by rw [hLl, hN, ha]; exact h)
      have hcp := fun ty => run_copy_hash wr g a (64 - a) (64 - a) r d ⟨bb, ob, none⟩ ty _ b _ ((m.drop k).take n) hR hcx (by rw [hln, hn]; exact Nat.min_comm _ _) (by omega)
      have hI2 := (hlr ▸ hI : IsB wr (.slice (some ⟨bb, ob, none⟩) (m.drop k).length d) (m.drop k)).cut n (r - n) (by omega) (by omega)
      have hin2 := hin.cut n (r - n) (d - n)
      have hdd : ((m.drop k).drop n).take (r - n) = m.drop (k + n) := by rw [List.drop_drop]; exact List.take_of_length_le (by simp; omega)
      rw [hdd] at hI2
      rw [htk, hLl, hN, ha] at hep hef
      rw [hln, hLl, hN] at hcp
      rw [hLl, hN] at hR
      generalize stB (l ++ m.take k) (N / 64) = S at hR hcp hep hef
      generalize layL b a ((m.drop k).take n) = b2 at hcp hep hef
      have hc72 : wr.cell? ⟨g, 72, none⟩ = some (.int .i64 (N : Int)) := by rw [hR.cell 72, hsA_len]
      have hsl := fun W => run_sliceAt_hash W g a ha64
      have nrem : (N : Int) % 64 = (a : Int) := by omega
      have hR1 := hR.setRow (hsA S b2 N)
      have hK1 := (Keeps.refl [g] wr).setRow_ g (by simp) (hsA S b2 N)
      have HE : Hid _ := hep
      have HF : Hid _ := hef
      have HM : Hid (r - n < r) := by show _ < _; omega
      have HK : Hid (k + n + (r - n) = m.length) := by show _ = _; omega
      have HD : Hid (r - n ≤ d - n) := by show _ ≤ _; omega
      have HO : Hid (a + n = 64 ∨ a + n < 64) := by show _ ∨ _; omega
      clear hcx hb hI hin hep hef htk hdd hn ha hN hLl hlr hln hor hkr
      go_upto_region 4 with fail
      simp only [nrem]
      clear hcp hsl hR hc72 nrem
      have hI3 := hI2.keeps hK1 hin2 (by simpa using hne)
      have hK2 := hK.trans hK1
      clear hI2 hK1 hK
      generalize wr.setRow g (hsA S b2 N) = w1 at hR1 hI3 hK2 ⊢
      have hc72 : w1.cell? ⟨g, 72, none⟩ = some (.int .i64 (N : Int)) := by rw [hR1.cell 72, hsA_len]
      have hfz := hR1.frozen 72
      obtain ⟨M, hM⟩ : ∃ M, N + n = M := ⟨_, rfl⟩
      have nadd : (N : Int) + (n : Int) = (M : Int) := by omega
      have wM : IntKind.i64.wrap (M : Int) = (M : Int) := wrap64 M (by omega)
      have hR2 : RowC (w1.setCell ⟨g, 72, none⟩ (.int .i64 (M : Int))) g (hsA S b2 M) := by rw [← hsA_setLen S b2 N M]; exact hR1.set 72 _
      have hK3 := (Keeps.refl [g] w1).setCell_ g 72 (by simp) (.int .i64 (M : Int))
      rw [hM] at HE HF
      go_upto_region 5 with fail
      have hI4 := hI3.keeps hK3 hin2 (by simpa using hne)
      have hK4 := hK2.trans hK3
      clear hI3 hK2 hK3 hR1 hc72 hfz
      generalize w1.setCell ⟨g, 72, none⟩ (.int .i64 (M : Int)) = w2 at hR2 hI4 hK4 ⊢
      have hnr1 : (n : Int) ≤ (r : Int) := by omega
      have hr0 : (0 : Int) ≤ (n : Int) := by omega
      go_upto_region 6 with fail
      simp only [Option.map_some, addr_add] at hI4 hin2
      generalize (if d = n then some (⟨bb, ob, none⟩ : Addr) else some ⟨bb, ob + n, none⟩) = y3 at hI4 hin2 ⊢
      rcases HO.out with hfull | hpart
      · obtain ⟨hb3, hs3, hl3⟩ := HF.out hfull
        have hfe : (a : Int) + (n : Int) = 64 := by omega
        obtain ⟨T, hT⟩ : ∃ T, stepB S (secB b2) = T := ⟨_, rfl⟩
        have HT : Hid _ := hT
        have hTl := toL_length T
        rw [hT] at hs3
        have HS3 : Hid _ := hs3
        have HL3 : Hid _ := hl3
        have HB3 : Hid _ := hb3
        clear hs3 hl3 hb3 hT HE HF
        go_upto_region 7 with fail
        refine wp_reliesT [Fx (.pointer (some ⟨g, 0, none⟩)), Fx (.pointer (some ⟨g, 0, none⟩)), Fx (.pointer (some ⟨g, 0, none⟩)), Fx (.pointer (some ⟨g, 0, none⟩)), Fx (.agg (wdA S.toL)), Fx (.pointer (some ⟨g, 0, none⟩)), Fx (.pointer (some ⟨g, 0, none⟩)), Fx (.pointer (some ⟨g, 8, none⟩)), Fx (.agg (secA b2)), Fx (.agg (wdA T.toL)), Fx (.pointer (some ⟨g, 0, none⟩)), Fx (.pointer (some ⟨g, 0, none⟩))] (by kernel_rfl) (by kernel_rfl) ?_ ?_ ?_
        · repeat' (first | exact all_nil | apply all_cons)
          all_goals intro v y y' hv hb
          all_goals first | exact Fx_mono _ _ _ _ hv hb
        · refine ⟨?_, ?_, ?_, ?_, ?_, ?_, ?_, ?_, ?_, ?_, ?_, ?_, trivial⟩
          all_goals
            intro ρ x hp ρc ρg ρf ho hd
            have o0 : ρ (.tmp 0) = .pointer (some ⟨g, 0, none⟩) := ho 0 rfl
            clear ho
            obtain ⟨r3, q3⟩ := hR2.kept hp
            simp only [depsR, depR, slotR, Fx, List.getElem?_cons_succ, List.getElem?_cons_zero, Region.binds, forall_const] at hd
            simp only [guardR]
            go_split_ands
          · go_simp
          · go_simp
          · go_simp
          · go_simp
          · go_simp
          · go_simp
          · go_simp
          · go_simp
          · go_simp
          · go_simp
            have hz := shaStep_any S b2 x
            rw [HT.out] at hz
            refine hz.mono ?_
            rintro e x' ⟨rfl, hb⟩
            exact ⟨_, rfl, rfl, hb⟩
          · go_simp
          · go_simp
        · intro vs x1 hp hw
          simp only [owed, Fx] at hw
          obtain ⟨e0, e1, e2, e3, e4, e5, e6, e7, e8, e9, e10, e11, -⟩ := hw
          simp only [List.length_cons, List.length_nil, List.take_succ_cons, List.take_zero, List.drop_succ_cons, List.drop_zero, asg, List.cons_append, List.nil_append, e0, e1, e2, e3, e4, e5, e6, e7, e8, e9, e10, e11]
          clear e0 e1 e2 e3 e4 e5 e6 e7 e8 e9 e10 e11
          have hR3 := hR2.kept hp
          have hI5 : Hid _ := (hI4.kept hp).keeps ((Keeps.refl [g] x1).setRow_ g (by simp) (hsA T b2 M)) hin2 (by simpa using hne)
          have hK5 : Hid _ := (hK4.below_ hp).trans ((Keeps.refl [g] x1).setRow_ g (by simp) (hsA T b2 M))
          have hR5 : Hid _ := hR3.setRow (hsA T b2 M)
          obtain ⟨r3, q3⟩ := hR3
          clear hI4 hK4 hp hR2
          go_wp2
          go_roundw
          case rel => first | exact ⟨k + n, r - n, y3, d - n, b2, HK.out, rfl, hI5.out, HD.out, hin2, by rw [HS3.out, HL3.out]; exact hR5.out, HB3.out, hK5.out⟩ | ((repeat apply Exists.intro); exact ⟨⟨k + n, r - n, y3, d - n, b2, HK.out, rfl, hI5.out, HD.out, hin2, by rw [HS3.out, HL3.out]; exact hR5.out, HB3.out, hK5.out⟩, rfl⟩)
          case measure => simpa [vlen] using HM.out
      · obtain ⟨hb3, hs3, hl3⟩ := HE.out hpart
        have hfe : ¬ (a : Int) + (n : Int) = 64 := by omega
        have HS3 : Hid _ := hs3
        have HL3 : Hid _ := hl3
        have HB3 : Hid _ := hb3
        have HI : Hid _ := hI4
        have HR : Hid _ := hR2
        have HK4 : Hid _ := hK4
        clear hs3 hl3 hb3 HE HF hI4 hR2 hK4
        go_wp2
        go_roundw
        case rel => first | exact ⟨k + n, r - n, y3, d - n, b2, HK.out, rfl, HI.out, HD.out, hin2, by rw [HS3.out, HL3.out]; exact HR.out, HB3.out, HK4.out⟩ | ((repeat apply Exists.intro); exact ⟨⟨k + n, r - n, y3, d - n, b2, HK.out, rfl, HI.out, HD.out, hin2, by rw [HS3.out, HL3.out]; exact HR.out, HB3.out, HK4.out⟩, rfl⟩)
        case measure => simpa [vlen] using HM.out
    · obtain rfl : r = 0 := by omega
      obtain rfl : k = m.length := by omega
      rw [List.take_length] at hR hb
      go_wp2
      exact bodyPost_end (v := .tuple #[]) (by simp [results, Try.f8]) rfl ⟨rfl, ⟨b, hR, hb⟩, hK⟩
end Go.Proofs.Ytajmlfcbppnpgaa
