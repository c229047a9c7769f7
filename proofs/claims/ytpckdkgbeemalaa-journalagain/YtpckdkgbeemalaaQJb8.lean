import Derived.Test.YtpckdkgbeemalaaQJb7
import Derived.Test.YtpckdkgbeemalaaQRef12
import Derived.Test.YtpckdkgbeemalaaQMrk8
namespace Go.Proofs.Ytpckdkgbeemalaa
open Go.RowKit

/-! journal.Replay -/
set_option linter.unusedSimpArgs false in
set_option maxRecDepth 100000 in
set_option maxHeartbeats 2000000 in
theorem jReadDown (w : World) (d : Value) (st : DSt) (F R : List Nat) (h : DevIs w d st F R) (hs : StSm st) (hd : st.down = true) :
    Calls Try.prog 26 #[d, .int .i64 2, .int .i64 9] w fun e w' => e = .returned (.tuple #[.slice none 0 0, .int .i64 21]) ∧ DPost w d F R st w' := by
  have hmk : (mkS10 (.int .i64 9) (.int .i64 9)).run Try.prog w = .ok (.value (.slice (some ⟨w.heap.size, 0, none⟩) 9 9)) (w.alloc (.cells (flK secE (List.replicate 9 secZ)).toArray 44)) := run_mkS10 w 9 (by omega)
  generalize (flK secE (List.replicate 9 secZ)).toArray = Z9 at hmk
  have b0 := below_alloc w (.cells Z9 44)
  have hR := devRead _ d st F R 2 (devLater h b0) (by have := hs.pend; omega) (by have := hs.rd; omega)
  have e1 : rdRes st 2 = 21 := by unfold rdRes; rw [hd]; rfl
  have e2 : rdSt st 2 = st := by unfold rdSt; rw [e1]; rfl
  rw [e1, e2] at hR
  obtain ⟨s, hsv⟩ : ∃ q, rdSec st 2 = q := ⟨_, rfl⟩
  rw [hsv] at hR
  have HST : Hid (∀ w2, DPost (w.alloc (.cells Z9 44)) d F R st w2 → DPost w d F R st (w2.alloc (.cells (secA s) 44))) := fun w2 h2 => DPost.later (DPost.step (fun _ h => .inl h) (fun _ h => .inl h) (Keep.of_below b0) h2) (below_alloc _ _)
  obtain ⟨a, rfl⟩ := dvOk.ptr h
  clear hsv e1 e2 b0 h
  go_enter Try.func26, Try.ntmps26
  go_upto_region 2 with fail
  generalize w.alloc (.cells Z9 44) = X at hR HST ⊢
  clear hmk
  go_wp2_with fail
  go_loopw [16] (fun iv wr => iv = .int .i64 0 ∧ wr = X) (fun _ _ => 0)
  case atStart => exact ⟨rfl, rfl⟩
  case round =>
    obtain ⟨rfl, rfl⟩ := hrel
    go_wp2_with fail
    refine hR.mono ?_
    rintro e w2 ⟨rfl, hD⟩
    have HP : Hid (DPost w (.pointer (some a)) F R st (w2.alloc (.cells (secA s) 44))) := HST.out w2 hD
    clear hR hD HST
    go_wp2_with fail
    go_ret2
    exact ⟨rfl, HP.out⟩
def leftA (k : Int) (l : List Wr) : List (List JAc) := if k = 2 then [l.map some, [none], [some (2, secZ)], [none]] else if k = 3 then [[some (2, secZ)], [none]] else []
theorem left_seq (st : DSt) (k : Int) (l : List Wr) : seqR st (if k = 2 then [l, clrL] else if k = 3 then [clrL] else []) = runR st (leftA k l).flatten ∧ seqS st (if k = 2 then [l, clrL] else if k = 3 then [clrL] else []) = runS st (leftA k l).flatten := by
  obtain ⟨h1, h2⟩ := seq_run (if k = 2 then [l, clrL] else if k = 3 then [clrL] else []) st
  rw [h1, h2]
  have e : acLs (if k = 2 then [l, clrL] else if k = 3 then [clrL] else []) = (leftA k l).flatten := by
    unfold leftA acLs
    by_cases a : k = 2
    · simp [a, acL, clrL]
    · by_cases b : k = 3
      · simp [b, acL, clrL]
      · simp [a, b]
  rw [e]; exact ⟨rfl, rfl⟩
theorem left_len (d : Value) (b : Array Value) (k : Int) (l : List Wr) : (leftA k l).length = (leftF d b k).length ∧ (leftF d b k).length ≤ 4 := by
  unfold leftA leftF
  by_cases a : k = 2
  · simp [a]
  · by_cases c : k = 3
    · simp [c]
    · simp [a, c]
theorem left_flat (k : Int) (l : List Wr) (n : Nat) (h : l.length = n) : (leftA k l).flatten.length ≤ n + 3 := by
  unfold leftA
  by_cases a : k = 2
  · simp [a, h]
  · by_cases c : k = 3
    · simp [c]
    · simp [a, c]
theorem left_fn (d : Value) (b : Array Value) (k : Int) (p : FuncId × Value) (hp : p ∈ leftF d b k) : ∀ args w, (callFunc p.1 args).run Try.prog w = .ok (.enter p.1 args) w := by
  have hp' : p.1 = 40 ∨ p.1 = 38 ∨ p.1 = 41 := by
    unfold leftF at hp
    split at hp
    · simp only [List.mem_cons, List.not_mem_nil, or_false] at hp
      rcases hp with rfl | rfl | rfl | rfl <;> simp
    · split at hp
      · simp only [List.mem_cons, List.not_mem_nil, or_false] at hp
        rcases hp with rfl | rfl <;> simp
      · simp at hp
  obtain ⟨f, pv⟩ := p
  simp only at hp' ⊢
  rcases hp' with rfl | rfl | rfl
  · intro args w; rfl
  · intro args w; rfl
  · intro args w; rfl
theorem jReplayDown (w : World) (d : Value) (st : DSt) (F R : List Nat) (h : DevIs w d st F R) (hs : StSm st) (hd : st.down = true) :
    Calls Try.prog 10 #[d] w fun e w' => e = .returned (.tuple #[.int .i64 0, .int .i64 21]) ∧ DPost w d F R st w' := by
  have hR := jReadDown w d st F R h hs hd
  obtain ⟨a, rfl⟩ := dvOk.ptr h
  clear h
  go_enter Try.func10, Try.ntmps10
  go_wp2_with fail
  refine hR.mono ?_
  rintro e w2 ⟨rfl, hD⟩
  have HP : Hid _ := hD
  clear hR hD
  go_wp2_with fail
  go_ret2
  exact ⟨rfl, HP.out⟩
set_option linter.unusedSimpArgs false in
set_option maxRecDepth 100000 in
set_option maxHeartbeats 4000000 in
theorem jReplayUp (w : World) (d : Value) (st : DSt) (F R : List Nat) (h : DevIs w d st F R) (hs : StSm st) (hd : st.down = false) :
    Calls Try.prog 10 #[d] w fun e w' => e = .returned (.tuple #[.int .i64 (repK st), .int .i64 (repE st)]) ∧ DPost w d F R (repS st) w' := by
  have hok := dvOk.ok h
  have hRd := jRead w d st F R h hs hd
  obtain ⟨a, rfl⟩ := dvOk.ptr h
  clear h
  go_enter Try.func10, Try.ntmps10
  go_wp2_with fail
  refine hRd.mono ?_
  rintro e V ⟨gl, rfl, hl9, F1, R1, a1, a2, a3, a4⟩
  clear hRd
  obtain ⟨O9, hO9⟩ : ∃ q, over st.last st.pend = q := ⟨_, rfl⟩
  have hOl : O9.length = st.last.length := by rw [← hO9, over_len]
  have hlo := hok.lo
  have hhi := hok.hi
  obtain ⟨m, hm⟩ : ∃ q, st.last.length = q := ⟨_, rfl⟩
  rw [hm] at hOl hlo hhi
  rw [hO9] at hl9
  obtain ⟨s2, hs2⟩ : ∃ q, (O9[2]?).getD secZ = q := ⟨_, rfl⟩
  obtain ⟨J8, hJ8⟩ : ∃ q, (O9.drop 3).take 8 = q := ⟨_, rfl⟩
  rw [hs2, hJ8] at hl9
  have hJl : J8.length = 8 := by rw [← hJ8, List.length_take, List.length_drop]; omega
  have hKK : mStK s2 J8 (m : Int) = rpK st := by unfold rpK dK; rw [hO9, hs2, hJ8, hOl]
  have hLL : mStL s2 J8 (m : Int) = rpL st := by unfold rpL dW; rw [hO9, hs2, hJ8, hOl]
  have hSt0 := fun x hi => mStOk s2 J8 (some ⟨gl, 64, none⟩) 8 8 (m : Int) x hJl (by omega) hi ⟨by omega, by omega⟩
  rw [hKK, hLL] at hSt0
  have hL8 : (rpL st).length ≤ 8 := by
    rw [← hLL]
    unfold mStL
    cases mComm s2 J8 (m : Int)
    · simp
    · show (stA s2 J8).length ≤ 8
      unfold stA
      rw [stL_len]; exact stN8_le _
  have hLs : rpLs st = (if rpK st = 2 then [rpL st, clrL] else if rpK st = 3 then [clrL] else []) := rfl
  obtain ⟨K9, hK9⟩ : ∃ q, rpK st = q := ⟨_, rfl⟩
  obtain ⟨L9, hL9⟩ : ∃ q, rpL st = q := ⟨_, rfl⟩
  rw [hK9] at hSt0 hLs
  rw [hL9] at hSt0 hL8 hLs
  obtain ⟨Q9, hQ9⟩ : ∃ q, L9.length = q := ⟨_, rfl⟩
  rw [hQ9] at hSt0 hL8
  have hSt : ∀ x, IsK secE x (.slice (some ⟨gl, 64, none⟩) 8 8) J8 → Calls Try.prog 27 #[.agg (secA s2), .slice (some ⟨gl, 64, none⟩) 8 8, .int .i64 (m : Int)] x fun r w' => ∃ y c', r = .returned (.tuple #[.int .i64 K9, .slice y Q9 c']) ∧ OwnK wrE w' x.heap.size (.slice y Q9 c') L9 ∧ Below x.heap.size x w' := hSt0
  have hE0 : repE st = seqR (rd9 st) (rpLs st) := by unfold repE; rw [hd]; rfl
  have hS0 : repS st = seqS (rd9 st) (rpLs st) := by unfold repS; rw [hd]; rfl
  rw [hLs] at hE0 hS0
  rw [(left_seq _ _ _).1] at hE0
  rw [(left_seq _ _ _).2] at hS0
  have hB9 : ∀ a : List JAc, a.length ≤ 11 → Room (rd9 st) a := fun a ha => Room.few a (rd9 st) (by have := hs.pend; show st.pend.length + _ ≤ _; omega) (by have := hs.wt; show st.wt + _ ≤ _; omega) (by have := hs.fl; show st.fl + _ ≤ _; omega)
  obtain ⟨sr, hsr⟩ : ∃ q, rd9 st = q := ⟨_, rfl⟩
  have zl : sr.last.length = m := by rw [← hsr]; exact hm
  rw [hsr] at a1 hE0 hS0 hB9
  have hN : ∀ x, Below V.heap.size V x → Calls Try.prog 28 #[.pointer (some a)] x fun e w' => e = .returned (.int .i64 (m : Int)) ∧ Below x.heap.size x w' := fun x hx => by
    have := devN x _ sr F1 R1 (devLater a1 hx)
    rw [zl] at this; exact this
  have hrr := hl9.range secE_ok 0 s2 rfl
  rw [secE_k] at hrr
  have hrg9 := rg_of (k := 64) hrr (by rw [secE_ok.len]; rfl)
  rw [secE_arr] at hrg9
  obtain ⟨rk, rv⟩ := hrg9
  rw [Nat.zero_mul] at rk rv
  have HRK : Hid (repK st = if repE st = 0 then K9 else 0) := by show _ = _; unfold repK; rw [hK9]
  have HE0 : Hid (repE st = runR sr (leftA K9 L9).flatten) := hE0
  have HS0 : Hid (repS st = runS sr (leftA K9 L9).flatten) := hS0
  have HDV : Hid ((∀ q ∈ F1, q ∈ F ∨ w.heap.size ≤ q) ∧ (∀ q ∈ R1, q ∈ R ∨ w.heap.size ≤ q) ∧ Keep F w V ∧ ∀ q ∈ F1, q < V.heap.size) := ⟨a2, a3, a4, fun q hq => dvOk.lt a1 q (dvOk.sub a1 q hq)⟩
  clear hSt0 hKK hLL hLs hE0 hS0 hrr hK9 hL9 hsr hs2 hJ8 a2 a3 a4 hs hok hm hO9
  go_upto_region 6 with fail
  refine wp_reliesC [Fx (.slice (some ⟨gl, 0, none⟩) 9 9), Fx (.pointer (some ⟨gl, 0, none⟩)), Fx (.agg (secA s2)), Fx (.slice (some ⟨gl, 0, none⟩) 9 9), Fx (.slice (some ⟨gl, 64, none⟩) 8 8), Fx (.pointer (some a)), Fx (.int .i64 ((m : Int))), TupR V.heap.size K9 Q9 L9, TupR V.heap.size K9 Q9 L9, Fx (.int .i64 (K9)), SlR V.heap.size Q9 L9, Fx (.int .i64 (K9))] (by kernel_rfl) (by kernel_rfl) ?_ ?_ ?_
  · repeat' (first | exact all_nil | apply all_cons)
    all_goals intro v y y' hv hb
    all_goals first | exact Fx_mono _ _ _ _ hv hb | exact TupR.keep hv hb | exact SlR.keep hv hb
  · refine ⟨?_, ?_, ?_, ?_, ?_, ?_, ?_, ?_, ?_, ?_, ?_, ?_, trivial⟩
    all_goals
      intro ρ x hp ρc ρg ρf ho hd
      have o0 : ρ (.tmp 0) = .pointer (some a) := ho 0 rfl
      have o4 : ρ (.tmp 4) = .slice (some ⟨gl, 0, none⟩) 9 9 := ho 4 rfl
      clear ho
      simp only [depsR, depR, slotR, Fx, List.getElem?_cons_succ, List.getElem?_cons_zero, Region.binds, forall_const] at hd
      simp only [guardR]
      go_split_ands
    · go_simp
    · go_simp
    · obtain ⟨kk1, kk2⟩ := rg_later10 hp rk rv
      go_simp
    · go_simp
    · go_simp
    · go_simp
    · go_simp
      refine (hN x hp).mono ?_
      rintro e x' ⟨rfl, hw⟩
      exact ⟨_, rfl, rfl, hw⟩
    · go_simp
      refine (hSt x (isK_tail10 (OwnK.keep hl9 hp) hJl)).mono ?_
      rintro e x' ⟨y8, c8, rfl, ho8, hw⟩
      exact ⟨_, rfl, ⟨y8, c8, rfl, OwnK.le ho8 hp.size⟩, hw⟩
    · obtain ⟨y8, c8, hv8, ho8⟩ : TupR V.heap.size K9 Q9 L9 (ρ (.tmp 28)) x := by first | exact hd | exact hd.1 | assumption
      go_simp
      exact ⟨y8, c8, rfl, ho8⟩
    · obtain ⟨y8, c8, hv8, ho8⟩ : TupR V.heap.size K9 Q9 L9 (ρ (.tmp 20)) x := by first | exact hd | exact hd.1 | assumption
      go_simp
    · obtain ⟨y8, c8, hv8, ho8⟩ : TupR V.heap.size K9 Q9 L9 (ρ (.tmp 20)) x := by first | exact hd | exact hd.1 | assumption
      go_simp
      exact ⟨y8, c8, rfl, ho8⟩
    · go_simp
  · intro vs x1 hp hw
    simp only [owed, Fx] at hw
    obtain ⟨e0, e1, e2, e3, e4, e5, e6, ⟨y7, c7, e7, -⟩, ⟨y8, c8, e8, -⟩, e9, ⟨y13, c13, e10, ho13⟩, e11, -⟩ := hw
    simp only [List.length_cons, List.length_nil, List.take_succ_cons, List.take_zero, List.drop_succ_cons, List.drop_zero, asg, List.cons_append, List.nil_append, e0, e1, e2, e3, e4, e5, e6, e7, e8, e9, e10, e11]
    clear e0 e1 e2 e3 e4 e5 e6 e7 e8 e9 e10 e11
    have hRx := devLater a1 hp
    have hVx := hp.size
    have HVK : Hid (Below V.heap.size V x1) := hp
    clear a1 hl9 hp rk rv hSt hN
    obtain ⟨W, hW⟩ : ∃ q, x1.alloc (.cells (batA (.pointer (some a)) (.slice y13 Q9 c13) secZ) 75) = q := ⟨_, rfl⟩
    have bW : Below x1.heap.size x1 W := by rw [← hW]; exact below_alloc _ _
    have rW : RowC W x1.heap.size (batA (.pointer (some a)) (.slice y13 Q9 c13) secZ) := by rw [← hW]; exact RowC.new _ _ _
    have hLf := jLeft W (some a) y13 Q9 c13 secZ K9
    obtain ⟨rW1, rW2⟩ := rW
    have HW : Hid _ := hW
    clear hW
    go_upto_region 8 with fail
    rw [HW.out]
    clear HW
    go_wp2_with fail
    refine hLf.mono ?_
    rintro e w2 ⟨y, c', n', hn', rfl, hG, hy, hB2⟩
    have hb12 : Below x1.heap.size x1 w2 := bW.trans (hB2.mono bW.size)
    have hD2 := devLater hRx hb12
    have hK2 : IsK wrE w2 (.slice y13 Q9 c13) L9 := (OwnK.isK wrE_ok ho13).kept hb12
    have hx13 : L9 ≠ [] → ∀ b, y13 = some b → b.block ∉ F1 := fun _ b hb hm => by
      subst hb
      have h1 := (World.ownsRow.lt ho13 b.block rfl).1
      have h2 := HDV.out.2.2.2 _ hm
      omega
    have hxy : ∀ b, y = some b → b.block ∉ F1 := fun b hb hm => by
      have h1 := hy b hb
      have h2 := HDV.out.2.2.2 _ hm
      have h3 := bW.size
      omega
    have hT := inTurn_any w2 _ sr F1 R1 hD2 y n' c' (leftF (.pointer (some a)) (batA (.pointer (some a)) (.slice y13 Q9 c13) secZ) K9) (leftA K9 L9) hn' (by rw [← hn']; exact (left_len _ _ _ _).1) (by rw [← hn']; exact Nat.le_trans (left_len (.pointer (some a)) (batA (.pointer (some a)) (.slice y13 Q9 c13) secZ) K9 L9).2 (by omega)) hG hxy (left_fn _ _ _) (fun i p l hp hl => by
        unfold leftF at hp
        unfold leftA at hl
        by_cases k2 : K9 = 2
        · rw [if_pos k2] at hp hl
          match i with
          | 0 => cases hp; cases hl; exact StepOk.apply _ _ _ _ _ _ _ _ hQ9 (by omega) hK2 hx13
          | 1 => cases hp; cases hl; exact StepOk.flush _ _ _
          | 2 => cases hp; cases hl; exact StepOk.empty _ _ _ _ _
          | 3 => cases hp; cases hl; exact StepOk.flush _ _ _
          | i + 4 => cases hp
        · rw [if_neg k2] at hp hl
          by_cases k3 : K9 = 3
          · rw [if_pos k3] at hp hl
            match i with
            | 0 => cases hp; cases hl; exact StepOk.empty _ _ _ _ _
            | 1 => cases hp; cases hl; exact StepOk.flush _ _ _
            | i + 2 => cases hp
          · rw [if_neg k3] at hp
            cases hp) (hB9 _ (Nat.le_trans (left_flat K9 L9 Q9 hQ9) (by omega)))
    have hE1 := HE0.out
    have hS1 := HS0.out
    rw [← hE1, ← hS1] at hT
    have HST : Hid (∀ w3, DPost w2 (.pointer (some a)) F1 R1 (repS st) w3 → DPost w (.pointer (some a)) F R (repS st) w3) := fun w3 h3 => by
      obtain ⟨d1, d2, d3, d4⟩ := HDV.out
      refine DPost.step (w1 := w2) d1 d2 ?_ h3
      exact d3.trans ((Keep.of_below HVK.out).trans (Keep.of_below hb12))
    clear hLf hG hy hB2 bW rW1 rW2 hD2 hK2 hx13 hxy hRx ho13 hE1 hS1 HE0 HS0 hb12 HDV
    have hRK := HRK.out
    obtain ⟨RE, hRE⟩ : ∃ q, repE st = q := ⟨_, rfl⟩
    rw [hRE] at hT hRK
    have HRE : Hid (repE st = RE ∧ repK st = if RE = 0 then K9 else 0) := ⟨hRE, hRK⟩
    clear hRK HRK hRE
    go_wp2_with fail
    go_at_call 29
    refine hT.mono ?_
    rintro e w3 ⟨rfl, hP⟩
    have HP : Hid _ := HST.out w3 hP
    clear hT hP HST
    by_cases h0 : RE = 0
    · subst h0
      have HR2 : Hid (repE st = 0 ∧ repK st = K9) := by
        have h1 := HRE.out
        rw [if_pos rfl] at h1; exact h1
      clear HRE
      go_wp2_with fail
      go_ret2
      exact ⟨by rw [HR2.out.1, HR2.out.2]; rfl, HP.out⟩
    · have HR2 : Hid (repE st = RE ∧ repK st = 0) := by
        have h1 := HRE.out
        rw [if_neg h0] at h1; exact h1
      clear HRE
      go_wp2_with fail
      go_ret2
      exact ⟨by rw [HR2.out.1, HR2.out.2]; rfl, HP.out⟩
end Go.Proofs.Ytpckdkgbeemalaa
namespace Go.Proofs.Ytpckdkgbeemalaa
open Go.RowKit

/-! journal.Do -/
def doF (d : Value) (b : Array Value) : List (FuncId × Value) := [(37, .agg b), (38, d), (39, .agg b), (38, d), (40, .agg b), (38, d), (41, .agg b), (38, d)]
def doA (l : List Wr) (s : Sc) : List (List JAc) := [(jlW l).map some, [none], [some (2, s)], [none], l.map some, [none], [some (2, secZ)], [none]]
theorem do_seq (st : DSt) (l : List Wr) (s : Sc) : seqR st [jlW l, [(2, s)], l, clrL] = runR st (doA l s).flatten ∧ seqS st [jlW l, [(2, s)], l, clrL] = runS st (doA l s).flatten := by
  obtain ⟨h1, h2⟩ := seq_run [jlW l, [(2, s)], l, clrL] st
  rw [h1, h2]
  have e : acLs [jlW l, [(2, s)], l, clrL] = (doA l s).flatten := by
    unfold doA acLs
    simp [acL, clrL]
  rw [e]; exact ⟨rfl, rfl⟩
theorem do_room (st : DSt) (l : List Wr) (s : Sc) (hs : StSm st) (hl : l.length ≤ 8) : Room st (doA l s).flatten := by
  have e : (doA l s).flatten = acL (jlW l) ++ (acL [(2, s)] ++ acL l ++ acL clrL) := by unfold doA; simp [acL, clrL]
  rw [e, Room.app]
  have hj := jlW_len l
  refine ⟨hs.room _ (by unfold acL; simp; omega), fun h0 => ?_⟩
  rw [← (put_run (jlW l) st).1] at h0
  rw [← (put_run (jlW l) st).2]
  have h1 := jp_zero _ _ h0
  have h2 := jp_sm (jlW l) st
  have hw := hs.wt
  have hf := hs.fl
  have hlen : (acL [(2, s)] ++ acL l ++ acL clrL).length = l.length + 5 := by unfold acL clrL; simp
  exact Room.few _ _ (by rw [hlen]; omega) (by rw [hlen]; omega) (by rw [hlen]; omega)
theorem do_fn (d : Value) (b : Array Value) (p : FuncId × Value) (hp : p ∈ doF d b) : ∀ args w, (callFunc p.1 args).run Try.prog w = .ok (.enter p.1 args) w := by
  have hp' : p.1 = 40 ∨ p.1 = 38 ∨ p.1 = 41 ∨ p.1 = 37 ∨ p.1 = 39 := by
    unfold doF at hp
    simp only [List.mem_cons, List.not_mem_nil, or_false] at hp
    rcases hp with rfl | rfl | rfl | rfl | rfl | rfl | rfl | rfl <;> simp
  obtain ⟨f, pv⟩ := p
  simp only at hp' ⊢
  rcases hp' with rfl | rfl | rfl | rfl | rfl
  all_goals intro args w; rfl
theorem put_errs (l : List Wr) (n : Nat) (h0 : 64 ≤ n) (h1 : n ≤ 1024) : (mPutE l (n : Int) = 0 ∧ l.length ≤ 8) ∨ mPutE l (n : Int) = 24 := by
  rcases mPut_bat h0 h1 l with ⟨h, -, hb⟩ | ⟨h, -⟩
  · exact .inl ⟨h, (bat_len hb).2⟩
  · exact .inr h
set_option linter.unusedSimpArgs false in
set_option maxRecDepth 100000 in
set_option maxHeartbeats 4000000 in
theorem jDo (w : World) (d : Value) (st : DSt) (F R : List Nat) (x : Option Addr) (L c : Nat) (l : List Wr) (h : DevIs w d st F R) (hs : StSm st) (hL : l.length = L) (hL9 : L ≤ 2199023255552) (hl : IsK wrE w (.slice x L c) l) (hx : ∀ a, x = some a → a.block ∉ F) (hwb : WrB l) :
    Calls Try.prog 17 #[d, .slice x L c] w fun e w' => e = .returned (.int .i64 (doR st l)) ∧ DPost w d F R (doS st l) w' := by
  have hok := dvOk.ok h
  have hN := devN w d st F R h
  have hE := put_errs l st.last.length hok.lo hok.hi
  have hPut := fun x0 (hb : Below w.heap.size w x0) => mPutOk l x L c (st.last.length : Int) x0 hL hL9 (hl.kept hb) hwb ⟨by have := hok.hi; omega, by have := hok.hi; omega⟩
  have hR0 : doR st l = (if mPutE l (st.last.length : Int) = 0 then seqR st (doL l (st.last.length : Int)) else mPutE l (st.last.length : Int)) := rfl
  have hS0 : doS st l = (if mPutE l (st.last.length : Int) = 0 then seqS st (doL l (st.last.length : Int)) else st) := rfl
  unfold doL at hR0 hS0
  rw [(do_seq _ _ _).1] at hR0
  rw [(do_seq _ _ _).2] at hS0
  obtain ⟨a, rfl⟩ := dvOk.ptr h
  obtain ⟨m, hm⟩ : ∃ q, st.last.length = q := ⟨_, rfl⟩
  rw [hm] at hN hE hR0 hS0
  simp only [hm] at hPut
  obtain ⟨s, hsv⟩ : ∃ q, mPutS l (m : Int) = q := ⟨_, rfl⟩
  obtain ⟨E, hEv⟩ : ∃ q, mPutE l (m : Int) = q := ⟨_, rfl⟩
  rw [hsv] at hR0 hS0
  rw [hEv] at hR0 hS0 hE
  simp only [hsv, hEv] at hPut
  have HD : Hid (DevIs w (.pointer (some a)) st F R) := h
  have HRS : Hid (doR st l = (if E = 0 then runR st (doA l s).flatten else E) ∧ doS st l = (if E = 0 then runS st (doA l s).flatten else st)) := ⟨hR0, hS0⟩
  clear hR0 hS0 hEv hsv h hok hm
  go_enter Try.func17, Try.ntmps17
  go_wp2_with fail
  go_at_call 28
  refine hN.mono ?_
  rintro e w1 ⟨rfl, hb1⟩
  have hP1 := hPut w1 hb1
  clear hN hPut
  go_wp2_with fail
  go_at_call 36
  refine hP1.mono ?_
  rintro e w2 ⟨rfl, hb2⟩
  have hb12 := hb1.trans (hb2.mono hb1.size)
  clear hP1
  rcases hE with ⟨rfl, hl8⟩ | rfl
  · have HR2 : Hid (doR st l = runR st (doA l s).flatten ∧ doS st l = runS st (doA l s).flatten) := by
      have h1 := HRS.out
      rw [if_pos rfl, if_pos rfl] at h1; exact h1
    clear HRS
    have hb3 := below_alloc w2 (.cells (secA s) 44)
    obtain ⟨r3o, r3a⟩ := ScR.new w2 s 44
    obtain ⟨X3, hX3⟩ : ∃ q, w2.alloc (.cells (secA s) 44) = q := ⟨_, rfl⟩
    rw [hX3] at hb3 r3o r3a
    obtain ⟨W, hW⟩ : ∃ q, X3.alloc (.cells (batA (.pointer (some a)) (.slice x L c) s) 75) = q := ⟨_, rfl⟩
    have bW : Below X3.heap.size X3 W := by rw [← hW]; exact below_alloc _ _
    have rW : RowC W X3.heap.size (batA (.pointer (some a)) (.slice x L c) s) := by rw [← hW]; exact RowC.new _ _ _
    have hbW : Below w.heap.size w W := (hb12.trans (hb3.mono hb12.size)).trans (bW.mono (Nat.le_trans hb12.size hb3.size))
    have bS := below_alloc W (.cells ((doF (.pointer (some a)) (batA (.pointer (some a)) (.slice x L c) s)).map mvV).toArray 110)
    have hS := isG_new W ((doF (.pointer (some a)) (batA (.pointer (some a)) (.slice x L c) s)).map mvV) 110 8 rfl
    have hbS := hbW.trans (bS.mono hbW.size)
    have hKS := hl.kept hbS
    have hT := inTurn_any _ _ st F R (devLater HD.out hbS) _ 8 8 (doF (.pointer (some a)) (batA (.pointer (some a)) (.slice x L c) s)) (doA l s) rfl rfl (by omega) hS (fun y hy => by cases hy; exact notF HD.out hbW.size) (do_fn _ _) (fun i p ls hp hq => by
      match i with
      | 0 => cases hp; cases hq; exact StepOk.keep _ _ _ _ _ _ _ _ hL (by omega) hKS (fun _ => hx)
      | 1 => cases hp; cases hq; exact StepOk.flush _ _ _
      | 2 => cases hp; cases hq; exact StepOk.commit _ _ _ _ _
      | 3 => cases hp; cases hq; exact StepOk.flush _ _ _
      | 4 => cases hp; cases hq; exact StepOk.apply _ _ _ _ _ _ _ _ hL (by omega) hKS (fun _ => hx)
      | 5 => cases hp; cases hq; exact StepOk.flush _ _ _
      | 6 => cases hp; cases hq; exact StepOk.empty _ _ _ _ _
      | 7 => cases hp; cases hq; exact StepOk.flush _ _ _
      | i + 8 => cases hp) (do_room st l s hs hl8)
    rw [← HR2.out.1, ← HR2.out.2] at hT
    have HFIN : Hid (∀ w3, DPost (W.alloc (.cells ((doF (.pointer (some a)) (batA (.pointer (some a)) (.slice x L c) s)).map mvV).toArray 110)) (.pointer (some a)) F R (doS st l) w3 → DPost w (.pointer (some a)) F R (doS st l) w3) := fun w3 h3 => DPost.step (fun _ h => .inl h) (fun _ h => .inl h) (Keep.of_below hbS) h3
    obtain ⟨RE, hRE⟩ : ∃ q, doR st l = q := ⟨_, rfl⟩
    rw [hRE] at hT
    have HRE : Hid (doR st l = RE) := hRE
    obtain ⟨rW1, rW2⟩ := rW
    have HX3 : Hid _ := hX3
    have HW : Hid _ := hW
    clear hX3 hW hKS hbS hS bS hRE HR2
    go_upto_region 6 with fail
    rw [HX3.out]
    clear HX3
    go_upto_region 7 with fail
    rw [HW.out]
    clear HW
    have hT2 : Calls Try.prog 29 #[.slice (some ⟨W.heap.size, 0, none⟩) 8 8] (W.alloc (.cells #[.func (.func 37) #[.agg (batA (.pointer (some a)) (.slice x L c) s)] #[], .func (.func 38) #[.pointer (some a)] #[], .func (.func 39) #[.agg (batA (.pointer (some a)) (.slice x L c) s)] #[], .func (.func 38) #[.pointer (some a)] #[], .func (.func 40) #[.agg (batA (.pointer (some a)) (.slice x L c) s)] #[], .func (.func 38) #[.pointer (some a)] #[], .func (.func 41) #[.agg (batA (.pointer (some a)) (.slice x L c) s)] #[], .func (.func 38) #[.pointer (some a)] #[]] 110)) fun e w' => e = .returned (.int .i64 RE) ∧ DPost w (.pointer (some a)) F R (doS st l) w' := hT.mono (fun e w' h => ⟨h.1, HFIN.out w' h.2⟩)
    clear hT HFIN
    go_wp2_with fail
    go_at_call 29
    refine hT2.mono ?_
    rintro e w3 ⟨rfl, hP⟩
    have HP : Hid _ := hP
    clear hT2 hP rW1 rW2 r3o r3a
    go_wp2_with fail
    go_ret
    exact ⟨by rw [HRE.out]; rfl, HP.out⟩
  · have HP : Hid (doR st l = 24 ∧ DPost w (.pointer (some a)) F R (doS st l) (w2.alloc (.cells (secA s) 44))) := by
      have h1 := HRS.out
      rw [if_neg (by omega), if_neg (by omega)] at h1
      refine ⟨h1.1, ?_⟩
      rw [h1.2]
      exact DPost.grow HD.out (hb12.trans ((below_alloc w2 _).mono hb12.size))
    clear HRS hb12 hb1 hb2
    go_wp2_with fail
    go_ret
    exact ⟨by rw [HP.out.1]; rfl, HP.out.2⟩
theorem jOk : JOk DevIs where
  do_ w d st F R x L c l h hs hL hL9 hl hx hwb := jDo w d st F R x L c l h hs hL hL9 hl hx hwb
  replay w d st F R h hs := by
    cases hd : st.down with
    | false => exact jReplayUp w d st F R h hs hd
    | true =>
      have e1 : repE st = 21 := by unfold repE; rw [hd]; rfl
      have e2 : repK st = 0 := by unfold repK; rw [e1]; rfl
      have e3 : repS st = st := by unfold repS; rw [hd]; rfl
      rw [e1, e2, e3]
      exact jReplayDown w d st F R h hs hd
  clear_ w d st F R h hs := jClear w d st F R h hs
end Go.Proofs.Ytpckdkgbeemalaa
