import Derived.Test.YtpckdkgbeemalaaQBit1
import Derived.Test.YtpckdkgbeemalaaQDvZ
import Derived.Test.YtpckdkgbeemalaaQJpo
import Derived.Test.YtpckdkgbeemalaaQJouM
namespace Go.Proofs.Ytpckdkgbeemalaa
open Go.RowKit

/-! Acts one behind the other: at each of them the state's numbers are far from their ends -/
def Room : DSt → List JAc → Prop
  | _, [] => True
  | st, a :: r => (st.pend.length ≤ 1099511627776 ∧ st.wt < 4611686018427387904 ∧ st.fl < 4611686018427387904) ∧ (acR st a = 0 → Room (acS st a) r)
theorem ac_sm (st : DSt) (a : JAc) : (acS st a).pend.length ≤ st.pend.length + 1 ∧ (acS st a).wt ≤ st.wt + 1 ∧ (acS st a).fl ≤ st.fl + 1 := by
  cases a with
  | none => obtain ⟨k1, k2, k3⟩ := fl_sm st; exact ⟨by show (flSt st).pend.length ≤ _; omega, by show (flSt st).wt ≤ _; omega, by show (flSt st).fl ≤ _; omega⟩
  | some x => obtain ⟨k1, k2, k3, -⟩ := wr_sm st x.1 x.2; exact ⟨by show (wrSt st x.1 x.2).pend.length ≤ _; omega, by show (wrSt st x.1 x.2).wt ≤ _; omega, by show (wrSt st x.1 x.2).fl ≤ _; omega⟩
theorem Room.few (a : List JAc) : ∀ st : DSt, st.pend.length + a.length ≤ 1099511627777 → st.wt + a.length ≤ 4611686018427387904 → st.fl + a.length ≤ 4611686018427387904 → Room st a := by
  induction a with
  | nil => intro st _ _ _; trivial
  | cons x r ih =>
    intro st h1 h2 h3
    simp only [List.length_cons] at h1 h2 h3
    obtain ⟨k1, k2, k3⟩ := ac_sm st x
    exact ⟨⟨by omega, by omega, by omega⟩, fun _ => ih _ (by omega) (by omega) (by omega)⟩
theorem Room.app (a b : List JAc) : ∀ st : DSt, Room st (a ++ b) ↔ Room st a ∧ (runR st a = 0 → Room (runS st a) b) := by
  induction a with
  | nil => intro st; simp [Room, runR, runS]
  | cons x r ih =>
    intro st
    simp only [List.cons_append, Room, runR, runS]
    by_cases h : acR st x = 0
    · simp only [h, if_true, forall_const]
      rw [ih]
      exact ⟨fun ⟨p, q, s⟩ => ⟨⟨p, q⟩, s⟩, fun ⟨⟨p, q⟩, s⟩ => ⟨p, q, s⟩⟩
    · simp [h]
theorem run_sm (a : List JAc) : ∀ st : DSt, (runS st a).pend.length ≤ st.pend.length + a.length ∧ (runS st a).wt ≤ st.wt + a.length ∧ (runS st a).fl ≤ st.fl + a.length := by
  induction a with
  | nil => intro st; simp [runS]
  | cons x r ih =>
    intro st
    obtain ⟨k1, k2, k3⟩ := ac_sm st x
    obtain ⟨i1, i2, i3⟩ := ih (acS st x)
    simp only [runS, List.length_cons]
    split
    · omega
    · omega
/-- A step: what is called does these acts. -/
def StepOk (w0 : World) (F0 : List Nat) (d : Value) (p : FuncId × Value) (a : List JAc) : Prop := ∀ w1 st F1 R1, DevIs w1 d st F1 R1 → (∀ q ∈ F1, q ∈ F0 ∨ w0.heap.size ≤ q) → Keep F0 w0 w1 → Room st a →
  Calls Try.prog p.1 #[p.2] w1 fun e w' => e = .returned (.int .i64 (runR st a)) ∧ DPost w1 d F1 R1 (runS st a) w'
theorem runA_one (st : DSt) (x : JAc) : runR st [x] = acR st x ∧ runS st [x] = acS st x := by
  simp only [runR, runS]
  by_cases h : acR st x = 0 <;> simp [h]
theorem StepOk.flush (w0 : World) (F0 : List Nat) (d : Value) : StepOk w0 F0 d (38, d) [none] := by
  intro w1 st F1 R1 h _ _ hb
  rw [(runA_one st none).1, (runA_one st none).2]
  exact devFlush w1 d st F1 R1 h hb.1.1 hb.1.2.2
def mvV (p : FuncId × Value) : Value := .func (.func p.1) #[p.2] #[]
theorem IsG.keeps10 {w w' : World} {G : List Nat} {x : Option Addr} {n c : Nat} {xs : List Value} (h : IsG w (.slice x n c) xs) (hK : Keep G w w') (hx : xs ≠ [] → ∀ a, x = some a → a.block ∉ G) : IsG w' (.slice x n c) xs := by
  rcases h with h | ⟨y, d, he, hc⟩
  · exact .inl h
  · refine .inr ⟨y, d, he, fun i hi => ?_⟩
    simp only [Value.slice.injEq] at he
    obtain ⟨rfl, -, -⟩ := he
    have hlt := World.block_lt_of_cell? w _ (hc i hi)
    have hne : xs ≠ [] := by rintro rfl; simp at hi
    have := hc i hi
    unfold World.cell? at this ⊢
    have hyb : (y.add i).block = y.block := by unfold Addr.add; split <;> rfl
    rw [hK.block _ hlt (by rw [hyb]; exact hx hne y rfl)]; exact this
set_option linter.unusedSimpArgs false in
set_option maxHeartbeats 1000000 in
theorem inTurn_any (w0 : World) (d : Value) (st0 : DSt) (F0 R0 : List Nat) (h0 : DevIs w0 d st0 F0 R0) (x : Option Addr) (n c : Nat) (fs : List (FuncId × Value)) (ls : List (List JAc)) (hn : fs.length = n) (ha : ls.length = n) (hl : n ≤ 1048576)
    (hS : IsG w0 (.slice x n c) (fs.map mvV)) (hx : ∀ a, x = some a → a.block ∉ F0) (hF : ∀ p ∈ fs, ∀ args w, (callFunc p.1 args).run Try.prog w = .ok (.enter p.1 args) w)
    (hC : ∀ (i : Nat) p a, fs[i]? = some p → ls[i]? = some a → StepOk w0 F0 d p a) (hB : Room st0 ls.flatten) :
    Calls Try.prog 29 #[.slice x n c] w0 fun e w' => e = .returned (.int .i64 (runR st0 ls.flatten)) ∧ DPost w0 d F0 R0 (runS st0 ls.flatten) w' := by
  obtain ⟨RE, hRE⟩ : ∃ q, runR st0 ls.flatten = q := ⟨_, rfl⟩
  obtain ⟨RS, hRS⟩ : ∃ q, runS st0 ls.flatten = q := ⟨_, rfl⟩
  rw [hRE, hRS]
  have H0 : Hid (∃ st1 F1 R1, DevIs w0 d st1 F1 R1 ∧ (∀ q ∈ F1, q ∈ F0 ∨ w0.heap.size ≤ q) ∧ (∀ q ∈ R1, q ∈ R0 ∨ w0.heap.size ≤ q) ∧ Keep F0 w0 w0 ∧ Room st1 (ls.drop 0).flatten ∧ runR st1 (ls.drop 0).flatten = RE ∧ runS st1 (ls.drop 0).flatten = RS) := ⟨st0, F0, R0, h0, fun _ h => .inl h, fun _ h => .inl h, Keep.refl _ _, hB, hRE, hRS⟩
  clear hRE hRS h0 hB
  go_enter Try.func29, Try.ntmps29
  go_wp2_with fail
  go_loopw [8] (fun iv wr => ∃ k : Nat, k ≤ n ∧ iv = .int .i64 k ∧ Hid (∃ st1 F1 R1, DevIs wr d st1 F1 R1 ∧ (∀ q ∈ F1, q ∈ F0 ∨ w0.heap.size ≤ q) ∧ (∀ q ∈ R1, q ∈ R0 ∨ w0.heap.size ≤ q) ∧ Keep F0 w0 wr ∧ Room st1 (ls.drop k).flatten ∧ runR st1 (ls.drop k).flatten = RE ∧ runS st1 (ls.drop k).flatten = RS)) (fun iv _ => n - (intOf iv).toNat)
  case atStart => exact ⟨0, by omega, rfl, H0⟩
  case round =>
    clear H0
    obtain ⟨k, hk, rfl, HI⟩ := hrel
    obtain ⟨st1, F1, R1, i1, i2, i3, i4, i5, i6, i7⟩ := HI.out
    clear HI
    by_cases hlt : k < n
    · obtain ⟨p, hp⟩ : ∃ p, fs[k]? = some p := ⟨_, List.getElem?_eq_getElem (by omega)⟩
      obtain ⟨a, hak⟩ : ∃ a, ls[k]? = some a := ⟨_, List.getElem?_eq_getElem (by omega)⟩
      have hdr : ls.drop k = a :: ls.drop (k + 1) := by
        rw [List.drop_eq_getElem_cons (by omega)]
        rw [List.getElem?_eq_getElem (by omega)] at hak
        rw [Option.some.inj hak]
      rw [hdr, List.flatten_cons] at i5 i6 i7
      rw [(runA_app _ _ _).1] at i6
      rw [(runA_app _ _ _).2] at i7
      rw [Room.app] at i5
      have hFp := hF p (List.mem_of_getElem? hp)
      have hSw := hS.keeps10 i4 (fun _ a ha => hx a ha)
      obtain ⟨bz, oz, rfl, hbz, hzc⟩ := hSw.spot k (by rw [List.length_map]; omega)
      have cz9 : wr.cell? ⟨bz, oz + k, none⟩ = some (mvV p) := hzc k _ (by rw [List.getElem?_map, hp]; rfl)
      unfold mvV at cz9
      have hcall := hC k p a hp hak wr st1 F1 R1 i1 i2 i4 i5.1
      have i5' := i5.2
      obtain ⟨f, pv⟩ := p
      simp only at cz9 hcall hFp
      have hk0 : (0 : Int) ≤ (k : Int) := by omega
      have hk1 : (k : Int) < (n : Int) := by omega
      obtain ⟨rk, hrk⟩ : ∃ q, runR st1 a = q := ⟨_, rfl⟩
      obtain ⟨sk, hsk⟩ : ∃ q, runS st1 a = q := ⟨_, rfl⟩
      rw [hrk] at i6 i7 hcall i5'
      rw [hsk] at i6 i7 hcall i5'
      have HS : Hid (IsG w0 (.slice (some ⟨bz, oz, none⟩) n c) (fs.map mvV)) := hS
      clear hzc hp hrk hsk hSw hS i5 i1
      by_cases hz : rk = 0
      · subst hz
        rw [if_pos rfl] at i6 i7
        have HR : Hid (∀ w2, DPost wr d F1 R1 sk w2 → ∃ st1 F1 R1, DevIs w2 d st1 F1 R1 ∧ (∀ q ∈ F1, q ∈ F0 ∨ w0.heap.size ≤ q) ∧ (∀ q ∈ R1, q ∈ R0 ∨ w0.heap.size ≤ q) ∧ Keep F0 w0 w2 ∧ Room st1 (ls.drop (k + 1)).flatten ∧ runR st1 (ls.drop (k + 1)).flatten = RE ∧ runS st1 (ls.drop (k + 1)).flatten = RS) := fun w2 h2 => by
          obtain ⟨F2, R2, b1, b2, b3, b4⟩ := DPost.step i2 i3 i4 h2
          exact ⟨sk, F2, R2, b1, b2, b3, b4, i5' rfl, i6, i7⟩
        clear i2 i3 i4 i5' i6 i7
        go_wp2_with fail
        refine hcall.mono ?_
        rintro e w2 ⟨rfl, hI2⟩
        have HI := HR.out w2 hI2
        have HI2 : Hid _ := HI
        clear hcall hI2 HR HI
        go_wp2_with fail
        go_roundw
        case rel => exact ⟨k + 1, by omega, by go_num, HI2⟩
        case measure => simp [intOf]; omega
      · rw [if_neg hz] at i6 i7
        have HR : Hid (∀ w2, DPost wr d F1 R1 sk w2 → DPost w0 d F0 R0 RS w2) := fun w2 h2 => by rw [← i7]; exact DPost.step i2 i3 i4 h2
        have HE : Hid (rk = RE) := i6
        clear i2 i3 i4 i5' i6 i7
        go_wp2_with fail
        refine hcall.mono ?_
        rintro e w2 ⟨rfl, hI2⟩
        have HI2 : Hid _ := HR.out w2 hI2
        clear hcall hI2 HR
        go_wp2_with fail
        go_ret
        exact ⟨by rw [← HE.out]; rfl, HI2.out⟩
    · obtain rfl : k = n := by omega
      have hlt' : ¬ (k : Int) < (k : Int) := by omega
      rw [List.drop_of_length_le (by omega)] at i6 i7
      have HI : Hid (DPost w0 d F0 R0 RS wr) := by show DPost _ _ _ _ _ _; rw [← i7]; exact ⟨F1, R1, i1, i2, i3, i4⟩
      have HZ : Hid (0 = RE) := i6
      clear i1 i2 i3 i4 i5 i6 i7
      go_wp2_with fail
      go_ret
      exact ⟨by rw [← HZ.out]; rfl, HI.out⟩
end Go.Proofs.Ytpckdkgbeemalaa
namespace Go.Proofs.Ytpckdkgbeemalaa
open Go.RowKit

/-! The steps of a batch -/
set_option linter.unusedSimpArgs false in
set_option maxRecDepth 100000 in
set_option maxHeartbeats 1000000 in
theorem StepOk.empty (w0 : World) (F0 : List Nat) (d : Option Addr) (v : Value) (s : Sc) : StepOk w0 F0 (.pointer d) (41, .agg (batA (.pointer d) v s)) [some (2, secZ)] := by
  intro w1 st F1 R1 h _ _ hb
  have h1 := hb.1.1
  have h2 := hb.1.2.1
  rw [(runA_one st _).1, (runA_one st _).2]
  show Calls Try.prog 41 #[.agg (batA (.pointer d) v s)] w1 fun e w' => e = .returned (.int .i64 (wrRes st 2)) ∧ DPost w1 (.pointer d) F1 R1 (wrSt st 2 secZ) w'
  have bX := below_alloc w1 (.cells (batA (.pointer d) v s) 75)
  obtain ⟨c0, c1, -⟩ := batRow (RowC.new w1 (batA (.pointer d) v s) 75)
  have hW := devWrite _ _ st F1 R1 2 secZ (devLater h bX) (by omega) (by omega)
  obtain ⟨RE, hRE⟩ : ∃ q, wrRes st 2 = q := ⟨_, rfl⟩
  rw [hRE] at hW ⊢
  clear h hRE c1
  go_enter Try.func41, Try.ntmps41
  go_upto_region 1 with fail
  generalize hg : w1.heap.size = g at c0 bX
  generalize w1.alloc (.cells (batA (.pointer d) v s) 75) = X at c0 bX hW ⊢
  go_wp2_with fail
  refine hW.mono ?_
  rintro e w2 ⟨rfl, hD, -⟩
  have HD : Hid (DPost w1 (.pointer d) F1 R1 (wrSt st 2 secZ) w2) := DPost.step (fun _ h => .inl h) (fun _ h => .inl h) (Keep.of_below (by rw [hg]; exact bX)) hD
  clear hW hD bX c0
  go_wp2_with fail
  go_ret
  exact ⟨rfl, HD.out⟩
set_option linter.unusedSimpArgs false in
set_option maxRecDepth 100000 in
set_option maxHeartbeats 1000000 in
theorem StepOk.commit (w0 : World) (F0 : List Nat) (d : Option Addr) (v : Value) (s : Sc) : StepOk w0 F0 (.pointer d) (39, .agg (batA (.pointer d) v s)) [some (2, s)] := by
  intro w1 st F1 R1 h _ _ hb
  have h1 := hb.1.1
  have h2 := hb.1.2.1
  rw [(runA_one st _).1, (runA_one st _).2]
  show Calls Try.prog 39 #[.agg (batA (.pointer d) v s)] w1 fun e w' => e = .returned (.int .i64 (wrRes st 2)) ∧ DPost w1 (.pointer d) F1 R1 (wrSt st 2 s) w'
  have bX := below_alloc w1 (.cells (batA (.pointer d) v s) 75)
  obtain ⟨c0, c1, c2, c3⟩ := batRow (RowC.new w1 (batA (.pointer d) v s) 75)
  have hW := devWrite _ _ st F1 R1 2 s (devLater h bX) (by omega) (by omega)
  obtain ⟨RE, hRE⟩ : ∃ q, wrRes st 2 = q := ⟨_, rfl⟩
  rw [hRE] at hW ⊢
  clear h hRE c1
  go_enter Try.func39, Try.ntmps39
  go_upto_region 1 with fail
  generalize hg : w1.heap.size = g at c0 bX c2 c3
  generalize w1.alloc (.cells (batA (.pointer d) v s) 75) = X at c0 bX hW c2 c3 ⊢
  go_wp2_with fail
  refine hW.mono ?_
  rintro e w2 ⟨rfl, hD, -⟩
  have HD : Hid (DPost w1 (.pointer d) F1 R1 (wrSt st 2 s) w2) := DPost.step (fun _ h => .inl h) (fun _ h => .inl h) (Keep.of_below (by rw [hg]; exact bX)) hD
  clear hW hD bX c0 c2 c3
  go_wp2_with fail
  go_ret
  exact ⟨rfl, HD.out⟩
end Go.Proofs.Ytpckdkgbeemalaa
