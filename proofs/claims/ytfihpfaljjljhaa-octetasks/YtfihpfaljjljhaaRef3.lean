import Derived.Test.YtfihpfaljjljhaaRef2
namespace Go.Proofs.Ytfihpfaljjljhaa
open Go.RowKit

/-! A slice of bytes of the call's own, and append of one byte -/
def OwnB (w : World) (base : Nat) (v : Value) (l : List UInt8) : Prop := w.ownsRow base 5 1 v l.length (bytesA l).toList
theorem OwnB.isB {w : World} {base : Nat} {v : Value} {l : List UInt8} (h : OwnB w base v l) : IsB w v l := by
  have h' := h
  obtain ⟨_, ⟨rfl, hn⟩ | ⟨g, cap, cur, rfl, hb, hg, hle, hm, hs, ht⟩⟩ := h
  · exact .inl ⟨rfl, List.eq_nil_of_length_eq_zero hn⟩
  · refine .inr ⟨_, cap, rfl, fun i hi => ?_⟩
    have := h'.cells (g := g) rfl i (Value.int .u8 (l[i].toNat : Int)) (by rw [Array.getElem?_toList, bytesA_get l i hi])
    exact this
theorem OwnB.nil (w : World) (base : Nat) : OwnB w base (.slice none 0 0) [] := World.ownsRow_nil w base 5 1
theorem below_grown {w w' : World} {base : Nat} {v : Value} {l : List UInt8} (h : OwnB w base v l) (hg : w.grownBy w' v.ownBlock) (hb : base ≤ w.heap.size) : Below base w w' :=
  ⟨hg.os, hg.tape, hg.output, hg.size, fun k hk => hg.block k (by omega) (fun e => by have := h.lt k e.symm; omega)⟩
theorem run_app1 (w : World) (base y c : Nat) (v : Value) (l : List UInt8) (b : UInt8) (ty : TypeId) (h : OwnB w base v l) (hy : w.cell? ⟨y, 0, none⟩ = some (Value.int .u8 (b.toNat : Int))) (hl : l.length + 1 ≤ 140737488355328) (hb : base ≤ w.heap.size) :
    ∃ v' w', (Builtin.append_ #[28, 28] ty #[v, .slice (some ⟨y, 0, none⟩) 1 c]).run Try.prog w = .ok v' w' ∧ OwnB w' base v' (l ++ [b]) ∧ Below base w w' ∧ w.heap.size ≤ w'.heap.size := by
  obtain ⟨i, hi, hzz⟩ := Option.map_eq_some_iff.1 info5
  simp only [Prod.mk.injEq] at hzz
  obtain ⟨hz, hs, hby⟩ := hzz
  obtain ⟨g, cap, w', hr, h2, h3, h4, h5⟩ := run_append_lies (P := Try.prog) w 28 ty base 5 i _ 1 1 Try.underlying28 hi hz hs hby rfl (by omega) v l.length (bytesA l).toList h ⟨y, 0, none⟩ 1 c [Value.int .u8 (b.toNat : Int)] rfl
    (fun j u hu => by
      rcases j with _ | j
      · simp at hu; subst hu
        have hadd : (⟨y, 0, none⟩ : Addr).add 0 = ⟨y, 0, none⟩ := by unfold Addr.add; split <;> simp_all
        rw [hadd]; exact hy
      · simp at hu) (by simp [Value.oneCell']) (by omega) (by unfold maxLen; omega) (by omega) hb _ rfl
  refine ⟨_, w', hr, ?_, below_grown h h3 hb, h3.size⟩
  have e : (bytesA (l ++ [b])).toList = (bytesA l).toList ++ [Value.int .u8 (b.toNat : Int)] := by simp [bytesA]
  unfold OwnB
  rw [List.length_append, e]
  exact h2
theorem OwnB.keep {w w' : World} {base : Nat} {v : Value} {l : List UInt8} (h : OwnB w base v l) (hb : Below w.heap.size w w') : OwnB w' base v l :=
  World.ownsRow.kept h (row := none) ⟨hb.os, hb.tape, hb.output, hb.size, fun k hk _ => hb.block k hk⟩ (by
    rcases h.2 with ⟨rfl, _⟩ | ⟨g, cap, cur, rfl, _⟩
    · exact .inl rfl
    · exact .inr (by simp [Value.ownBlock]))
theorem wpL_app {ops : Array Oper} {rest : List Oper} {o : Oper} {a : Act} {w : World} {Q : Exit → Act → World → Prop} (hgd : o.guard = none) (s x : Operand)
    (ho : o.op = .call { callee := .builtin .append, args := #[s, x], argTypes := #[28, 28] }) (v' : Value) (w' : World) (hr : (Builtin.append_ #[28, 28] o.type #[a.eval s, a.eval x]).run Try.prog w = .ok v' w')
    (h : wpList Try.prog ops Q rest (a.put o.dst v') w') : wpList Try.prog ops Q (o :: rest) a w :=
  wpList_plain hgd fun _ hK => by
    unfold Oper.wp execOp
    simp only [ho, resolve, invoke, builtin, Sem.run_bind, Sem.run_pure, Result.andThen_ok, List.map_toArray, List.map_cons, List.map_nil, hr]
    exact hK _ _ h
theorem subL_succ (s : Nat → UInt8) (a k : Nat) : subL s a (k + 1) = subL s a k ++ [s (a + k)] := by simp [subL, List.range_succ]
set_option maxHeartbeats 400000 in
theorem rbytes_no (s : Nat → UInt8) (a n : Int) (w : World) (h0 : -9223372036854775808 ≤ a) (h1 : a ≤ 9223372036854775807) (h2 : -9223372036854775808 ≤ n) (h3 : n ≤ 9223372036854775807) (hw : inB a n = false) :
    Calls Try.prog 17 #[.agg (secA s), .int .i64 a, .int .i64 n] w fun e w' => e = .returned (.slice none 0 0) ∧ Below w.heap.size w w' := by
  go_enter Try.func17, Try.ntmps17
  go_wp2_with (go_at_call 27; refine (rwithin_any _ _ _ (by omega) (by omega) (by omega) (by omega)).mono ?_; rintro e w' ⟨rfl, rfl⟩)
  go_ret
  exact ⟨rfl, (Below.refl _ _).alloc (Nat.le_refl _) _⟩
set_option maxHeartbeats 400000 in
theorem rbytes_yes (s : Nat → UInt8) (a n : Nat) (w : World) (h : a + n ≤ 64) :
    Calls Try.prog 17 #[.agg (secA s), .int .i64 a, .int .i64 n] w fun e w' => ∃ v, e = .returned v ∧ IsB w' v (subL s a n) ∧ Below w.heap.size w w' := by
  have hw : inB (a : Int) n = true := by simp [inB]; omega
  go_enter Try.func17, Try.ntmps17
  go_wp2_with (go_at_call 27; refine (rwithin_any _ _ _ (by omega) (by omega) (by omega) (by omega)).mono ?_; rintro e w' ⟨rfl, rfl⟩)
  go_loopw [7, 8] (fun v i w' => ∃ k : Nat, k ≤ n ∧ i = .int .i64 k ∧ OwnB w' (w.heap.size + 1) v (subL s a k) ∧ Below (w.heap.size + 1) (w.alloc (.cells (secA s) 23)) w') (fun _ i _ => n - (intOf i).toNat)
  case atStart => exact ⟨0, Nat.zero_le _, rfl, OwnB.nil _ _, Below.refl _ _⟩
  case round =>
    obtain ⟨k, hk, rfl, hO, hB⟩ := hrel
    have hsz : w.heap.size + 1 ≤ wr.heap.size := by have := hB.size; simpa using this
    by_cases hlt : k < n
    · obtain ⟨r1, r2⟩ := keepRow hB (n := w.heap.size) (c := secA s) (by omega) (rowOk_new _ _ _ _ rfl (secA_size _)) (rowAt_new _ _ _ _ rfl)
      have hc : wr.cell? ⟨w.heap.size, a + k, none⟩ = some (Value.int .u8 ((s (a + k)).toNat : Int)) := by rw [cell_rowAt r1, r2, secA_get s _ (by omega)]
      clear r1 r2
      obtain ⟨v', w', hr, hO', hB', hs'⟩ := run_app1 (wr.alloc (.cells #[Value.int .u8 ((s (a + k)).toNat : Int)] 5)) (w.heap.size + 1) wr.heap.size 1 _ (subL s a k) (s (a + k)) 28 (hO.keep (below_alloc _ _)) (by go_simp) (by simp; omega) (by simp; omega)
      have HO : Hid (OwnB w' (w.heap.size + 1) v' (subL s a (k + 1))) := by show OwnB _ _ _ _; rw [subL_succ]; exact hO'
      have HB : Hid (Below (w.heap.size + 1) (w.alloc (.cells (secA s) 23)) w') := (hB.alloc hsz _).trans hB'
      clear hO hB hO' hB'
      go_wp2_with (at_builtin; refine wpL_app rfl _ _ rfl v' w' (by exact hr) ?_)
      go_roundw
      case rel => exact ⟨k + 1, by omega, by go_num, HO.out, HB.out⟩
      case measure => simp [intOf]; omega
    · obtain rfl : k = n := by omega
      go_wp2
      go_ret
      exact ⟨_, rfl, hO.isB, ((Below.refl _ _).alloc (Nat.le_refl _) _).trans (hB.mono (by omega))⟩
end Go.Proofs.Ytfihpfaljjljhaa
