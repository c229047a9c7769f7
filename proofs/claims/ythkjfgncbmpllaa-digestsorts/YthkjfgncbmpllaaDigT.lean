
import Derived.Test.YthkjfgncbmpllaaDigC
import Derived.Lib.SlBytesConst
namespace Go.Proofs.Ythkjfgncbmpllaa
open Go.RowKit

theorem digC_lo (v : Nat) (h : v < 10) : ((digC v).toNat : Int) = 48 + (v : Int) := by
  rcases (by omega : v = 0 ∨ v = 1 ∨ v = 2 ∨ v = 3 ∨ v = 4 ∨ v = 5 ∨ v = 6 ∨ v = 7 ∨ v = 8 ∨ v = 9) with rfl | rfl | rfl | rfl | rfl | rfl | rfl | rfl | rfl | rfl <;> rfl
theorem digC_hi (v : Nat) (h : 10 ≤ v) (h2 : v < 16) : ((digC v).toNat : Int) = 87 + (v : Int) := by
  rcases (by omega : v = 10 ∨ v = 11 ∨ v = 12 ∨ v = 13 ∨ v = 14 ∨ v = 15) with rfl | rfl | rfl | rfl | rfl | rfl <;> rfl
theorem shr4 (b h : Nat) (e : b / 16 = h) : (b : Int) / 16 = (h : Int) := by omega
theorem and15 (b m : Nat) (hb : b < 256) (e : b % 16 = m) : bits .and .u8 (b : Int) 15 = (m : Int) := by
  have h : ∀ x : Fin 256, bits .and .u8 ((x.val : Nat) : Int) 15 = ((x.val % 16 : Nat) : Int) := by decide +kernel
  rw [← e]
  exact h ⟨b, hb⟩
set_option linter.unusedSimpArgs false in
theorem digit_any (v : Nat) (h : v < 16) (w : World) : Calls Try.prog 20 #[.int .u8 (v : Int)] w fun e w' => e = .returned (.int .u8 ((digC v).toNat : Int)) ∧ Below w.heap.size w w' := by
  have hb := (digC v).toNat_lt
  by_cases h10 : v < 10
  · have e := digC_lo v h10
    have h1 : (v : Int) < 10 := by omega
    generalize (digC v).toNat = r at e hb ⊢
    have e2 : IntKind.u8.wrap (48 + (v : Int)) = (r : Int) := by rw [← e]; simp [IntKind.wrap, IntKind.bits, IntKind.signed]; omega
    clear e
    go_enter Try.func20, Try.ntmps20
    go_wp2
    go_ret
    exact ⟨by first | rfl | rw [e2], Below.refl _ _⟩
  · have e := digC_hi v (by omega) h
    have h1 : ¬ (v : Int) < 10 := by omega
    generalize (digC v).toNat = r at e hb ⊢
    have e1 : IntKind.u8.wrap (97 + (v : Int)) = 97 + (v : Int) := by simp [IntKind.wrap, IntKind.bits, IntKind.signed]; omega
    have e2 : IntKind.u8.wrap (97 + (v : Int) - 10) = (r : Int) := by simp [IntKind.wrap, IntKind.bits, IntKind.signed]; omega
    clear e
    go_enter Try.func20, Try.ntmps20
    go_wp2
    go_ret
    exact ⟨by first | rfl | rw [e2], Below.refl _ _⟩
theorem run_app2 (w : World) (base y c : Nat) (v : Value) (l : List UInt8) (b1 b2 : UInt8) (ty : TypeId) (h : OwnB w base v l) (hy : w.cell? ⟨y, 0, none⟩ = some (Value.int .u8 (b1.toNat : Int))) (hy2 : w.cell? ⟨y, 1, none⟩ = some (Value.int .u8 (b2.toNat : Int))) (hl : l.length + 2 ≤ 140737488355328) (hb : base ≤ w.heap.size) :
    ∃ v' w', (Builtin.append_ #[41, 41] ty #[v, .slice (some ⟨y, 0, none⟩) 2 c]).run Try.prog w = .ok v' w' ∧ OwnB w' base v' (l ++ [b1, b2]) ∧ Below base w w' ∧ w.heap.size ≤ w'.heap.size := by
  obtain ⟨i, hi, hzz⟩ := Option.map_eq_some_iff.1 info5
  simp only [Prod.mk.injEq] at hzz
  obtain ⟨hz, hs, hby⟩ := hzz
  obtain ⟨g, cap, w', hr, h2, h3, h4, h5⟩ := run_append_lies (P := Try.prog) w 41 ty base 5 i _ 1 1 Try.underlying41 hi hz hs hby rfl (by omega) v l.length (bytesA l).toList h ⟨y, 0, none⟩ 2 c [Value.int .u8 (b1.toNat : Int), Value.int .u8 (b2.toNat : Int)] rfl
    (fun j u hu => by
      rw [addr_add, Nat.zero_add]
      rcases j with _ | _ | j
      · simp at hu; subst hu; exact hy
      · simp at hu; subst hu; exact hy2
      · simp at hu) (by simp [Value.oneCell']) (by omega) (by unfold maxLen; omega) (by omega) hb _ rfl
  refine ⟨_, w', hr, ?_, below_grown h h3 hb, h3.size⟩
  have e : (bytesA (l ++ [b1, b2])).toList = (bytesA l).toList ++ [Value.int .u8 (b1.toNat : Int), Value.int .u8 (b2.toNat : Int)] := by simp [bytesA]
  unfold OwnB
  rw [List.length_append, e]
  exact h2
/-- A row that was made of a constant text: its end is marked, so that it is never grown in place. -/
def MarkB (w : World) (base : Nat) (v : Value) (l : List UInt8) : Prop := ∃ g, v = .slice (some ⟨g, 0, none⟩) l.length l.length ∧ base ≤ g ∧ w.heap[g]? = some (.cells (bytesA l) 5 (l.length, l.length + 1))
def OwnT (w : World) (base : Nat) (v : Value) (l : List UInt8) : Prop := OwnB w base v l ∨ MarkB w base v l
theorem OwnT.keep {w w' : World} {base : Nat} {v : Value} {l : List UInt8} (h : OwnT w base v l) (hb : Below w.heap.size w w') : OwnT w' base v l := by
  rcases h with h | ⟨g, rfl, hg, hh⟩
  · exact .inl (h.keep hb)
  · have hlt : g < w.heap.size := by
      rcases Nat.lt_or_ge g w.heap.size with h' | h'
      · exact h'
      · rw [Array.getElem?_eq_none h'] at hh; cases hh
    exact .inr ⟨g, rfl, hg, by rw [hb.block g hlt]; exact hh⟩
theorem MarkB.lit (w : World) (l : List UInt8) (cs : Array Value) (hc : cs = bytesA l) : MarkB (w.alloc (.cells cs 5 (l.length, l.length + 1))) w.heap.size (.slice (some ⟨w.heap.size, 0, none⟩) l.length l.length) l := by
  subst hc
  exact ⟨w.heap.size, rfl, Nat.le_refl _, heap_alloc_last w _⟩
theorem run_app2T (w : World) (base y c : Nat) (v : Value) (l : List UInt8) (b1 b2 : UInt8) (ty : TypeId) (h : OwnT w base v l) (hy : w.cell? ⟨y, 0, none⟩ = some (Value.int .u8 (b1.toNat : Int))) (hy2 : w.cell? ⟨y, 1, none⟩ = some (Value.int .u8 (b2.toNat : Int))) (hl : l.length + 2 ≤ 140737488355328) (hb : base ≤ w.heap.size) :
    ∃ v' w', (Builtin.append_ #[41, 41] ty #[v, .slice (some ⟨y, 0, none⟩) 2 c]).run Try.prog w = .ok v' w' ∧ OwnB w' base v' (l ++ [b1, b2]) ∧ Below base w w' ∧ w.heap.size ≤ w'.heap.size := by
  rcases h with h | ⟨g, rfl, hg, hh⟩
  · exact run_app2 w base y c v l b1 b2 ty h hy hy2 hl hb
  · obtain ⟨i, hi, hzz⟩ := Option.map_eq_some_iff.1 info5
    simp only [Prod.mk.injEq] at hzz
    obtain ⟨hz, hs, hby⟩ := hzz
    have hr := run_append_grow (P := Try.prog) w 41 ty 5 i _ Try.underlying41 hi hz ⟨g, 0, none⟩ l.length l.length (bytesA l).toList (by rw [hs]; simp [bytesA])
      (fun j u hu => by
        rw [addr_add, Nat.zero_add]
        unfold World.cell?
        simp only [hh]
        rw [Array.getElem?_toList] at hu
        simpa using hu) ⟨y, 0, none⟩ 2 c [Value.int .u8 (b1.toNat : Int), Value.int .u8 (b2.toNat : Int)] (by rw [hs]; rfl)
      (fun j u hu => by
        rw [addr_add, Nat.zero_add]
        rcases j with _ | _ | j
        · simp at hu; subst hu; exact hy
        · simp at hu; subst hu; exact hy2
        · simp at hu) (by omega) (by omega) (growslice_fits (by omega) (by rw [hby]; omega))
    refine ⟨_, _, hr, ?_, (below_alloc _ _).drew.mono hb, by simp⟩
    have e : (bytesA (l ++ [b1, b2])).toList = (bytesA l).toList ++ [Value.int .u8 (b1.toNat : Int), Value.int .u8 (b2.toNat : Int)] := by simp [bytesA]
    have hlen : ((bytesA l).toList ++ [Value.int .u8 (b1.toNat : Int), Value.int .u8 (b2.toNat : Int)]).length = (l.length + 2) * 1 := by simp [bytesA]
    have hge := grownCap_ge w (l.length + 2) l.length 5
    have hcm : grownCap w (l.length + 2) l.length 5 ≤ maxLen := grownCap_le_maxLen w _ _ _ (by unfold maxLen; omega)
    unfold OwnB
    rw [List.length_append, e]
    refine ⟨hlen, .inr ⟨w.heap.size, _, _, rfl, hb, heap_alloc_new w.drew _, hge, hcm, ?_, ?_⟩⟩
    · simp only [Array.size_append, List.size_toArray, size_zeroCells, Array.length_toList]
      simp [bytesA, Value.cells]
      omega
    · simp only [Array.toList_append, List.append_assoc]
      rw [← List.append_assoc]
      have hq := hlen
      simp only [List.length_append] at hq
      exact (congrArg (fun n => List.take n _) hlen.symm).trans List.take_left
theorem OwnT.isB {w : World} {base : Nat} {v : Value} {l : List UInt8} (h : OwnT w base v l) : IsB w v l := by
  rcases h with h | ⟨g, rfl, hg, hh⟩
  · exact h.isB
  · refine .inr ⟨_, _, rfl, fun i hi => ?_⟩
    rw [addr_add, Nat.zero_add]
    unfold World.cell?
    simp only [hh]
    have := bytesA_get l i hi
    simpa using this
theorem OwnT.str {w : World} {base : Nat} {v : Value} {l : List UInt8} (h : OwnT w base v l) (h0 : 0 < l.length) : (convert 41 9 v).run Try.prog w = .ok (.string ⟨l.toArray⟩) w := by
  rcases h.isB with ⟨_, rfl⟩ | ⟨x, c, rfl, hc⟩
  · simp at h0
  · exact run_convert_bytes_back w _ _ 5 x c l Try.underlying41 Try.underlying5 Try.underlying9 hc
set_option linter.unusedSimpArgs false in
set_option maxHeartbeats 400000 in
theorem textOk : TextOk := by
  intro s w
  have hR := DgR.new w s 23
  have hB := below_alloc w (.cells (dg_secA s) 23)
  have hO : OwnT _ _ _ _ := .inr (MarkB.lit (w.alloc (.cells (dg_secA s) 23)) (frontS ++ hexL s 0) #[.int .u8 115, .int .u8 104, .int .u8 97, .int .u8 50, .int .u8 53, .int .u8 54, .int .u8 58] rfl)
  have hl0 : (frontS ++ hexL s 0).length = 7 := rfl
  rw [hl0] at hO
  have kc := Lib.run_convert_bytes_const (P := Try.prog) (w.alloc (.cells (dg_secA s) 23)) 41 5 #[.int .u8 115, .int .u8 104, .int .u8 97, .int .u8 50, .int .u8 53, .int .u8 54, .int .u8 58] 7 7 Try.underlying41 Try.underlying5
  rw [World.size_alloc] at kc
  have k7 : (#[.int .u8 115, .int .u8 104, .int .u8 97, .int .u8 50, .int .u8 53, .int .u8 54, .int .u8 58] : Array Value).size = 7 := rfl
  rw [k7] at kc
  clear k7
  have hB2 := below_alloc (w.alloc (.cells (dg_secA s) 23)) (.cells #[.int .u8 115, .int .u8 104, .int .u8 97, .int .u8 50, .int .u8 53, .int .u8 54, .int .u8 58] 5 (7, 8))
  rw [World.size_alloc] at hO
  have HT : Hid (textL s = frontS ++ hexL s 32) := rfl
  rw [HT.out]
  go_enter Try.func7, Try.ntmps7
  go_wp2_with fail
  obtain ⟨gb, hgb⟩ : ∃ g, w.heap.size + 1 = g := ⟨_, rfl⟩
  have hXs : (w.alloc (.cells (dg_secA s) 23)).heap.size = gb := by rw [World.size_alloc]; exact hgb
  rw [hgb] at hO
  simp only [hgb]
  clear hgb
  generalize (w.alloc (.cells (dg_secA s) 23)).alloc (.cells #[.int .u8 115, .int .u8 104, .int .u8 97, .int .u8 50, .int .u8 53, .int .u8 54, .int .u8 58] 5 (7, 8)) = X2 at hO hB2 ⊢
  generalize w.alloc (.cells (dg_secA s) 23) = X at hR hB hB2 hXs
  have hl : ∀ k, k < 32 → (frontS ++ hexL s k).length + 2 ≤ 140737488355328 := fun k hk => by
    have h9 := hexL_len s k
    rw [List.length_append, h9]
    have : frontS.length = 7 := rfl
    omega
  have hl2 : 0 < (frontS ++ hexL s 32).length := by rw [List.length_append]; show 0 < 7 + _; omega
  obtain ⟨g, hg⟩ : ∃ g, w.heap.size = g := ⟨_, rfl⟩
  simp only [hg]
  rw [hg] at hR hB
  have hgg : g ≤ X.heap.size := by have := hB.size; omega
  have HG : Hid _ := hg
  clear hg kc
  go_loopw [3, 7] (fun v i wr => ∃ k : Nat, k ≤ 32 ∧ i = .int .i64 k ∧ OwnT wr gb v (frontS ++ hexL s k) ∧ Below gb X wr) (fun _ i _ => 32 - (intOf i).toNat)
  case atStart => exact ⟨0, by omega, rfl, hO, by rw [← hXs]; exact hB2⟩
  case round =>
    clear hO
    obtain ⟨k, hk, rfl, hO, hBk⟩ := hrel
    by_cases hlt : k < 32
    · have hc : wr.cell? ⟨g, k, none⟩ = some (.int .u8 ((s k).toNat : Int)) := (hR.kept (hXs ▸ hBk)).cell k hlt
      have hb := (s k).toNat_lt
      have hl1 := hl k hlt
      obtain ⟨h, hh⟩ : ∃ h, (s k).toNat / 16 = h := ⟨_, rfl⟩
      obtain ⟨m, hm⟩ : ∃ m, (s k).toNat % 16 = m := ⟨_, rfl⟩
      have HS : Hid ((frontS ++ hexL s k) ++ [digC h, digC m] = frontS ++ hexL s (k + 1)) := by show _ = _; rw [hexL, hh, hm, List.append_assoc]
      have d1 := digit_any h (by omega)
      have d2 := digit_any m (by omega)
      generalize frontS ++ hexL s k = T at hO HS hl1
      generalize digC h = c1 at d1 HS
      generalize digC m = c2 at d2 HS
      have n1 := shr4 (s k).toNat h hh
      have n2 := and15 (s k).toNat m hb hm
      have n3 : (h : Int) < 256 := by omega
      have n4 : (m : Int) < 256 := by omega
      generalize (s k).toNat = b at *
      clear hh hm hl
      have hk0 : (0 : Int) ≤ (k : Int) := by omega
      have hk1 : (k : Int) < 32 := by omega
      have hgs : gb ≤ wr.heap.size := by have := hBk.size; omega
      go_upto_region 5 with fail
      refine wp_reliesT [Fx (u3), Fx (.int .i64 (k : Nat)), Fx (.pointer (some ⟨g, k, none⟩)), Fx (.int .u8 (b : Nat)), Fx (.int .u8 (h : Nat)), Fx (.int .u8 (c1.toNat : Int)), Fx (.int .i64 (k : Nat)), Fx (.pointer (some ⟨g, k, none⟩)), Fx (.int .u8 (b : Nat)), Fx (.int .u8 (m : Nat)), Fx (.int .u8 (c2.toNat : Int)), fun v x => ∃ q, v = .slice (some ⟨q, 0, none⟩) 2 2 ∧ x.cell? ⟨q, 0, none⟩ = some (.int .u8 (c1.toNat : Int)) ∧ x.cell? ⟨q, 1, none⟩ = some (.int .u8 (c2.toNat : Int))] (by kernel_rfl) (by kernel_rfl) ?_ ?_ ?_
      · repeat' (first | exact all_nil | apply all_cons)
        all_goals intro v y y' hv hb
        all_goals first | exact Fx_mono _ _ _ _ hv hb | (obtain ⟨g, h1, h2, h3⟩ := hv; exact ⟨g, h1, cell_later hb h2, cell_later hb h3⟩)
      · refine ⟨?_, ?_, ?_, ?_, ?_, ?_, ?_, ?_, ?_, ?_, ?_, ?_, trivial⟩
        all_goals
          intro ρ x hp ρc ρg ρf ho hd
          have o1 : ρ (.tmp 1) = .pointer (some ⟨g, 0, none⟩) := ho 1 rfl
          have o3 : ρ (.tmp 3) = u3 := ho 3 rfl
          have o4 : ρ (.tmp 4) = .int .i64 (k : Nat) := ho 4 rfl
          clear ho
          have qa := cell_later hp hc
          simp only [depsR, depR, slotR, Fx, List.getElem?_cons_succ, List.getElem?_cons_zero, Region.binds, forall_const] at hd
          simp only [guardR]
          go_split_ands
        · go_simp
        · go_simp
        · go_simp
        · go_simp
        · go_simp
        · go_simp
          refine (d1 x).mono ?_
          rintro e x' ⟨rfl, hb⟩
          exact ⟨_, rfl, rfl, hb⟩
        · go_simp
        · go_simp
        · go_simp
        · go_simp
        · go_simp
          refine (d2 x).mono ?_
          rintro e x' ⟨rfl, hb⟩
          exact ⟨_, rfl, rfl, hb⟩
        · go_simp
          exact below_alloc _ _
      · intro vs x_1 hp hw
        simp only [owed, Fx] at hw
        obtain ⟨e0, e1, e2, e3, e4, e5, e6, e7, e8, e9, e10, ⟨q, e11, hq1, hq2⟩, -⟩ := hw
        simp only [List.length_cons, List.length_nil, List.take_succ_cons, List.take_zero, List.drop_succ_cons, List.drop_zero, asg, List.cons_append, List.nil_append, e0, e1, e2, e3, e4, e5, e6, e7, e8, e9, e10, e11]
        clear e0 e1 e2 e3 e4 e5 e6 e7 e8 e9 e10 e11
        obtain ⟨v', w', hr, hO', hB', hs'⟩ := run_app2T x_1 gb q 2 u3 T c1 c2 41 (hO.keep hp) hq1 hq2 hl1 (by have := hp.size; omega)
        have HO : Hid (OwnT w' gb v' (frontS ++ hexL s (k + 1))) := by show OwnT _ _ _ _; rw [← HS.out]; exact .inl hO'
        have HB : Hid (Below gb X w') := (hBk.trans (hp.mono hgs)).trans hB'
        clear hO hBk hO' hB' hq1 hq2 hc
        go_wp2_with (at_builtin; refine wpL_app rfl _ _ rfl v' w' (by exact hr) ?_)
        go_roundw
        case rel => exact ⟨k + 1, by omega, by go_num, HO.out, HB.out⟩
        case measure => simp [intOf]; omega
    · obtain rfl : k = 32 := by omega
      have HB : Hid _ := hB.trans (hBk.mono (by omega))
      have hcv := hO.str hl2
      clear hO
      go_wp2
      go_ret
      exact ⟨rfl, by rw [HG.out]; exact HB.out⟩
end Go.Proofs.Ythkjfgncbmpllaa
