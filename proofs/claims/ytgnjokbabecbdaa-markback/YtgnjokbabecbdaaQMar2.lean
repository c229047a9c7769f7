import Derived.Test.YtgnjokbabecbdaaQMar1
import Derived.Test.YtgnjokbabecbdaaQDev3
import Derived.Test.YtgnjokbabecbdaaQRowg
namespace Go.Proofs.Ytgnjokbabecbdaa
open Go.RowKit

/-! assaylaw09's helpers; what mark owes -/
def wrAlloc9 : Sem Next := do pure (.value (← Instr.alloc 34 true (.tuple #[])))
def wrL09 : Sem Next := do pure (.value (← Instr.buildSlice 22 0 #[]))
def secL09 : Sem Next := do pure (.value (← Instr.buildSlice 32 0 #[]))
def sec7B (x : Value) : Sem Next := do pure (.value (← Instr.build 28 #[(7, x)]))
section
variable (ρ : Operand → Value) (dst : Option Tmp) (ty ty' : TypeId) (pos : String) (after : Array Edge) (guard : Option (Nat × Bool))
@[go_sem ↓] theorem execOp_wrAlloc9 : execOp ρ { dst, op := .alloc 34, type := ty, pos, after, guard } = wrAlloc9 := rfl
@[go_sem ↓] theorem execOp_wrL09 : execOp ρ { dst, op := .buildSlice 22 0 #[], type := ty, pos, after, guard } = wrL09 := by simp [execOp, wrL09]
@[go_sem ↓] theorem execOp_secL09 : execOp ρ { dst, op := .buildSlice 32 0 #[], type := ty, pos, after, guard } = secL09 := by simp [execOp, secL09]
@[go_sem ↓] theorem execOp_sec7B (x : Operand) : execOp ρ { dst, op := .build 28 #[(7, x)], type := ty, pos, after, guard } = sec7B (ρ x) := by simp [execOp, sec7B]
end
theorem zero_wr9 (w : World) : (zeroValue 34).run Try.prog w = .ok (.agg (wrA wrZ)) w := by
  have h : (Try.prog.info? 34).map (fun i => (i.zero, i.size)) = some (some (.agg (wrA wrZ)), 65) := by kernel_rfl
  exact (zero_of_info h).1 w
@[go_sem] theorem run_wrAlloc9 (w : World) : wrAlloc9.run Try.prog w = .ok (.value (.pointer (some ⟨w.heap.size, 0, none⟩))) (w.alloc (.cells (wrA wrZ) 34)) := by
  simp only [wrAlloc9, Instr.alloc, Sem.run_bind, zero_wr9, Result.andThen_ok]
  rfl
@[go_sem] theorem run_wrStore9 (w : World) (n : Nat) (x : Wr) (h : n = w.heap.size) : (wrStore (.pointer (some ⟨n, 0, none⟩)) (.agg (wrA x))).run Try.prog (w.alloc (.cells (wrA wrZ) 34)) = .ok .skip (w.alloc (.cells (wrA x) 34)) := by
  simp only [wrStore, Instr.storeAt, Instr.sureAddr, Sem.run_bind, Sem.run_pure, Result.andThen_ok]
  rw [run_storeVar_row _ n 34 34 (wrA wrZ) (wrA x) (by rw [h]; exact heap_alloc_last w _) (by rw [size_wr, wrA_size]) (by rw [wrA_size, wrA_size]) (wrA_one x), setRow_new w n _ _ _ h]; rfl
@[go_sem] theorem run_wrL09 (w : World) : wrL09.run Try.prog w = .ok (.value (.slice (some ⟨w.heap.size, 0, none⟩) 0 0)) (w.alloc (.cells #[] 34)) := by
  have h := run_litK0 wrE_ok w
  simp only [wrE] at h
  simp only [wrL09, Sem.run_bind, h]
  rfl
@[go_sem] theorem run_secL09 (w : World) : secL09.run Try.prog w = .ok (.value (.slice (some ⟨w.heap.size, 0, none⟩) 0 0)) (w.alloc (.cells #[] 28)) := by
  have h := run_litK0 secE_ok w
  simp only [secE] at h
  simp only [secL09, Sem.run_bind, h]
  rfl
def sec7 : Sc := upd secZ 7 7
@[go_sem] theorem run_sec7B (w : World) : (sec7B (.int .u8 7)).run Try.prog w = .ok (.value (.agg (secA sec7))) w := by
  simp only [sec7B, Sem.run_bind]
  rw [run_build w 28 #[(7, .int .u8 7)] (secA sec7) (by kernel_rfl)]; rfl
set_option linter.unusedSimpArgs false in
set_option maxHeartbeats 400000 in
theorem sameW9_any (xa xb : Option Addr) (ca cb na nb : Nat) (ds es : List Wr) (w : World) (hna : ds.length = na) (hnb : es.length = nb) (ha : IsK wrE w (.slice xa na ca) ds) (hb : IsK wrE w (.slice xb nb cb) es) (hlen : na ≤ 140737488355328) :
    Calls Try.prog 9 #[.slice xa na ca, .slice xb nb cb] w fun e w' => e = .returned (.bool (decide (ds.map kW = es.map kW))) ∧ Below w.heap.size w w' := by
  obtain ⟨r, hr⟩ : ∃ r, decide (ds.map kW = es.map kW) = r := ⟨_, rfl⟩
  have HR : Hid _ := hr
  rw [hr]
  clear hr
  go_enter Try.func9, Try.ntmps9
  by_cases hl : na = nb
  · have hl1 : (na : Int) = (nb : Int) := by omega
    have hl2 : ((na : Int) != (nb : Int)) = false := by simp; omega
    go_wp2_with fail
    clear hl1 hl2
    go_loopw [5] (fun i wr => ∃ k : Nat, k ≤ na ∧ i = .int .i64 k ∧ (∀ (j : Nat) a b, j < k → ds[j]? = some a → es[j]? = some b → kW a = kW b) ∧ Below w.heap.size w wr) (fun i _ => na - (intOf i).toNat)
    case atStart => exact ⟨0, by omega, rfl, fun j a b hj => by omega, Below.refl _ _⟩
    case round =>
      obtain ⟨k, hk, rfl, hU, hB⟩ := hrel
      by_cases hlt : k < na
      · obtain ⟨a, hka⟩ : ∃ a, ds[k]? = some a := ⟨ds[k], List.getElem?_eq_getElem (by omega)⟩
        obtain ⟨b, hkb⟩ : ∃ b, es[k]? = some b := ⟨es[k]'(by omega), List.getElem?_eq_getElem (by omega)⟩
        obtain ⟨b1, o1, rfl, hb1, hr1⟩ := (ha.kept hB).at k a hka
        obtain ⟨b2, o2, rfl, hb2, hr2⟩ := (hb.kept hB).at k b hkb
        obtain ⟨ok1, rg1⟩ := rg_of hr1 (wrE_ok.len a)
        obtain ⟨ok2, rg2⟩ := rg_of hr2 (wrE_ok.len b)
        rw [wrE_arr] at rg1 rg2
        rw [wrE_k] at ok1 rg1 ok2 rg2
        have heq := wrEq_dec a b
        have hk0 : (0 : Int) ≤ (k : Int) := by omega
        have hk1 : (k : Int) < (na : Int) := by omega
        have hk2 : (k : Int) < (nb : Int) := by omega
        clear hr1 hr2
        by_cases he : kW a = kW b
        · have heq' : wrEq a b = true := by rw [heq]; simp [he]
          have HU : Hid (∀ (j : Nat) a b, j < k + 1 → ds[j]? = some a → es[j]? = some b → kW a = kW b) := fun j x y hj hx hy => by
            rcases Nat.lt_or_ge j k with h1 | h1
            · exact hU j x y h1 hx hy
            · obtain rfl : j = k := by omega
              rw [hka] at hx; rw [hkb] at hy
              cases hx; cases hy
              exact he
          have HB : Hid (∀ n, Below w.heap.size w (wr.drewN n)) := fun n => ⟨hB.os, hB.tape, hB.output, hB.size, hB.block⟩
          clear hU heq he hka hkb hB
          go_upto_region 6 with fail
          go_quiet (fail)
          go_wp2
          go_roundw
          case rel => exact ⟨k + 1, by omega, by go_num, HU.out, HB.out _⟩
          case measure => simp [intOf]; omega
        · have heq' : wrEq a b = false := by rw [heq]; simp [he]
          have HV : Hid (r = false) := by
            show _ = _
            rw [← HR.out, decide_eq_false_iff_not]
            intro hn
            have h1 := congrArg (fun l => l[k]?) hn
            simp only [List.getElem?_map, hka, hkb, Option.map_some, Option.some.injEq] at h1
            exact he h1
          have HB : Hid (∀ n, Below w.heap.size w (wr.drewN n)) := fun n => ⟨hB.os, hB.tape, hB.output, hB.size, hB.block⟩
          clear hU heq he hka hkb hB
          go_upto_region 6 with fail
          go_quiet (fail)
          go_wp2
          go_ret
          exact ⟨by rw [HV.out]; rfl, HB.out _⟩
      · obtain rfl : k = na := by omega
        have HV : Hid (r = true) := by
          show _ = _
          rw [← HR.out, decide_eq_true_iff]
          apply List.ext_getElem?
          intro j
          simp only [List.getElem?_map]
          by_cases hj : j < ds.length
          · have hj2 : j < es.length := by omega
            rw [List.getElem?_eq_getElem hj, List.getElem?_eq_getElem hj2]
            simp only [Option.map_some]
            rw [hU j _ _ (by omega) (List.getElem?_eq_getElem hj) (List.getElem?_eq_getElem hj2)]
          · rw [List.getElem?_eq_none (by omega), List.getElem?_eq_none (by omega)]
        clear hU
        go_wp2
        go_ret
        exact ⟨by rw [HV.out]; rfl, hB⟩
  · have hl1 : ¬ (na : Int) = (nb : Int) := by omega
    have hl2 : ((na : Int) != (nb : Int)) = true := by simp; omega
    have HV : Hid (r = false) := by
      show _ = _
      rw [← HR.out, decide_eq_false_iff_not]
      intro hn
      have := congrArg List.length hn
      simp only [List.length_map] at this
      omega
    go_wp2
    go_ret
    exact ⟨by rw [HV.out]; rfl, Below.refl _ _⟩
/-- What is lent: a copy with a mark behind it. -/
theorem lentK {α : Type} {E : EK α} (O : E.Ok) (w : World) (x : Option Addr) (n c : Nat) (ds : List α) (d : α) (ty ty' : TypeId) (hn : ds.length = n) (h : IsK E w (.slice x n c) ds) (hl : (n + 1) * E.bytes ≤ 140737488355328) (h63 : n + 1 ≤ maxLen) :
    ∃ y c1 w1 g c2 w2, (Builtin.append_ #[E.S, E.S] ty #[.slice (some ⟨w.heap.size, 0, none⟩) 0 0, .slice x n c]).run Try.prog (w.alloc (.cells #[] E.T)) = .ok (.slice y n c1) w1 ∧ (Builtin.append_ #[E.S, E.S] ty' #[.slice y n c1, .slice (some ⟨w1.heap.size, 0, none⟩) 1 1]).run Try.prog (w1.alloc (.cells (E.enc d).toArray E.T)) = .ok (.slice (some ⟨g, 0, none⟩) (n + 1) c2) w2 ∧ OwnK E w2 w.heap.size (.slice (some ⟨g, 0, none⟩) (n + 1) c2) (ds ++ [d]) ∧ Below w.heap.size w w2 := by
  have hb := below_alloc w (.cells #[] E.T)
  have hO := OwnK.lit0 E w
  have hI := h.kept hb
  subst hn
  obtain ⟨y, c1, w1, hr, hO1, hB1⟩ := run_copyK O (w.alloc (.cells #[] E.T)) _ x c ds w.heap.size ty hO (by simp) hI (by rw [Nat.add_mul] at hl; omega) (by omega)
  have hA := below_alloc w1 (.cells (E.enc d).toArray E.T)
  have hnew : (w1.alloc (.cells (E.enc d).toArray E.T)).rangeAt w1.heap.size 0 (E.enc d) := fun j u hu => by
    rw [Nat.zero_add, cell_of_row _ _ j _ _ _ (heap_alloc_last w1 _)]
    simpa using hu
  have hs1 : w.heap.size ≤ w1.heap.size := (hb.trans hB1).size
  obtain ⟨g, c2, w2, hr2, o1, -, o3, -⟩ := run_app1K O (w1.alloc (.cells (E.enc d).toArray E.T)) w.heap.size w1.heap.size (.slice y ds.length c1) ds d ty' (hO1.keep hA) hnew (by simp) hl h63 (by simp; omega)
  have hB2 : Below w.heap.size w1 w2 := (hA.mono hs1).trans ((hO1.keep hA).below o3 (by simp; omega))
  exact ⟨y, c1, w1, g, c2, w2, hr, hr2, o1, (hb.trans hB1).trans hB2⟩
set_option linter.unusedSimpArgs false in
set_option maxHeartbeats 2000000 in
theorem lent9_any (x : Option Addr) (n c : Nat) (l : List Wr) (w : World) (hn : l.length = n) (h : IsK wrE w (.slice x n c) l) (hl : n ≤ 1954687338211) :
    Calls Try.prog 11 #[.slice x n c] w fun e w' => ∃ g c', e = .returned (.slice (some ⟨g, 0, none⟩) n c') ∧ OwnK wrE w' w.heap.size (.slice (some ⟨g, 0, none⟩) (n + 1) c') (l ++ [(777, secZ)]) ∧ Below w.heap.size w w' := by
  obtain ⟨y, c1, w1, g, c2, w2, hr1, hr2, hO, hB⟩ := lentK wrE_ok w x n c l (777, secZ) 22 22 hn h (by show (n + 1) * 72 ≤ _; omega) (by unfold maxLen; omega)
  have hTS : wrE.S = 22 := rfl
  have hTT : wrE.T = 34 := rfl
  rw [wrE_arr] at hr2
  rw [hTS, hTT] at hr1 hr2
  have hc : n ≤ c2 := by obtain ⟨-, -, -, -, hle, -⟩ := hO.heap; omega
  have hc1 : (n : Int) ≤ (c2 : Int) := by omega
  have HO : Hid (OwnK wrE w2 w.heap.size (.slice (some ⟨g, 0, none⟩) (n + 1) c2) (l ++ [(777, secZ)])) := hO
  have HB : Hid (Below w.heap.size w w2) := hB
  clear hO hB h hTS hTT
  go_enter Try.func11, Try.ntmps11
  go_wp2_with (first | (at_builtin; refine wpL_appT 22 rfl _ _ rfl (.slice (some ⟨g, 0, none⟩) (n + 1) c2) w2 (by exact hr2) ?_) | (at_builtin; refine wpL_appT 22 rfl _ _ rfl (.slice y n c1) w1 (by exact hr1) ?_))
  go_ret
  exact ⟨g, c2, rfl, HO.out, HB.out⟩
set_option linter.unusedSimpArgs false in
set_option maxHeartbeats 2000000 in
theorem sectors9_any (x : Option Addr) (n c : Nat) (l : List Sc) (w : World) (hn : l.length = n) (h : IsK secE w (.slice x n c) l) (hl : n ≤ 2199023255488) :
    Calls Try.prog 13 #[.slice x n c] w fun e w' => ∃ g c', e = .returned (.slice (some ⟨g, 0, none⟩) n c') ∧ OwnK secE w' w.heap.size (.slice (some ⟨g, 0, none⟩) (n + 1) c') (l ++ [sec7]) ∧ Below w.heap.size w w' := by
  obtain ⟨y, c1, w1, g, c2, w2, hr1, hr2, hO, hB⟩ := lentK secE_ok w x n c l sec7 32 32 hn h (by show (n + 1) * 64 ≤ _; omega) (by unfold maxLen; omega)
  have hTS : secE.S = 32 := rfl
  have hTT : secE.T = 28 := rfl
  rw [secE_arr] at hr2
  rw [hTS, hTT] at hr1 hr2
  have hc : n ≤ c2 := by obtain ⟨-, -, -, -, hle, -⟩ := hO.heap; omega
  have hc1 : (n : Int) ≤ (c2 : Int) := by omega
  have HO : Hid (OwnK secE w2 w.heap.size (.slice (some ⟨g, 0, none⟩) (n + 1) c2) (l ++ [sec7])) := hO
  have HB : Hid (Below w.heap.size w w2) := hB
  clear hO hB h hTS hTT
  go_enter Try.func13, Try.ntmps13
  go_wp2_with (first | (at_builtin; refine wpL_appT 32 rfl _ _ rfl (.slice (some ⟨g, 0, none⟩) (n + 1) c2) w2 (by exact hr2) ?_) | (at_builtin; refine wpL_appT 32 rfl _ _ rfl (.slice y n c1) w1 (by exact hr1) ?_))
  go_ret
  exact ⟨g, c2, rfl, HO.out, HB.out⟩
/-! Bits turned -/
def buA9 (n a : Int) (m : Nat) : Array Value := #[.int .i64 n, .int .i64 a, .int .u32 (m : Int)]
def PB9 (a : Int) (m : Nat) (i : Nat) : Bool := m.testBit i && decide (0 ≤ a ∧ a < 512 - (i : Int))
theorem and_bit9 (pat i : Nat) (h : pat < 4294967296) : bits .and .u32 ((pat : Int) / (2 : Int) ^ i) 1 = bif pat.testBit i then 1 else 0 := by
  have e1 : (pat : Int) / (2 : Int) ^ i = ((pat / 2 ^ i : Nat) : Int) := by simp
  have h2 : pat / 2 ^ i < 4294967296 := Nat.lt_of_le_of_lt (Nat.div_le_self _ _) h
  have e := u32_and_nat (pat / 2 ^ i) 1 h2 (by omega)
  rw [show ((1 : Nat) : Int) = 1 from rfl] at e
  rw [e1, e, Nat.and_one_is_mod, Nat.testBit_eq_decide_div_mod_eq]
  rcases Nat.mod_two_eq_zero_or_one (pat / 2 ^ i) with h3 | h3 <;> simp [h3]
theorem oneAt_nat9 (q : Nat) : (oneAt q).toNat = 2 ^ (q % 8) := by
  unfold oneAt
  have : ∀ r : Fin 8, (UInt8.ofNat (2 ^ r.val)).toNat = 2 ^ r.val := by decide
  exact this ⟨q % 8, by omega⟩
theorem xor89 (a b : UInt8) : bits .xor .u8 (a.toNat : Int) (b.toNat : Int) = ((a ^^^ b).toNat : Int) := by
  rw [u8_xor_nat _ _ a.toNat_lt b.toNat_lt, UInt8.toNat_xor]
set_option linter.unusedSimpArgs false in
set_option maxRecDepth 100000 in
set_option maxHeartbeats 1600000 in
theorem turned9_any (s : Sc) (n a : Int) (m : Nat) (w : World) (ha0 : -9223372036854775808 ≤ a) (ha1 : a ≤ 9223372036854775807) (hm : m < 4294967296) :
    Calls Try.prog 10 #[.agg (secA s), .agg (buA9 n a m)] w fun r w' => r = .returned (.tuple #[.agg (secA (turnS s (PB9 a m) a.toNat 32)), .bool (anyP (PB9 a m) 32)]) ∧ Below w.heap.size w w' := by
  go_enter Try.func10, Try.ntmps10
  go_upto_region 1 with fail
  have hB : Below w.heap.size w (((w.alloc (.cells (secA s) 28)).alloc (.cells (buA9 n a m) 25)).alloc (.cells (secA secZ) 28)) := ((below_alloc w _).alloc (by simp) _).alloc (by simp; omega) _
  have q2 : ScR (((w.alloc (.cells (secA s) 28)).alloc (.cells (buA9 n a m) 25)).alloc (.cells (secA secZ) 28)) w.heap.size s := ((ScR.new w s 28).kept (below_alloc _ _)).kept (below_alloc _ _)
  have q3 : RowC (((w.alloc (.cells (secA s) 28)).alloc (.cells (buA9 n a m) 25)).alloc (.cells (secA secZ) 28)) (w.heap.size + 1) (buA9 n a m) := by
    have := (RowC.new (w.alloc (.cells (secA s) 28)) (buA9 n a m) 25).kept (below_alloc _ (.cells (secA secZ) 28))
    rw [World.size_alloc] at this
    exact this
  have q4 : ScR (((w.alloc (.cells (secA s) 28)).alloc (.cells (buA9 n a m) 25)).alloc (.cells (secA secZ) 28)) (w.heap.size + 1 + 1) secZ := by
    have := ScR.new ((w.alloc (.cells (secA s) 28)).alloc (.cells (buA9 n a m) 25)) secZ 28
    rw [World.size_alloc, World.size_alloc] at this
    exact this
  obtain ⟨g4, hg4⟩ : ∃ g, w.heap.size + 1 + 1 = g := ⟨_, rfl⟩
  obtain ⟨g3, hg3⟩ : ∃ g, w.heap.size + 1 = g := ⟨_, rfl⟩
  obtain ⟨g2, hg2⟩ : ∃ g, w.heap.size = g := ⟨_, rfl⟩
  have hn23 : g2 ≠ g3 := by omega
  have hn24 : g2 ≠ g4 := by omega
  have hl2 : w.heap.size ≤ g2 := by omega
  have hl4 : w.heap.size ≤ g4 := by omega
  rw [hg4] at q4
  rw [hg3] at q3
  rw [hg2] at q2
  simp only [hg4]
  simp only [hg3]
  simp only [hg2]
  generalize ((w.alloc (.cells (secA s) 28)).alloc (.cells (buA9 n a m) 25)).alloc (.cells (secA secZ) 28) = X at hB q2 q3 q4 ⊢
  have H2 : Hid _ := q2
  have H3 : Hid _ := q3
  have H4 : Hid _ := q4
  have HB : Hid _ := hB
  clear q2 q3 q4 hB hg4 hg3 hg2
  go_wp2_with fail
  go_loopw [6, 7] (fun t v wr => ∃ i : Nat, i ≤ 32 ∧ v = .int .i64 i ∧ t = .bool (anyP (PB9 a m) i) ∧ ScR wr g2 (turnS s (PB9 a m) a.toNat i) ∧ RowC wr g3 (buA9 n a m) ∧ ScR wr g4 secZ ∧ Below w.heap.size w wr) (fun _ v _ => 32 - (intOf v).toNat)
  case atStart => exact ⟨0, by omega, rfl, rfl, H2.out, H3.out, H4.out, HB.out⟩
  case round =>
    clear H2 H3 H4 HB
    obtain ⟨i, hi, rfl, rfl, q2, q3, q4, hB⟩ := hrel
    have hi9 : (i : Int) ≤ 32 := by omega
    by_cases h32 : i < 32
    · have h32' : (i : Int) < 32 := by omega
      have c1 : wr.cell? ⟨g3, 1, none⟩ = some (.int .i64 a) := q3.cell 1
      have c2 : wr.cell? ⟨g3, 2, none⟩ = some (.int .u32 (m : Int)) := q3.cell 2
      have hab := and_bit9 m i hm
      have stay : PB9 a m i = false → anyP (PB9 a m) (i + 1) = anyP (PB9 a m) i ∧ turnS s (PB9 a m) a.toNat (i + 1) = turnS s (PB9 a m) a.toNat i := fun h => by
        rw [anyP, turnS, h]; exact ⟨rfl, rfl⟩
      by_cases hPi : PB9 a m i = true
      · have hPi' := hPi
        unfold PB9 at hPi'
        simp only [Bool.and_eq_true, decide_eq_true_eq] at hPi'
        obtain ⟨hbt, hge, hlt⟩ := hPi'
        rw [hbt, cond_true] at hab
        have HA : Hid (anyP (PB9 a m) (i + 1) = true) := by show _ = _; rw [anyP, hPi, cond_true]
        obtain ⟨q, hq⟩ : ∃ q : Nat, a.toNat + i = q := ⟨_, rfl⟩
        have hqb : q < 512 := by omega
        have HQ : Hid (a + (i : Int) = (q : Int)) := by show _ = _; omega
        obtain ⟨T, hT⟩ : ∃ T, turnS (s) (PB9 a m) a.toNat i = T := ⟨_, rfl⟩
        rw [hT] at q2
        have hca := q2.cell (q / 8) (by omega)
        obtain ⟨A, hA⟩ : ∃ A, T (q / 8) = A := ⟨_, rfl⟩
        obtain ⟨B, hBd⟩ : ∃ B, A ^^^ oneAt q = B := ⟨_, rfl⟩
        rw [hA] at hca
        have HTT : Hid (turnS (s) (PB9 a m) a.toNat (i + 1) = upd T (q / 8) B) := by
          show _ = _
          rw [turnS, hPi, cond_true, hT, flip, hq, hA, hBd]
        have F1 : Hid (IntKind.i64.wrap ((q : Int) / 8) = (q : Int) / 8) := by show _ = _; rw [IntKind.wrap_i64]; omega
        have F2 : Hid ((q : Int).tmod 8 = (q : Int) % 8) := by show _ = _; rw [Int.tmod_eq_emod_of_nonneg (by omega)]
        have F3 : Hid (IntKind.u8.wrap (2 ^ ((q : Int) % 8).toNat) = ((oneAt q).toNat : Int)) := by
          show _ = _
          have h8 := (oneAt q).toNat_lt
          rw [show ((q : Int) % 8).toNat = q % 8 by omega, show (2 : Int) ^ (q % 8) = ((2 ^ (q % 8) : Nat) : Int) by simp, ← oneAt_nat9 q, IntKind.wrap_u8]; omega
        have F4 : Hid (bits .xor .u8 (A.toNat : Int) ((oneAt q).toNat : Int) = (B.toNat : Int)) := by show _ = _; rw [xor89, hBd]
        have F5 : Hid ((0 : Int) ≤ (q : Int) / 8 ∧ (q : Int) / 8 < 64 ∧ ((q : Int) / 8).toNat = q / 8) := by show _ ∧ _; omega
        have FQ : Hid (IntKind.i64.wrap (q : Int) = (q : Int)) := by show _ = _; rw [IntKind.wrap_i64]; omega
        have H2 : Hid (ScR wr g2 T) := q2
        have H3 : Hid (RowC wr g3 (buA9 n a m)) := q3
        have HB : Hid (Below w.heap.size w wr) := hB
        have hlt2 : a < 512 - (i : Int) := hlt
        clear q2 q3 hB stay hA hT hPi hBd
        go_upto_region 6 with fail
        clear c2 hab
        refine wp_reliesT [Fx (.pointer (some ⟨g3, 1, none⟩)), Fx (.int .i64 (a)), Fx (.int .i64 ((i : Int))), Fx (.int .i64 ((q : Int))), Fx (.int .i64 ((q : Int) / 8)), Fx (.pointer (some ⟨g2, q / 8, none⟩)), Fx (.int .u8 (A.toNat : Int)), Fx (.pointer (some ⟨g3, 1, none⟩)), Fx (.int .i64 (a)), Fx (.int .i64 ((i : Int))), Fx (.int .i64 ((q : Int))), Fx (.int .i64 ((q : Int) % 8)), Fx (.int .u8 ((oneAt q).toNat : Int)), Fx (.int .u8 (B.toNat : Int)), Fx (.pointer (some ⟨g2, q / 8, none⟩))] (by kernel_rfl) (by kernel_rfl) ?_ ?_ ?_
        · repeat' (first | exact all_nil | apply all_cons)
          all_goals intro v y y' hv hb
          all_goals first | exact Fx_mono _ _ _ _ hv hb
        · refine ⟨?_, ?_, ?_, ?_, ?_, ?_, ?_, ?_, ?_, ?_, ?_, ?_, ?_, ?_, ?_, trivial⟩
          all_goals
            intro ρ x hp ρc ρg ρf ho hd
            have o3 : ρ (.tmp 3) = .pointer (some ⟨g3, 0, none⟩) := ho 3 rfl
            have o2 : ρ (.tmp 2) = .pointer (some ⟨g2, 0, none⟩) := ho 2 rfl
            have o7 : ρ (.tmp 7) = .int .i64 ((i : Int)) := ho 7 rfl
            clear ho
            have k1 := cell_later hp hca
            have k2 := cell_later hp c1
            simp only [depsR, depR, slotR, Fx, List.getElem?_cons_succ, List.getElem?_cons_zero, Region.binds, forall_const] at hd
            simp only [guardR]
            go_split_ands
          · go_simp
          · go_simp
          · go_simp
          · have hq1 := HQ.out
            have hq2 := FQ.out
            go_simp
          · have hq := F1.out
            go_simp
          · obtain ⟨z1, z2, z3⟩ := F5.out
            go_simp
          · go_simp
          · go_simp
          · go_simp
          · go_simp
          · have hq1 := HQ.out
            have hq2 := FQ.out
            go_simp
          · have hq := F2.out
            go_simp
          · have hq := F3.out
            go_simp
          · have hq := F4.out
            go_simp
          · obtain ⟨z1, z2, z3⟩ := F5.out
            go_simp
        · intro vs x1 hp hw
          simp only [owed, Fx] at hw
          obtain ⟨e0, e1, e2, e3, e4, e5, e6, e7, e8, e9, e10, e11, e12, e13, e14, -⟩ := hw
          simp only [List.length_cons, List.length_nil, List.take_succ_cons, List.take_zero, List.drop_succ_cons, List.drop_zero, asg, List.cons_append, List.nil_append, e0, e1, e2, e3, e4, e5, e6, e7, e8, e9, e10, e11, e12, e13, e14]
          clear e0 e1 e2 e3 e4 e5 e6 e7 e8 e9 e10 e11 e12 e13 e14
          have q2 := ScR.kept H2.out hp
          have q3 := RowC.kept H3.out hp
          have hB := HB.out.trans (hp.mono (Below.size HB.out))
          have hc1 := cell_later hp hca
          have hf1 := q2.frozen (q / 8)
          have h2s' := q2.set (q / 8) B (by omega)
          rw [← HTT.out] at h2s'
          have H2b : Hid _ := h2s'
          have H3b : Hid _ := q3.set_ne (q / 8) (.int .u8 (B.toNat : Int)) hn23
          have H4b : Hid _ := (q4.kept hp).set_ne (q / 8) (.int .u8 (B.toNat : Int)) hn24
          have HBb : Hid _ := hB.setCell (p := ⟨g2, q / 8, none⟩) hl2 (.int .u8 (B.toNat : Int))
          clear q2 q3 hB hp hca H2 H3 HB HTT F1 F2 F3 F4 F5 FQ HQ h2s' c1
          go_wp2
          go_roundw
          case rel => exact ⟨i + 1, by omega, by go_num, by rw [HA.out], H2b.out, H3b.out, H4b.out, HBb.out⟩
          case measure => simp [intOf]; omega
      · have hPf : PB9 a m i = false := by simpa using hPi
        obtain ⟨s1, s2⟩ := stay hPf
        have H2b : Hid (ScR wr g2 (turnS (s) (PB9 a m) a.toNat (i + 1))) := by show ScR _ _ _; rw [s2]; exact q2
        have HA : Hid (anyP (PB9 a m) (i + 1) = anyP (PB9 a m) i) := s1
        clear stay s1 s2 q2 hPi
        cases hbt : m.testBit i
        · rw [hbt, cond_false] at hab
          clear hbt hPf
          go_wp2
          go_roundw
          case rel => exact ⟨i + 1, by omega, by go_num, by rw [HA.out], H2b.out, q3, q4, hB⟩
          case measure => simp [intOf]; omega
        · rw [hbt, cond_true] at hab
          have hno : ¬ (0 ≤ a ∧ a < 512 - (i : Int)) := fun h => by
            unfold PB9 at hPf
            rw [hbt, decide_eq_true h] at hPf
            cases hPf
          clear hbt hPf
          by_cases hge : 0 ≤ a
          · have hlt : ¬ a < 512 - (i : Int) := fun h => hno ⟨hge, h⟩
            clear hno
            go_wp2
            go_roundw
            case rel => exact ⟨i + 1, by omega, by go_num, by rw [HA.out], H2b.out, q3, q4, hB⟩
            case measure => simp [intOf]; omega
          · clear hno
            go_wp2
            go_roundw
            case rel => exact ⟨i + 1, by omega, by go_num, by rw [HA.out], H2b.out, q3, q4, hB⟩
            case measure => simp [intOf]; omega
    · obtain rfl : i = 32 := by omega
      obtain ⟨T, hT⟩ : ∃ T, turnS s (PB9 a m) a.toNat 32 = T := ⟨_, rfl⟩
      rw [hT] at q2
      have HT : Hid _ := hT
      have HR9 : Hid (ScR (wr.setRow g4 (secA T)) g4 T) := q4.rowsame9 T
      have HB9 : Hid _ := below_row hB hl4 (secA T)
      obtain ⟨wo, rfl⟩ : ∃ wo, wo = wr := ⟨_, rfl⟩
      obtain ⟨r2, k2⟩ := q2
      obtain ⟨r4, k4⟩ := q4
      clear hT hB q3
      go_wp2
      refine sec_bodyPost2 4 5 g4 T rfl rfl rfl HR9.out ?_
      exact ⟨by rw [HT.out]; rfl, HB9.out⟩
/-! What mark owes -/
def i64w (n : Int) : Prop := -9223372036854775808 ≤ n ∧ n ≤ 9223372036854775807
def MPutOk : Prop := ∀ (l : List Wr) (x : Option Addr) (L c : Nat) (n : Int) (w : World), l.length = L → L ≤ 2199023255552 → IsK wrE w (.slice x L c) l → WrB l → i64w n →
  Calls Try.prog 7 #[.slice x L c, .int .i64 n] w fun r w' => r = .returned (.tuple #[.agg (secA (mPutS l n)), .int .i64 (mPutE l n)]) ∧ Below w.heap.size w w'
def MStOk : Prop := ∀ (s : Sc) (j : List Sc) (x : Option Addr) (L c : Nat) (n : Int) (w : World), j.length = L → L ≤ 2199023255552 → IsK secE w (.slice x L c) j → i64w n →
  Calls Try.prog 8 #[.agg (secA s), .slice x L c, .int .i64 n] w fun r w' => ∃ y c', r = .returned (.tuple #[.int .i64 (mStK s j n), .slice y (mStL s j n).length c']) ∧ OwnK wrE w' w.heap.size (.slice y (mStL s j n).length c') (mStL s j n) ∧ Below w.heap.size w w'
end Go.Proofs.Ytgnjokbabecbdaa
