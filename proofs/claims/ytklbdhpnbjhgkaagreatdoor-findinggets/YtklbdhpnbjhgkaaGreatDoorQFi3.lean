import Derived.Test.YtklbdhpnbjhgkaaGreatDoorQDig2
import Derived.Test.YtklbdhpnbjhgkaaGreatDoorQCrcR
import Derived.Test.YtklbdhpnbjhgkaaGreatDoorQFi2
import Derived.Test.YtklbdhpnbjhgkaaGreatDoorQFin2
import Derived.Test.YtklbdhpnbjhgkaaGreatDoorQRelk
namespace Go.Proofs.YtklbdhpnbjhgkaaGreatDoor
open Go.RowKit Go.Sort

/-! The document's own sums and comparisons -/
theorem low_bit22 (y : BitVec 32) : (y.toNat : Int) % 2 = bif y.getLsbD 0 then 1 else 0 := by
  have h : y.getLsbD 0 = decide (y.toNat % 2 = 1) := by
    rw [BitVec.getLsbD, Nat.testBit_zero]
  rw [h]
  rcases Nat.mod_two_eq_zero_or_one y.toNat with h2 | h2
  · simp [h2]; omega
  · simp [h2]; omega
theorem not_ones22 (n : BitVec 32) : (4294967295 : Int) - (n.toNat : Int) = ((n ^^^ ones).toNat : Int) := by
  have e : n ^^^ ones = ~~~ n := by rw [show ones = BitVec.allOnes 32 by decide, BitVec.xor_allOnes]
  rw [e, BitVec.toNat_not]
  have := n.isLt
  omega
set_option linter.unusedSimpArgs false in
set_option maxHeartbeats 400000 in
theorem refCrc22 (v : Value) (l : List UInt8) (w : World) (hl : l.length ≤ maxLen) (hv : IsB w v l) :
    Calls Tryz.prog 35 #[v] w fun e w' => e = .returned (.int .u32 ((sumL l).toNat : Nat)) ∧ w' = w := by
  obtain ⟨x, c, rfl⟩ := hv.len
  have hcells := fun k hk => hv.spot k hk
  clear hv
  unfold maxLen at hl
  go_enter Tryz.func35, Tryz.ntmps35
  go_wp2
  go_loop [3, 4] (fun n i => ∃ k : Nat, k ≤ l.length ∧ i = .int .i64 k ∧ n = .int .u32 ((crcL ones (l.take k)).toNat : Nat)) (fun _ i => l.length - (intOf i).toNat)
  case atStart => exact ⟨0, Nat.zero_le _, rfl, by simp only [List.take_zero]; rfl⟩
  case round =>
    obtain ⟨k, hk, rfl, rfl⟩ := hrel
    by_cases hlt : k < l.length
    · obtain ⟨b, o, rfl, hb, hc⟩ := hcells k hlt
      clear hcells
      have HS : Hid (crcL ones (l.take (k + 1)) = byt (crcL ones (l.take k)) (l[k]?.getD 0)) := crcL_take_succ ones l k hlt
      generalize crcL ones (l.take k) = n at HS ⊢
      generalize l[k]?.getD 0 = d at hc HS
      have hd := d.toNat_lt
      obtain ⟨m, hm⟩ : ∃ m, n ^^^ BitVec.ofNat 32 d.toNat = m := ⟨_, rfl⟩
      have hx : bits .xor .u32 (n.toNat : Int) (d.toNat : Int) = (m.toNat : Int) := by rw [← hm]; exact xor_byte n d
      have HM : Hid (crcL ones (l.take (k + 1)) = stN 8 m) := by show _ = _; rw [HS.out, byt, hm]
      clear hm HS
      have hk0 : (0 : Int) ≤ (k : Int) := by omega
      have hk1 : (k : Int) < (l.length : Int) := by omega
      go_wp2
      go_loop [3, 5] (fun y i => ∃ j : Nat, j ≤ 8 ∧ i = .int .i64 j ∧ y = .int .u32 ((stN j m).toNat : Nat)) (fun _ i => 8 - (intOf i).toNat)
      case atStart => exact ⟨0, by omega, rfl, rfl⟩
      case round =>
        obtain ⟨j, hj, rfl, rfl⟩ := hrel
        by_cases hj8 : j < 8
        · have HJ : Hid (stN (j + 1) m = st (stN j m)) := stN_succ' j m
          generalize stN j m = y at HJ ⊢
          have hy := y.isLt
          have ha := low_bit22 y
          have ht : (y.toNat : Int).tmod 2 = (y.toNat : Int) % 2 := Int.tmod_eq_emod_of_nonneg (by omega)
          cases hb0 : y.getLsbD 0
          · rw [hb0] at ha
            simp only [cond_false] at ha
            rw [ha] at ht
            have HZ : Hid ((y.toNat : Int) / (2 : Int) = (((stN (j + 1) m).toNat : Nat) : Int)) := by show _ = _; rw [HJ.out]; exact st_even y hb0
            clear hb0
            go_wp2
            go_round
            case rel => exact ⟨j + 1, by omega, by go_num, by rw [HZ.out]⟩
            case measure => simp [intOf]; omega
          · rw [hb0] at ha
            simp only [cond_true] at ha
            rw [ha] at ht
            have HZ : Hid (bits .xor .u32 ((y.toNat : Int) / (2 : Int)) 3988292384 = (((stN (j + 1) m).toNat : Nat) : Int)) := by show _ = _; rw [HJ.out]; exact st_odd y hb0
            clear hb0
            go_wp2
            go_round
            case rel => exact ⟨j + 1, by omega, by go_num, by rw [HZ.out]⟩
            case measure => simp [intOf]; omega
        · obtain rfl : j = 8 := by omega
          go_wp2
          go_round
          case rel => exact ⟨k + 1, by omega, by go_num, by rw [HM.out]⟩
          case measure => simp [intOf]; omega
    · obtain rfl : k = l.length := by omega
      have hx := not_ones22 (crcL ones l)
      have hlt2 := (crcL ones l).isLt
      rw [List.take_length]
      have HX : Hid (_ = _) := hx
      clear hx
      go_wp2
      go_ret
      exact ⟨ret_int HX.out, rfl⟩
set_option linter.unusedSimpArgs false in
set_option maxHeartbeats 400000 in
theorem refCompare22 (a b : Nat → UInt8) (w : World) : Calls Tryz.prog 70 #[.agg (dg_secA a), .agg (dg_secA b)] w fun e w' => e = .returned (.int .i64 (dcmp a b)) ∧ Below w.heap.size w w' := by
  obtain ⟨r, hr⟩ : ∃ r, dcmp a b = r := ⟨_, rfl⟩
  have HR : Hid _ := hr
  rw [hr]
  clear hr
  have hB : Below w.heap.size w ((w.alloc (.cells (dg_secA a) 50)).alloc (.cells (dg_secA b) 50)) := (below_alloc w _).alloc (by simp) _
  have hRa : DgR ((w.alloc (.cells (dg_secA a) 50)).alloc (.cells (dg_secA b) 50)) w.heap.size a := (DgR.new w a _).kept (below_alloc _ _)
  have hRb : DgR ((w.alloc (.cells (dg_secA a) 50)).alloc (.cells (dg_secA b) 50)) (w.heap.size + 1) b := by
    have := DgR.new (w.alloc (.cells (dg_secA a) 50)) b 50
    rw [World.size_alloc] at this
    exact this
  go_enter Tryz.func70, Tryz.ntmps70
  go_wp2_with fail
  obtain ⟨gb, hgb⟩ : ∃ g, w.heap.size + 1 = g := ⟨_, rfl⟩
  rw [hgb] at hRb
  simp only [hgb]
  clear hgb
  generalize (w.alloc (.cells (dg_secA a) 50)).alloc (.cells (dg_secA b) 50) = X at hB hRa hRb ⊢
  go_loopw [5] (fun i wr => ∃ k : Nat, k ≤ 32 ∧ i = .int .i64 k ∧ (∀ j, j < k → a j = b j) ∧ Below X.heap.size X wr) (fun i _ => 32 - (intOf i).toNat)
  case atStart => exact ⟨0, by omega, rfl, fun j hj => by omega, Below.refl _ _⟩
  case round =>
    obtain ⟨k, hk, rfl, hno, hBk⟩ := hrel
    by_cases hlt : k < 32
    · have ca := (hRa.kept hBk).cell k hlt
      have cb := (hRb.kept hBk).cell k hlt
      have hk0 : (0 : Int) ≤ (k : Int) := by omega
      have hk1 : (k : Int) < 32 := by omega
      have HB : Hid (Below w.heap.size w wr) := hB.trans (hBk.mono hB.size)
      rcases (by omega : (a k).toNat < (b k).toNat ∨ (b k).toNat < (a k).toNat ∨ (a k).toNat = (b k).toNat) with h | h | h
      · have HV : Hid (r = -1) := by show _ = _; rw [← HR.out]; exact dcmp_lt hno h hlt
        clear hno
        generalize (a k).toNat = x at ca h
        generalize (b k).toNat = y at cb h
        go_upto_region 4 with fail
        go_quiet (fail)
        go_wp2
        go_ret
        exact ⟨by rw [HV.out]; rfl, below_drew4 HB.out _⟩
      · have HV : Hid (r = 1) := by show _ = _; rw [← HR.out]; exact dcmp_gt hno h hlt
        have h' : ¬ (a k).toNat < (b k).toNat := by omega
        clear hno
        generalize (a k).toNat = x at ca h h'
        generalize (b k).toNat = y at cb h h'
        go_upto_region 4 with fail
        go_quiet (fail)
        go_upto_region 6 with fail
        go_quiet (fail)
        go_wp2
        go_ret
        exact ⟨by rw [HV.out]; rfl, below_drew4 (below_drew4 HB.out _) _⟩
      · have HN : Hid (∀ j, j < k + 1 → a j = b j) := fun j hj => by
          rcases Nat.lt_or_ge j k with h1 | h1
          · exact hno j h1
          · obtain rfl : j = k := by omega
            exact UInt8.toNat_inj.1 h
        clear hno
        rw [h] at ca
        generalize (b k).toNat = y at ca cb
        go_upto_region 4 with fail
        go_quiet (fail)
        go_upto_region 6 with fail
        go_quiet (fail)
        have HB2 : Hid (∀ n m, Below X.heap.size X ((wr.drewN n).drewN m)) := fun n m => below_drew4 (below_drew4 hBk n) m
        have HB3 : Hid (∀ n, Below X.heap.size X (wr.drewN n)) := fun n => below_drew4 hBk n
        clear hBk ca cb
        go_wp2
        go_roundw
        case rel => first | exact ⟨k + 1, by omega, by go_num, HN.out, by first | exact HB2.out _ _ | exact HB3.out _⟩ | ((repeat apply Exists.intro); refine ⟨⟨k + 1, by omega, ?_, HN.out, by first | exact HB2.out _ _ | exact HB3.out _⟩, rfl⟩; go_num)
        case measure => simp [intOf]; omega
    · obtain rfl : k = 32 := by omega
      have HV : Hid (r = 0) := by show _ = _; rw [← HR.out]; exact dcmp_eq hno
      have HB : Hid (Below w.heap.size w wr) := hB.trans (hBk.mono hB.size)
      clear hno
      go_wp2
      go_ret
      exact ⟨by rw [HV.out]; rfl, HB.out⟩
end Go.Proofs.YtklbdhpnbjhgkaaGreatDoor
namespace Go.Proofs.YtklbdhpnbjhgkaaGreatDoor
open Go.RowKit Go.Sort

/-! assayref22: gone, check -/
end Go.Proofs.YtklbdhpnbjhgkaaGreatDoor
namespace Go.Proofs.YtklbdhpnbjhgkaaGreatDoor
open Go.RowKit Go.Sort

/-! assayref22.Put -/
end Go.Proofs.YtklbdhpnbjhgkaaGreatDoor
namespace Go.Proofs.YtklbdhpnbjhgkaaGreatDoor
open Go.RowKit Go.Sort

/-! Rows of one's own, whatever their elements: copied, marked; what a mark keeps -/
structure RawT (t e : TypeId) (k bytes : Nat) : Prop where
  und : Tryz.prog.underlying t = some (.slice e)
  info : ∃ i z, Tryz.prog.info? e = some i ∧ i.zero = some z ∧ i.size = k ∧ i.bytes = bytes ∧ z.cells.size = k
  kp : 0 < k
theorem row_keep {w w' : World} {B k n : Nat} {e : TypeId} {v : Value} {xs : List Value} (h : w.ownsRow B e k v n xs) (hb : Below w.heap.size w w') : w'.ownsRow B e k v n xs :=
  World.ownsRow.kept h (row := none) ⟨hb.os, hb.tape, hb.output, hb.size, fun k hk _ => hb.block k hk⟩ (by
    rcases h.2 with ⟨rfl, _⟩ | ⟨g, cap, cur, rfl, _⟩
    · exact .inl rfl
    · exact .inr (by simp [Value.ownBlock]))
end Go.Proofs.YtklbdhpnbjhgkaaGreatDoor
namespace Go.Proofs.YtklbdhpnbjhgkaaGreatDoor
open Go.RowKit Go.Sort

/-! The law's twin -/
def cutD0 (x hi : Value) : Sem Next := do pure (.value (← Instr.sliceAt 29 x none (some hi) none))
@[go_sem ↓] theorem execOp_cutD0 (ρ : Operand → Value) (dst : Option Tmp) (ty : TypeId) (pos : String) (after : Array Edge) (guard : Option (Nat × Bool)) (x hi : Operand) : execOp ρ { dst, op := .slice 29 x none (some hi) none, type := ty, pos, after, guard } = cutD0 (ρ x) (ρ hi) := rfl
def cutI0 (x hi : Value) : Sem Next := do pure (.value (← Instr.sliceAt 30 x none (some hi) none))
@[go_sem ↓] theorem execOp_cutI0 (ρ : Operand → Value) (dst : Option Tmp) (ty : TypeId) (pos : String) (after : Array Edge) (guard : Option (Nat × Bool)) (x hi : Operand) : execOp ρ { dst, op := .slice 30 x none (some hi) none, type := ty, pos, after, guard } = cutI0 (ρ x) (ρ hi) := rfl
def T0 (e : TypeId) (k B : Nat) : Value → World → Prop := fun v x => ∃ g, v = .slice (some ⟨g, 0, none⟩) 0 0 ∧ x.ownsRow B e k v 0 []
def T3 (e : TypeId) (k B n : Nat) (xs : List Value) : Value → World → Prop := fun v x => ∃ y c, v = .slice y n c ∧ x.ownsRow B e k v n xs
def T5 (e : TypeId) (k B : Nat) (ys : List Value) : Value → World → Prop := fun v x => ∃ g, v = .slice (some ⟨g, 0, none⟩) 1 1 ∧ x.ownsRow B e k v 1 ys
def T6 (e : TypeId) (k B n : Nat) (zs : List Value) : Value → World → Prop := fun v x => ∃ g c, v = .slice (some ⟨g, 0, none⟩) (n + 1) c ∧ x.ownsRow B e k v (n + 1) zs
def T9 (e : TypeId) (k B n : Nat) (zs : List Value) : Value → World → Prop := fun v x => ∃ g c, v = .slice (some ⟨g, 0, none⟩) n c ∧ x.ownsRow B e k (.slice (some ⟨g, 0, none⟩) (n + 1) c) (n + 1) zs
theorem T0.mono {e : TypeId} {k B : Nat} {v : Value} {x y : World} (h : T0 e k B v x) (hb : Below x.heap.size x y) : T0 e k B v y := by obtain ⟨g, h1, h2⟩ := h; exact ⟨g, h1, row_keep h2 hb⟩
theorem T3.mono {e : TypeId} {k B n : Nat} {xs : List Value} {v : Value} {x y : World} (h : T3 e k B n xs v x) (hb : Below x.heap.size x y) : T3 e k B n xs v y := by obtain ⟨g, c, h1, h2⟩ := h; exact ⟨g, c, h1, row_keep h2 hb⟩
theorem T5.mono {e : TypeId} {k B : Nat} {ys : List Value} {v : Value} {x y : World} (h : T5 e k B ys v x) (hb : Below x.heap.size x y) : T5 e k B ys v y := by obtain ⟨g, h1, h2⟩ := h; exact ⟨g, h1, row_keep h2 hb⟩
theorem T6.mono {e : TypeId} {k B n : Nat} {xs : List Value} {v : Value} {x y : World} (h : T6 e k B n xs v x) (hb : Below x.heap.size x y) : T6 e k B n xs v y := by obtain ⟨g, c, h1, h2⟩ := h; exact ⟨g, c, h1, row_keep h2 hb⟩
theorem T9.mono {e : TypeId} {k B n : Nat} {xs : List Value} {v : Value} {x y : World} (h : T9 e k B n xs v x) (hb : Below x.heap.size x y) : T9 e k B n xs v y := by obtain ⟨g, c, h1, h2⟩ := h; exact ⟨g, c, h1, row_keep h2 hb⟩
end Go.Proofs.YtklbdhpnbjhgkaaGreatDoor
