
import Derived.Test.YthkjfgncbmpllaaDsS
namespace Go.Proofs.Ythkjfgncbmpllaa
open Go.RowKit

/-! Literals of digests: some bytes, the others 0. -/
def dgOf : List (Nat × UInt8) → Dg → Dg
  | [], s => s
  | (i, b) :: r, s => dgOf r (upd s i b)
def dgPs (ps : List (Nat × UInt8)) : List (Nat × Value) := ps.map fun p => (p.1, Value.int .u8 (p.2.toNat : Int))
theorem fill_ps (place : Nat → Option (Nat × Nat)) (hp : ∀ i, i < 32 → place i = some (i, 1)) : ∀ (ps : List (Nat × UInt8)) (s : Dg), (∀ p ∈ ps, p.1 < 32) → Instr.fill place (dg_secA s) (dgPs ps) = some (dg_secA (dgOf ps s))
  | [], s, _ => rfl
  | (i, b) :: r, s, h => by
    have hi : i < 32 := h (i, b) (by simp)
    have hc : (Value.int .u8 (b.toNat : Int)).cells = #[Value.int .u8 (b.toNat : Int)] := rfl
    unfold dgPs
    rw [List.map_cons]
    unfold Instr.fill
    simp only [hp i hi, hc, dg_secA_size]
    rw [if_neg (by simp; omega)]
    have e : (#[Value.int .u8 (b.toNat : Int)].zipIdx.foldl (fun (cs : Array Value) (x : Value × Nat) => cs.setIfInBounds (i + x.2) x.1) (dg_secA s)) = dg_secA (upd s i b) := by
      simp [dg_secA_set s i b hi]
    have := fill_ps place hp r (upd s i b) (fun p hp' => h p (by simp [hp']))
    unfold dgPs at this
    rw [dgOf, ← this]
    congr 1
theorem built_dg (ps : List (Nat × UInt8)) (h : ∀ p ∈ ps, p.1 < 32) : Try.prog.built 23 (dgPs ps) = some (dg_secA (dgOf ps dg_secZ)) := by
  have hz := info23
  obtain ⟨i, hi, hzz⟩ := Option.map_eq_some_iff.1 hz
  simp only [Prod.mk.injEq] at hzz
  have hb : (Try.prog.info? 5).map (·.size) = some 1 := by kernel_rfl
  obtain ⟨ib, hib, hsb⟩ := Option.map_eq_some_iff.1 hb
  unfold Program.built
  simp only [hi, Try.underlying23, hzz.1, hib, hsb]
  have hcz : (Value.agg (dg_secA dg_secZ)).cells = dg_secA dg_secZ := rfl
  rw [hcz]
  exact fill_ps _ (fun i _ => by simp) ps dg_secZ h
theorem nat_back {n : Int} (h0 : 0 ≤ n) (h1 : n < 256) : ((UInt8.ofNat n.toNat).toNat : Int) = n := by
  rw [UInt8.toNat_ofNat']; omega
def dgB1 (i0 : Nat) (x0 : Value) : Sem Next := do pure (.value (← Instr.build 23 #[(i0, x0)]))
@[go_sem ↓] theorem execOp_dgB1 (ρ : Operand → Value) (dst : Option Tmp) (ty : TypeId) (pos : String) (after : Array Edge) (guard : Option (Nat × Bool)) (i0 : Nat) (x0 : Operand) : execOp ρ { dst, op := .build 23 #[(i0, x0)], type := ty, pos, after, guard } = dgB1 i0 (ρ x0) := by simp [execOp, dgB1]
@[go_sem] theorem run_dgB1 (w : World) (i0 : Nat) (n0 : Int) (hi0 : i0 < 32) (an0 : 0 ≤ n0) (bn0 : n0 < 256) : (dgB1 i0 (.int .u8 n0)).run Try.prog w = .ok (.value (.agg (dg_secA (dgOf [(i0, UInt8.ofNat n0.toNat)] dg_secZ)))) w := by
  have h := built_dg [(i0, UInt8.ofNat n0.toNat)] (by simp [hi0])
  unfold dgPs at h
  simp only [List.map_cons, List.map_nil, nat_back an0 bn0] at h
  simp only [dgB1, Sem.run_bind]
  rw [run_build w 23 _ _ h]
  rfl
def dgB2 (i0 i1 : Nat) (x0 x1 : Value) : Sem Next := do pure (.value (← Instr.build 23 #[(i0, x0), (i1, x1)]))
@[go_sem ↓] theorem execOp_dgB2 (ρ : Operand → Value) (dst : Option Tmp) (ty : TypeId) (pos : String) (after : Array Edge) (guard : Option (Nat × Bool)) (i0 i1 : Nat) (x0 x1 : Operand) : execOp ρ { dst, op := .build 23 #[(i0, x0), (i1, x1)], type := ty, pos, after, guard } = dgB2 i0 i1 (ρ x0) (ρ x1) := by simp [execOp, dgB2]
@[go_sem] theorem run_dgB2 (w : World) (i0 i1 : Nat) (n0 n1 : Int) (hi0 : i0 < 32) (an0 : 0 ≤ n0) (bn0 : n0 < 256) (hi1 : i1 < 32) (an1 : 0 ≤ n1) (bn1 : n1 < 256) : (dgB2 i0 i1 (.int .u8 n0) (.int .u8 n1)).run Try.prog w = .ok (.value (.agg (dg_secA (dgOf [(i0, UInt8.ofNat n0.toNat), (i1, UInt8.ofNat n1.toNat)] dg_secZ)))) w := by
  have h := built_dg [(i0, UInt8.ofNat n0.toNat), (i1, UInt8.ofNat n1.toNat)] (by simp [hi0, hi1])
  unfold dgPs at h
  simp only [List.map_cons, List.map_nil, nat_back an0 bn0, nat_back an1 bn1] at h
  simp only [dgB2, Sem.run_bind]
  rw [run_build w 23 _ _ h]
  rfl
def dgB4 (i0 i1 i2 i3 : Nat) (x0 x1 x2 x3 : Value) : Sem Next := do pure (.value (← Instr.build 23 #[(i0, x0), (i1, x1), (i2, x2), (i3, x3)]))
@[go_sem ↓] theorem execOp_dgB4 (ρ : Operand → Value) (dst : Option Tmp) (ty : TypeId) (pos : String) (after : Array Edge) (guard : Option (Nat × Bool)) (i0 i1 i2 i3 : Nat) (x0 x1 x2 x3 : Operand) : execOp ρ { dst, op := .build 23 #[(i0, x0), (i1, x1), (i2, x2), (i3, x3)], type := ty, pos, after, guard } = dgB4 i0 i1 i2 i3 (ρ x0) (ρ x1) (ρ x2) (ρ x3) := by simp [execOp, dgB4]
@[go_sem] theorem run_dgB4 (w : World) (i0 i1 i2 i3 : Nat) (n0 n1 n2 n3 : Int) (hi0 : i0 < 32) (an0 : 0 ≤ n0) (bn0 : n0 < 256) (hi1 : i1 < 32) (an1 : 0 ≤ n1) (bn1 : n1 < 256) (hi2 : i2 < 32) (an2 : 0 ≤ n2) (bn2 : n2 < 256) (hi3 : i3 < 32) (an3 : 0 ≤ n3) (bn3 : n3 < 256) : (dgB4 i0 i1 i2 i3 (.int .u8 n0) (.int .u8 n1) (.int .u8 n2) (.int .u8 n3)).run Try.prog w = .ok (.value (.agg (dg_secA (dgOf [(i0, UInt8.ofNat n0.toNat), (i1, UInt8.ofNat n1.toNat), (i2, UInt8.ofNat n2.toNat), (i3, UInt8.ofNat n3.toNat)] dg_secZ)))) w := by
  have h := built_dg [(i0, UInt8.ofNat n0.toNat), (i1, UInt8.ofNat n1.toNat), (i2, UInt8.ofNat n2.toNat), (i3, UInt8.ofNat n3.toNat)] (by simp [hi0, hi1, hi2, hi3])
  unfold dgPs at h
  simp only [List.map_cons, List.map_nil, nat_back an0 bn0, nat_back an1 bn1, nat_back an2 bn2, nat_back an3 bn3] at h
  simp only [dgB4, Sem.run_bind]
  rw [run_build w 23 _ _ h]
  rfl
/-- The law's marks. -/
def markD (i j : Nat) : Dg := dgOf [(0, 250), (1, UInt8.ofNat (i % 256)), (2, UInt8.ofNat (j % 256)), (3, UInt8.ofNat (j / 256 % 256))] dg_secZ
set_option maxHeartbeats 400000 in
theorem mark_any (i j : Nat) (w : World) : Calls Try.prog 17 #[.int .i64 (i : Int), .int .i64 (j : Int)] w fun e w' => e = .returned (.agg (dg_secA (markD i j))) ∧ Below w.heap.size w w' := by
  obtain ⟨D, hD⟩ : ∃ D, markD i j = D := ⟨_, rfl⟩
  have HD : Hid _ := hD
  rw [hD]
  unfold markD at hD
  have a1 : (0 : Int) ≤ (i : Int) % 256 := by omega
  have a2 : (i : Int) % 256 < 256 := by omega
  have a3 : (0 : Int) ≤ (j : Int) % 256 := by omega
  have a4 : (j : Int) % 256 < 256 := by omega
  have a5 : (0 : Int) ≤ (j : Int) / 256 % 256 := by omega
  have a6 : (j : Int) / 256 % 256 < 256 := by omega
  go_enter Try.func17, Try.ntmps17
  go_wp2
  exact dg_bodyPost_sec 4 w.heap.size rfl rfl rfl (by go_simp) ⟨by go_simp, below_alloc _ _⟩
end Go.Proofs.Ythkjfgncbmpllaa
