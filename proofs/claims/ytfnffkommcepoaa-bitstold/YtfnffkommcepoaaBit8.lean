
import Derived.Test.YtfnffkommcepoaaLawBitsTold
namespace Go.Proofs.Ytfnffkommcepoaa
open Go.RowKit

/-! append([]T{}, l...) of one-cell elements; sectors with a first byte; lists apart -/
theorem run_app0G {t e : TypeId} {bytes : Nat} (E : Elt t e bytes) (w : World) (a : Option Addr) (n c' : Nat) (hn : n ≤ c') (x : Option Addr) (c : Nat) (ty : TypeId) (hx : a = none → n = 0) :
    (Builtin.append_ #[t, t] ty #[.slice a n c', .slice x 0 c]).run Try.prog w = .ok (.slice a n c') w := by
  obtain ⟨i, z, hi, hz, hs, hby, hzs⟩ := E.info
  cases a with
  | none =>
    have := hx rfl
    subst this
    cases x <;> simp [Builtin.append_, run_underlying E.ht, sizeOf, typeInfo, hi, Builtin.lenOf, Builtin.firstCells, loadCells, loadCellsFrom]
  | some a => cases x <;> simp [Builtin.append_, run_underlying E.ht, sizeOf, typeInfo, hi, Builtin.lenOf, Builtin.firstCells, loadCells, loadCellsFrom, storeCells, hn]
theorem run_copyG {t e : TypeId} {bytes : Nat} (E : Elt t e bytes) (w : World) (B : Nat) (v : Value) (x : Option Addr) (n c : Nat) (xs : List Value) (ty : TypeId) (hv : OwnG e w B v []) (hB : B ≤ w.heap.size) (hn : xs.length = n) (h : IsG w (.slice x n c) xs) (h1 : ∀ u ∈ xs, u.oneCell' = true) (hl : n * bytes ≤ 140737488355328) (h63 : n ≤ maxLen) :
    ∃ v' w', (Builtin.append_ #[t, t] ty #[v, .slice x n c]).run Try.prog w = .ok v' w' ∧ OwnG e w' B v' xs ∧ Below B w w' := by
  by_cases h0 : xs = []
  · subst h0
    obtain rfl : n = 0 := by simpa using hn.symm
    rcases hv.2 with ⟨rfl, -⟩ | ⟨g, cap, cur, rfl, hb, hg, hle, hm, hs, ht⟩
    · exact ⟨_, w, run_app0G E w none 0 0 (Nat.le_refl _) x c ty (fun _ => rfl), hv, Below.refl _ _⟩
    · exact ⟨_, w, run_app0G E w (some ⟨g, 0, none⟩) 0 cap (Nat.zero_le _) x c ty (fun _ => rfl), hv, Below.refl _ _⟩
  · subst hn
    have hp : 0 < xs.length := List.length_pos_iff.2 h0
    rcases h with ⟨h, h2⟩ | ⟨a, d, he, hc⟩
    · exact absurd h2 h0
    · simp only [Value.slice.injEq] at he
      obtain ⟨rfl, -, rfl⟩ := he
      obtain ⟨v', w', hr, hO, hg, hB'⟩ := run_appG E w B v [] xs a c ty hv (fun j u hu => by
        obtain ⟨hj, rfl⟩ := List.getElem?_eq_some_iff.1 hu
        exact hc j hj) h1 h0 (by simpa using hl) (by simpa using h63) hB
      exact ⟨v', w', hr, by simpa using hO, hB'⟩
theorem bV_one (b : List Bool) : ∀ u ∈ bV b, u.oneCell' = true := by
  intro u hu
  unfold bV at hu
  obtain ⟨a, -, rfl⟩ := List.mem_map.1 hu
  rfl
theorem iV_one (b : List Int) : ∀ u ∈ iV b, u.oneCell' = true := by
  intro u hu
  unfold iV at hu
  obtain ⟨a, -, rfl⟩ := List.mem_map.1 hu
  rfl
theorem bV_app (a b : List Bool) : bV a ++ bV b = bV (a ++ b) := by simp [bV]
theorem iV_app (a b : List Int) : iV a ++ iV b = iV (a ++ b) := by simp [iV]
theorem OwnK.grown {α : Type} {E : EK α} {w w' : World} {B : Nat} {v : Value} {ds : List α} {row : Option Nat} (h : OwnK E w B v ds) (hg : w.grownBy w' row) (hne : v.ownBlock = none ∨ v.ownBlock ≠ row) : OwnK E w' B v ds := World.ownsRow.kept h hg hne
theorem OwnK.lt {α : Type} {E : EK α} {w : World} {B : Nat} {v : Value} {ds : List α} (h : OwnK E w B v ds) : ∀ k, v.ownBlock = some k → B ≤ k ∧ k < w.heap.size := World.ownsRow.lt h
theorem OwnK.len {α : Type} {E : EK α} {w : World} {B : Nat} {x : Option Addr} {n c : Nat} {ds : List α} (h : OwnK E w B (.slice x n c) ds) : n = ds.length := by
  rcases h.2 with ⟨he, hn⟩ | ⟨g, cap, cur, he, -⟩
  · simp only [Value.slice.injEq] at he; omega
  · simp only [Value.slice.injEq] at he; exact he.2.1
theorem apart_of {u v : Value} (H : Nat) (hu : ∀ k, u.ownBlock = some k → k < H) (hv : ∀ k, v.ownBlock = some k → H ≤ k) : ApartV u v ∧ ApartV v u := by
  unfold ApartV
  constructor
  · cases h : u.ownBlock with
    | none => exact .inl rfl
    | some k =>
      refine .inr fun e => ?_
      have h1 := hu k h
      have h2 := hv k e.symm
      omega
  · cases h : v.ownBlock with
    | none => exact .inl rfl
    | some k =>
      refine .inr fun e => ?_
      have h1 := hv k h
      have h2 := hu k e.symm
      omega
def oneS (b : UInt8) : Sc := upd secZ 0 b
def secBuild1 (x : Value) : Sem Next := do pure (.value (← Instr.build 29 #[(0, x)]))
@[go_sem ↓] theorem execOp_build_sec1 (ρ : Operand → Value) (dst : Option Tmp) (ty : TypeId) (pos : String) (after : Array Edge) (guard : Option (Nat × Bool)) (x : Operand) : execOp ρ { dst, op := .build 29 #[(0, x)], type := ty, pos, after, guard } = secBuild1 (ρ x) := by
  simp [execOp, secBuild1]
@[go_sem] theorem run_secB1_7 (w : World) : (secBuild1 (.int .u8 7)).run Try.prog w = .ok (.value (.agg (secA (oneS 7)))) w := by
  simp only [secBuild1, Sem.run_bind]
  rw [run_build w 29 #[(0, .int .u8 7)] (secA (oneS 7)) (by kernel_rfl)]; rfl
@[go_sem] theorem run_secB1_200 (w : World) : (secBuild1 (.int .u8 200)).run Try.prog w = .ok (.value (.agg (secA (oneS 200)))) w := by
  simp only [secBuild1, Sem.run_bind]
  rw [run_build w 29 #[(0, .int .u8 200)] (secA (oneS 200)) (by kernel_rfl)]; rfl
@[go_sem] theorem run_secB1_201 (w : World) : (secBuild1 (.int .u8 201)).run Try.prog w = .ok (.value (.agg (secA (oneS 201)))) w := by
  simp only [secBuild1, Sem.run_bind]
  rw [run_build w 29 #[(0, .int .u8 201)] (secA (oneS 201)) (by kernel_rfl)]; rfl
@[go_sem] theorem run_secB1_202 (w : World) : (secBuild1 (.int .u8 202)).run Try.prog w = .ok (.value (.agg (secA (oneS 202)))) w := by
  simp only [secBuild1, Sem.run_bind]
  rw [run_build w 29 #[(0, .int .u8 202)] (secA (oneS 202)) (by kernel_rfl)]; rfl
theorem secEq_self7 (s : Sc) : secEq s s = true := by rw [secEq_dec]; simp
/-- in := append(append([]bool{}, b...), true) -/
theorem run_in (w : World) (b : List Bool) (x : Option Addr) (n c : Nat) (ty : TypeId) (hn : b.length = n) (hl : n + 1 ≤ 140737488355328) (h : IsG w (.slice x n c) (bV b)) :
    ∃ v1 w1, (Builtin.append_ #[22, 22] ty #[.slice (some ⟨w.heap.size, 0, none⟩) 0 0, .slice x n c]).run Try.prog (w.alloc (.cells #[] 4)) = .ok v1 w1 ∧
      ∃ g c2 w2, (Builtin.append_ #[22, 22] ty #[v1, .slice (some ⟨w1.heap.size, 0, none⟩) 1 1]).run Try.prog (w1.alloc (.cells #[.bool true] 4)) = .ok (.slice (some ⟨g, 0, none⟩) (n + 1) c2) w2 ∧
        OwnG 4 w2 w.heap.size (.slice (some ⟨g, 0, none⟩) (n + 1) c2) (bV (b ++ [true])) ∧ n + 1 ≤ c2 ∧ c2 ≤ maxLen ∧ Below w.heap.size w w2 := by
  have h0 : OwnG 4 (w.alloc (.cells #[] 4)) w.heap.size (.slice (some ⟨w.heap.size, 0, none⟩) 0 0) [] := OwnG.lit 4 w [] (Nat.zero_le _)
  obtain ⟨v1, w1, hr1, hO1, hB1⟩ := run_copyG boolsElt7 (w.alloc (.cells #[] 4)) w.heap.size (.slice (some ⟨w.heap.size, 0, none⟩) 0 0) x n c (bV b) ty h0 (by simp) (by rw [bV_len, hn]) (h.kept (below_alloc _ _)) (bV_one b) (by omega) (by unfold maxLen; omega)
  have hBw : Below w.heap.size w w1 := (below_alloc w _).trans hB1
  have hc : (w1.alloc (.cells #[.bool true] 4)).cell? ⟨w1.heap.size, 0, none⟩ = some (.bool true) := by
    have := OwnG.lit 4 w1 [.bool true] (show 1 ≤ maxLen by decide)
    exact OwnG.cell this 0 _ rfl
  obtain ⟨v2, w2, hr2, hO2, hg2, hB2⟩ := run_app1G boolsElt7 (w1.alloc (.cells #[.bool true] 4)) w.heap.size w1.heap.size 1 v1 (bV b) (.bool true) ty (hO1.keep (below_alloc _ _)) hc rfl (by rw [bV_len, hn]; omega) (by rw [bV_len, hn]; unfold maxLen; omega) (by have := hBw.size; simp; omega)
  have e : bV b ++ [Value.bool true] = bV (b ++ [true]) := by simp [bV]
  rw [e] at hO2
  obtain ⟨g, c2, rfl, -, -, hle, hm⟩ := hO2.form (by simp [bV])
  have hl2 : (bV (b ++ [true])).length = n + 1 := by rw [bV_len]; simp [hn]
  rw [hl2] at hr2 hO2 hle
  exact ⟨v1, w1, hr1, g, c2, w2, hr2, hO2, hle, hm, (hBw.alloc hBw.size _).trans hB2⟩
theorem ApartV.symm {u v : Value} (h : ApartV u v) : ApartV v u := by
  unfold ApartV at *
  cases hv : v.ownBlock with
  | none => exact .inl rfl
  | some k =>
    right
    intro e
    rcases h with h | h
    · rw [h] at e; cases e
    · exact h (by rw [← e, hv])
/-- append(u, d): what is apart stays, and stays apart. -/
theorem app_apartK (W : World) (B : Nat) (xu : Option Addr) (nu cu : Nat) (du : List Sc) (d : Sc) (ty : TypeId) (h : OwnK secE W B (.slice xu nu cu) du) (hB : B ≤ W.heap.size) (hs : nu ≤ 1000000) :
    ∃ g c' w', (Builtin.append_ #[24, 24] ty #[.slice xu nu cu, .slice (some ⟨W.heap.size, 0, none⟩) 1 1]).run Try.prog (W.alloc (.cells (secA d) 29)) = .ok (.slice (some ⟨g, 0, none⟩) (nu + 1) c') w' ∧
      OwnK secE w' B (.slice (some ⟨g, 0, none⟩) (nu + 1) c') (du ++ [d]) ∧ Below B W w' ∧
      ∀ (v : Value) (e : TypeId) (k m : Nat) (xs : List Value), W.ownsRow B e k v m xs → ApartV v (.slice xu nu cu) → w'.ownsRow B e k v m xs ∧ ApartV v (.slice (some ⟨g, 0, none⟩) (nu + 1) c') := by
  have hlen := h.len
  subst hlen
  have hA : Below W.heap.size W (W.alloc (.cells (secA d) 29)) := below_alloc _ _
  obtain ⟨g, c', w', hr, hO, -, hg, hway⟩ := run_app1K secE_ok (W.alloc (.cells (secA d) 29)) B W.heap.size (.slice xu du.length cu) du d ty (h.keep hA) (newSc W d) (by simp) (by show (du.length + 1) * 64 ≤ _; omega) (by unfold maxLen; omega) (by simp; omega)
  refine ⟨g, c', w', hr, hO, (hA.mono hB).trans ((h.keep hA).below hg (by simp; omega)), ?_⟩
  intro v e k m xs hv hap
  have hv2 : (W.alloc (.cells (secA d) 29)).ownsRow B e k v m xs := World.ownsRow.kept hv (row := none) (World.grownBy_alloc W _ none) (by
    cases hq : v.ownBlock with
    | none => exact .inl rfl
    | some k => exact .inr (by simp))
  refine ⟨World.ownsRow.kept hv2 hg hap, ?_⟩
  unfold ApartV
  cases hq : v.ownBlock with
  | none => exact .inl rfl
  | some q =>
    right
    intro he
    have hql := (World.ownsRow.lt hv q hq).2
    have hqg : q = g := by simpa [Value.ownBlock] using he
    rcases hway with h1 | h1
    · rcases hap with h2 | h2
      · rw [hq] at h2; cases h2
      · exact h2 (by rw [hq, h1, hqg])
    · rw [World.size_alloc] at h1; omega
end Go.Proofs.Ytfnffkommcepoaa
