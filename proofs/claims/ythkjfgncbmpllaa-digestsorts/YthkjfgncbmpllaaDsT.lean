
import Derived.Test.YthkjfgncbmpllaaDigP
import Derived.Deep.MidRow
import Derived.Deep.AppendLies
namespace Go.Proofs.Ythkjfgncbmpllaa
open Go.RowKit

/-! Slices of digests -/
abbrev Dg := Nat → UInt8
/-- The digest's cells at an address. -/
def rngOk (w : World) (b o : Nat) : Bool := (List.range 32).all fun j => (w.cell? ⟨b, o + j, none⟩).isSome
def rng (w : World) (b o : Nat) : Array Value := ((List.range 32).map fun j => (w.cell? ⟨b, o + j, none⟩).getD undef).toArray
theorem rng_of {w : World} {b o : Nat} {d : Dg} (h : w.rangeAt b o (dg_secA d).toList) : rngOk w b o = true ∧ rng w b o = dg_secA d := by
  have hc : ∀ j, j < 32 → w.cell? ⟨b, o + j, none⟩ = some (.int .u8 ((d j).toNat : Int)) := fun j hj => h j _ (by rw [Array.getElem?_toList, dg_secA_get d j hj])
  constructor
  · unfold rngOk
    rw [List.all_eq_true]
    intro j hj
    rw [hc j (by simpa using hj)]; rfl
  · unfold rng
    apply Array.ext_getElem?
    intro j
    by_cases hj : j < 32
    · rw [dg_secA_get d j hj]
      simp [hj, hc j hj]
    · rw [Array.getElem?_eq_none (by simp; omega), Array.getElem?_eq_none (by simp; omega)]
@[go_sem] theorem run_dgLoad_mid (w : World) (b o : Nat) (h : rngOk w b o = true) : (dg_secLoad (.pointer (some ⟨b, o, none⟩))).run Try.prog w = .ok (.value (.agg (rng w b o))) w := by
  have hr : w.rangeAt b o ((List.range 32).map fun j => (w.cell? ⟨b, o + j, none⟩).getD undef) := fun j v hv => by
    have hj : j < 32 := by have := (List.getElem?_eq_some_iff.1 hv).1; simpa using this
    unfold rngOk at h
    have hs := List.all_eq_true.1 h j (by simpa using hj)
    obtain ⟨u, hu⟩ := Option.isSome_iff_exists.1 hs
    simp [hj, hu] at hv
    rw [hu, hv]
  simp only [dg_secLoad, Sem.run_bind]
  rw [run_loadAt_mid w b o 23 _ _ hr Try.underlying23 rfl (by rw [size23]; simp)]
  rfl
@[go_sem] theorem rng_drewN (w : World) (n b o : Nat) : rng (w.drewN n) b o = rng w b o := rfl
@[go_sem] theorem rngOk_drewN (w : World) (n b o : Nat) : rngOk (w.drewN n) b o = rngOk w b o := rfl
@[go_sem] theorem rng_drew (w : World) (b o : Nat) : rng w.drew b o = rng w b o := rfl
@[go_sem] theorem rngOk_drew (w : World) (b o : Nat) : rngOk w.drew b o = rngOk w b o := rfl
def IsDs (w : World) (v : Value) (ds : List Dg) : Prop := ∃ x c, v = .slice x ds.length c ∧ ds.length ≤ c ∧ ∀ (i : Nat) d, ds[i]? = some d → ∃ b o, x = some ⟨b, o, none⟩ ∧ b < w.heap.size ∧ w.rangeAt b (o + i * 32) (dg_secA d).toList
theorem rangeAt_later {w w1 : World} {b o : Nat} {cs : List Value} (h : w.rangeAt b o cs) (hb : Below w.heap.size w w1) : w1.rangeAt b o cs := fun j v hv => by
  have h1 := h j v hv
  have h2 := World.block_lt_of_cell? w _ h1
  rw [hb.cell h2]; exact h1
theorem IsDs.kept {w w1 : World} {v : Value} {ds : List Dg} (h : IsDs w v ds) (hb : Below w.heap.size w w1) : IsDs w1 v ds := by
  obtain ⟨x, c, rfl, hc, hd⟩ := h
  refine ⟨x, c, rfl, hc, fun i d hi => ?_⟩
  obtain ⟨b, o, rfl, h1, h2⟩ := hd i d hi
  exact ⟨b, o, rfl, Nat.lt_of_lt_of_le h1 hb.size, rangeAt_later h2 hb⟩
theorem IsDs.len {w : World} {v : Value} {ds : List Dg} (h : IsDs w v ds) : ∃ x c, v = .slice x ds.length c := by
  obtain ⟨x, c, rfl, -, -⟩ := h
  exact ⟨x, c, rfl⟩
theorem IsDs.at {w : World} {x : Option Addr} {n c : Nat} {ds : List Dg} (h : IsDs w (.slice x n c) ds) (i : Nat) (d : Dg) (hi : ds[i]? = some d) : ∃ b o, x = some ⟨b, o, none⟩ ∧ b < w.heap.size ∧ rngOk w b (o + i * 32) = true ∧ rng w b (o + i * 32) = dg_secA d := by
  obtain ⟨y, e, he, -, hd⟩ := h
  simp only [Value.slice.injEq] at he
  obtain ⟨rfl, -, rfl⟩ := he
  obtain ⟨b, o, rfl, h1, h2⟩ := hd i d hi
  exact ⟨b, o, rfl, h1, rng_of h2⟩
def flatD : List Dg → List Value
  | [] => []
  | d :: r => (dg_secA d).toList ++ flatD r
theorem flatD_len : ∀ ds : List Dg, (flatD ds).length = ds.length * 32
  | [] => rfl
  | d :: r => by simp [flatD, flatD_len r]; omega
theorem flatD_snoc : ∀ (ds : List Dg) (d : Dg), flatD (ds ++ [d]) = flatD ds ++ (dg_secA d).toList
  | [], d => by simp [flatD]
  | x :: r, d => by simp [flatD, flatD_snoc r d]
theorem flatD_app : ∀ (ds es : List Dg), flatD (ds ++ es) = flatD ds ++ flatD es
  | [], es => rfl
  | x :: r, es => by simp [flatD, flatD_app r es]
theorem flatD_get : ∀ (ds : List Dg) (i : Nat) (d : Dg), ds[i]? = some d → ∀ (j : Nat) (u : Value), (dg_secA d).toList[j]? = some u → (flatD ds)[i * 32 + j]? = some u
  | [], i, d, h => by simp at h
  | x :: r, 0, d, h => fun j u hu => by
    simp at h; subst h
    have hj : j < (dg_secA x).toList.length := (List.getElem?_eq_some_iff.1 hu).1
    rw [flatD, Nat.zero_mul, Nat.zero_add, List.getElem?_append_left hj]; exact hu
  | x :: r, i + 1, d, h => fun j u hu => by
    have hl : (dg_secA x).toList.length = 32 := by simp
    rw [flatD, List.getElem?_append_right (by omega), hl, show (i + 1) * 32 + j - 32 = i * 32 + j by omega]
    exact flatD_get r i d (by simpa using h) j u hu
theorem flatD_one (ds : List Dg) : ∀ u ∈ flatD ds, u.oneCell' = true := by
  induction ds with
  | nil => intro u hu; cases hu
  | cons d r ih =>
    intro u hu
    rw [flatD, List.mem_append] at hu
    rcases hu with hu | hu
    · exact Array.all_eq_true_iff_forall_mem.1 (dg_secA_one d) u (by simpa using hu)
    · exact ih u hu
/-- A slice of digests of the call's own. -/
def OwnDs (w : World) (B : Nat) (v : Value) (ds : List Dg) : Prop := w.ownsRow B 23 32 v ds.length (flatD ds)
theorem OwnDs.nil (w : World) (B : Nat) : OwnDs w B (.slice none 0 0) [] := World.ownsRow_nil w B 23 32
theorem OwnDs.isDs {w : World} {B : Nat} {v : Value} {ds : List Dg} (h : OwnDs w B v ds) : IsDs w v ds := by
  have h' := h
  obtain ⟨_, ⟨rfl, hn⟩ | ⟨g, cap, cur, rfl, hb, hg, hle, hm, hs, ht⟩⟩ := h
  · have : ds = [] := List.eq_nil_of_length_eq_zero hn
    subst this
    exact ⟨none, 0, rfl, Nat.le_refl _, fun i d hi => by simp at hi⟩
  · refine ⟨_, cap, rfl, hle, fun i d hi => ⟨g, 0, rfl, (World.ownsRow.lt h' g rfl).2, fun j u hu => ?_⟩⟩
    have := World.ownsRow.cells h' (g := g) rfl (i * 32 + j) u (flatD_get ds i d hi j u hu)
    rw [addr_add, Nat.zero_add] at this
    rw [Nat.zero_add]
    exact this
theorem OwnDs.keep {w w' : World} {B : Nat} {v : Value} {ds : List Dg} (h : OwnDs w B v ds) (hb : Below w.heap.size w w') : OwnDs w' B v ds :=
  World.ownsRow.kept h (row := none) ⟨hb.os, hb.tape, hb.output, hb.size, fun k hk _ => hb.block k hk⟩ (by
    rcases h.2 with ⟨rfl, _⟩ | ⟨g, cap, cur, rfl, _⟩
    · exact .inl rfl
    · exact .inr (by simp [Value.ownBlock]))
theorem infoDg : (Try.prog.info? 23).map (fun i => (i.zero, i.size, i.bytes)) = some (some (.agg (dg_secA dg_secZ)), 32, 32) := by kernel_rfl
/-- append(v, d) -/
theorem run_app1D (w : World) (B y : Nat) (v : Value) (ds : List Dg) (d : Dg) (ty : TypeId) (h : OwnDs w B v ds) (hy : w.rangeAt y 0 (dg_secA d).toList) (hl : (ds.length + 1) * 32 ≤ 140737488355328) (hb : B ≤ w.heap.size) :
    ∃ v' w', (Builtin.append_ #[31, 31] ty #[v, .slice (some ⟨y, 0, none⟩) 1 1]).run Try.prog w = .ok v' w' ∧ OwnDs w' B v' (ds ++ [d]) ∧ w.grownBy w' v.ownBlock ∧ Below B w w' ∧ (∀ g, v'.ownBlock = some g → v.ownBlock = some g ∨ g = w.heap.size) := by
  obtain ⟨i, hi, hzz⟩ := Option.map_eq_some_iff.1 infoDg
  simp only [Prod.mk.injEq] at hzz
  obtain ⟨hz, hs, hby⟩ := hzz
  obtain ⟨g, cap, w', hr, h2, h3, h4, h5⟩ := run_append_lies (P := Try.prog) w 31 ty B 23 i _ 32 32 Try.underlying31 hi hz hs hby (by simp [Value.cells]) (by omega) v ds.length (flatD ds) h ⟨y, 0, none⟩ 1 1 (dg_secA d).toList (by simp)
    (fun j u hu => by rw [addr_add, Nat.zero_add]; have := hy j u hu; rwa [Nat.zero_add] at this) (fun u hu => Array.all_eq_true_iff_forall_mem.1 (dg_secA_one d) u (by simpa using hu)) (by omega) (by unfold maxLen; omega) hl hb _ rfl
  refine ⟨_, w', hr, ?_, h3, ⟨h3.os, h3.tape, h3.output, h3.size, fun k hk => h3.block k (by omega) (fun q => by have := World.ownsRow.lt h k q.symm; omega)⟩, fun g' hg' => ?_⟩
  · unfold OwnDs
    rw [List.length_append, flatD_snoc]
    exact h2
  · simp only [Value.ownBlock, Option.some.injEq] at hg'
    subst hg'; exact h4
end Go.Proofs.Ythkjfgncbmpllaa
