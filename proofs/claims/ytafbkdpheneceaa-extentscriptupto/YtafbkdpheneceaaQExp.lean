import Derived.Test.YtafbkdpheneceaaQExw
namespace Go.Proofs.Ytafbkdpheneceaa
open Go.RowKit

/-! assaylaw08's pages; a family of lists of pairs, each in its own blocks -/
structure Sl3 where
  y : Option Addr
  n : Nat
  c : Nat
def Sl3.v (s : Sl3) : Value := .slice s.y s.n s.c
structure Pg where
  a : Sl3
  b : Sl3
  w : Sl3
def pgA (p : Pg) : Array Value := #[p.a.v, p.b.v, p.w.v]
def slZ : Sl3 := ⟨none, 0, 0⟩
theorem pgA_size (p : Pg) : (pgA p).size = 3 := by unfold pgA; simp
def pgE : EK Pg := { T := 50, S := 47, k := 3, bytes := 72, z := .agg (pgA ⟨slZ, slZ, slZ⟩), enc := fun p => (pgA p).toList }
theorem pgE_enc (p : Pg) : pgE.enc p = (pgA p).toList := by simp only [pgE]
theorem pgE_k : pgE.k = 3 := rfl
theorem pgE_ok : pgE.Ok where
  len x := by rw [pgE_enc, Array.length_toList, pgA_size]; rfl
  one x v hv := by
    rw [pgE_enc] at hv
    simp [pgA] at hv
    rcases hv with rfl | rfl | rfl <;> rfl
  und := Try.underlying47
  info := by
    have h : (Try.prog.info? 50).map (fun i => (i.zero, i.size, i.bytes)) = some (some (.agg (pgA ⟨slZ, slZ, slZ⟩)), 3, 72) := by kernel_rfl
    exact h
  zc := by show (pgA ⟨slZ, slZ, slZ⟩).size = 3; simp [pgA]
  kp := by show 0 < 3; omega
  row := ⟨_, Try.underlying50, rfl⟩
theorem pg_cells {w : World} {b o : Nat} {p : Pg} (h : w.rangeAt b o (pgE.enc p)) : w.cell? ⟨b, o, none⟩ = some p.a.v ∧ w.cell? ⟨b, o + 1, none⟩ = some p.b.v ∧ w.cell? ⟨b, o + 2, none⟩ = some p.w.v := by
  rw [pgE_enc] at h
  exact ⟨h 0 _ rfl, h 1 _ rfl, h 2 _ rfl⟩
/-- n lists, the k-th one in the blocks G k. -/
structure Fam (W : World) (B n : Nat) (s : Nat → Sl3) (L : Nat → List Pr) (G : Nat → List Nat) : Prop where
  own : ∀ k, k < n → OwnK prE W B (s k).v (L k)
  len : ∀ k, k < n → (L k).length = (s k).n
  blk : ∀ k, k < n → ∀ q, (s k).v.ownBlock = some q → q ∈ G k
  lt : ∀ k, k < n → ∀ q ∈ G k, q < W.heap.size ∧ B ≤ q
  ap : ∀ k j, k < n → j < n → k ≠ j → ∀ q ∈ G k, q ∉ G j
theorem Fam.keeps {W W' : World} {B n : Nat} {s : Nat → Sl3} {L : Nat → List Pr} {G : Nat → List Nat} {H : List Nat} (h : Fam W B n s L G) (hK : Keep H W W') (hd : ∀ k, k < n → ∀ q ∈ G k, q ∉ H) : Fam W' B n s L G :=
  ⟨fun k hk => (h.own k hk).keeps hK (fun q hq => hd k hk q (h.blk k hk q hq)), h.len, h.blk, fun k hk q hq => ⟨Nat.lt_of_lt_of_le (h.lt k hk q hq).1 hK.size, (h.lt k hk q hq).2⟩, h.ap⟩
theorem Fam.later {W W' : World} {B n : Nat} {s : Nat → Sl3} {L : Nat → List Pr} {G : Nat → List Nat} (h : Fam W B n s L G) (hb : Below W.heap.size W W') : Fam W' B n s L G := h.keeps (H := []) (Keep.of_below hb) (fun _ _ _ _ => by simp)
/-- One of them is written. -/
theorem Fam.put {W W' : World} {B n : Nat} {s : Nat → Sl3} {L L' : Nat → List Pr} {G : Nat → List Nat} (h : Fam W B n s L G) (i : Nat) (hi : i < n) (hK : Keep (G i) W W') (hO : OwnK prE W' B (s i).v (L' i)) (hl : (L' i).length = (s i).n) (hL : ∀ k, k ≠ i → L' k = L k) : Fam W' B n s L' G := by
  refine ⟨fun k hk => ?_, fun k hk => ?_, h.blk, fun k hk q hq => ⟨Nat.lt_of_lt_of_le (h.lt k hk q hq).1 hK.size, (h.lt k hk q hq).2⟩, h.ap⟩
  · by_cases e : k = i
    · subst e; exact hO
    · rw [hL k e]
      exact (h.own k hk).keeps hK (fun q hq => h.ap k i hk hi e q (h.blk k hk q hq))
  · by_cases e : k = i
    · subst e; exact hl
    · rw [hL k e]; exact h.len k hk
theorem prStore_mid {w : World} {B g n c : Nat} {ms : List Pr} (h : OwnK prE w B (.slice (some ⟨g, 0, none⟩) n c) ms) (K : Nat) (d : Pr) (hK : K < n) : (bigStore 33 (.pointer (some ⟨g, K * 2, none⟩)) (.agg (prA d))).run Try.prog w = .ok .skip (w.setCells g (K * 2) (prE.enc d)) := by
  have hs := h.store prE_ok K d hK
  rw [prE_arr, prE_k] at hs
  have h9 : (Instr.storeAt 33 (.pointer (some ⟨g, K * 2, none⟩)) (.agg (prA d))).run Try.prog w = .ok () (w.setCells g (K * 2) (prE.enc d)) := hs
  simp only [bigStore, Sem.run_bind, h9, Result.andThen_ok]
  rfl
/-- A list written over from the front. -/
def over8 (m : Pr) (j : Nat) (l : List Pr) : List Pr := List.replicate j m ++ l.drop j
theorem over8_zero (m : Pr) (l : List Pr) : over8 m 0 l = l := by simp [over8]
theorem over8_len (m : Pr) (j : Nat) (l : List Pr) (h : j ≤ l.length) : (over8 m j l).length = l.length := by simp [over8]; omega
theorem over8_all (m : Pr) (l : List Pr) : over8 m l.length l = List.replicate l.length m := by simp [over8]
theorem over8_set (m : Pr) (j : Nat) (l : List Pr) (h : j < l.length) : (over8 m j l).set j m = over8 m (j + 1) l := by
  unfold over8
  rw [List.set_append_right _ _ (by simp), List.length_replicate, Nat.sub_self, List.drop_eq_getElem_cons h, List.set_cons_zero, List.replicate_succ', List.append_assoc]
  rfl
def mk9 (i : Nat) : Pr := (-9, (i : Int))
end Go.Proofs.Ytafbkdpheneceaa
