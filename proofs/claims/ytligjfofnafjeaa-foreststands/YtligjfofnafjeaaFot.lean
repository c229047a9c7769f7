
import Derived.Test.YtligjfofnafjeaaFok
import Derived.Test.YtligjfofnafjeaaFos
import Derived.Lib.OwnBridge
import Derived.Sort.OwnSortedInts
import Derived.Sort.Grow
import Derived.Shelf.Slices.In.SortNone
namespace Go.Proofs.Ytligjfofnafjeaa
open Go.RowKit Go.Sort

/-! slices.Sort of slots; slices.Contains of truths -/
theorem rise_uniqueI : ∀ {a b : List Int}, a.Pairwise (· < ·) → b.Pairwise (· < ·) → (∀ k, k ∈ a ↔ k ∈ b) → a = b
  | [], [], _, _, _ => rfl
  | [], y :: b, _, _, h => absurd ((h y).2 List.mem_cons_self) (by simp)
  | x :: a, [], _, _, h => absurd ((h x).1 List.mem_cons_self) (by simp)
  | x :: a, y :: b, ha, hb, h => by
    rw [List.pairwise_cons] at ha hb
    have hxy : x = y := by
      rcases List.mem_cons.1 ((h x).1 List.mem_cons_self) with e | e
      · exact e
      · rcases List.mem_cons.1 ((h y).2 List.mem_cons_self) with e2 | e2
        · exact e2.symm
        · have h1 := hb.1 x e
          have h2 := ha.1 y e2
          omega
    subst hxy
    congr 1
    refine rise_uniqueI ha.2 hb.2 fun k => ⟨fun hk => ?_, fun hk => ?_⟩
    · rcases List.mem_cons.1 ((h k).1 (List.mem_cons_of_mem _ hk)) with e | e
      · subst e; exact absurd (ha.1 k hk) (Int.lt_irrefl _)
      · exact e
    · rcases List.mem_cons.1 ((h k).2 (List.mem_cons_of_mem _ hk)) with e | e
      · subst e; exact absurd (hb.1 k hk) (Int.lt_irrefl _)
      · exact e
def zN (S : List Nat) : List Int := S.map fun k : Nat => (k : Int)
theorem zN_len (S : List Nat) : (zN S).length = S.length := by simp [zN]
theorem zN_iF (S : List Nat) : (zN S).map (Value.int .i64) = iF S := by unfold zN iF; rw [List.map_map]; rfl
abbrev srtI (l : List Int) : List Int := l.mergeSort fun x y => decide (x ≤ y)
theorem srt_is {S R : List Nat} (hd : S.Nodup) (hR : R.Pairwise (· < ·)) (hm : ∀ k, k ∈ S ↔ k ∈ R) : srtI (zN S) = zN R := by
  have hp : (srtI (zN S)).Perm (zN S) := List.mergeSort_perm _ _
  have hq := List.pairwise_mergeSort (le := fun x y : Int => decide (x ≤ y)) (fun a b c h1 h2 => by
    rw [decide_eq_true_eq] at *; omega) (fun a b => by
    rw [Bool.or_eq_true, decide_eq_true_eq, decide_eq_true_eq]; omega) (zN S)
  have hn : (zN S).Nodup := by
    unfold zN
    exact List.Pairwise.map _ (fun a b h e => h (by omega)) hd
  have hn2 : (srtI (zN S)).Nodup := hp.nodup_iff.2 hn
  refine rise_uniqueI ((hq.and hn2).imp fun {a b} h => ?_) (List.Pairwise.map _ (fun a b h => by omega) hR) fun k => ?_
  · obtain ⟨h1, h2⟩ := h
    rw [decide_eq_true_eq] at h1
    omega
  · rw [hp.mem_iff]
    unfold zN
    simp only [List.mem_map]
    exact ⟨fun ⟨a, ha, e⟩ => ⟨a, (hm a).1 ha, e⟩, fun ⟨a, ha, e⟩ => ⟨a, (hm a).2 ha, e⟩⟩
theorem sort21 (B : Nat) (x : Option Addr) (n c : Nat) (S R : List Nat) (w : World) (h : OwnG 3 w B (.slice x n c) (iF S)) (hz : n ≤ 4398046511104) (hSR : srtI (zN S) = zN R) :
    Calls Try.prog 22 #[.slice x n c] w fun e w' => e = .returned (.tuple #[]) ∧ OwnG 3 w' B (.slice x n c) (iF R) ∧ Keep (Value.slice x n c).ownBlock.toList w w' := by
  have hn : n = S.length := by have h9 := h.num; rw [h9, iF_len]
  have hl9 : (zN R).length = (zN S).length := by rw [← hSR]; exact List.length_mergeSort _
  have hlR : R.length = n := by rw [zN_len, zN_len] at hl9; omega
  by_cases hv : (Value.slice x n c) = .slice none 0 0
  · simp only [Value.slice.injEq] at hv
    obtain ⟨rfl, rfl, rfl⟩ := hv
    obtain rfl := List.eq_nil_of_length_eq_zero hlR
    refine (Any.slices_Sort_int_none laySi none 0 w).mono ?_
    rintro e w' ⟨rfl, rfl⟩
    exact ⟨rfl, OwnG.nil _ _ _, Keep.refl _ _⟩
  · have h' : w.ownsRow B 3 1 (.slice x n c) n ((zN S).map (Value.int .i64)) := by
      rw [zN_iF]
      have h9 : w.ownsRow B 3 1 (.slice x n c) (iF S).length (iF S) := h
      rwa [iF_len, ← hn] at h9
    obtain ⟨g, cap, he, hbg, hgl, hncap, hcm, hlen, hH⟩ := Lib.holds_of_ownsRow h' hv
    simp only [Value.slice.injEq] at he
    obtain ⟨rfl, -, rfl⟩ := he
    have hs := Any.slices_Sort_int laySi g 0 c (zN S) w hH hgl (by rw [hlen]; omega)
    rw [hlen] at hs
    refine hs.mono ?_
    rintro e w' ⟨rfl, nn, os, rfl⟩
    rcases h'.2 with ⟨h0, _⟩ | ⟨g', cap', cur, hv9, hbase, hb, h1, h2, h3, h4⟩
    · exact absurd h0 hv
    cases hv9
    have hs2 := ownsRow_sortedI (n := nn) (os := os) (ss := zN S) (ts := srtI (zN S)) (List.length_mergeSort _) hbase hb (by rw [hlen]; exact h1) h2 h3
    refine ⟨rfl, ?_, Keep.of_grown (grownBy_sortedI _) (fun q hq => by cases hq; simp [Value.ownBlock])⟩
    rw [hSR, zN_iF, hlen] at hs2
    show World.ownsRow _ B 3 1 _ (iF R).length (iF R)
    rw [iF_len, hlR, show ((zN S).mergeSort fun x y => decide (x ≤ y)) = zN R from hSR]
    exact hs2
set_option linter.unusedSimpArgs false in
set_option maxRecDepth 100000 in
set_option maxHeartbeats 1600000 in
theorem index21 (y : Option Addr) (n d : Nat) (K : Nat → Bool) (w : World) (h62 : n ≤ 4611686018427387904) (hk : IsG w (.slice y n d) (bF K n)) :
    Calls Try.prog 28 #[.slice y n d, .bool false] w fun e w' => e = .returned (.int .i64 (fnd (fun k => !K k) n)) ∧ w' = w := by
  go_enter Try.func28, Try.ntmps28
  go_wp2_with fail
  go_loop [8] (fun iv => ∃ i : Nat, i ≤ n ∧ iv = .int .i64 i ∧ ∀ k, k < i → (!K k) = false) (fun iv => n - (intOf iv).toNat)
  case atStart => exact ⟨0, by omega, rfl, fun k hk => by omega⟩
  case round =>
    obtain ⟨i, hi, rfl, hno⟩ := hrel
    by_cases hlt : i < n
    · obtain ⟨gk, ok, rfl, -, hc9⟩ := hk.spot i (by rw [bF_len]; omega)
      have ck := hc9 i _ (bF_get K n i hlt)
      have i0 : (i : Int) < (n : Int) := by omega
      have i1 : (0 : Int) ≤ (i : Int) := by omega
      have HN : Hid _ := hno
      have HI : Hid (i < n) := hlt
      clear hc9 hno hlt hi
      cases hK : K i
      · rw [hK] at ck
        have HP : Hid (fnd (fun k => !K k) n = (i : Int)) := fnd_at _ i (by show (!K i) = true; rw [hK]; rfl) n HI.out HN.out
        clear hK
        go_wp2
        go_ret
        exact ⟨by rw [HP.out]; rfl, rfl⟩
      · rw [hK] at ck
        have HP : Hid ((!K i) = false) := by show _ = _; rw [hK]; rfl
        clear hK
        go_wp2
        go_round
        case rel => exact ⟨i + 1, by have := HI.out; omega, by go_num, fun k hk => by
          by_cases e : k = i
          · rw [e]; exact HP.out
          · exact HN.out k (by omega)⟩
        case measure => have := HI.out; simp [intOf]; omega
    · obtain rfl : n = i := by omega
      have i0 : ¬ (n : Int) < (n : Int) := by omega
      have HP : Hid (fnd (fun k => !K k) n = -1) := fnd_none _ n hno
      clear hno hlt hi
      go_wp2
      go_ret
      exact ⟨by rw [HP.out]; rfl, rfl⟩
/-- Is a truth among them false? -/
def anyF (K : Nat → Bool) (n : Nat) : Bool := decide (0 ≤ fnd (fun k => !K k) n)
theorem anyF_iff (K : Nat → Bool) (n : Nat) : anyF K n = false ↔ ∀ k, k < n → K k = true := by
  unfold anyF
  rcases fnd_spec (fun k => !K k) n with ⟨h1, h2⟩ | ⟨i, h1, h2, h3, -⟩
  · rw [h1]
    exact ⟨fun _ k hk => by have := h2 k hk; simpa using this, fun _ => rfl⟩
  · rw [h1]
    constructor
    · intro h; rw [decide_eq_true (by omega)] at h; cases h
    · intro h
      have := h i h2
      rw [this] at h3; cases h3
set_option linter.unusedSimpArgs false in
set_option maxRecDepth 100000 in
set_option maxHeartbeats 1600000 in
theorem contains21 (y : Option Addr) (n d : Nat) (K : Nat → Bool) (w : World) (h62 : n ≤ 4611686018427387904) (hk : IsG w (.slice y n d) (bF K n)) :
    Calls Try.prog 23 #[.slice y n d, .bool false] w fun e w' => e = .returned (.bool (anyF K n)) ∧ w' = w := by
  have hI := index21 y n d K w h62 hk
  have hA : anyF K n = decide (0 ≤ fnd (fun k => !K k) n) := rfl
  rw [hA]
  generalize fnd (fun k => !K k) n = z at hI ⊢
  clear hA
  go_enter Try.func23, Try.ntmps23
  go_wp2_with fail
  refine hI.mono ?_
  rintro e w' ⟨rfl, rfl⟩
  clear hI
  go_wp2
  go_ret
  exact ⟨rfl, rfl⟩
end Go.Proofs.Ytligjfofnafjeaa
