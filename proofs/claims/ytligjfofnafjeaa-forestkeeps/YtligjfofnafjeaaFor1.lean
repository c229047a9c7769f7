
import Derived.Test.YtligjfofnafjeaaForN
import Derived.Test.YtligjfofnafjeaaTgr
import Derived.Test.YtligjfofnafjeaaDev1
import Derived.Test.YtligjfofnafjeaaGal
import Derived.Test.YtligjfofnafjeaaGenC
import Derived.Test.YtligjfofnafjeaaMkx
namespace Go.Proofs.Ytligjfofnafjeaa
open Go.RowKit

/-! Rows of a forest -/
structure Rw where
  th : Bool
  la : Bool
  sn : Sn
def rwA (r : Rw) : Array Value := #[.bool r.th, .bool r.la] ++ snA r.sn
def rwZ : Rw := ⟨false, false, snZ⟩
@[go_sem] theorem rwA_size (e : Rw) : (rwA e).size = 36 := by unfold rwA; simp [snA_size]
@[go_sem] theorem rwA_one (e : Rw) : OneC (rwA e) = true := by
  unfold OneC
  rw [Array.all_eq_true_iff_forall_mem]
  intro v hv
  simp only [rwA, Array.mem_append] at hv
  rcases hv with hv | hv
  · simp at hv
    rcases hv with rfl | rfl <;> rfl
  · exact Array.all_eq_true_iff_forall_mem.1 (snA_one e.sn) v hv
@[go_sem] theorem rwA_0 (e : Rw) : (rwA e)[0]? = some (.bool e.th) := by unfold rwA; rw [Array.getElem?_append_left (by simp)]; rfl
@[go_sem] theorem rwA_1 (e : Rw) : (rwA e)[1]? = some (.bool e.la) := by unfold rwA; rw [Array.getElem?_append_left (by simp)]; rfl
theorem rwA_sn (e : Rw) (i : Nat) : (rwA e)[2 + i]? = (snA e.sn)[i]? := by
  unfold rwA
  rw [Array.getElem?_append_right (by simp)]
  simp
theorem rwA_2 (e : Rw) : (rwA e)[2]? = some (.int .u32 e.sn.id) := by rw [show 2 = 2 + 0 from rfl, rwA_sn e 0, snA_0]
theorem rwA_3 (e : Rw) : (rwA e)[3]? = some (.int .u32 e.sn.pa) := by rw [show 3 = 2 + 1 from rfl, rwA_sn e 1, snA_1]
/-- The ids and parents are numbers of 32 bits. -/
def Sn.ok (s : Sn) : Prop := 0 ≤ s.id ∧ s.id < 4294967296 ∧ 0 ≤ s.pa ∧ s.pa < 4294967296
def frO (l : List Rw) : Fr where
  n := l.length
  ok i := match l[i]? with | some r => r.th && !(r.sn.id == 0) | none => false
  la i := match l[i]? with | some r => r.la | none => false
  id i := match l[i]? with | some r => r.sn.id.toNat | none => 0
  pa i := match l[i]? with | some r => r.sn.pa.toNat | none => 0
theorem frO_ok {l : List Rw} {i : Nat} {r : Rw} (h : l[i]? = some r) : (frO l).ok i = (r.th && !(r.sn.id == 0)) := by show (match l[i]? with | some r => r.th && !(r.sn.id == 0) | none => false) = _; rw [h]
theorem frO_la {l : List Rw} {i : Nat} {r : Rw} (h : l[i]? = some r) : (frO l).la i = r.la := by show (match l[i]? with | some r => r.la | none => false) = _; rw [h]
theorem frO_id {l : List Rw} {i : Nat} {r : Rw} (h : l[i]? = some r) : (frO l).id i = r.sn.id.toNat := by show (match l[i]? with | some r => r.sn.id.toNat | none => 0) = _; rw [h]
theorem frO_pa {l : List Rw} {i : Nat} {r : Rw} (h : l[i]? = some r) : (frO l).pa i = r.sn.pa.toNat := by show (match l[i]? with | some r => r.sn.pa.toNat | none => 0) = _; rw [h]
theorem frO_good {l : List Rw} (hl : ∀ r ∈ l, r.sn.ok) : (frO l).Good := fun i h => by
  cases hr : l[i]? with
  | none =>
    have : (match l[i]? with | some r => r.th && !(r.sn.id == 0) | none => false) = true := h
    rw [hr] at this; cases this
  | some r =>
    rw [frO_ok hr] at h
    rw [frO_id hr]
    simp at h
    have := hl r (List.mem_of_getElem? hr)
    unfold Sn.ok at this
    omega
/-- Truths and numbers by place. -/
def bF (f : Nat → Bool) (n : Nat) : List Value := (List.range n).map fun i => .bool (f i)
def uF (f : Nat → Nat) (n : Nat) : List Value := (List.range n).map fun i => .int .u32 (f i : Int)
def iF (l : List Nat) : List Value := l.map fun i : Nat => Value.int .i64 (i : Int)
theorem bF_len (f : Nat → Bool) (n : Nat) : (bF f n).length = n := by simp [bF]
theorem uF_len (f : Nat → Nat) (n : Nat) : (uF f n).length = n := by simp [uF]
theorem iF_len (l : List Nat) : (iF l).length = l.length := by simp [iF]
theorem bF_get (f : Nat → Bool) (n i : Nat) (h : i < n) : (bF f n)[i]? = some (.bool (f i)) := by simp [bF, h]
theorem uF_get (f : Nat → Nat) (n i : Nat) (h : i < n) : (uF f n)[i]? = some (.int .u32 (f i : Int)) := by simp [uF, h]
theorem iF_get (l : List Nat) (i k : Nat) (h : l[i]? = some k) : (iF l)[i]? = some (.int .i64 (k : Int)) := by simp [iF, h]
theorem iF_app (l m : List Nat) : iF (l ++ m) = iF l ++ iF m := by simp [iF]
theorem bF_set (f : Nat → Bool) (n i : Nat) (b : Bool) : (bF f n).set i (.bool b) = bF (fun j => if j = i then b else f j) n := by
  apply List.ext_getElem?
  intro j
  rw [List.getElem?_set]
  by_cases hj : j < n
  · rw [bF_get (fun j => if j = i then b else f j) n j hj, bF_len]
    by_cases e : i = j
    · subst e; rw [if_pos rfl, if_pos hj, if_pos rfl]
    · rw [if_neg e, if_neg (fun h => e h.symm), bF_get _ n j hj]
  · rw [List.getElem?_eq_none (by rw [bF_len]; omega), List.getElem?_eq_none (by rw [bF_len]; omega), bF_len]
    split
    · rw [if_neg (by omega)]
    · rfl
theorem uF_set (f : Nat → Nat) (n i v : Nat) : (uF f n).set i (.int .u32 (v : Int)) = uF (fun j => if j = i then v else f j) n := by
  apply List.ext_getElem?
  intro j
  rw [List.getElem?_set]
  by_cases hj : j < n
  · rw [uF_get (fun j => if j = i then v else f j) n j hj, uF_len]
    by_cases e : i = j
    · subst e; rw [if_pos rfl, if_pos hj, if_pos rfl]
    · rw [if_neg e, if_neg (fun h => e h.symm), uF_get _ n j hj]
  · rw [List.getElem?_eq_none (by rw [uF_len]; omega), List.getElem?_eq_none (by rw [uF_len]; omega), uF_len]
    split
    · rw [if_neg (by omega)]
    · rfl
theorem bF_congr {f g : Nat → Bool} {n : Nat} (h : ∀ i, i < n → f i = g i) : bF f n = bF g n := by
  unfold bF; exact List.map_congr_left fun i hi => by rw [h i (by simpa using hi)]
theorem uF_congr {f g : Nat → Nat} {n : Nat} (h : ∀ i, i < n → f i = g i) : uF f n = uF g n := by
  unfold uF; exact List.map_congr_left fun i hi => by rw [h i (by simpa using hi)]
theorem bF_false (n : Nat) : bF (fun _ => false) n = falses n := by
  unfold bF falses
  apply List.ext_getElem?
  intro i
  by_cases hi : i < n <;> simp [hi]
def rwE : EK Rw := { T := 39, S := 22, k := 36, bytes := 44, z := .agg (rwA rwZ), enc := fun e => (rwA e).toList }
theorem rwE_ok : rwE.Ok where
  len x := by simp [rwE, rwA_size]
  one x v hv := Array.all_eq_true_iff_forall_mem.1 (rwA_one x) v (by simpa [rwE] using hv)
  und := Try.underlying22
  info := by
    have h : (Try.prog.info? 39).map (fun i => (i.zero, i.size, i.bytes)) = some (some (.agg (rwA rwZ)), 36, 44) := by kernel_rfl
    exact h
  zc := by show (rwA rwZ).size = 36; rw [rwA_size]
  kp := by show 0 < 36; omega
  row := ⟨_, Try.underlying39, rfl⟩
theorem rwE_cells {w : World} {x : Option Addr} {n c : Nat} {l : List Rw} (h : IsK rwE w (.slice x n c) l) (i : Nat) (d : Rw) (hi : l[i]? = some d) : ∃ g o, x = some ⟨g, o, none⟩ ∧ g < w.heap.size ∧ w.cell? ⟨g, o + i * 36, none⟩ = some (.bool d.th) ∧ w.cell? ⟨g, o + i * 36 + 1, none⟩ = some (.bool d.la) ∧ w.cell? ⟨g, o + i * 36 + 2, none⟩ = some (.int .u32 d.sn.id) ∧ w.cell? ⟨g, o + i * 36 + 3, none⟩ = some (.int .u32 d.sn.pa) := by
  obtain ⟨g, o, e, hg, hr⟩ := h.at i d hi
  have e1 : rwE.enc d = (rwA d).toList := by simp only [rwE]
  have e2 : rwE.k = 36 := rfl
  rw [e2, e1] at hr
  refine ⟨g, o, e, hg, ?_, ?_, ?_, ?_⟩
  · exact hr 0 _ (by rw [Array.getElem?_toList, rwA_0])
  · exact hr 1 _ (by rw [Array.getElem?_toList, rwA_1])
  · exact hr 2 _ (by rw [Array.getElem?_toList, rwA_2])
  · exact hr 3 _ (by rw [Array.getElem?_toList, rwA_3])
set_option linter.unusedSimpArgs false in
set_option maxRecDepth 100000 in
set_option maxHeartbeats 1600000 in
theorem refFind21 (l : List Rw) (x y : Option Addr) (n c d v : Nat) (K : Nat → Bool) (w : World) (hn : l.length = n) (h62 : n ≤ 4611686018427387904) (hs : ∀ r ∈ l, r.sn.ok) (hl : IsK rwE w (.slice x n c) l) (hk : IsG w (.slice y n d) (bF K n)) :
    Calls Try.prog 24 #[.slice x n c, .slice y n d, .int .u32 (v : Int)] w fun e w' => e = .returned (.int .i64 (fnd (fun k => K k && (frO l).id k == v) n)) ∧ w' = w := by
  go_enter Try.func24, Try.ntmps24
  go_wp2_with fail
  go_loop [7] (fun iv => ∃ i : Nat, i ≤ n ∧ iv = .int .i64 i ∧ ∀ k, k < i → (K k && (frO l).id k == v) = false) (fun iv => n - (intOf iv).toNat)
  case atStart => exact ⟨0, by omega, rfl, fun k hk => by omega⟩
  case round =>
    obtain ⟨i, hi, rfl, hno⟩ := hrel
    by_cases hlt : i < n
    · obtain ⟨r, hr⟩ : ∃ r, l[i]? = some r := ⟨_, List.getElem?_eq_getElem (by omega)⟩
      obtain ⟨g, o, rfl, -, -, -, c2, -⟩ := rwE_cells hl i r hr
      obtain ⟨gk, ok, rfl, -, hc9⟩ := hk.spot i (by rw [bF_len]; omega)
      have ck := hc9 i _ (bF_get K n i hlt)
      have hid := frO_id hr
      have hrs := hs r (List.mem_of_getElem? hr)
      unfold Sn.ok at hrs
      obtain ⟨I, hI⟩ : ∃ q : Nat, r.sn.id = (q : Int) := ⟨r.sn.id.toNat, by omega⟩
      rw [hI] at c2 hid
      rw [Int.toNat_natCast] at hid
      have i0 : (i : Int) < (n : Int) := by omega
      have i1 : (0 : Int) ≤ (i : Int) := by omega
      have HN : Hid _ := hno
      have HI : Hid (i < n) := hlt
      clear hc9 hr hrs hno hlt hi
      cases hK : K i
      · rw [hK] at ck
        have HP : Hid ((K i && (frO l).id i == v) = false) := by show _ = _; rw [hK]; rfl
        clear hK hid
        go_wp2
        go_round
        case rel => exact ⟨i + 1, by have := HI.out; omega, by go_num, fun k hk => by
          by_cases e : k = i
          · rw [e]; exact HP.out
          · exact HN.out k (by omega)⟩
        case measure => have := HI.out; simp [intOf]; omega
      · rw [hK] at ck
        by_cases hv : I = v
        · subst hv
          have hb : ((I : Int) == (I : Int)) = true := by simp
          have HP : Hid (fnd (fun k => K k && (frO l).id k == I) n = (i : Int)) := fnd_at _ i (by show (K i && (frO l).id i == I) = true; rw [hK, hid]; simp) n HI.out HN.out
          clear hid hK
          go_wp2
          go_ret
          exact ⟨by rw [HP.out]; rfl, rfl⟩
        · have hb : ((I : Int) == (v : Int)) = false := beq_eq_false_iff_ne.2 (by omega)
          have HP : Hid ((K i && (frO l).id i == v) = false) := by show _ = _; rw [hid, beq_eq_false_iff_ne.2 hv, Bool.and_false]
          clear hid hK hv
          go_wp2
          go_round
          case rel => exact ⟨i + 1, by have := HI.out; omega, by go_num, fun k hk => by
            by_cases e : k = i
            · rw [e]; exact HP.out
            · exact HN.out k (by omega)⟩
          case measure => have := HI.out; simp [intOf]; omega
    · obtain rfl : n = i := by omega
      have i0 : ¬ (n : Int) < (n : Int) := by omega
      have HP : Hid (fnd (fun k => K k && (frO l).id k == v) n = -1) := fnd_none _ n hno
      clear hno hlt hi
      go_wp2
      go_ret
      exact ⟨by rw [HP.out]; rfl, rfl⟩
end Go.Proofs.Ytligjfofnafjeaa
