
import Derived.Test.YtmbkkdojjfdliaaStbb
import Derived.Maps.OwnSet
namespace Go.Proofs.Ytmbkkdojjfdliaa
open Go.RowKit

/-! A set of sectors: a map without values; batch's sectorsOf -/
def KsI (es : List MapEntry) : Prop := ∀ x ∈ es, ∃ z : Int, x.key = .int .i64 z ∧ x.val = .agg #[]
theorem findNow26 (a : Int) : ∀ (es : List MapEntry) (i : Nat), KsI es →
    (Instr.findNow (.int .i64) (.int .i64 a) es i = some none ∧ ∀ x ∈ es, x.key ≠ .int .i64 a) ∨ (∃ j e, Instr.findNow (.int .i64) (.int .i64 a) es i = some (some (i + j, .agg #[])) ∧ es[j]? = some e ∧ e.key = .int .i64 a)
  | [], i, _ => .inl ⟨rfl, fun x hx => by cases hx⟩
  | e :: r, i, h => by
    obtain ⟨z, hk, hv⟩ := h e (by simp)
    by_cases hz : a = z
    · subst hz
      right
      refine ⟨0, e, ?_, rfl, hk⟩
      simp [Instr.findNow, Instr.sameNow, hk, hv]
    · have hne : (a == z) = false := by simp [hz]
      rcases findNow26 a r (i + 1) (fun x hx => h x (by simp [hx])) with ⟨h1, h2⟩ | ⟨j, e', h1, h2, h3⟩
      · left
        refine ⟨by simp [Instr.findNow, Instr.sameNow, hk, hne, h1], fun x hx => ?_⟩
        rcases List.mem_cons.1 hx with rfl | hx
        · rw [hk]; intro q; simp at q; exact hz q.symm
        · exact h2 x hx
      · right
        refine ⟨j + 1, e', ?_, by simpa using h2, h3⟩
        simp [Instr.findNow, Instr.sameNow, hk, hne, h1]
        omega
structure SetI (w : World) (b : Nat) (p : Int → Bool) : Prop where
  is : ∃ es clock, w.heap[b]? = some (.map es clock) ∧ KsI es.toList ∧ ∀ z : Int, p z = true ↔ ∃ x ∈ es.toList, x.key = .int .i64 z
theorem SetI.lt {w : World} {b : Nat} {p : Int → Bool} (h : SetI w b p) : b < w.heap.size := by
  obtain ⟨es, clock, h1, -⟩ := h.is
  exact (Array.getElem?_eq_some_iff.1 h1).1
theorem SetI.keep {w w' : World} {b : Nat} {p : Int → Bool} (h : SetI w b p) (hb : Below w.heap.size w w') : SetI w' b p := by
  have hl := h.lt
  obtain ⟨es, clock, h1, h2⟩ := h.is
  exact ⟨es, clock, by rw [hb.block b hl]; exact h1, h2⟩
theorem SetI.keeps {w w' : World} {b : Nat} {p : Int → Bool} {F : List Nat} (h : SetI w b p) (hb : Keep F w w') (hF : b ∉ F) : SetI w' b p := by
  have hl := h.lt
  obtain ⟨es, clock, h1, h2⟩ := h.is
  exact ⟨es, clock, by rw [hb.block b hl hF]; exact h1, h2⟩
theorem SetI.congr {w : World} {b : Nat} {p q : Int → Bool} (h : SetI w b p) (hpq : ∀ z, p z = q z) : SetI w b q := by
  obtain ⟨es, clock, h1, h2, h3⟩ := h.is
  exact ⟨es, clock, h1, h2, fun z => by rw [← hpq z]; exact h3 z⟩
theorem SetI.new (w : World) : SetI (w.alloc (.map #[] 0)) w.heap.size (fun _ => false) :=
  ⟨#[], 0, heap_alloc_new w _, fun x hx => by simp at hx, fun z => by simp⟩
theorem check26g (w : World) (em : Bool) (a : Int) (m : Nat) : (Instr.checkKey em (m + 1) 3 (.int .i64 a)).run Try.prog w = .ok () w := by
  simp [Instr.checkKey, run_underlying Try.underlying3]
theorem check26 (w : World) (em : Bool) (a : Int) : (Instr.checkKey em 10000 3 (.int .i64 a)).run Try.prog w = .ok () w := check26g w em a 9999
theorem find26 (w : World) (a : Int) (es : List MapEntry) (h : KsI es) : ((Instr.findKey 3 (.int .i64 a) es).run Try.prog w = .ok none w ∧ ∀ x ∈ es, x.key ≠ .int .i64 a) ∨ (∃ j e, (Instr.findKey 3 (.int .i64 a) es).run Try.prog w = .ok (some (j, .agg #[])) w ∧ es[j]? = some e ∧ e.key = .int .i64 a) := by
  rcases findNow26 a es 0 h with ⟨h1, h2⟩ | ⟨j, e, h1, h2, h3⟩
  · exact .inl ⟨by simp [Instr.findKey, run_underlying Try.underlying3, h1], h2⟩
  · exact .inr ⟨j, e, by simp [Instr.findKey, run_underlying Try.underlying3, h1], h2, h3⟩
theorem zeroU26 (w : World) : (zeroValue 40).run Try.prog w = .ok (.agg #[]) w := by kernel_rfl
/-- _, ok := m[a] -/
theorem SetI.look {w : World} {b : Nat} {p : Int → Bool} (h : SetI w b p) (a : Int) : (Instr.lookup 37 (.map (some b)) (.int .i64 a) true).run Try.prog w = .ok (.tuple #[.agg #[], .bool (p a)]) w := by
  obtain ⟨es, clock, hb, h2, h3⟩ := h.is
  rcases find26 w a es.toList h2 with ⟨f1, f2⟩ | ⟨j, e, f1, f2, f3⟩
  · have hp : p a = false := by
      cases hq : p a with
      | false => rfl
      | true =>
        obtain ⟨x, hx, hk⟩ := (h3 a).1 hq
        exact absurd hk (f2 x hx)
    simp [Instr.lookup, run_underlying Try.underlying37, MapKept.run_getObj_map hb, check26, f1, hp]
  · have hp : p a = true := (h3 a).2 ⟨e, List.mem_of_getElem? f2, f3⟩
    simp [Instr.lookup, run_underlying Try.underlying37, MapKept.run_getObj_map hb, check26, f1, hp]
/-- m[a] = struct{}{} -/
theorem SetI.put {w : World} {b : Nat} {p : Int → Bool} (h : SetI w b p) (a : Int) : ∃ w', (Instr.mapUpdate 37 (.map (some b)) (.int .i64 a) (.agg #[])).run Try.prog w = .ok () w' ∧ SetI w' b (fun z => p z || z == a) ∧ Keep [b] w w' := by
  obtain ⟨es, clock, hb, h2, h3⟩ := h.is
  have hk : ∀ es' clock', Keep [b] w (ChangeMaps.setBlock w b (.map es' clock')) := fun es' clock' => ⟨rfl, rfl, rfl, by simp [ChangeMaps.setBlock], fun k _ hk => ChangeMaps.heap_setBlock_other hb _ (by simpa using hk)⟩
  rcases find26 w a es.toList h2 with ⟨f1, f2⟩ | ⟨j, e, f1, f2, f3⟩
  · refine ⟨ChangeMaps.setBlock w b (.map (es.push ⟨.int .i64 a, .agg #[], clock⟩) (clock + 1)), ?_, ⟨_, _, ChangeMaps.heap_setBlock_same hb _, ?_, ?_⟩, hk _ _⟩
    · simp [Instr.mapUpdate, run_underlying Try.underlying37, MapKept.run_getObj_map hb, check26, f1, MapKept.run_setObj_map _ hb, Result.andThen, ChangeMaps.setBlock]
    · intro x hx
      simp only [Array.toList_push, List.mem_append, List.mem_singleton] at hx
      rcases hx with hx | rfl
      · exact h2 x hx
      · exact ⟨a, rfl, rfl⟩
    · intro z
      simp only [Bool.or_eq_true, beq_iff_eq, Array.toList_push, List.mem_append, List.mem_singleton]
      constructor
      · rintro (q | rfl)
        · obtain ⟨x, hx, he⟩ := (h3 z).1 q
          exact ⟨x, .inl hx, he⟩
        · exact ⟨_, .inr rfl, rfl⟩
      · rintro ⟨x, hx | rfl, he⟩
        · exact .inl ((h3 z).2 ⟨x, hx, he⟩)
        · simp at he; exact .inr he.symm
  · have hs : (Instr.keyThatStays (.int .i64 a) (.int .i64 a)).run Try.prog w = .ok (.int .i64 a) w := by
      simp [Instr.keyThatStays, Instr.sameBits]
    have f4 : es[j]? = some e := by rw [← Array.getElem?_toList]; exact f2
    have hm : e ∈ es.toList := List.mem_of_getElem? f2
    obtain ⟨z0, hz0, hv0⟩ := h2 e hm
    have he : es.modify j (fun e => { e with key := .int .i64 a, val := .agg #[] }) = es := by
      apply Array.ext_getElem?
      intro i
      rw [Array.getElem?_modify]
      by_cases hij : j = i
      · subst hij
        rw [if_pos rfl, f4]
        simp only [Option.map_some, Option.some.injEq]
        cases e
        simp_all
      · rw [if_neg hij]
    refine ⟨ChangeMaps.setBlock w b (.map es clock), ?_, ⟨es, clock, ChangeMaps.heap_setBlock_same hb _, h2, ?_⟩, hk _ _⟩
    · simp [Instr.mapUpdate, run_underlying Try.underlying37, MapKept.run_getObj_map hb, check26, f1, f4, f3, hs, he, MapKept.run_setObj_map _ hb, Result.andThen, ChangeMaps.setBlock]
    · intro z
      simp only [Bool.or_eq_true, beq_iff_eq]
      constructor
      · rintro (q | rfl)
        · exact (h3 z).1 q
        · exact ⟨e, hm, f3⟩
      · intro q
        exact .inl ((h3 z).2 q)
@[go_sem] theorem run_wrStore26 (w : World) (n : Nat) (x : Wr) (h : n = w.heap.size) : (wrStore (.pointer (some ⟨n, 0, none⟩)) (.agg (wrA x))).run Try.prog (w.alloc (.cells (wrA wrZ) 29)) = .ok .skip (w.alloc (.cells (wrA x) 29)) := by
  simp only [wrStore, Instr.storeAt, Instr.sureAddr, Sem.run_bind, Sem.run_pure, Result.andThen_ok]
  rw [run_storeVar_row _ n 29 29 (wrA wrZ) (wrA x) (by rw [h]; exact heap_alloc_last w _) (by rw [size_wr, wrA_size]) (by rw [wrA_size, wrA_size]) (wrA_one x), setRow_new w n _ _ _ h]; rfl
theorem hasW_next (D : List (List Wr)) (i : Nat) (e : List Wr) (h : D[i]? = some e) (z : Int) : hasW (D.take (i + 1)) z = (hasW (D.take i) z || e.any fun y => y.1 == z) := by
  unfold hasW
  rw [List.take_add_one, h, List.any_append]
  simp
theorem any_next (e : List Wr) (j : Nat) (x : Wr) (h : e[j]? = some x) (z : Int) : (e.take (j + 1)).any (fun y => y.1 == z) = ((e.take j).any (fun y => y.1 == z) || x.1 == z) := by
  rw [List.take_add_one, h, List.any_append]
  simp
set_option linter.unusedSimpArgs false in
set_option maxHeartbeats 4000000 in
theorem sectorsOf26 (D : List (List Wr)) (xd : Option Addr) (nd cd : Nat) (w : World) (hD : D.length = nd) (hI : IsLL w (.slice xd nd cd) D) (hnd : nd ≤ 140737488355328) (hin : ∀ e ∈ D, e.length ≤ 140737488355328) :
    Calls Try.prog 17 #[.slice xd nd cd] w fun e w' => ∃ b, e = .returned (.map (some b)) ∧ w.heap.size ≤ b ∧ SetI w' b (fun z => hasW D z) ∧ Below w.heap.size w w' := by
  have HIN : Hid (∀ e ∈ D, e.length ≤ 140737488355328) := hin
  have HD : Hid (D.length = nd) := hD
  clear hin hD
  have hmm := @run_makeMap Try.prog
  go_enter Try.func17, Try.ntmps17
  go_wp2_with fail
  go_loopw [11] (fun iv wr => ∃ i : Nat, i ≤ nd ∧ iv = .int .i64 (i : Int) ∧ SetI wr w.heap.size (fun z => hasW (D.take i) z) ∧ Below w.heap.size w wr) (fun iv _ => nd - (intOf iv).toNat)
  case atStart => exact ⟨0, by omega, rfl, (SetI.new w).congr (fun z => by simp [hasW]), below_alloc w _⟩
  case round =>
    obtain ⟨i, hi, rfl, hS, hB⟩ := hrel
    by_cases hlt : i < nd
    · have hc : (i : Int) < (nd : Int) := by omega
      have hc0 : (0 : Int) ≤ (i : Int) := by omega
      obtain ⟨e, he⟩ : ∃ e, D[i]? = some e := ⟨_, List.getElem?_eq_getElem (by rw [HD.out]; exact hlt)⟩
      obtain ⟨bl, ol, y, d, rfl, hbl, hce0, hK⟩ := hI.at i e he
      have hce := cell_later hB hce0
      obtain ⟨m, hm⟩ : ∃ m, e.length = m := ⟨_, rfl⟩
      rw [hm] at hce hK
      clear hce0
      have hm47 : m ≤ 140737488355328 := by rw [← hm]; exact HIN.out e (List.mem_of_getElem? he)
      have HE : Hid (D[i]? = some e ∧ e.length = m ∧ i < nd) := ⟨he, hm, hlt⟩
      have wi := wAdd1 i (i + 1) rfl (by omega)
      have HK : Hid (IsK wrE w (.slice y m d) e) := hK
      clear hK he hm hi hlt hbl
      go_wp2_with fail
      clear hce
      go_loopw [17] (fun jv wr => ∃ j : Nat, j ≤ m ∧ jv = .int .i64 (j : Int) ∧ SetI wr w.heap.size (fun z => hasW (D.take i) z || (e.take j).any fun y => y.1 == z) ∧ Below w.heap.size w wr) (fun jv _ => m - (intOf jv).toNat)
      case atStart => exact ⟨0, by omega, rfl, hS.congr (fun z => by simp), hB⟩
      case round =>
        clear hS hB
        obtain ⟨j, hj, rfl, hS, hB⟩ := hrel
        by_cases hlt : j < m
        · have hc1 : (j : Int) < (m : Int) := by omega
          have hc10 : (0 : Int) ≤ (j : Int) := by omega
          obtain ⟨x, hx⟩ : ∃ x, e[j]? = some x := ⟨_, List.getElem?_eq_getElem (by rw [HE.out.2.1]; exact hlt)⟩
          obtain ⟨b2, o2, rfl, hb2, hrg⟩ := (HK.out.kept hB).at j x hx
          have hr2 := wr_rg26 (o := o2 + j * 65) hrg
          have ha := below_alloc wr (.cells (wrA x) 29)
          obtain ⟨w', hmu, hS2, hKp⟩ := (hS.keep ha).put x.1
          have hcl := cell_wr0 wr x
          have HX : Hid (SetI w' w.heap.size (fun z => hasW (D.take i) z || (e.take (j + 1)).any fun y => y.1 == z)) := hS2.congr (fun z => by
            rw [any_next e j x hx, Bool.or_assoc]
            congr 2
            exact Bool.beq_comm ..)
          have HBx : Hid (Below w.heap.size w w') := hB.trans ((ha.mono hB.size).trans (hKp.below (fun q hq => by simp at hq; omega) (by rw [World.size_alloc]; have := hB.size; omega)))
          have HJ : Hid (j < m) := hlt
          have wj := wAdd1 j (j + 1) rfl (by omega)
          clear hS hB hx hb2 hrg ha hS2 hKp hlt hj
          go_wp2
          go_roundw
          case rel => exact ⟨j + 1, HJ.out, by go_num, HX.out, HBx.out⟩
          case measure => have := HJ.out; simp [intOf]; omega
        · obtain rfl : j = m := by omega
          have hc1 : ¬ (j : Int) < (j : Int) := by omega
          have HX : Hid (SetI wr w.heap.size (fun z => hasW (D.take (i + 1)) z)) := hS.congr (fun z => by
            obtain ⟨q1, q2, q3⟩ := HE.out
            rw [hasW_next D i e q1, List.take_of_length_le (l := e) (by omega)])
          have HBx : Hid _ := hB
          clear hS hB hlt hj
          go_wp2
          go_roundw
          case rel => exact ⟨i + 1, HE.out.2.2, by go_num, HX.out, HBx.out⟩
          case measure => have := HE.out.2.2; simp [intOf]; omega
    · obtain rfl : i = nd := by omega
      have hc : ¬ (i : Int) < (i : Int) := by omega
      have HX : Hid (SetI wr w.heap.size (fun z => hasW D z)) := hS.congr (fun z => by rw [List.take_of_length_le (by rw [HD.out]; omega)])
      have HBx : Hid _ := hB
      clear hS hB hlt hi
      go_wp2
      go_ret
      exact ⟨_, rfl, Nat.le_refl _, HX.out, HBx.out⟩
end Go.Proofs.Ytmbkkdojjfdliaa
