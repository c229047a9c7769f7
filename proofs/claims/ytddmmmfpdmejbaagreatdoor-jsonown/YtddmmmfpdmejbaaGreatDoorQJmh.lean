import Derived.Test.YtddmmmfpdmejbaaGreatDoorQJok
import Derived.Test.YtddmmmfpdmejbaaGreatDoorQJdp
import Derived.Test.YtddmmmfpdmejbaaGreatDoorQJfd
import Derived.Test.YtddmmmfpdmejbaaGreatDoorQJkr
import Derived.Test.YtddmmmfpdmejbaaGreatDoorQJop
namespace Go.Proofs.YtddmmmfpdmejbaaGreatDoor
open Go.RowKit

/-! What made and meant make: its size, its depth -/
end Go.Proofs.YtddmmmfpdmejbaaGreatDoor
namespace Go.Proofs.YtddmmmfpdmejbaaGreatDoor
open Go.RowKit

/-! assaylaw15.text -/
def mkL (i j : Nat) : List UInt8 := [255, UInt8.ofNat (i % 256), UInt8.ofNat (i / 256 % 256), UInt8.ofNat (j % 256), UInt8.ofNat (j / 256 % 256)]
def mkT (i j : Nat) : ByteArray := ⟨(mkL i j).toArray⟩
theorem mark15_any (i j : Nat) (w : World) : Calls Tryz.prog 21 #[.int .i64 (i : Int), .int .i64 (j : Int)] w fun e w' => e = .returned (.string (mkT i j)) ∧ Below w.heap.size w w' := by
  have b1 := below_alloc w (.cells #[.int .u8 255, .int .u8 ((i : Int) % 256), .int .u8 ((i : Int) / 256 % 256), .int .u8 ((j : Int) % 256), .int .u8 ((j : Int) / 256 % 256)] 5)
  have e9 : #[.int .u8 255, .int .u8 ((i : Int) % 256), .int .u8 ((i : Int) / 256 % 256), .int .u8 ((j : Int) % 256), .int .u8 ((j : Int) / 256 % 256)] = bytesA (mkL i j) := by
    unfold mkL
    simp [bytesA]
  have hB : IsB (w.alloc (.cells #[.int .u8 255, .int .u8 ((i : Int) % 256), .int .u8 ((i : Int) / 256 % 256), .int .u8 ((j : Int) % 256), .int .u8 ((j : Int) / 256 % 256)] 5)) (.slice (some ⟨w.heap.size, 0, none⟩) 5 5) (mkL i j) := by
    rw [e9]
    refine .inr ⟨⟨w.heap.size, 0, none⟩, 5, rfl, fun k hk => ?_⟩
    rw [addr_add, Nat.zero_add, cell_of_row _ _ _ _ _ _ (heap_alloc_last _ _), bytesA_get (mkL i j) k hk]
  have hs := hB.str
  clear hB e9
  go_enter Tryz.func21, Tryz.ntmps21
  go_wp2
  go_ret
  exact ⟨rfl, b1⟩
end Go.Proofs.YtddmmmfpdmejbaaGreatDoor
namespace Go.Proofs.YtddmmmfpdmejbaaGreatDoor
open Go.RowKit

/-! A value whose lists are its own; all its lists, in book's and keys' order -/
theorem eltVs : Elt 49 53 24 := ⟨Tryz.underlying49, by
  have h : (Tryz.prog.info? 53).map (fun i => (i.zero, i.size, i.bytes)) = some (some (.slice none 0 0), 1, 24) := by kernel_rfl
  obtain ⟨i, hi, hzz⟩ := Option.map_eq_some_iff.1 h
  simp only [Prod.mk.injEq] at hzz
  exact ⟨i, _, hi, hzz.1, hzz.2.1, hzz.2.2, rfl⟩⟩
theorem eltKs : Elt 51 22 24 := ⟨Tryz.underlying51, by
  have h : (Tryz.prog.info? 22).map (fun i => (i.zero, i.size, i.bytes)) = some (some (.slice none 0 0), 1, 24) := by kernel_rfl
  obtain ⟨i, hi, hzz⟩ := Option.map_eq_some_iff.1 h
  simp only [Prod.mk.injEq] at hzz
  exact ⟨i, _, hi, hzz.1, hzz.2.1, hzz.2.2, rfl⟩⟩
/-- append(v, x...): whatever x is. -/
theorem appAny15 {t e : TypeId} {bytes : Nat} (E : Elt t e bytes) (w : World) (B : Nat) (v : Sl) (x : Sl) (xs ys : List Value) (ty : TypeId) (h : OwnG e w B v.v xs) (hx : IsG w x.v ys) (h1 : ∀ u ∈ ys, u.oneCell' = true) (hl : (xs.length + ys.length) * bytes ≤ 140737488355328) (h63 : xs.length + ys.length ≤ maxLen) (hb : B ≤ w.heap.size) :
    ∃ (a : Sl) (w' : World), (Builtin.append_ #[t, t] ty #[v.v, x.v]).run Tryz.prog w = .ok a.v w' ∧ OwnG e w' B a.v (xs ++ ys) ∧ Below B w w' := by
  obtain ⟨vx, vn, vc⟩ := v
  obtain ⟨xx, xn, xc⟩ := x
  have hxn : xn = ys.length := IsG.num (a := ⟨xx, xn, xc⟩) hx
  subst hxn
  by_cases h0 : ys = []
  · subst h0
    have hvn : vn = xs.length := IsG.num (a := ⟨vx, vn, vc⟩) h.isG
    refine ⟨⟨vx, vn, vc⟩, w, run_app0G E w vx vn vc ?_ xx xc ty ?_, by rw [List.append_nil]; exact h, Below.refl _ _⟩
    · by_cases hx0 : xs = []
      · rw [hvn, hx0]; exact Nat.zero_le _
      · obtain ⟨g, c, he, -, -, hc, -⟩ := h.form hx0
        simp only [Sl.v, Value.slice.injEq] at he
        omega
    · intro hn
      by_cases hx0 : xs = []
      · rw [hvn, hx0]; rfl
      · obtain ⟨g, c, he, -, -, hc, -⟩ := h.form hx0
        simp only [Sl.v, Value.slice.injEq] at he
        rw [hn] at he
        cases he.1
  · rcases hx with ⟨h9, h2⟩ | ⟨a, d, he, hc⟩
    · exact absurd h2 h0
    · simp only [Sl.v, Value.slice.injEq] at he
      obtain ⟨rfl, -, rfl⟩ := he
      obtain ⟨v', w', hr, hO, -, hb9⟩ := run_appG E w B (.slice vx vn vc) xs ys a xc ty h (fun j u hu => by
        obtain ⟨hj, rfl⟩ := List.getElem?_eq_some_iff.1 hu
        exact hc j hj) h1 h0 hl h63 hb
      obtain ⟨g, c9, he9, -⟩ := hO.form (by simp [h0])
      rw [he9] at hr hO
      exact ⟨⟨some ⟨g, 0, none⟩, (xs ++ ys).length, c9⟩, w', hr, hO, hb9⟩
end Go.Proofs.YtddmmmfpdmejbaaGreatDoor
namespace Go.Proofs.YtddmmmfpdmejbaaGreatDoor
open Go.RowKit

/-! assaylaw15.book -/
def BkP (L : Lb) (w : World) (e : Ending) (w' : World) : Prop := ∃ a : Sl, e = .returned a.v ∧ OwnG 53 w' w.heap.size a.v (L.map (fun q => q.1.v)) ∧ Below w.heap.size w w'
def BokOk (d : Nd) : Prop := ∀ (w : World) (B : Nat) (v : Value) (L : Lb) (K : Kb), VlO w B v d L K → szN d ≤ 1099511627776 → Calls Tryz.prog 19 #[v] w fun e w' => BkP L w e w'
theorem szL_mem15 : ∀ (vs : List Nd) (d : Nd), d ∈ vs → szN d ≤ szL vs
  | a :: r, d, h => by
    rw [szL]
    rcases List.mem_cons.1 h with rfl | h
    · omega
    · have := szL_mem15 r d h; omega
set_option linter.unusedSimpArgs false in
set_option maxRecDepth 100000 in
set_option maxHeartbeats 16000000 in
theorem book15_step (k n : Int) (s : List UInt8) (ks : List (List UInt8)) (vs : List Nd) (ih : ∀ d ∈ vs, BokOk d) : BokOk (.mk k n s ks vs) := fun w B v L0 K0 hv hsz => by
  have hct := hv.cnt.1
  have HSM : Hid (∀ d ∈ vs, szN d ≤ 1099511627776) := fun d hd => by have h9 := szL_mem15 vs d hd; rw [szN_mk] at hsz; omega
  go_enter Tryz.func19, Tryz.ntmps19
  cases hv using VlO.rc with
  | null =>
    go_wp2
    go_ret
    exact ⟨slZ, rfl, OwnG.nil _ _ _, Below.refl _ _⟩
  | bool b =>
    go_wp2
    go_ret
    exact ⟨slZ, rfl, OwnG.nil _ _ _, Below.refl _ _⟩
  | num n hn =>
    go_wp2
    go_ret
    exact ⟨slZ, rfl, OwnG.nil _ _ _, Below.refl _ _⟩
  | str s =>
    go_wp2
    go_ret
    exact ⟨slZ, rfl, OwnG.nil _ _ _, Below.refl _ _⟩
  | list a us ds L K hv hl hz hL hK he r9 =>
    clear r9
    obtain ⟨xa, n, ca⟩ := a
    have hn : n = us.length := IsG.num (a := ⟨xa, n, ca⟩) hv.isG
    have HSZ : Hid (L.flatten.length ≤ 13743895347) := by show _ ≤ _; rw [List.length_cons] at hct; omega
    have b2 := below_alloc w (.cells #[.slice xa n ca] 53)
    have hO0 : OwnG 53 (w.alloc (.cells #[.slice xa n ca] 53)) w.heap.size (.slice (some ⟨w.heap.size, 0, none⟩) 1 1) [.slice xa n ca] := OwnG.lit 53 w [.slice xa n ca] (by show 1 ≤ maxLen; decide)
    have HNL : Hid (n = us.length ∧ us.length = vs.length ∧ L.length = us.length ∧ K.length = us.length) := ⟨hn, hl, hL, hK⟩
    clear hn hl hL hK hct
    simp only [Sl.v]
    go_upto_region 12 with fail
    obtain ⟨n1, hn1⟩ : ∃ q, w.heap.size = q := ⟨_, rfl⟩
    have hbb : Below n1 w (w.alloc (.cells #[.slice xa n ca] 53)) := by rw [← hn1]; exact b2
    have hvY := hv.isG
    have heY := he
    have hsY : (w.alloc (.cells #[.slice xa n ca] 53)).heap.size = n1 + 1 := by rw [alloc_sz15, hn1]
    rw [hn1] at hO0 ⊢
    generalize w.alloc (.cells #[.slice xa n ca] 53) = Y at hO0 hbb hsY b2 ⊢
    have HO0 : Hid (OwnG 53 Y n1 (.slice (some ⟨n1, 0, none⟩) 1 1) ((⟨xa, n, ca⟩ : Sl).v :: (L.take 0).flatten.map (fun q => q.1.v))) := hO0
    have HW : Hid (Below w.heap.size w Y) := b2
    have HWN : Hid (w.heap.size ≤ n1) := Nat.le_of_eq hn1
    have HN1 : Hid (Y.heap.size = n1 + 1) := hsY
    have HWS : Hid (w.heap.size = n1) := hn1
    have HV : Hid (IsG w (.slice xa n ca) us) := hvY
    have HL : Hid (us.length = n ∧ us.length = vs.length ∧ L.length = us.length ∧ K.length = us.length) := ⟨HNL.out.1.symm, HNL.out.2⟩
    have HE : Hid (∀ (i : Nat) u d l k, us[i]? = some u → vs[i]? = some d → L[i]? = some l → K[i]? = some k → VlO w B u d l k) := heY
    clear hvY heY hO0 hbb hsY hv he b2
    go_wp2_with fail
    go_loopw [7, 24] (fun lv iv wr => ∃ (j : Nat) (o : Sl), j ≤ n ∧ lv = o.v ∧ iv = .int .i64 j ∧ OwnG 53 wr n1 o.v ((⟨xa, n, ca⟩ : Sl).v :: (L.take j).flatten.map (fun q => q.1.v)) ∧ Below w.heap.size w wr) (fun _ iv _ => n - (intOf iv).toNat)
    case atStart => exact ⟨0, ⟨some ⟨n1, 0, none⟩, 1, 1⟩, by omega, rfl, rfl, HO0.out, HW.out⟩
    case round =>
      clear HO0
      obtain ⟨j, o, hj, rfl, rfl, hO, hB⟩ := hrel
      by_cases hlt : j < n
      · have i1 : (j : Int) < (n : Int) := by omega
        have i0 : (0 : Int) ≤ (j : Int) := by omega
        obtain ⟨hn, hl, hL, hK⟩ := HL.out
        obtain ⟨u, hu⟩ : ∃ q, us[j]? = some q := ⟨_, List.getElem?_eq_getElem (by omega)⟩
        obtain ⟨dd, hdd⟩ : ∃ q, vs[j]? = some q := ⟨_, List.getElem?_eq_getElem (by omega)⟩
        obtain ⟨lj, hlj⟩ : ∃ q, L[j]? = some q := ⟨_, List.getElem?_eq_getElem (by omega)⟩
        obtain ⟨kj, hkj⟩ : ∃ q, K[j]? = some q := ⟨_, List.getElem?_eq_getElem (by omega)⟩
        obtain ⟨b, p, rfl, -, cu⟩ := IsG.spot HV.out j (by omega)
        have q1 := cell_later hB (cu j u hu)
        have hvl := (HE.out j u dd lj kj hu hdd hlj hkj).keep hB
        have hC := ih dd (List.mem_of_getElem? hdd) wr B u lj kj hvl (by have := HSM.out dd (List.mem_of_getElem? hdd); omega)
        have hwr : IntKind.i64.wrap ((j : Int) + 1) = (j : Int) + 1 := by rw [IntKind.wrap_i64]; omega
        have HF : Hid ((L.take (j + 1)).flatten.map (fun q => q.1.v) = (L.take j).flatten.map (fun q => q.1.v) ++ lj.map (fun q => q.1.v)) := by
          show _ = _
          rw [List.take_add_one, hlj]
          simp
        have hcnt : (L.take (j + 1)).flatten.length ≤ L.flatten.length := by
          have h9 := congrArg List.length (congrArg List.flatten (List.take_append_drop (j + 1) L))
          rw [List.flatten_append, List.length_append] at h9
          omega
        have hlf := congrArg List.length HF.out
        simp only [List.length_append, List.length_map] at hlf
        clear hu hdd hlj hkj hn hl hL hK cu hvl
        go_wp2_with fail
        refine hC.mono ?_
        rintro e w1 ⟨⟨xa, na, ca⟩, rfl, hO1, hb1⟩
        have hB1 := hB.trans (hb1.mono hB.size)
        clear hC q1
        have hn1w : n1 ≤ w1.heap.size := by
          obtain ⟨g8, c8, -, h8, h7, -⟩ := hO.form (by simp)
          have h6 := hb1.size
          omega
        obtain ⟨xo, no, co⟩ := o
        obtain ⟨⟨xr, nr, cr⟩, w2, hr2, hO2, hb2⟩ := appAny15 eltVs w1 n1 ⟨xo, no, co⟩ ⟨xa, na, ca⟩ _ _ 49 (hO.keep hb1) hO1.isG (fun u hu => by obtain ⟨q, -, rfl⟩ := List.mem_map.1 hu; rfl) (by have := HSZ.out; simp only [List.length_cons, List.length_map]; omega) (by have := HSZ.out; unfold maxLen; simp only [List.length_cons, List.length_map]; omega) hn1w
        rw [List.cons_append, ← HF.out] at hO2
        have hB2 : Below w.heap.size w w2 := hB1.trans (hb2.mono HWN.out)
        have hr3 : (Builtin.append_ #[49, 49] 49 #[.slice xo no co, .slice xa na ca]).run Tryz.prog w1 = .ok (.slice xr nr cr) w2 := hr2
        clear hO hO1 hb1 hB1 hr2 hb2 hB hcnt hlf
        go_wp2_with (at_builtin; refine wpL_appG 49 rfl _ _ rfl _ w2 (by exact hr3) ?_)
        go_roundw
        case rel => first | exact ⟨j + 1, ⟨xr, nr, cr⟩, by omega, rfl, by go_num, hO2, hB2⟩ | ((repeat apply Exists.intro); refine ⟨⟨j + 1, ⟨xr, nr, cr⟩, by omega, rfl, ?_, hO2, hB2⟩, rfl⟩; go_num)
        case measure => simp [intOf]; omega
      · obtain rfl : j = n := by omega
        have i1 : ¬ (j : Int) < (j : Int) := by omega
        have hO9 : OwnG 53 wr n1 o.v ((((⟨xa, j, ca⟩ : Sl), us) :: L.flatten).map (fun q => q.1.v)) := by
          rw [List.take_of_length_le (by obtain ⟨hn, hl, hL, hK⟩ := HL.out; omega)] at hO
          exact hO
        clear hO
        go_wp2
        go_ret
        exact ⟨o, rfl, by first | exact hO9 | exact hO9.le HWN.out | (rw [HWS.out]; exact hO9), by first | exact hB | (rw [← HWS.out]; exact hB)⟩
  | obj kk a kb us ds L K hk hv hl hz hL hK he r9 =>
    clear r9
    obtain ⟨xk, nk, ck⟩ := kk
    obtain ⟨xa, n, ca⟩ := a
    have hn : n = us.length := IsG.num (a := ⟨xa, n, ca⟩) hv.isG
    have HSZ : Hid (L.flatten.length ≤ 13743895347) := by show _ ≤ _; rw [List.length_cons] at hct; omega
    have HNL : Hid (n = us.length ∧ us.length = vs.length ∧ L.length = us.length ∧ K.length = us.length) := ⟨hn, hl, hL, hK⟩
    have bA := below_alloc w (.cells #[.slice xk nk ck, .slice xa n ca] 70)
    have k2 : (w.alloc (.cells #[.slice xk nk ck, .slice xa n ca] 70)).cell? ⟨w.heap.size, 1, none⟩ = some (.slice xa n ca) := by rw [cell_of_row _ _ _ _ _ _ (heap_alloc_last _ _)]; rfl
    clear hn hl hL hK hct hk
    simp only [Sl.v]
    go_upto_region 10 with fail
    obtain ⟨g5, hg5⟩ : ∃ q, w.heap.size = q := ⟨_, rfl⟩
    have HG5 : Hid (w.heap.size = g5) := hg5
    rw [hg5] at k2 ⊢
    generalize w.alloc (.cells #[.slice xk nk ck, .slice xa n ca] 70) = Y0 at bA k2 ⊢
    have b2 := below_alloc Y0 (.cells #[.slice xa n ca] 53)
    have hO0 : OwnG 53 (Y0.alloc (.cells #[.slice xa n ca] 53)) Y0.heap.size (.slice (some ⟨Y0.heap.size, 0, none⟩) 1 1) [.slice xa n ca] := OwnG.lit 53 Y0 [.slice xa n ca] (by show 1 ≤ maxLen; decide)
    have hbY := bA.trans (b2.mono bA.size)
    have hwn := bA.size
    clear hg5
    go_upto_region 12 with fail
    obtain ⟨n1, hn1⟩ : ∃ q, Y0.heap.size = q := ⟨_, rfl⟩
    have hvY := hv.isG
    have heY := he
    have hsY : (Y0.alloc (.cells #[.slice xa n ca] 53)).heap.size = n1 + 1 := by rw [alloc_sz15, hn1]
    rw [hn1] at hO0 hwn ⊢
    generalize Y0.alloc (.cells #[.slice xa n ca] 53) = Y at hO0 hbY hsY ⊢
    clear k2 b2 bA hn1
    have HO0 : Hid (OwnG 53 Y n1 (.slice (some ⟨n1, 0, none⟩) 1 1) ((⟨xa, n, ca⟩ : Sl).v :: (L.take 0).flatten.map (fun q => q.1.v))) := hO0
    have HW : Hid (Below w.heap.size w Y) := hbY
    have HWN : Hid (w.heap.size ≤ n1) := hwn
    have HN1 : Hid (Y.heap.size = n1 + 1) := hsY
    have HV : Hid (IsG w (.slice xa n ca) us) := hvY
    have HL : Hid (us.length = n ∧ us.length = vs.length ∧ L.length = us.length ∧ K.length = us.length) := ⟨HNL.out.1.symm, HNL.out.2⟩
    have HE : Hid (∀ (i : Nat) u d l k, us[i]? = some u → vs[i]? = some d → L[i]? = some l → K[i]? = some k → VlO w B u d l k) := heY
    clear hvY heY hO0 hbY hsY hv he
    go_wp2_with fail
    go_loopw [7, 24] (fun lv iv wr => ∃ (j : Nat) (o : Sl), j ≤ n ∧ lv = o.v ∧ iv = .int .i64 j ∧ OwnG 53 wr n1 o.v ((⟨xa, n, ca⟩ : Sl).v :: (L.take j).flatten.map (fun q => q.1.v)) ∧ Below w.heap.size w wr) (fun _ iv _ => n - (intOf iv).toNat)
    case atStart => exact ⟨0, ⟨some ⟨n1, 0, none⟩, 1, 1⟩, by omega, rfl, rfl, HO0.out, HW.out⟩
    case round =>
      clear HO0
      obtain ⟨j, o, hj, rfl, rfl, hO, hB⟩ := hrel
      by_cases hlt : j < n
      · have i1 : (j : Int) < (n : Int) := by omega
        have i0 : (0 : Int) ≤ (j : Int) := by omega
        obtain ⟨hn, hl, hL, hK⟩ := HL.out
        obtain ⟨u, hu⟩ : ∃ q, us[j]? = some q := ⟨_, List.getElem?_eq_getElem (by omega)⟩
        obtain ⟨dd, hdd⟩ : ∃ q, vs[j]? = some q := ⟨_, List.getElem?_eq_getElem (by omega)⟩
        obtain ⟨lj, hlj⟩ : ∃ q, L[j]? = some q := ⟨_, List.getElem?_eq_getElem (by omega)⟩
        obtain ⟨kj, hkj⟩ : ∃ q, K[j]? = some q := ⟨_, List.getElem?_eq_getElem (by omega)⟩
        obtain ⟨b, p, rfl, -, cu⟩ := IsG.spot HV.out j (by omega)
        have q1 := cell_later hB (cu j u hu)
        have hvl := (HE.out j u dd lj kj hu hdd hlj hkj).keep hB
        have hC := ih dd (List.mem_of_getElem? hdd) wr B u lj kj hvl (by have := HSM.out dd (List.mem_of_getElem? hdd); omega)
        have hwr : IntKind.i64.wrap ((j : Int) + 1) = (j : Int) + 1 := by rw [IntKind.wrap_i64]; omega
        have HF : Hid ((L.take (j + 1)).flatten.map (fun q => q.1.v) = (L.take j).flatten.map (fun q => q.1.v) ++ lj.map (fun q => q.1.v)) := by
          show _ = _
          rw [List.take_add_one, hlj]
          simp
        have hcnt : (L.take (j + 1)).flatten.length ≤ L.flatten.length := by
          have h9 := congrArg List.length (congrArg List.flatten (List.take_append_drop (j + 1) L))
          rw [List.flatten_append, List.length_append] at h9
          omega
        have hlf := congrArg List.length HF.out
        simp only [List.length_append, List.length_map] at hlf
        clear hu hdd hlj hkj hn hl hL hK cu hvl
        go_wp2_with fail
        refine hC.mono ?_
        rintro e w1 ⟨⟨xa, na, ca⟩, rfl, hO1, hb1⟩
        have hB1 := hB.trans (hb1.mono hB.size)
        clear hC q1
        have hn1w : n1 ≤ w1.heap.size := by
          obtain ⟨g8, c8, -, h8, h7, -⟩ := hO.form (by simp)
          have h6 := hb1.size
          omega
        obtain ⟨xo, no, co⟩ := o
        obtain ⟨⟨xr, nr, cr⟩, w2, hr2, hO2, hb2⟩ := appAny15 eltVs w1 n1 ⟨xo, no, co⟩ ⟨xa, na, ca⟩ _ _ 49 (hO.keep hb1) hO1.isG (fun u hu => by obtain ⟨q, -, rfl⟩ := List.mem_map.1 hu; rfl) (by have := HSZ.out; simp only [List.length_cons, List.length_map]; omega) (by have := HSZ.out; unfold maxLen; simp only [List.length_cons, List.length_map]; omega) hn1w
        rw [List.cons_append, ← HF.out] at hO2
        have hB2 : Below w.heap.size w w2 := hB1.trans (hb2.mono HWN.out)
        have hr3 : (Builtin.append_ #[49, 49] 49 #[.slice xo no co, .slice xa na ca]).run Tryz.prog w1 = .ok (.slice xr nr cr) w2 := hr2
        clear hO hO1 hb1 hB1 hr2 hb2 hB hcnt hlf
        go_wp2_with (at_builtin; refine wpL_appG 49 rfl _ _ rfl _ w2 (by exact hr3) ?_)
        go_roundw
        case rel => first | exact ⟨j + 1, ⟨xr, nr, cr⟩, by omega, rfl, by go_num, hO2, hB2⟩ | ((repeat apply Exists.intro); refine ⟨⟨j + 1, ⟨xr, nr, cr⟩, by omega, rfl, ?_, hO2, hB2⟩, rfl⟩; go_num)
        case measure => simp [intOf]; omega
      · obtain rfl : j = n := by omega
        have i1 : ¬ (j : Int) < (j : Int) := by omega
        have hO9 : OwnG 53 wr n1 o.v ((((⟨xa, j, ca⟩ : Sl), us) :: L.flatten).map (fun q => q.1.v)) := by
          rw [List.take_of_length_le (by obtain ⟨hn, hl, hL, hK⟩ := HL.out; omega)] at hO
          exact hO
        clear hO
        go_wp2
        go_ret
        exact ⟨o, rfl, by first | exact hO9 | exact hO9.le HWN.out, by first | exact hB⟩
theorem book15_any : ∀ d, BokOk d := Nd.ind fun k n s ks vs ih => book15_step k n s ks vs ih
end Go.Proofs.YtddmmmfpdmejbaaGreatDoor
namespace Go.Proofs.YtddmmmfpdmejbaaGreatDoor
open Go.RowKit

/-! assaylaw15.keys -/
def KyP (K : Kb) (w : World) (e : Ending) (w' : World) : Prop := ∃ a : Sl, e = .returned a.v ∧ OwnG 22 w' w.heap.size a.v (K.map (fun q => q.1.v)) ∧ Below w.heap.size w w'
def KeyOk (d : Nd) : Prop := ∀ (w : World) (B : Nat) (v : Value) (L : Lb) (K : Kb), VlO w B v d L K → szN d ≤ 1099511627776 → Calls Tryz.prog 20 #[v] w fun e w' => KyP K w e w'
set_option linter.unusedSimpArgs false in
set_option maxRecDepth 100000 in
set_option maxHeartbeats 16000000 in
theorem keys15_step (k n : Int) (s : List UInt8) (ks : List (List UInt8)) (vs : List Nd) (ih : ∀ d ∈ vs, KeyOk d) : KeyOk (.mk k n s ks vs) := fun w B v L0 K0 hv hsz => by
  have hct := hv.cnt.2
  have HSM : Hid (∀ d ∈ vs, szN d ≤ 1099511627776) := fun d hd => by have h9 := szL_mem15 vs d hd; rw [szN_mk] at hsz; omega
  go_enter Tryz.func20, Tryz.ntmps20
  cases hv using VlO.rc with
  | null =>
    go_wp2_with fail
    go_loopw [3, 26] (fun lv iv wr => lv = .slice none 0 0 ∧ iv = .int .i64 0 ∧ Below w.heap.size w wr) (fun _ _ _ => 0)
    case atStart => exact ⟨rfl, rfl, Below.refl _ _⟩
    case round =>
      obtain ⟨rfl, rfl, hB⟩ := hrel
      go_wp2
      go_ret
      exact ⟨slZ, rfl, OwnG.nil _ _ _, hB⟩
  | bool b =>
    go_wp2_with fail
    go_loopw [3, 26] (fun lv iv wr => lv = .slice none 0 0 ∧ iv = .int .i64 0 ∧ Below w.heap.size w wr) (fun _ _ _ => 0)
    case atStart => exact ⟨rfl, rfl, Below.refl _ _⟩
    case round =>
      obtain ⟨rfl, rfl, hB⟩ := hrel
      go_wp2
      go_ret
      exact ⟨slZ, rfl, OwnG.nil _ _ _, hB⟩
  | num n hn =>
    go_wp2_with fail
    go_loopw [3, 26] (fun lv iv wr => lv = .slice none 0 0 ∧ iv = .int .i64 0 ∧ Below w.heap.size w wr) (fun _ _ _ => 0)
    case atStart => exact ⟨rfl, rfl, Below.refl _ _⟩
    case round =>
      obtain ⟨rfl, rfl, hB⟩ := hrel
      go_wp2
      go_ret
      exact ⟨slZ, rfl, OwnG.nil _ _ _, hB⟩
  | str s =>
    go_wp2_with fail
    go_loopw [3, 26] (fun lv iv wr => lv = .slice none 0 0 ∧ iv = .int .i64 0 ∧ Below w.heap.size w wr) (fun _ _ _ => 0)
    case atStart => exact ⟨rfl, rfl, Below.refl _ _⟩
    case round =>
      obtain ⟨rfl, rfl, hB⟩ := hrel
      go_wp2
      go_ret
      exact ⟨slZ, rfl, OwnG.nil _ _ _, hB⟩
  | list a us ds L K hv hl hz hL hK he r9 =>
    clear r9
    obtain ⟨xa, n, ca⟩ := a
    have HSZ : Hid (K.flatten.length ≤ 13743895347) := by show _ ≤ _; first | omega | (simp only [List.length_cons] at hct; omega)
    have hn : n = us.length := IsG.num (a := ⟨xa, n, ca⟩) hv.isG
    have HL : Hid (us.length = n ∧ us.length = vs.length ∧ L.length = us.length ∧ K.length = us.length) := ⟨hn.symm, hl, hL, hK⟩
    have HV : Hid (IsG w (.slice xa n ca) us) := hv.isG
    have HE : Hid (∀ (i : Nat) u d l k, us[i]? = some u → vs[i]? = some d → L[i]? = some l → K[i]? = some k → VlO w B u d l k) := he
    obtain ⟨a0, ha0⟩ : ∃ q : Sl, slZ = q := ⟨_, rfl⟩
    have HO0 : Hid (OwnG 22 w w.heap.size a0.v ((K.take 0).flatten.map (fun q => q.1.v))) := by rw [← ha0]; exact OwnG.nil _ _ _
    have HW : Hid (Below w.heap.size w w) := Below.refl _ _
    subst ha0
    clear hn hl hL hK hct hv he
    simp only [Sl.v]
    go_wp2_with fail
    go_loopw [3, 26] (fun lv iv wr => ∃ (j : Nat) (o : Sl), j ≤ n ∧ lv = o.v ∧ iv = .int .i64 j ∧ OwnG 22 wr w.heap.size o.v ((K.take j).flatten.map (fun q => q.1.v)) ∧ Below w.heap.size w wr) (fun _ iv _ => n - (intOf iv).toNat)
    case atStart => exact ⟨0, slZ, by omega, rfl, rfl, HO0.out, HW.out⟩
    case round =>
      clear HO0
      obtain ⟨j, o, hj, rfl, rfl, hO, hB⟩ := hrel
      by_cases hlt : j < n
      · have i1 : (j : Int) < (n : Int) := by omega
        have i0 : (0 : Int) ≤ (j : Int) := by omega
        obtain ⟨hn, hl, hL, hK⟩ := HL.out
        obtain ⟨u, hu⟩ : ∃ q, us[j]? = some q := ⟨_, List.getElem?_eq_getElem (by omega)⟩
        obtain ⟨dd, hdd⟩ : ∃ q, vs[j]? = some q := ⟨_, List.getElem?_eq_getElem (by omega)⟩
        obtain ⟨lj, hlj⟩ : ∃ q, L[j]? = some q := ⟨_, List.getElem?_eq_getElem (by omega)⟩
        obtain ⟨kj, hkj⟩ : ∃ q, K[j]? = some q := ⟨_, List.getElem?_eq_getElem (by omega)⟩
        obtain ⟨b, p, rfl, -, cu⟩ := IsG.spot HV.out j (by omega)
        have q1 := cell_later hB (cu j u hu)
        have hvl := (HE.out j u dd lj kj hu hdd hlj hkj).keep hB
        have hC := ih dd (List.mem_of_getElem? hdd) wr B u lj kj hvl (by have := HSM.out dd (List.mem_of_getElem? hdd); omega)
        have hwr : IntKind.i64.wrap ((j : Int) + 1) = (j : Int) + 1 := by rw [IntKind.wrap_i64]; omega
        have HF : Hid ((K.take (j + 1)).flatten.map (fun q => q.1.v) = ((K.take j).flatten.map (fun q => q.1.v)) ++ kj.map (fun q => q.1.v)) := by
          show _ = _
          rw [List.take_add_one, hkj]
          simp
        have hcnt : (K.take (j + 1)).flatten.length ≤ K.flatten.length := by
          have h9 := congrArg List.length (congrArg List.flatten (List.take_append_drop (j + 1) K))
          rw [List.flatten_append, List.length_append] at h9
          omega
        have hlf := congrArg List.length HF.out
        simp only [List.length_append, List.length_map, List.length_cons] at hlf
        clear hu hdd hlj hkj hn hl hL hK cu hvl
        go_wp2_with fail
        refine hC.mono ?_
        rintro e w1 ⟨⟨xb, nb, cb⟩, rfl, hO1, hb1⟩
        have hB1 := hB.trans (hb1.mono hB.size)
        clear hC q1
        obtain ⟨xo, no, co⟩ := o
        obtain ⟨⟨xr, nr, cr⟩, w2, hr2, hO2, hb2⟩ := appAny15 eltKs w1 w.heap.size ⟨xo, no, co⟩ ⟨xb, nb, cb⟩ _ _ 51 (hO.keep hb1) hO1.isG (fun u hu => by obtain ⟨q, -, rfl⟩ := List.mem_map.1 hu; rfl) (by have := HSZ.out; simp only [List.length_cons, List.length_map] at hlf ⊢; omega) (by have := HSZ.out; unfold maxLen; simp only [List.length_cons, List.length_map] at hlf ⊢; omega) hB1.size
        rw [← HF.out] at hO2
        have hB2 : Below w.heap.size w w2 := hB1.trans hb2
        have hr3 : (Builtin.append_ #[51, 51] 51 #[.slice xo no co, .slice xb nb cb]).run Tryz.prog w1 = .ok (.slice xr nr cr) w2 := hr2
        clear hO hO1 hb1 hB1 hr2 hb2 hB hcnt hlf
        go_wp2_with (at_builtin; refine wpL_appG 51 rfl _ _ rfl _ w2 (by exact hr3) ?_)
        go_roundw
        case rel => first | exact ⟨j + 1, ⟨xr, nr, cr⟩, by omega, rfl, by go_num, hO2, hB2⟩ | ((repeat apply Exists.intro); refine ⟨⟨j + 1, ⟨xr, nr, cr⟩, by omega, rfl, ?_, hO2, hB2⟩, rfl⟩; go_num)
        case measure => simp [intOf]; omega
      · obtain rfl : j = n := by omega
        have i1 : ¬ (j : Int) < (j : Int) := by omega
        have hO9 : OwnG 22 wr w.heap.size o.v (K.flatten.map (fun q => q.1.v)) := by
          rw [List.take_of_length_le (by obtain ⟨hn, hl, hL, hK⟩ := HL.out; omega)] at hO
          exact hO
        clear hO
        go_wp2
        go_ret
        exact ⟨o, rfl, hO9, hB⟩
  | obj kk a kb us ds L K hk hv hl hz hL hK he r9 =>
    clear r9
    obtain ⟨xk, nk, ck⟩ := kk
    obtain ⟨xa, n, ca⟩ := a
    have HSZ : Hid (K.flatten.length ≤ 13743895347) := by show _ ≤ _; first | omega | (simp only [List.length_cons] at hct; omega)
    have hn : n = us.length := IsG.num (a := ⟨xa, n, ca⟩) hv.isG
    have HL : Hid (us.length = n ∧ us.length = vs.length ∧ L.length = us.length ∧ K.length = us.length) := ⟨hn.symm, hl, hL, hK⟩
    have HV : Hid (IsG w (.slice xa n ca) us) := hv.isG
    have HE : Hid (∀ (i : Nat) u d l k, us[i]? = some u → vs[i]? = some d → L[i]? = some l → K[i]? = some k → VlO w B u d l k) := he
    have bA := below_alloc w (.cells #[.slice xk nk ck, .slice xa n ca] 70)
    have k1 : (w.alloc (.cells #[.slice xk nk ck, .slice xa n ca] 70)).cell? ⟨w.heap.size, 0, none⟩ = some (.slice xk nk ck) := by rw [cell_of_row _ _ _ _ _ _ (heap_alloc_last _ _)]; rfl
    have k2 : (w.alloc (.cells #[.slice xk nk ck, .slice xa n ca] 70)).cell? ⟨w.heap.size, 1, none⟩ = some (.slice xa n ca) := by rw [cell_of_row _ _ _ _ _ _ (heap_alloc_last _ _)]; rfl
    clear hn hl hL hK hct hk hv he
    simp only [Sl.v]
    go_upto_region 9 with fail
    obtain ⟨g5, hg5⟩ : ∃ q, w.heap.size = q := ⟨_, rfl⟩
    have HG5 : Hid (w.heap.size = g5) := hg5
    have hg6 : g5 < (w.alloc (.cells #[.slice xk nk ck, .slice xa n ca] 70)).heap.size := by rw [alloc_sz15]; omega
    rw [hg5] at k1 k2 ⊢
    generalize w.alloc (.cells #[.slice xk nk ck, .slice xa n ca] 70) = Y0 at bA k1 k2 hg6 ⊢
    have b2 := below_alloc Y0 (.cells #[.slice xk nk ck] 22)
    have hy : IsG (Y0.alloc (.cells #[.slice xk nk ck] 22)) (Sl.v ⟨some ⟨Y0.heap.size, 0, none⟩, 1, 1⟩) [.slice xk nk ck] := (OwnG.lit 22 Y0 [.slice xk nk ck] (by show 1 ≤ maxLen; decide)).isG
    have hbY := bA.trans (b2.mono bA.size)
    obtain ⟨⟨xo, no, co⟩, w9, hr9, hO9, hb9⟩ := appAny15 eltKs _ (Y0.alloc (.cells #[.slice xk nk ck] 22)).heap.size slZ ⟨some ⟨Y0.heap.size, 0, none⟩, 1, 1⟩ [] _ 51 (OwnG.nil _ _ _) hy (fun u hu => by rw [List.mem_singleton.1 hu]; rfl) (by simp) (by unfold maxLen; simp) (Nat.le_refl _)
    rw [List.nil_append] at hO9
    have k29 : w9.cell? ⟨g5, 1, none⟩ = some (.slice xa n ca) := cell_later hb9 (cell_later b2 k2)
    have HO0 : Hid (OwnG 22 w9 w.heap.size (.slice xo no co) ((⟨xk, nk, ck⟩ : Sl).v :: (K.take 0).flatten.map (fun q => q.1.v))) := hO9.le hbY.size
    have HW : Hid (Below w.heap.size w w9) := hbY.trans (hb9.mono hbY.size)
    have hr8 : (Builtin.append_ #[51, 51] 51 #[.slice none 0 0, .slice (some ⟨Y0.heap.size, 0, none⟩) 1 1]).run Tryz.prog (Y0.alloc (.cells #[.slice xk nk ck] 22)) = .ok (.slice xo no co) w9 := hr9
    clear k2 b2 bA hbY hb9 hr9 hy hO9 hg5
    go_upto_region 10 with (at_builtin; refine wpL_appG 51 rfl _ _ rfl _ w9 (by exact hr8) ?_)
    clear hr8 k1
    go_wp2_with fail
    go_loopw [3, 26] (fun lv iv wr => ∃ (j : Nat) (o : Sl), j ≤ n ∧ lv = o.v ∧ iv = .int .i64 j ∧ OwnG 22 wr w.heap.size o.v ((⟨xk, nk, ck⟩ : Sl).v :: (K.take j).flatten.map (fun q => q.1.v)) ∧ Below w.heap.size w wr) (fun _ iv _ => n - (intOf iv).toNat)
    case atStart => exact ⟨0, ⟨xo, no, co⟩, by omega, rfl, rfl, HO0.out, HW.out⟩
    case round =>
      clear HO0
      obtain ⟨j, o, hj, rfl, rfl, hO, hB⟩ := hrel
      by_cases hlt : j < n
      · have i1 : (j : Int) < (n : Int) := by omega
        have i0 : (0 : Int) ≤ (j : Int) := by omega
        obtain ⟨hn, hl, hL, hK⟩ := HL.out
        obtain ⟨u, hu⟩ : ∃ q, us[j]? = some q := ⟨_, List.getElem?_eq_getElem (by omega)⟩
        obtain ⟨dd, hdd⟩ : ∃ q, vs[j]? = some q := ⟨_, List.getElem?_eq_getElem (by omega)⟩
        obtain ⟨lj, hlj⟩ : ∃ q, L[j]? = some q := ⟨_, List.getElem?_eq_getElem (by omega)⟩
        obtain ⟨kj, hkj⟩ : ∃ q, K[j]? = some q := ⟨_, List.getElem?_eq_getElem (by omega)⟩
        obtain ⟨b, p, rfl, -, cu⟩ := IsG.spot HV.out j (by omega)
        have q1 := cell_later hB (cu j u hu)
        have hvl := (HE.out j u dd lj kj hu hdd hlj hkj).keep hB
        have hC := ih dd (List.mem_of_getElem? hdd) wr B u lj kj hvl (by have := HSM.out dd (List.mem_of_getElem? hdd); omega)
        have hwr : IntKind.i64.wrap ((j : Int) + 1) = (j : Int) + 1 := by rw [IntKind.wrap_i64]; omega
        have HF : Hid ((⟨xk, nk, ck⟩ : Sl).v :: (K.take (j + 1)).flatten.map (fun q => q.1.v) = ((⟨xk, nk, ck⟩ : Sl).v :: (K.take j).flatten.map (fun q => q.1.v)) ++ kj.map (fun q => q.1.v)) := by
          show _ = _
          rw [List.take_add_one, hkj]
          simp
        have hcnt : (K.take (j + 1)).flatten.length ≤ K.flatten.length := by
          have h9 := congrArg List.length (congrArg List.flatten (List.take_append_drop (j + 1) K))
          rw [List.flatten_append, List.length_append] at h9
          omega
        have hlf := congrArg List.length HF.out
        simp only [List.length_append, List.length_map, List.length_cons] at hlf
        clear hu hdd hlj hkj hn hl hL hK cu hvl
        go_wp2_with fail
        refine hC.mono ?_
        rintro e w1 ⟨⟨xb, nb, cb⟩, rfl, hO1, hb1⟩
        have hB1 := hB.trans (hb1.mono hB.size)
        clear hC q1
        obtain ⟨xo, no, co⟩ := o
        obtain ⟨⟨xr, nr, cr⟩, w2, hr2, hO2, hb2⟩ := appAny15 eltKs w1 w.heap.size ⟨xo, no, co⟩ ⟨xb, nb, cb⟩ _ _ 51 (hO.keep hb1) hO1.isG (fun u hu => by obtain ⟨q, -, rfl⟩ := List.mem_map.1 hu; rfl) (by have := HSZ.out; simp only [List.length_cons, List.length_map] at hlf ⊢; omega) (by have := HSZ.out; unfold maxLen; simp only [List.length_cons, List.length_map] at hlf ⊢; omega) hB1.size
        rw [← HF.out] at hO2
        have hB2 : Below w.heap.size w w2 := hB1.trans hb2
        have hr3 : (Builtin.append_ #[51, 51] 51 #[.slice xo no co, .slice xb nb cb]).run Tryz.prog w1 = .ok (.slice xr nr cr) w2 := hr2
        clear hO hO1 hb1 hB1 hr2 hb2 hB hcnt hlf
        go_wp2_with (at_builtin; refine wpL_appG 51 rfl _ _ rfl _ w2 (by exact hr3) ?_)
        go_roundw
        case rel => first | exact ⟨j + 1, ⟨xr, nr, cr⟩, by omega, rfl, by go_num, hO2, hB2⟩ | ((repeat apply Exists.intro); refine ⟨⟨j + 1, ⟨xr, nr, cr⟩, by omega, rfl, ?_, hO2, hB2⟩, rfl⟩; go_num)
        case measure => simp [intOf]; omega
      · obtain rfl : j = n := by omega
        have i1 : ¬ (j : Int) < (j : Int) := by omega
        have hO9 : OwnG 22 wr w.heap.size o.v ((⟨xk, nk, ck⟩ : Sl).v :: K.flatten.map (fun q => q.1.v)) := by
          rw [List.take_of_length_le (by obtain ⟨hn, hl, hL, hK⟩ := HL.out; omega)] at hO
          exact hO
        clear hO
        go_wp2
        go_ret
        exact ⟨o, rfl, hO9, hB⟩
theorem keys15_any : ∀ d, KeyOk d := Nd.ind fun k n s ks vs ih => keys15_step k n s ks vs ih
end Go.Proofs.YtddmmmfpdmejbaaGreatDoor
