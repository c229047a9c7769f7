import Derived.Test.YtalnbddkhojjbaaGreatDoorQMze
import Derived.Test.YtalnbddkhojjbaaGreatDoorQJzc
namespace Go.Proofs.YtalnbddkhojjbaaGreatDoor
open Go.RowKit

def SlN (n0 k : Nat) (us : List Value) (v : Value) (x : World) : Prop := ∃ g, v = .slice (some ⟨g, 0, none⟩) k k ∧ n0 ≤ g ∧ us.length = k ∧ ∀ (i : Nat) u, us[i]? = some u → x.cell? ⟨g, i, none⟩ = some u
theorem SlN.later {n0 k : Nat} {us : List Value} {v : Value} {x y : World} (h : SlN n0 k us v x) (hb : Below x.heap.size x y) : SlN n0 k us v y := by
  obtain ⟨g, h1, h2, h3, h4⟩ := h
  exact ⟨g, h1, h2, h3, fun i u hu => cell_later hb (h4 i u hu)⟩
theorem SlN.new (n0 : Nat) (us : List Value) (t : TypeId) (x : World) (h : n0 ≤ x.heap.size) : SlN n0 us.length us (.slice (some ⟨x.heap.size, 0, none⟩) us.length us.length) (x.alloc (.cells us.toArray t)) :=
  ⟨x.heap.size, rfl, h, rfl, fun i u hu => by rw [(RowC.new x us.toArray t).cell i]; simpa using hu⟩
theorem SlN.isG {n0 k : Nat} {us : List Value} {v : Value} {x : World} (h : SlN n0 k us v x) : ∃ a : Sl, v = a.v ∧ a.n = k ∧ IsG x a.v us ∧ a.In (n0 ≤ ·) := by
  obtain ⟨g, h1, h2, h3, h4⟩ := h
  refine ⟨⟨some ⟨g, 0, none⟩, k, k⟩, h1, rfl, .inr ⟨⟨g, 0, none⟩, k, by rw [h3]; rfl, fun i hi => ?_⟩, fun _ p hp => by cases hp; exact h2⟩
  rw [addr_add, Nat.zero_add, h4 i _ (List.getElem?_eq_getElem hi)]
theorem vl_obj {n0 k : Nat} {kb : List ByteArray} {us : List Value} {ds : List Nd} {kv vv : Value} {x : World} (hk : SlN n0 k (strs kb) kv x) (hv : SlN n0 k us vv x) (hl : us.length = ds.length) (h3 : k ≤ 3) (he : ∀ (i : Nat) u d, us[i]? = some u → ds[i]? = some d → VlG x (n0 ≤ ·) u d) : VlG x (n0 ≤ ·) (.iface 76 (.agg #[kv, vv])) (.mk 6 0 [] (kb.map lS) ds) := by
  obtain ⟨a, rfl, a1, a2, a3⟩ := hk.isG
  obtain ⟨b, rfl, b1, b2, b3⟩ := hv.isG
  exact .obj a b kb us ds a2 a3 b2 b3 hl ⟨by omega, by omega⟩ he
def ObQ (n0 k : Nat) (ks us : List Value) (v : Value) (x : World) : Prop := ∃ a b, v = .agg #[a, b] ∧ SlN n0 k ks a x ∧ SlN n0 k us b x
def IfQ (n0 k : Nat) (ks us : List Value) (v : Value) (x : World) : Prop := ∃ a b, v = .iface 76 (.agg #[a, b]) ∧ SlN n0 k ks a x ∧ SlN n0 k us b x
theorem ObQ.later {n0 k : Nat} {ks us : List Value} {v : Value} {x y : World} (h : ObQ n0 k ks us v x) (hb : Below x.heap.size x y) : ObQ n0 k ks us v y := by
  obtain ⟨a, b, h1, h2, h3⟩ := h
  exact ⟨a, b, h1, h2.later hb, h3.later hb⟩
theorem IfQ.later {n0 k : Nat} {ks us : List Value} {v : Value} {x y : World} (h : IfQ n0 k ks us v x) (hb : Below x.heap.size x y) : IfQ n0 k ks us v y := by
  obtain ⟨a, b, h1, h2, h3⟩ := h
  exact ⟨a, b, h1, h2.later hb, h3.later hb⟩
def kDb : ByteArray := ⟨#[100, 105, 103, 101, 115, 116]⟩
def kSb : ByteArray := ⟨#[115, 105, 122, 101]⟩
def kVb : ByteArray := ⟨#[115, 99, 104, 101, 109, 97, 86, 101, 114, 115, 105, 111, 110]⟩
def kMb : ByteArray := ⟨#[109, 97, 110, 105, 102, 101, 115, 116, 115]⟩
def kCb : ByteArray := ⟨#[99, 111, 110, 102, 105, 103]⟩
def kLb : ByteArray := ⟨#[108, 97, 121, 101, 114, 115]⟩
def VaQ (r : Dc) (w : World) (e : Ending) (w' : World) : Prop := ∃ ty p, e = .returned (.iface ty p) ∧ VlG w' (w.heap.size ≤ ·) (.iface ty p) (dcNd r) ∧ Below w.heap.size w w'
set_option linter.unusedSimpArgs false in
set_option maxRecDepth 100000 in
set_option maxHeartbeats 8000000 in
theorem value16_any (hT : TextOk) (r : Dc) (w : World) (hr : -9223372036854775808 ≤ r.size ∧ r.size ≤ 9223372036854775807) : Calls Tryz.prog 32 #[.agg (dcA r)] w fun e w' => VaQ r w e w' := by
  obtain ⟨n0, hn0⟩ : ∃ q, w.heap.size = q := ⟨_, rfl⟩
  have bA := below_alloc w (.cells (dcA r) 35)
  obtain ⟨g, o, hx, hg, -, -, hr1, hr2, cz⟩ := dcCells ((dc_lit w r).isK dcE_ok) 0 r rfl
  cases hx
  obtain ⟨TX, hTX⟩ : ∃ q : ByteArray, ⟨(textL r.key).toArray⟩ = q := ⟨_, rfl⟩
  have HLX : Hid (lS TX = textL r.key) := by show _ = _; rw [← hTX]; exact lS_mk _
  obtain ⟨K9, hK9⟩ : ∃ q, r.key = q := ⟨_, rfl⟩
  have HTX : Hid (∀ x, Calls Tryz.prog 61 #[.agg (dg_secA K9)] x fun e w' => e = .returned (.string TX) ∧ Below x.heap.size x w') := fun x => by
    have h9 := hT r.key x
    rw [hTX, hK9] at h9; exact h9
  obtain ⟨Z, hZ⟩ : ∃ q, r.size = q := ⟨_, rfl⟩
  rw [hn0] at hr1 hr2 cz
  rw [hZ] at cz
  rw [hK9] at hr2
  have HZ : Hid (r.size = Z ∧ -9223372036854775808 ≤ Z ∧ Z ≤ 9223372036854775807) := ⟨hZ, by rw [← hZ]; exact hr⟩
  clear hZ hTX hK9 hr
  go_enter Tryz.func32, Tryz.ntmps32
  go_upto_region 1 with fail
  have HN0 : Hid (n0 ≤ (w.alloc (.cells (dcA r) 35)).heap.size) := by show _ ≤ _; rw [alloc_sz15]; omega
  rw [hn0] at hg
  have HBA : Hid (Below n0 w (w.alloc (.cells (dcA r) 35))) := by rw [hn0] at bA; exact bA
  generalize w.alloc (.cells (dcA r) 35) = Y at *
  have cz : Y.cell? ⟨n0, 32, none⟩ = some (.int .i64 Z) := by simpa using cz
  have HRG : Hid (∀ x, Below Y.heap.size Y x → rgOk x n0 0 32 = true ∧ rg x n0 0 32 = dg_secA K9) := fun x hb => by
    obtain ⟨e1, e2⟩ := rg_later hb hg (0 + 0 * 33) 32
    have e1' : rgOk x n0 0 32 = rgOk Y n0 (0 + 0 * 33) 32 := e1
    have e2' : rg x n0 0 32 = rg Y n0 (0 + 0 * 33) 32 := e2
    exact ⟨by rw [e1']; exact hr1, by rw [e2', hr2]⟩
  clear hr1 hr2 hg bA
  refine wp_relies [SlN n0 2 [.string kDb, .string kSb], Fx (.pointer (some ⟨n0, 0, none⟩)), Fx (.agg (dg_secA K9)), Fx (.string TX), Fx (.iface 93 (.string TX)), Fx (.pointer (some ⟨n0, 32, none⟩)), Fx (.int .i64 Z), Fx (.iface 71 (.int .i64 Z)), SlN n0 2 [.iface 93 (.string TX), .iface 71 (.int .i64 Z)], ObQ n0 2 [.string kDb, .string kSb] [.iface 93 (.string TX), .iface 71 (.int .i64 Z)], IfQ n0 2 [.string kDb, .string kSb] [.iface 93 (.string TX), .iface 71 (.int .i64 Z)], IfQ n0 2 [.string kDb, .string kSb] [.iface 93 (.string TX), .iface 71 (.int .i64 Z)]] (by kernel_rfl) (by kernel_rfl) ?_ ?_ ?_
  · repeat' (first | exact all_nil | apply all_cons)
    all_goals intro v y y' hv hb
    all_goals first | exact Fx_mono _ _ _ _ hv hb | exact SlN.later hv hb | exact ObQ.later hv hb | exact IfQ.later hv hb
  · refine ⟨?_, ?_, ?_, ?_, ?_, ?_, ?_, ?_, ?_, ?_, ?_, ?_, trivial⟩
    all_goals
      intro ρ x hp ρc ρg ρf ho hd
      have o1 : ρ (.tmp 1) = .pointer (some ⟨n0, 0, none⟩) := ho 1 rfl
      clear ho
      obtain ⟨k1, k2⟩ := HRG.out x hp
      have k3 := cell_later hp cz
      simp only [depsR, depR, slotR, Fx, List.getElem?_cons_succ, List.getElem?_cons_zero, Region.binds, forall_const] at hd
      simp only [guardR]
      go_split_ands
    · go_simp
      exact ⟨SlN.new n0 [.string kDb, .string kSb] _ x (Nat.le_trans HN0.out hp.size), below_alloc _ _⟩
    · go_simp
    · go_simp
    · go_simp
      refine (HTX.out x).mono ?_
      rintro e x' ⟨rfl, hb⟩
      exact ⟨_, rfl, rfl, hb⟩
    · go_simp
    · go_simp
    · go_simp
    · go_simp
    · go_simp
      exact ⟨SlN.new n0 [.iface 93 (.string TX), .iface 71 (.int .i64 Z)] _ x (Nat.le_trans HN0.out hp.size), below_alloc _ _⟩
    · have s1 := ‹SlN n0 2 [.string kDb, .string kSb] (ρ (.tmp 3)) x›
      have s2 := ‹SlN n0 2 [.iface 93 (.string TX), .iface 71 (.int .i64 Z)] (ρ (.tmp 11)) x›
      obtain ⟨a1, u1, -⟩ := id s1
      obtain ⟨a2, u2, -⟩ := id s2
      rw [u1] at s1
      rw [u2] at s2
      go_simp
      exact ⟨_, _, rfl, s1, s2⟩
    · obtain ⟨a, b, u1, u2, u3⟩ := ‹ObQ n0 2 [.string kDb, .string kSb] [.iface 93 (.string TX), .iface 71 (.int .i64 Z)] (ρ (.tmp 12)) x›
      go_simp
      exact ⟨_, _, rfl, u2, u3⟩
    · have u1 := ‹IfQ n0 2 [.string kDb, .string kSb] [.iface 93 (.string TX), .iface 71 (.int .i64 Z)] (ρ (.tmp 13)) x›
      go_simp
  · intro vs x9 hp hw
    simp only [owed, Fx] at hw
    obtain ⟨e0, e1, e2, e3, e4, e5, e6, e7, e8, e9, e10, ⟨a, b, e11, u2, u3⟩, -⟩ := hw
    simp only [List.length_cons, List.length_nil, List.take_succ_cons, List.take_nil, List.drop_succ_cons, List.drop_nil, asg, List.cons_append, List.nil_append, e1, e2, e3, e4, e5, e6, e7, e11]
    clear e1 e2 e3 e4 e5 e6 e7 e11 e0 e8 e9 e10
    have HVL : Hid (VlG x9 (n0 ≤ ·) (.iface 76 (.agg #[a, b])) (dcNd r)) := by
      have h9 := vl_obj (kb := [kDb, kSb]) (ds := [.mk 4 0 (lS TX) [] [], .mk 3 Z [] [] []]) u2 u3 rfl (by omega) (fun i u d hi hd => by
        rcases i with _ | _ | i
        · simp at hi hd; subst hi hd; exact .str TX
        · simp at hi hd; subst hi hd; exact .num Z HZ.out.2
        · simp at hi)
      unfold Hid dcNd
      rw [HLX.out] at h9
      rw [HZ.out.1]
      exact h9
    have HB : Hid (Below w.heap.size w x9) := by
      rw [hn0]
      exact HBA.out.trans (hp.mono HN0.out)
    clear u2 u3 hp
    go_wp2
    go_ret
    exact ⟨_, _, rfl, by rw [hn0]; exact HVL.out, HB.out⟩
end Go.Proofs.YtalnbddkhojjbaaGreatDoor
namespace Go.Proofs.YtalnbddkhojjbaaGreatDoor
set_option linter.unusedSimpArgs false
open Go.RowKit

theorem eltL16 : Elt 73 42 16 := ⟨Tryz.underlying73, by
  have h : (Tryz.prog.info? 42).map (fun i => (i.zero, i.size, i.bytes)) = some (some .nilIface, 1, 16) := by kernel_rfl
  obtain ⟨i, hi, hzz⟩ := Option.map_eq_some_iff.1 h
  simp only [Prod.mk.injEq] at hzz
  exact ⟨i, _, hi, hzz.1, hzz.2.1, hzz.2.2, rfl⟩⟩
def VlsI (B n0 : Nat) (a : Sl) (us : List Value) (ds : List Nd) (w : World) : Prop := OwnG 42 w B a.v us ∧ us.length = ds.length ∧ ∀ (i : Nat) u d, us[i]? = some u → ds[i]? = some d → VlG w (fun b => n0 ≤ b ∧ a.v.ownBlock ≠ some b) u d
theorem VlsI.keep {B n0 : Nat} {a : Sl} {us : List Value} {ds : List Nd} {w w1 : World} (h : VlsI B n0 a us ds w) (hb : Below w.heap.size w w1) : VlsI B n0 a us ds w1 := ⟨h.1.keep hb, h.2.1, fun i u d hu hd => (h.2.2 i u d hu hd).kept hb⟩
theorem VlsI.app {B n0 : Nat} {a : Sl} {us : List Value} {ds : List Nd} {w w1 : World} (h : VlsI B n0 a us ds w) (hb : Below w.heap.size w w1) (ty : TypeId) (p : Value) (d : Nd) (hv : VlG w1 (w.heap.size ≤ ·) (.iface ty p) d) (hn : n0 ≤ w.heap.size) (hB : B ≤ w.heap.size) (hl : us.length ≤ 1000) (y : Nat) (hy : w1.cell? ⟨y, 0, none⟩ = some (.iface ty p)) (t : TypeId) :
    ∃ (a' : Sl) (w' : World), (Builtin.append_ #[73, 73] t #[a.v, .slice (some ⟨y, 0, none⟩) 1 1]).run Tryz.prog w1 = .ok a'.v w' ∧ VlsI B n0 a' (us ++ [.iface ty p]) (ds ++ [d]) w' ∧ Below B w1 w' ∧ B ≤ w'.heap.size ∧ n0 ≤ w'.heap.size := by
  have hk := h.keep hb
  have hs := hb.size
  obtain ⟨g, c', w', hr, hO, hg, hway⟩ := appLie eltL16 w1 B a us (.iface ty p) y 1 t hk.1 hy rfl (by omega) (by omega) (by unfold maxLen; omega)
  have hlt : ∀ b, a.v.ownBlock = some b → b < w.heap.size := fun b e => (h.1.lt b e).2
  have hkeep : ∀ u d, VlG w1 (fun b => n0 ≤ b ∧ a.v.ownBlock ≠ some b) u d → VlG w' (fun b => n0 ≤ b ∧ (Sl.v ⟨some ⟨g, 0, none⟩, us.length + 1, c'⟩).ownBlock ≠ some b) u d := fun u d h9 =>
    (h9.andLt.ag (w1 := w') (fun b hb hl9 => hg.block b hl9 (fun e => hb.1.2 e.symm))).mono (fun b hb => ⟨hb.1.1, fun e => by
      have e' : some g = some b := e
      cases e'
      rcases hway with h9 | h9
      · exact hb.1.2 h9
      · have := hb.2; omega⟩)
  refine ⟨_, w', hr, ⟨hO, by simp [h.2.1], fun i u d9 hu hd9 => ?_⟩, hk.1.below hg (by omega), by have := hg.size; omega, by have := hg.size; omega⟩
  rcases Nat.lt_or_ge i us.length with hi | hi
  · rw [List.getElem?_append_left hi] at hu
    rw [List.getElem?_append_left (by rw [← h.2.1]; exact hi)] at hd9
    exact hkeep _ _ (hk.2.2 i u d9 hu hd9)
  · rw [List.getElem?_append_right hi] at hu
    rw [List.getElem?_append_right (by rw [← h.2.1]; exact hi), ← h.2.1] at hd9
    obtain ⟨j, hj⟩ : ∃ q, i - us.length = q := ⟨_, rfl⟩
    rw [hj] at hu hd9
    rcases j with _ | j
    · simp at hu hd9
      subst hu hd9
      exact hkeep _ _ (hv.mono (fun b hb => ⟨Nat.le_trans hn hb, fun e => by have := hlt b e; omega⟩))
    · simp at hu
def VlsQ (l : List Dc) (w : World) (e : Ending) (w' : World) : Prop := ∃ a : Sl, e = .returned a.v ∧ VlG w' (w.heap.size ≤ ·) (.iface 73 a.v) (.mk 5 0 [] [] (l.map dcNd)) ∧ Below w.heap.size w w'
set_option maxRecDepth 100000 in
set_option maxHeartbeats 8000000 in
theorem values16_any (hT : TextOk) (l : List Dc) (x : Option Addr) (n c : Nat) (w : World) (hn : l.length = n) (h : IsK dcE w (.slice x n c) l) (hle : n ≤ 32) (hr : ∀ d ∈ l, -9223372036854775808 ≤ d.size ∧ d.size ≤ 9223372036854775807) :
    Calls Tryz.prog 31 #[.slice x n c] w fun e w' => VlsQ l w e w' := by
  have HH : Hid (l.length = n ∧ IsK dcE w (.slice x n c) l ∧ ∀ d ∈ l, -9223372036854775808 ≤ d.size ∧ d.size ≤ 9223372036854775807) := ⟨hn, h, hr⟩
  clear h hn hr
  obtain ⟨n0, hn0⟩ : ∃ q, w.heap.size = q := ⟨_, rfl⟩
  have HN0 : Hid (w.heap.size = n0) := hn0
  clear hn0
  go_enter Tryz.func31, Tryz.ntmps31
  go_wp2_with fail
  go_loopw [3, 8] (fun av iv wr => ∃ (i : Nat) (x : Option Addr) (m c : Nat) (us : List Value), i ≤ n ∧ av = .slice x m c ∧ iv = .int .i64 (i : Int) ∧ us.length = i ∧ VlsI n0 n0 ⟨x, m, c⟩ us ((l.take i).map dcNd) wr ∧ Below n0 w wr ∧ n0 ≤ wr.heap.size) (fun _ iv _ => n - (intOf iv).toNat)
  case atStart => exact ⟨0, none, 0, 0, [], by omega, rfl, rfl, rfl, ⟨OwnG.nil _ _ _, rfl, fun i u d hu => (by simp at hu)⟩, Below.refl _ _, by have := HN0.out; omega⟩
  case round =>
    obtain ⟨i, ax, am, ac, us, hi, rfl, rfl, hul, hI, hB, hs⟩ := hrel
    by_cases hlt : i < n
    · have i0 : (0 : Int) ≤ (i : Int) := by omega
      have i1 : (i : Int) < (n : Int) := by omega
      obtain ⟨d, hd⟩ : ∃ d, l[i]? = some d := ⟨_, List.getElem?_eq_getElem (by have := HH.out.1; omega)⟩
      have hBw : Below w.heap.size w wr := by rw [HN0.out]; exact hB
      obtain ⟨g, o, rfl, hg, hr1, hr2, -, -, -⟩ := dcCells (HH.out.2.1.kept hBw) i d hd
      have hwr : IntKind.i64.wrap ((i : Int) + 1) = (i : Int) + 1 := by rw [IntKind.wrap_i64]; omega
      have HTK : Hid ((l.take (i + 1)).map dcNd = (l.take i).map dcNd ++ [dcNd d]) := by show _ = _; rw [List.take_add_one, hd]; simp
      have hdr := HH.out.2.2 d (List.mem_of_getElem? hd)
      obtain ⟨m1, hm1⟩ : ∃ q, wr.heap.size = q := ⟨_, rfl⟩
      have bC := below_alloc wr (.cells (dcA d) 35)
      have rC := RowC.new wr (dcA d) 35
      rw [hm1] at rC
      have hI1 := hI.keep bC
      have hB1 : Below n0 w (wr.alloc (.cells (dcA d) 35)) := hB.trans (bC.mono hs)
      have hs1 : n0 ≤ (wr.alloc (.cells (dcA d) 35)).heap.size := Nat.le_trans hs bC.size
      clear hd hBw hI hB hs bC hg
      go_upto_region 5 with fail
      generalize wr.alloc (.cells (dcA d) 35) = Z at rC hI1 hB1 hs1 ⊢
      clear hr1 hr2
      obtain ⟨p1, p2⟩ := id rC
      have p3 : (rowAt Z m1).size = 33 := by rw [p2]; exact dcA_size _
      have hV := value16_any hT d Z hdr
      unfold VaQ at hV
      go_wp2_with fail
      refine hV.mono ?_
      rintro e w2 ⟨ty, p, rfl, hv2, hb2⟩
      clear hV p1 p2 p3 rC hdr
      have bD := below_alloc w2 (.cells #[.iface ty p] 42)
      have hcy := (RowC.new w2 #[.iface ty p] 42).cell 0
      have hbz : Below Z.heap.size Z (w2.alloc (.cells #[.iface ty p] 42)) := hb2.trans (bD.mono hb2.size)
      obtain ⟨z, hz⟩ : ∃ q, w2.heap.size = q := ⟨_, rfl⟩
      rw [hz] at hcy
      obtain ⟨⟨bx, bn, bc⟩, w3, hr3, hI3, hB3, hs3, -⟩ := hI1.app hbz ty p (dcNd d) (hv2.kept bD) hs1 hs1 (by omega) z hcy 73
      have hr3' : (Builtin.append_ #[73, 73] 73 #[.slice ax am ac, .slice (some ⟨z, 0, none⟩) 1 1]).run Tryz.prog (w2.alloc (.cells #[.iface ty p] 42)) = .ok (.slice bx bn bc) w3 := hr3
      have HR : Hid (i + 1 ≤ n ∧ (us ++ [Value.iface ty p]).length = i + 1 ∧ VlsI n0 n0 ⟨bx, bn, bc⟩ (us ++ [.iface ty p]) ((l.take (i + 1)).map dcNd) w3 ∧ Below n0 w w3 ∧ n0 ≤ w3.heap.size) := ⟨by omega, by rw [List.length_append, hul]; rfl, by rw [HTK.out]; exact hI3, (hB1.trans (hbz.mono hs1)).trans hB3, hs3⟩
      clear hr3 hI3 hB3 hs3 hI1 hB1 hs1 hv2 hb2 bD hcy hbz hul HTK
      go_wp2_with (at_builtin; refine wpL_appG 73 rfl _ _ rfl _ w3 (by exact hr3') ?_)
      go_roundw
      case rel => first | exact ⟨i + 1, bx, bn, bc, us ++ [.iface ty p], HR.out.1, rfl, by go_num, HR.out.2⟩ | ((repeat apply Exists.intro); refine ⟨⟨i + 1, bx, bn, bc, us ++ [.iface ty p], HR.out.1, rfl, ?_, HR.out.2⟩, rfl⟩; go_num)
      case measure => have := HR.out.1; simp [intOf]; omega
    · obtain rfl : n = i := by omega
      have i1 : ¬ (n : Int) < (n : Int) := by omega
      have HQ : Hid (VlsQ l w (.returned (.slice ax am ac)) wr) := by
        refine ⟨⟨ax, am, ac⟩, rfl, ?_, by rw [HN0.out]; exact hB⟩
        have hnum : am = us.length := IsG.num (a := ⟨ax, am, ac⟩) hI.1.isG
        have h1 := hI.2.1
        have h2 := hI.2.2
        rw [List.take_of_length_le (by have := HH.out.1; omega)] at h1 h2
        rw [HN0.out]
        refine .list _ us _ hI.1.isG (fun h0 p hp => ?_) h1 (by show am ≤ _; omega) (fun j u d hu hd => (h2 j u d hu hd).mono (fun b hb => hb.1))
        have hp' : ax = some p := hp
        subst hp'
        exact (hI.1.lt p.block rfl).1
      clear hI hB hs hul
      go_wp2
      go_ret
      exact HQ.out
def LiQ (n0 : Nat) (d : Nd) (v : Value) (x : World) : Prop := ∃ a : Sl, v = a.v ∧ VlG x (n0 ≤ ·) (.iface 73 a.v) d
def IvQ (n0 : Nat) (d : Nd) (v : Value) (x : World) : Prop := ∃ ty p, v = .iface ty p ∧ VlG x (n0 ≤ ·) (.iface ty p) d
theorem LiQ.later {n0 : Nat} {d : Nd} {v : Value} {x y : World} (h : LiQ n0 d v x) (hb : Below x.heap.size x y) : LiQ n0 d v y := by
  obtain ⟨a, h1, h2⟩ := h
  exact ⟨a, h1, h2.kept hb⟩
theorem IvQ.later {n0 : Nat} {d : Nd} {v : Value} {x y : World} (h : IvQ n0 d v x) (hb : Below x.heap.size x y) : IvQ n0 d v y := by
  obtain ⟨t, p, h1, h2⟩ := h
  exact ⟨t, p, h1, h2.kept hb⟩
def SvQ (n0 k : Nat) (ds : List Nd) (v : Value) (x : World) : Prop := ∃ us, SlN n0 k us v x ∧ us.length = ds.length ∧ ∀ (i : Nat) u d, us[i]? = some u → ds[i]? = some d → VlG x (n0 ≤ ·) u d
theorem SvQ.later {n0 k : Nat} {ds : List Nd} {v : Value} {x y : World} (h : SvQ n0 k ds v x) (hb : Below x.heap.size x y) : SvQ n0 k ds v y := by
  obtain ⟨us, h1, h2, h3⟩ := h
  exact ⟨us, h1.later hb, h2, fun i u d hu hd => (h3 i u d hu hd).kept hb⟩
def OvQ (n0 k : Nat) (ks : List Value) (ds : List Nd) (v : Value) (x : World) : Prop := ∃ a b, v = .agg #[a, b] ∧ SlN n0 k ks a x ∧ SvQ n0 k ds b x
theorem OvQ.later {n0 k : Nat} {ks : List Value} {ds : List Nd} {v : Value} {x y : World} (h : OvQ n0 k ks ds v x) (hb : Below x.heap.size x y) : OvQ n0 k ks ds v y := by
  obtain ⟨a, b, h1, h2, h3⟩ := h
  exact ⟨a, b, h1, h2.later hb, h3.later hb⟩
def IoQ (n0 k : Nat) (ks : List Value) (ds : List Nd) (v : Value) (x : World) : Prop := ∃ a b, v = .iface 76 (.agg #[a, b]) ∧ SlN n0 k ks a x ∧ SvQ n0 k ds b x
theorem IoQ.later {n0 k : Nat} {ks : List Value} {ds : List Nd} {v : Value} {x y : World} (h : IoQ n0 k ks ds v x) (hb : Below x.heap.size x y) : IoQ n0 k ks ds v y := by
  obtain ⟨a, b, h1, h2, h3⟩ := h
  exact ⟨a, b, h1, h2.later hb, h3.later hb⟩
theorem IoQ.vl {n0 k : Nat} {kb : List ByteArray} {ds : List Nd} {v : Value} {x : World} (h : IoQ n0 k (strs kb) ds v x) (h3 : k ≤ 3) : ∃ p, v = .iface 76 p ∧ VlG x (n0 ≤ ·) v (.mk 6 0 [] (kb.map lS) ds) := by
  obtain ⟨a, b, rfl, h1, us, h2, h4, h5⟩ := h
  exact ⟨_, rfl, vl_obj h1 h2 h4 h3 h5⟩
theorem SvQ.one {n0 : Nat} {ds : List Nd} (us : List Value) (t : TypeId) (x : World) (h : n0 ≤ x.heap.size) (hl : us.length = ds.length) (he : ∀ (i : Nat) u d, us[i]? = some u → ds[i]? = some d → VlG x (n0 ≤ ·) u d) : SvQ n0 us.length ds (.slice (some ⟨x.heap.size, 0, none⟩) us.length us.length) (x.alloc (.cells us.toArray t)) :=
  ⟨us, SlN.new n0 us t x h, hl, fun i u d hu hd => (he i u d hu hd).kept (below_alloc x _)⟩
def DoQ (k : Int) (l : List Dc) (w : World) (e : Ending) (w' : World) : Prop := ∃ p, e = .returned (.iface 76 p) ∧ VlG w' (w.heap.size ≤ ·) (.iface 76 p) (mNd k l) ∧ Below w.heap.size w w'
set_option maxRecDepth 100000 in
set_option maxHeartbeats 8000000 in
theorem docI16_any (hT : TextOk) (l : List Dc) (x : Option Addr) (n c : Nat) (w : World) (hn : l.length = n) (h : IsK dcE w (.slice x n c) l) (hle : n ≤ 32) (hr : ∀ d ∈ l, -9223372036854775808 ≤ d.size ∧ d.size ≤ 9223372036854775807) : Calls Tryz.prog 15 #[.int .i64 2, .slice x n c] w fun e w' => DoQ 2 l w e w' := by
  obtain ⟨n0, hn0⟩ : ∃ q, w.heap.size = q := ⟨_, rfl⟩
  have HN0 : Hid (w.heap.size = n0) := hn0
  have bA := below_alloc w (.cells #[.string kVb, .string kMb] 9)
  have sA := SlN.new n0 [.string kVb, .string kMb] 9 w (by omega)
  have hV := values16_any hT l x n c (w.alloc (.cells #[.string kVb, .string kMb] 9)) hn (h.kept bA) hle hr
  have hsA : n0 ≤ (w.alloc (.cells #[.string kVb, .string kMb] 9)).heap.size := by rw [alloc_sz15]; omega
  unfold VlsQ at hV
  have ev : (⟨#[115, 99, 104, 101, 109, 97, 86, 101, 114, 115, 105, 111, 110]⟩ : ByteArray) = kVb := rfl
  have em : (⟨#[109, 97, 110, 105, 102, 101, 115, 116, 115]⟩ : ByteArray) = kMb := rfl
  clear h hr hn
  go_enter Tryz.func15, Tryz.ntmps15
  clear hn0
  go_wp2_with fail
  refine hV.mono ?_
  rintro e w2 ⟨⟨ax, am, ac⟩, rfl, hv2, hb2⟩
  clear hV
  have s2 := sA.later hb2
  have hB2 : Below n0 w w2 := by rw [← HN0.out]; exact bA.trans (hb2.mono bA.size)
  have hs2 : n0 ≤ w2.heap.size := Nat.le_trans hsA hb2.size
  have hv2' : VlG w2 (n0 ≤ ·) (.iface 73 (.slice ax am ac)) (.mk 5 0 [] [] (l.map dcNd)) := hv2.mono (fun b hb => Nat.le_trans hsA hb)
  have bB := below_alloc w2 (.cells #[.iface 71 (.int .i64 2), .iface 73 (.slice ax am ac)] 42)
  have s3 := s2.later bB
  have q3 := SvQ.one (n0 := n0) (ds := [.mk 3 2 [] [] [], .mk 5 0 [] [] (l.map dcNd)]) [.iface 71 (.int .i64 2), .iface 73 (.slice ax am ac)] 42 w2 hs2 rfl (fun i u d hu hd => by
    rcases i with _ | _ | i
    · simp at hu hd; subst hu hd; exact .num 2 ⟨by omega, by omega⟩
    · simp at hu hd; subst hu hd; exact hv2'
    · simp at hu)
  have HQ : Hid (DoQ 2 l w (.returned (.iface 76 (.agg #[.slice (some ⟨w.heap.size, 0, none⟩) 2 2, .slice (some ⟨w2.heap.size, 0, none⟩) 2 2]))) (w2.alloc (.cells #[.iface 71 (.int .i64 2), .iface 73 (.slice ax am ac)] 42))) := by
    obtain ⟨p, e1, e2⟩ := IoQ.vl (kb := [kVb, kMb]) (ds := [.mk 3 2 [] [] [], .mk 5 0 [] [] (l.map dcNd)]) (n0 := n0) (k := 2) ⟨_, _, rfl, s3, q3⟩ (by omega)
    refine ⟨_, rfl, ?_, by rw [HN0.out]; exact hB2.trans (bB.mono hs2)⟩
    rw [HN0.out] at e2 ⊢
    exact e2
  clear s2 s3 q3 bB hv2 hv2' hB2 hs2 hb2 sA bA hsA
  go_wp2
  go_ret
  exact HQ.out
set_option maxRecDepth 100000 in
set_option maxHeartbeats 8000000 in
theorem docM16_any (hT : TextOk) (d0 : Dc) (L : List Dc) (x : Option Addr) (n c : Nat) (w : World) (hn : (d0 :: L).length = n) (h : IsK dcE w (.slice x n c) (d0 :: L)) (hle : n ≤ 32) (hr : ∀ d ∈ d0 :: L, -9223372036854775808 ≤ d.size ∧ d.size ≤ 9223372036854775807) : Calls Tryz.prog 15 #[.int .i64 1, .slice x n c] w fun e w' => DoQ 1 (d0 :: L) w e w' := by
  obtain ⟨n0, hn0⟩ : ∃ q, w.heap.size = q := ⟨_, rfl⟩
  have HWN : Hid (w.heap.size = n0) := hn0
  obtain ⟨g, o, rfl, hg, hr1, hr2, -, -, -⟩ := dcCells h 0 d0 rfl
  have hcp := h.cap
  have hn1 : 1 ≤ n := by rw [← hn]; simp
  have HVA : Hid (∀ x, Calls Tryz.prog 32 #[.agg (dcA d0)] x fun e w' => VaQ d0 x e w') := fun x => value16_any hT d0 x (hr d0 (by simp))
  have hdp := isK_dp h 1 hn1
  have e33 : dcE.k = 33 := rfl
  rw [e33] at hdp
  obtain ⟨y1, hy1⟩ : ∃ q, (if c = 1 then some (⟨g, o, none⟩ : Addr) else some ⟨g, o + 1 * 33, none⟩) = q := ⟨_, rfl⟩
  obtain ⟨m1, hm1⟩ : ∃ q, n - 1 = q := ⟨_, rfl⟩
  obtain ⟨c1, hc1⟩ : ∃ q, c - 1 = q := ⟨_, rfl⟩
  rw [hy1, hm1, hc1] at hdp
  have HVS : Hid (∀ x, Below w.heap.size w x → Calls Tryz.prog 31 #[.slice y1 m1 c1] x fun e w' => VlsQ L x e w') := fun x hb => values16_any hT L y1 m1 c1 x (by rw [← hm1, ← hn]; simp) (hdp.kept hb) (by omega) (fun d hd => hr d (by simp [hd]))
  have HSL : Hid ((if c = 1 then some (⟨g, o, none⟩ : Addr) else some ⟨g, o + 1 * 33, none⟩) = y1 ∧ n - 1 = m1 ∧ c - 1 = c1) := ⟨hy1, hm1, hc1⟩
  have HRG : Hid (∀ x, Below w.heap.size w x → rgOk x g o 33 = true ∧ rg x g o 33 = dcA d0) := fun x hb => by
    obtain ⟨e1, e2⟩ := rg_later hb hg (o + 0 * 33) 33
    rw [show o + 0 * 33 = o by omega] at e1 e2 hr1 hr2
    exact ⟨by rw [e1]; exact hr1, by rw [e2, hr2]⟩
  have FK : Hid (0 < n ∧ (1 : Int) ≤ (n : Int)) := ⟨by omega, by omega⟩
  have HCP : Hid (n ≤ c) := hcp.2
  have HN0 : Hid (n0 ≤ w.heap.size) := by show _ ≤ _; omega
  clear hy1 hm1 hc1 hdp e33 hr1 hr2 hg h hr hn hcp
  have ev : (⟨#[115, 99, 104, 101, 109, 97, 86, 101, 114, 115, 105, 111, 110]⟩ : ByteArray) = kVb := rfl
  have em : (⟨#[99, 111, 110, 102, 105, 103]⟩ : ByteArray) = kCb := rfl
  have el : (⟨#[108, 97, 121, 101, 114, 115]⟩ : ByteArray) = kLb := rfl
  clear hn0
  go_enter Tryz.func15, Tryz.ntmps15
  go_upto_region 3 with fail
  refine wp_relies [SlN n0 3 [.string kVb, .string kCb, .string kLb], Fx (.iface 71 (.int .i64 2)), Fx (.slice (some ⟨g, o, none⟩) n c), Fx (.pointer (some ⟨g, o, none⟩)), Fx (.agg (dcA d0)), IvQ n0 (dcNd d0), Fx (.slice (some ⟨g, o, none⟩) n c), Fx (.slice y1 m1 c1), LiQ n0 (.mk 5 0 [] [] (L.map dcNd)), IvQ n0 (.mk 5 0 [] [] (L.map dcNd)), SvQ n0 3 [.mk 3 2 [] [] [], dcNd d0, .mk 5 0 [] [] (L.map dcNd)], OvQ n0 3 [.string kVb, .string kCb, .string kLb] [.mk 3 2 [] [] [], dcNd d0, .mk 5 0 [] [] (L.map dcNd)], IoQ n0 3 [.string kVb, .string kCb, .string kLb] [.mk 3 2 [] [] [], dcNd d0, .mk 5 0 [] [] (L.map dcNd)], IoQ n0 3 [.string kVb, .string kCb, .string kLb] [.mk 3 2 [] [] [], dcNd d0, .mk 5 0 [] [] (L.map dcNd)]] (by kernel_rfl) (by kernel_rfl) ?_ ?_ ?_
  · repeat' (first | exact all_nil | apply all_cons)
    all_goals intro v y y' hv hb
    all_goals first | exact Fx_mono _ _ _ _ hv hb | exact SlN.later hv hb | exact LiQ.later hv hb | exact IvQ.later hv hb | exact SvQ.later hv hb | exact OvQ.later hv hb | exact IoQ.later hv hb
  · refine ⟨?_, ?_, ?_, ?_, ?_, ?_, ?_, ?_, ?_, ?_, ?_, ?_, ?_, ?_, trivial⟩
    all_goals
      intro ρ x hp ρc ρg ρf ho hd
      have o1 : ρ (.tmp 1) = .slice (some ⟨g, o, none⟩) n c := ho 1 rfl
      clear ho
      obtain ⟨k1, k2⟩ := HRG.out x hp
      simp only [depsR, depR, slotR, Fx, List.getElem?_cons_succ, List.getElem?_cons_zero, Region.binds, forall_const] at hd
      simp only [guardR]
      go_split_ands
    · go_simp
      exact ⟨SlN.new n0 [.string kVb, .string kCb, .string kLb] _ x (Nat.le_trans HN0.out hp.size), below_alloc _ _⟩
    · go_simp
    · go_simp
    · obtain ⟨z1, z2⟩ := FK.out
      go_simp
    · go_simp
    · go_simp
      refine (HVA.out x).mono ?_
      rintro e x' ⟨ty, p, rfl, h1, h2⟩
      exact ⟨_, rfl, ⟨ty, p, rfl, h1.mono (fun b hb => Nat.le_trans (Nat.le_trans HN0.out hp.size) hb)⟩, h2⟩
    · go_simp
    · obtain ⟨z1, z2⟩ := FK.out
      have z3 := HSL.out
      go_simp
    · go_simp
      refine (HVS.out x hp).mono ?_
      rintro e x' ⟨a, rfl, h1, h2⟩
      exact ⟨_, rfl, ⟨a, rfl, h1.mono (fun b hb => Nat.le_trans (Nat.le_trans HN0.out hp.size) hb)⟩, h2⟩
    · obtain ⟨⟨ax, am, ac⟩, u1, u2⟩ := ‹LiQ n0 (.mk 5 0 [] [] (L.map dcNd)) (ρ (.tmp 23)) x›
      simp only [Sl.v] at u1 u2
      go_simp
      exact ⟨_, _, rfl, u2⟩
    · obtain ⟨t1, p1, u1, u2⟩ := ‹IvQ n0 (dcNd d0) (ρ (.tmp 20)) x›
      obtain ⟨t2, p2, v1, v2⟩ := ‹IvQ n0 (.mk 5 0 [] [] (L.map dcNd)) (ρ (.tmp 24)) x›
      go_simp
      refine ⟨SvQ.one (ds := [.mk 3 2 [] [] [], dcNd d0, .mk 5 0 [] [] (L.map dcNd)]) [.iface 71 (.int .i64 2), .iface t1 p1, .iface t2 p2] _ x (Nat.le_trans HN0.out hp.size) rfl (fun i u d hu hd => ?_), below_alloc _ _⟩
      rcases i with _ | _ | _ | i
      · simp at hu hd; subst hu hd; exact .num 2 ⟨by omega, by omega⟩
      · simp at hu hd; subst hu hd; exact u2
      · simp at hu hd; subst hu hd; exact v2
      · simp at hu
    · have s1 := ‹SlN n0 3 [.string kVb, .string kCb, .string kLb] (ρ (.tmp 15)) x›
      have s2 := ‹SvQ n0 3 [.mk 3 2 [] [] [], dcNd d0, .mk 5 0 [] [] (L.map dcNd)] (ρ (.tmp 25)) x›
      obtain ⟨a1, u1, -⟩ := id s1
      obtain ⟨us, ⟨a2, u2, -⟩, -⟩ := id s2
      rw [u1] at s1
      rw [u2] at s2
      go_simp
      exact ⟨_, _, rfl, s1, s2⟩
    · obtain ⟨a, b, u1, u2, u3⟩ := ‹OvQ n0 3 [.string kVb, .string kCb, .string kLb] [.mk 3 2 [] [] [], dcNd d0, .mk 5 0 [] [] (L.map dcNd)] (ρ (.tmp 26)) x›
      go_simp
      exact ⟨_, _, rfl, u2, u3⟩
    · have u1 := ‹IoQ n0 3 [.string kVb, .string kCb, .string kLb] [.mk 3 2 [] [] [], dcNd d0, .mk 5 0 [] [] (L.map dcNd)] (ρ (.tmp 27)) x›
      go_simp
  · intro vs x9 hp hw
    simp only [owed, Fx] at hw
    obtain ⟨e0, e1, e2, e3, e4, e5, e6, e7, e8, e9, e10, e11, e12, ⟨a, b, e13, u2, u3⟩, -⟩ := hw
    simp only [List.length_cons, List.length_nil, List.take_succ_cons, List.take_nil, List.drop_succ_cons, List.drop_nil, asg, List.cons_append, List.nil_append, e1, e2, e3, e4, e6, e7, e13]
    clear e1 e2 e3 e4 e6 e7 e13 e0 e5 e8 e9 e10 e11 e12
    have HQ : Hid (DoQ 1 (d0 :: L) w (.returned (.iface 76 (.agg #[a, b]))) x9) := by
      obtain ⟨p, e1, e2⟩ := IoQ.vl (kb := [kVb, kCb, kLb]) (ds := [.mk 3 2 [] [] [], dcNd d0, .mk 5 0 [] [] (L.map dcNd)]) (n0 := n0) (k := 3) ⟨a, b, rfl, u2, u3⟩ (by omega)
      refine ⟨_, rfl, ?_, hp⟩
      rw [HWN.out]
      exact e2
    clear u2 u3 hp
    go_wp2
    go_ret
    exact HQ.out
end Go.Proofs.YtalnbddkhojjbaaGreatDoor
