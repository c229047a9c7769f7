import Derived.Test.YtafbkdpheneceaaQExp
namespace Go.Proofs.Ytafbkdpheneceaa
open Go.RowKit

/-! assaylaw08's stay -/
theorem info_sl8 : (Try.prog.info? 31).map (fun i => (i.zero, i.size, i.bytes)) = some (some (.slice none 0 0), 1, 24) := by kernel_rfl
theorem slElt8 : Elt 76 31 24 := ⟨Try.underlying76, by
  obtain ⟨i, hi, hz⟩ := Option.map_eq_some_iff.1 info_sl8
  simp only [Prod.mk.injEq] at hz
  exact ⟨i, _, hi, hz.1, hz.2.1, hz.2.2, rfl⟩⟩
def sP (pgs : List Pg) (k : Nat) : Sl3 := match pgs[k / 2]? with | some q => if k % 2 = 0 then q.a else q.b | none => slZ
def allV (pgs : List Pg) (m : Nat) : List Value := (List.range m).map fun k => (sP pgs k).v
theorem allV_len (pgs : List Pg) (m : Nat) : (allV pgs m).length = m := by simp [allV]
theorem allV_at (pgs : List Pg) (m k : Nat) (h : k < m) : (allV pgs m)[k]? = some (sP pgs k).v := by simp [allV, h]
theorem allV_two (pgs : List Pg) (i : Nat) (q : Pg) (h : pgs[i]? = some q) : allV pgs (2 * i) ++ [q.a.v, q.b.v] = allV pgs (2 * (i + 1)) := by
  unfold allV
  rw [show 2 * (i + 1) = 2 * i + 1 + 1 by omega, List.range_succ, List.range_succ, List.map_append, List.map_append, List.append_assoc]
  congr 1
  simp [sP, h, show 2 * i / 2 = i by omega, show (2 * i + 1) / 2 = i by omega, show (2 * i + 1) % 2 = 1 by omega]
theorem sl_form (s : Sl3) : s.v = .slice s.y s.n s.c := rfl
/-- append(all, a, b) -/
theorem app2S (W : World) (B : Nat) (xv : Option Addr) (nv cv : Nat) (ds : List Value) (y : Nat) (a b : Sl3) (ty : TypeId) (h : OwnG 31 W B (.slice xv nv cv) ds) (hn : ds.length = nv) (h0 : W.cell? ⟨y, 0, none⟩ = some a.v) (h1 : W.cell? ⟨y, 1, none⟩ = some b.v) (hB : B ≤ W.heap.size) (hl : (nv + 2) * 24 ≤ 140737488355328) (h63 : nv + 2 ≤ maxLen) :
    ∃ v' w', (Builtin.append_ #[76, 76] ty #[.slice xv nv cv, .slice (some ⟨y, 0, none⟩) 2 2]).run Try.prog W = .ok v' w' ∧ OwnG 31 w' B v' (ds ++ [a.v, b.v]) ∧ W.grownBy w' (Value.slice xv nv cv).ownBlock ∧ Below B W w' := by
  subst hn
  exact run_appG slElt8 W B (.slice xv ds.length cv) ds [a.v, b.v] ⟨y, 0, none⟩ 2 ty h (fun j u hu => by
    rcases j with _ | _ | j
    · simp at hu; subst hu; rw [addr_add]; exact h0
    · simp at hu; subst hu; rw [addr_add]; exact h1
    · simp at hu) (fun u hu => by simp at hu; rcases hu with rfl | rfl <;> rfl) (by simp) (by simpa using hl) (by simpa using h63) hB
/-- append(append(s, m), m): it may stand where s stands; s stays. -/
theorem grow2 (W : World) (B : Nat) (s : Sl3) (R : List Pr) (m : Pr) (ty : TypeId) (h : OwnK prE W B s.v R) (hn : R.length = s.n) (hB : B ≤ W.heap.size) (hl : s.n ≤ 2000) :
    ∃ g1 c1 w1, (Builtin.append_ #[31, 31] ty #[s.v, .slice (some ⟨W.heap.size, 0, none⟩) 1 1]).run Try.prog (W.alloc (.cells (prA m) 33)) = .ok (.slice (some ⟨g1, 0, none⟩) (s.n + 1) c1) w1 ∧
    ∃ g2 c2 w2, (Builtin.append_ #[31, 31] ty #[.slice (some ⟨g1, 0, none⟩) (s.n + 1) c1, .slice (some ⟨w1.heap.size, 0, none⟩) 1 1]).run Try.prog (w1.alloc (.cells (prA m) 33)) = .ok (.slice (some ⟨g2, 0, none⟩) (s.n + 2) c2) w2 ∧
      OwnK prE w2 B (.slice (some ⟨g2, 0, none⟩) (s.n + 2) c2) (R ++ [m] ++ [m]) ∧ OwnK prE w2 B s.v R ∧ Keep s.v.ownBlock.toList W w2 ∧ (s.v.ownBlock = some g2 ∨ W.heap.size ≤ g2) := by
  have hA := below_alloc W (.cells (prA m) 33)
  obtain ⟨g1, c1, w1, hr1, hO1, hS1, hg1, hw1⟩ := run_app1K prE_ok (W.alloc (.cells (prA m) 33)) B W.heap.size s.v R m ty (h.keep hA) (newPr W m) (by simp) (by show (R.length + 1) * 16 ≤ _; omega) (by unfold maxLen; omega) (by simp; omega)
  have hB1 : B ≤ w1.heap.size := by have := hg1.size; simp at this; omega
  have hA1 := below_alloc w1 (.cells (prA m) 33)
  have hlen1 : (R ++ [m]).length = R.length + 1 := by simp
  have hO1' : OwnK prE w1 B (.slice (some ⟨g1, 0, none⟩) (R.length + 1) c1) (R ++ [m]) := hO1
  obtain ⟨g2, c2, w2, hr2, hO2, hS2, hg2, hw2⟩ := run_app1K prE_ok (w1.alloc (.cells (prA m) 33)) B w1.heap.size (.slice (some ⟨g1, 0, none⟩) (R.length + 1) c1) (R ++ [m]) m ty (hO1'.keep hA1) (newPr w1 m) (by simp) (by rw [hlen1]; show (R.length + 1 + 1) * 16 ≤ _; omega) (by rw [hlen1]; unfold maxLen; omega) (by simp; omega)
  rw [hlen1] at hr2 hO2
  have hW1 : W.heap.size ≤ w1.heap.size := by have := hg1.size; simp at this; omega
  have hown1 : (Value.slice (some ⟨g1, 0, none⟩) (R.length + 1) c1).ownBlock = some g1 := rfl
  rw [hown1] at hg2 hw2
  have hg1b : s.v.ownBlock = some g1 ∨ W.heap.size ≤ g1 := by
    rcases hw1 with h1 | h1
    · exact .inl h1
    · right; rw [World.size_alloc] at h1; omega
  refine ⟨g1, c1, w1, by rw [← hn]; exact hr1, g2, c2, w2, by rw [← hn]; exact hr2, by rw [← hn]; exact hO2, ?_, ?_, ?_⟩
  · -- the old one
    have hS1' := hS1.keep hA1
    by_cases hb : s.v.ownBlock = some g1
    · obtain ⟨cur, a1, a2, a3, a4, a5, a6, a7⟩ := (hO1'.keep hA1).heap
      have hsv : ∃ c, s.v = .slice (some ⟨g1, 0, none⟩) R.length c := by
        rcases hS1'.2 with ⟨e, hz⟩ | ⟨g, cap, cur', e, b1, b2, b3⟩
        · rw [e] at hb; simp [Value.ownBlock] at hb
        · rw [e] at hb
          have : g = g1 := by simpa [Value.ownBlock] using hb
          subst this
          exact ⟨cap, e⟩
      obtain ⟨c, hsv⟩ := hsv
      rw [hsv] at hS1' ⊢
      obtain ⟨cur', b1, b2, b3, b4, b5, b6, b7⟩ := hS1'.heap
      rw [a3] at b3
      cases b3
      have hk : prE.k = 2 := rfl
      rw [hk] at a6 b6
      have hcc : c = c1 := by omega
      subst hcc
      have := hS2.cut prE_ok R.length (by omega)
      rwa [List.take_left' rfl] at this
    · exact World.ownsRow.kept hS1' hg2 (by
        cases hq : s.v.ownBlock with
        | none => exact .inl rfl
        | some q => exact .inr (fun e => hb (by rw [hq]; exact e)))
  · refine ⟨hg2.os.trans (hA1.os.trans (hg1.os.trans hA.os)), hg2.tape.trans (hA1.tape.trans (hg1.tape.trans hA.tape)), hg2.output.trans (hA1.output.trans (hg1.output.trans hA.output)), ?_, fun k hk hno => ?_⟩
    · have := hg2.size; simp at this; omega
    · have hkg : some k ≠ s.v.ownBlock := fun e => hno (by rw [← e]; simp)
      have hk1 : some k ≠ some g1 := fun e => by
        rcases hg1b with h1 | h1
        · exact hkg (by rw [h1]; exact e)
        · cases e; omega
      exact (hg2.block k (by simp; omega) hk1).trans ((hA1.block k (by omega)).trans ((hg1.block k (by simp; omega) hkg).trans (hA.block k hk)))
  · rcases hw2 with h1 | h1
    · have : g1 = g2 := by simpa using h1
      subst this
      exact hg1b
    · right; rw [World.size_alloc] at h1; omega
/-- append(longer, v) -/
theorem app1S (W : World) (B : Nat) (xv : Option Addr) (nv cv : Nat) (ds : List Value) (a : Sl3) (ty : TypeId) (h : OwnG 31 W B (.slice xv nv cv) ds) (hn : ds.length = nv) (hB : B ≤ W.heap.size) (hl : (nv + 1) * 24 ≤ 140737488355328) (h63 : nv + 1 ≤ maxLen) :
    ∃ g c' w', (Builtin.append_ #[76, 76] ty #[.slice xv nv cv, .slice (some ⟨W.heap.size, 0, none⟩) 1 1]).run Try.prog (W.alloc (.cells #[a.v] 31)) = .ok (.slice (some ⟨g, 0, none⟩) (nv + 1) c') w' ∧ OwnG 31 w' B (.slice (some ⟨g, 0, none⟩) (nv + 1) c') (ds ++ [a.v]) ∧ Keep (Value.slice xv nv cv).ownBlock.toList W w' ∧ ((Value.slice xv nv cv).ownBlock = some g ∨ W.heap.size ≤ g) := by
  subst hn
  have hA := below_alloc W (.cells #[a.v] 31)
  obtain ⟨i, z, hi, hz, hsz, hby, hzs⟩ := slElt8.info
  have hcell : (W.alloc (.cells #[a.v] 31)).cell? ⟨W.heap.size, 0, none⟩ = some a.v := cell_of_row _ _ 0 _ _ _ (heap_alloc_last W _)
  obtain ⟨g, c', w', hr, hO, hg, hway, hlt⟩ := run_append_lies (P := Try.prog) (W.alloc (.cells #[a.v] 31)) 76 ty B 31 i z 1 24 slElt8.ht hi hz hsz hby hzs (by omega) (.slice xv ds.length cv) ds.length ds (h.keep hA) ⟨W.heap.size, 0, none⟩ 1 1 [a.v] (by simp) (fun j u hu => by
    rcases j with _ | j
    · simp at hu; subst hu; rw [addr_add]; exact hcell
    · simp at hu) (by simp; rfl) (by omega) h63 hl (by simp; omega) _ rfl
  refine ⟨g, c', w', hr, by unfold OwnG; rw [List.length_append]; exact hO, (Keep.of_below hA).trans (Keep.of_grown hg (fun q hq => by rw [hq]; simp)), ?_⟩
  rcases hway with h1 | h1
  · exact .inl h1
  · right; rw [World.size_alloc] at h1; omega
theorem Fam.congr {W : World} {B n : Nat} {s : Nat → Sl3} {L L' : Nat → List Pr} {G : Nat → List Nat} (h : Fam W B n s L G) (e : ∀ k, k < n → L k = L' k) : Fam W B n s L' G :=
  ⟨fun k hk => by rw [← e k hk]; exact h.own k hk, fun k hk => by rw [← e k hk]; exact h.len k hk, h.blk, h.lt, h.ap⟩
/-- The longer lists, in the same blocks or in new ones of their own. -/
structure Grw (W : World) (B u : Nat) (z : Nat → Sl3) (L : Nat → List Pr) (G : Nat → List Nat) : Prop where
  own : ∀ k, k < u → OwnK prE W B (z k).v (L k ++ [mk9 k] ++ [mk9 k])
  n : ∀ k, k < u → (z k).n = (L k).length + 2
  blk : ∀ k, k < u → ∀ q, (z k).v.ownBlock = some q → q ∈ G k
theorem Grw.keeps {W W' : World} {B u : Nat} {z : Nat → Sl3} {L : Nat → List Pr} {G : Nat → List Nat} {H : List Nat} (h : Grw W B u z L G) (hK : Keep H W W') (hd : ∀ k, k < u → ∀ q ∈ G k, q ∉ H) : Grw W' B u z L G :=
  ⟨fun k hk => (h.own k hk).keeps hK (fun q hq => hd k hk q (h.blk k hk q hq)), h.n, h.blk⟩
theorem fam_grow {W W' : World} {B N u g c : Nat} {s z : Nat → Sl3} {L : Nat → List Pr} {G : Nat → List Nat} (h : Fam W B N s L G) (k : Grw W B u z L G) (hu : u < N) (_hB : B ≤ W.heap.size)
    (hO : OwnK prE W' B (.slice (some ⟨g, 0, none⟩) ((s u).n + 2) c) (L u ++ [mk9 u] ++ [mk9 u])) (hS : OwnK prE W' B (s u).v (L u)) (hK : Keep (s u).v.ownBlock.toList W W') (hw : (s u).v.ownBlock = some g ∨ W.heap.size ≤ g) :
    Fam W' B N s L (fun k => if k = u then g :: G u else G k) ∧ Grw W' B (u + 1) (fun k => if k = u then ⟨some ⟨g, 0, none⟩, (s u).n + 2, c⟩ else z k) L (fun k => if k = u then g :: G u else G k) := by
  have hgl := World.ownsRow.lt hO g rfl
  have hother : ∀ j, j < N → j ≠ u → ∀ q ∈ G j, q ∉ (s u).v.ownBlock.toList := fun j hj hne q hq hm => h.ap j u hj hu hne q hq (h.blk u hu q (by simpa using hm))
  have hgn : ∀ j, j < N → j ≠ u → g ∉ G j := fun j hj hne hm => by
    rcases hw with h1 | h1
    · exact h.ap j u hj hu hne g hm (h.blk u hu g h1)
    · have := (h.lt j hj g hm).1; omega
  constructor
  · refine ⟨fun j hj => ?_, h.len, fun j hj q hq => ?_, fun j hj q hq => ?_, fun j l hj hl hne q hq hm => ?_⟩
    · by_cases e : j = u
      · subst e; exact hS
      · exact (h.own j hj).keeps hK (fun q hq => hother j hj e q (h.blk j hj q hq))
    · try dsimp only
      by_cases e : j = u
      · rw [if_pos e]; subst e; exact List.mem_cons_of_mem _ (h.blk j hj q hq)
      · rw [if_neg e]; exact h.blk j hj q hq
    · try dsimp only at hq
      by_cases e : j = u
      · rw [if_pos e] at hq
        rcases List.mem_cons.1 hq with rfl | hq
        · exact ⟨hgl.2, hgl.1⟩
        · have := h.lt u hu q hq
          exact ⟨Nat.lt_of_lt_of_le this.1 hK.size, this.2⟩
      · rw [if_neg e] at hq
        have := h.lt j hj q hq
        exact ⟨Nat.lt_of_lt_of_le this.1 hK.size, this.2⟩
    · try dsimp only at hq hm
      by_cases e : j = u
      · rw [if_pos e] at hq
        rw [if_neg (fun e2 => hne (by omega))] at hm
        rcases List.mem_cons.1 hq with rfl | hq
        · exact hgn l hl (by omega) hm
        · exact h.ap u l hu hl (by omega) q hq hm
      · rw [if_neg e] at hq
        by_cases e2 : l = u
        · rw [if_pos e2] at hm
          rcases List.mem_cons.1 hm with rfl | hm
          · exact hgn j hj e hq
          · exact h.ap j u hj hu e q hq hm
        · rw [if_neg e2] at hm
          exact h.ap j l hj hl hne q hq hm
  · refine ⟨fun j hj => ?_, fun j hj => ?_, fun j hj q hq => ?_⟩
    · try dsimp only
      by_cases e : j = u
      · rw [if_pos e]; subst e; exact hO
      · rw [if_neg e]
        exact (k.own j (by omega)).keeps hK (fun q hq => hother j (by omega) e q (k.blk j (by omega) q hq))
    · try dsimp only
      by_cases e : j = u
      · rw [if_pos e]; subst e; dsimp only; rw [h.len j hu]
      · rw [if_neg e]; exact k.n j (by omega)
    · try dsimp only at hq ⊢
      by_cases e : j = u
      · rw [if_pos e] at hq ⊢
        have : q = g := by simpa [Sl3.v, Value.ownBlock] using hq.symm
        subst this; simp
      · rw [if_neg e] at hq ⊢; exact k.blk j (by omega) q hq
def zL (z : Nat → Sl3) (m : Nat) : List Value := (List.range m).map fun k => (z k).v
theorem zL_len (z : Nat → Sl3) (m : Nat) : (zL z m).length = m := by simp [zL]
theorem zL_at (z : Nat → Sl3) (m k : Nat) (h : k < m) : (zL z m)[k]? = some (z k).v := by simp [zL, h]
theorem zL_snoc (z : Nat → Sl3) (u : Nat) (s : Sl3) : zL z u ++ [s.v] = zL (fun k => if k = u then s else z k) (u + 1) := by
  unfold zL
  rw [List.range_succ, List.map_append]
  congr 1
  · apply List.map_congr_left
    intro k hk
    have : k < u := by simpa using hk
    show (z k).v = (if k = u then s else z k).v
    rw [if_neg (by omega)]
  · simp
set_option linter.unusedSimpArgs false in
set_option maxRecDepth 100000 in
set_option maxHeartbeats 4000000 in
theorem stay_any (W : World) (B : Nat) (xb : Option Addr) (p cb : Nat) (pgs : List Pg) (ls : Nat → List Pr) (G : Nat → List Nat) (hp : pgs.length = p) (hp4 : p ≤ 1048576) (hB : B ≤ W.heap.size) (hbook : IsK pgE W (.slice xb p cb) pgs)
    (hfam : Fam W B (2 * p) (sP pgs) (fun k => ls (k / 2)) G) (hwant : ∀ (i : Nat) q, pgs[i]? = some q → IsK prE W q.w.v (ls i) ∧ (ls i).length = q.w.n) (hll : ∀ i, (ls i).length ≤ 2000) :
    Calls Try.prog 21 #[.slice xb p cb] W fun e w' => e = .returned (.bool true) ∧ Below B W w' := by
  go_enter Try.func21, Try.ntmps21
  go_wp2
  go_loopw [3, 4] (fun av iv wr => ∃ (i : Nat) (xa : Option Addr) (ca : Nat), i ≤ p ∧ iv = .int .i64 i ∧ av = .slice xa (2 * i) ca ∧ OwnG 31 wr W.heap.size (.slice xa (2 * i) ca) (allV pgs (2 * i)) ∧ Below W.heap.size W wr) (fun _ iv _ => p - (intOf iv).toNat)
  case atStart => exact ⟨0, none, 0, by omega, rfl, rfl, OwnG.nil _ _ _, Below.refl _ _⟩
  case round =>
    obtain ⟨i, xa, ca, hi, rfl, rfl, hO, hB0⟩ := hrel
    by_cases hlt : i < p
    · have hlt' : (i : Int) < (p : Int) := by omega
      obtain ⟨q, hq⟩ : ∃ q, pgs[i]? = some q := ⟨_, List.getElem?_eq_getElem (by omega)⟩
      obtain ⟨bb, ob, rfl, hbb, hr⟩ := (hbook.kept hB0).at i q hq
      obtain ⟨c0, c1, c2⟩ := pg_cells hr
      rw [pgE_k] at c0 c1 c2
      have ha := hfam.own (2 * i) (by omega)
      have hb := hfam.own (2 * i + 1) (by omega)
      have hla := hfam.len (2 * i) (by omega)
      have hlb := hfam.len (2 * i + 1) (by omega)
      have hsa : sP pgs (2 * i) = q.a := by simp [sP, hq, show 2 * i / 2 = i by omega]
      have hsb : sP pgs (2 * i + 1) = q.b := by simp [sP, hq, show (2 * i + 1) / 2 = i by omega, show (2 * i + 1) % 2 = 1 by omega]
      rw [hsa] at ha hla
      rw [hsb] at hb hlb
      simp only [show 2 * i / 2 = i by omega, show (2 * i + 1) / 2 = i by omega] at ha hb hla hlb
      obtain ⟨hw, hlw⟩ := hwant i q hq
      have hIa := (ha.isK prE_ok).kept hB0
      have hIb := (hb.isK prE_ok).kept hB0
      have hIw := hw.kept hB0
      obtain ⟨⟨ya, na, cya⟩, ⟨yb, nb, cyb⟩, ⟨yw, nw, cyw⟩⟩ := q
      simp only [Sl3.v] at hIa hIb hIw c0 c1 c2 hla hlb hlw
      have hl2 := hll i
      have FK : Hid ((i : Int) < (p : Int)) := hlt'
      have HI : Hid (IsK prE wr (.slice ya na cya) (ls i) ∧ IsK prE wr (.slice yb nb cyb) (ls i) ∧ IsK prE wr (.slice yw nw cyw) (ls i) ∧ (ls i).length = na ∧ (ls i).length = nb ∧ (ls i).length = nw) := ⟨hIa, hIb, hIw, hla, hlb, hlw⟩
      have HQ : Hid (pgs[i]? = some ⟨⟨ya, na, cya⟩, ⟨yb, nb, cyb⟩, ⟨yw, nw, cyw⟩⟩) := hq
      have hna : na ≤ 2000 := by omega
      have hnb : nb ≤ 2000 := by omega
      have HO : Hid (OwnG 31 wr W.heap.size (.slice xa (2 * i) ca) (allV pgs (2 * i))) := hO
      have HB0 : Hid (Below W.heap.size W wr) := hB0
      clear hr ha hb hla hlb hsa hsb hw hlw hIa hIb hIw hq hbb hO hB0
      go_upto_region 5 with fail
      clear hlt'
      refine wp_relies [Fx (.slice (some ⟨bb, ob, none⟩) p cb), Fx (.int .i64 ((i : Int))), Fx (.pointer (some ⟨bb, ob + i * 3, none⟩)), Fx (.pointer (some ⟨bb, ob + i * 3, none⟩)), Fx (.slice ya na cya), Fx (.slice (some ⟨bb, ob, none⟩) p cb), Fx (.int .i64 ((i : Int))), Fx (.pointer (some ⟨bb, ob + i * 3, none⟩)), Fx (.pointer (some ⟨bb, ob + i * 3 + 2, none⟩)), Fx (.slice yw nw cyw), Fx (.bool true), Fx (.bool false), Fx (.bool false), Fx (.slice (some ⟨bb, ob, none⟩) p cb), Fx (.int .i64 ((i : Int))), Fx (.pointer (some ⟨bb, ob + i * 3, none⟩)), Fx (.pointer (some ⟨bb, ob + i * 3 + 1, none⟩)), Fx (.slice yb nb cyb), Fx (.slice (some ⟨bb, ob, none⟩) p cb), Fx (.int .i64 ((i : Int))), Fx (.pointer (some ⟨bb, ob + i * 3, none⟩)), Fx (.pointer (some ⟨bb, ob + i * 3 + 2, none⟩)), Fx (.slice yw nw cyw), Fx (.bool true), Fx (.bool false), Fx (.bool false)] (by kernel_rfl) (by kernel_rfl) ?_ ?_ ?_
      · repeat' (first | exact all_nil | apply all_cons)
        all_goals intro v y y' hv hb
        all_goals first | exact Fx_mono _ _ _ _ hv hb
      · refine ⟨?_, ?_, ?_, ?_, ?_, ?_, ?_, ?_, ?_, ?_, ?_, ?_, ?_, ?_, ?_, ?_, ?_, ?_, ?_, ?_, ?_, ?_, ?_, ?_, ?_, ?_, trivial⟩
        all_goals
          intro ρ x hp ρc ρg ρf ho hd
          have o0 : ρ (.tmp 0) = .slice (some ⟨bb, ob, none⟩) p cb := ho 0 rfl
          have o4 : ρ (.tmp 4) = .int .i64 ((i : Int)) := ho 4 rfl
          clear ho
          have k0 := cell_later hp c0
          have k1 := cell_later hp c1
          have k2 := cell_later hp c2
          simp only [depsR, depR, slotR, Fx, List.getElem?_cons_succ, List.getElem?_cons_zero, Region.binds, forall_const] at hd
          simp only [guardR]
          go_split_ands
        · go_simp
        · go_simp
        · have hq := FK.out
          go_simp
        · go_simp
        · go_simp
        · go_simp
        · go_simp
        · have hq := FK.out
          go_simp
        · go_simp
        · go_simp
        · go_simp
          refine (sameP_any _ _ _ _ na nw (ls i) (ls i) _ HI.out.2.2.2.1 HI.out.2.2.2.2.2 (HI.out.1.kept hp) (HI.out.2.2.1.kept hp) (by omega)).mono ?_
          rintro e x' ⟨rfl, hb⟩
          rw [decide_eq_true rfl]
          exact ⟨_, rfl, rfl, hb⟩
        · go_simp
        · go_simp
        · refine ⟨fun _ => ?_, fun hy => absurd (by simp [yieldR, slotR, *]) hy⟩
          go_simp
        · refine ⟨fun _ => ?_, fun hy => absurd (by simp [yieldR, slotR, *]) hy⟩
          go_simp
        · refine ⟨fun _ => ?_, fun hy => absurd (by simp [yieldR, slotR, *]) hy⟩
          have hq := FK.out
          go_simp
        · refine ⟨fun _ => ?_, fun hy => absurd (by simp [yieldR, slotR, *]) hy⟩
          go_simp
        · refine ⟨fun _ => ?_, fun hy => absurd (by simp [yieldR, slotR, *]) hy⟩
          go_simp
        · refine ⟨fun _ => ?_, fun hy => absurd (by simp [yieldR, slotR, *]) hy⟩
          go_simp
        · refine ⟨fun _ => ?_, fun hy => absurd (by simp [yieldR, slotR, *]) hy⟩
          go_simp
        · refine ⟨fun _ => ?_, fun hy => absurd (by simp [yieldR, slotR, *]) hy⟩
          have hq := FK.out
          go_simp
        · refine ⟨fun _ => ?_, fun hy => absurd (by simp [yieldR, slotR, *]) hy⟩
          go_simp
        · refine ⟨fun _ => ?_, fun hy => absurd (by simp [yieldR, slotR, *]) hy⟩
          go_simp
        · refine ⟨fun _ => ?_, fun hy => absurd (by simp [yieldR, slotR, *]) hy⟩
          go_simp
          refine (sameP_any _ _ _ _ nb nw (ls i) (ls i) _ HI.out.2.2.2.2.1 HI.out.2.2.2.2.2 (HI.out.2.1.kept hp) (HI.out.2.2.1.kept hp) (by omega)).mono ?_
          rintro e x' ⟨rfl, hb⟩
          rw [decide_eq_true rfl]
          exact ⟨_, rfl, rfl, hb⟩
        · refine ⟨fun _ => ?_, fun hy => absurd (by simp [yieldR, slotR, *]) hy⟩
          go_simp
        · go_simp
      · intro vs x1 hp hw
        simp only [owed, Fx] at hw
        obtain ⟨e0, e1, e2, e3, e4, e5, e6, e7, e8, e9, e10, e11, e12, e13, e14, e15, e16, e17, e18, e19, e20, e21, e22, e23, e24, e25, -⟩ := hw
        simp only [List.length_cons, List.length_nil, List.take_succ_cons, List.take_nil, List.drop_succ_cons, List.drop_nil, asg, List.cons_append, List.nil_append, e0, e1, e2, e3, e4, e5, e6, e7, e8, e9, e10, e11, e12, e13, e14, e15, e16, e17, e18, e19, e20, e21, e22, e23, e24, e25]
        clear e0 e1 e2 e3 e4 e5 e6 e7 e8 e9 e10 e11 e12 e13 e14 e15 e16 e17 e18 e19 e20 e21 e22 e23 e24 e25
        have HI2 : Hid _ := And.intro hp (And.intro (cell_later hp c0) (cell_later hp c1))
        have hO1 := OwnG.keep HO.out hp
        have hB1 := HB0.out.trans (hp.mono (Below.size HB0.out))
        have e0 := cell_later hp c0
        have e1 := cell_later hp c1
        have hlt' : (i : Int) < (p : Int) := FK.out
        clear c0 c1 c2 HO HB0 HI HI2 hp
        go_upto_region 7 with fail
        clear hlt'
        have HO1 : Hid (OwnG 31 x1 W.heap.size (.slice xa (2 * i) ca) (allV pgs (2 * i))) := hO1
        have HB1 : Hid (Below W.heap.size W x1) := hB1
        clear hO1 hB1
        refine wp_reliesT [Fx (.slice xa (2 * i) ca), Fx (.slice (some ⟨bb, ob, none⟩) p cb), Fx (.int .i64 ((i : Int))), Fx (.pointer (some ⟨bb, ob + i * 3, none⟩)), Fx (.pointer (some ⟨bb, ob + i * 3, none⟩)), Fx (.slice ya na cya), Fx (.slice (some ⟨bb, ob, none⟩) p cb), Fx (.int .i64 ((i : Int))), Fx (.pointer (some ⟨bb, ob + i * 3, none⟩)), Fx (.pointer (some ⟨bb, ob + i * 3 + 1, none⟩)), Fx (.slice yb nb cyb), fun v x => ∃ yn, v = .slice (some ⟨yn, 0, none⟩) 2 2 ∧ x.cell? ⟨yn, 0, none⟩ = some (.slice ya na cya) ∧ x.cell? ⟨yn, 1, none⟩ = some (.slice yb nb cyb)] (by kernel_rfl) (by kernel_rfl) ?_ ?_ ?_
        · repeat' (first | exact all_nil | apply all_cons)
          all_goals intro v y y' hv hb
          all_goals first | exact Fx_mono _ _ _ _ hv hb | (obtain ⟨y9, h1, h2, h3⟩ := hv; exact ⟨y9, h1, cell_later hb h2, cell_later hb h3⟩)
        · refine ⟨?_, ?_, ?_, ?_, ?_, ?_, ?_, ?_, ?_, ?_, ?_, ?_, trivial⟩
          all_goals
            intro ρ x hp ρc ρg ρf ho hd
            have o0 : ρ (.tmp 0) = .slice (some ⟨bb, ob, none⟩) p cb := ho 0 rfl
            have o3 : ρ (.tmp 3) = .slice xa (2 * i) ca := ho 3 rfl
            have o4 : ρ (.tmp 4) = .int .i64 ((i : Int)) := ho 4 rfl
            clear ho
            have k0 := cell_later hp e0
            have k1 := cell_later hp e1
            simp only [depsR, depR, slotR, Fx, List.getElem?_cons_succ, List.getElem?_cons_zero, Region.binds, forall_const] at hd
            simp only [guardR]
            go_split_ands
          · go_simp
          · go_simp
          · go_simp
          · have hq := FK.out
            go_simp
          · go_simp
          · go_simp
          · go_simp
          · go_simp
          · have hq := FK.out
            go_simp
          · go_simp
          · go_simp
          · go_simp
            exact below_alloc _ _
        · intro vs x2 hp hw
          simp only [owed, Fx] at hw
          obtain ⟨e0, e1, e2, e3, e4, e5, e6, e7, e8, e9, e10, ⟨yn, e11, hy0, hy1⟩, -⟩ := hw
          simp only [List.length_cons, List.length_nil, List.take_succ_cons, List.take_zero, List.drop_succ_cons, List.drop_zero, asg, List.cons_append, List.nil_append, e0, e1, e2, e3, e4, e5, e6, e7, e8, e9, e10, e11]
          clear e0 e1 e2 e3 e4 e5 e6 e7 e8 e9 e10 e11
          obtain ⟨v2, w2, hr2, hO2, -, hb2⟩ := app2S x2 W.heap.size xa (2 * i) ca (allV pgs (2 * i)) yn ⟨ya, na, cya⟩ ⟨yb, nb, cyb⟩ 76 (OwnG.keep HO1.out hp) (allV_len _ _) hy0 hy1 (by have := Below.size HB1.out; have := hp.size; omega) (by omega) (by unfold maxLen; omega)
          rw [allV_two pgs i _ HQ.out] at hO2
          obtain ⟨x3, c3, rfl⟩ := (OwnG.isG hO2).len
          rw [allV_len] at hO2 hr2
          have HR : Hid _ := And.intro hO2 ((HB1.out.trans (hp.mono (Below.size HB1.out))).trans hb2)
          clear hO2 hb2 hy0 hy1 hp HO1 HB1 e0 e1 FK
          go_wp2_with (at_builtin; refine wpL_appG 76 rfl _ _ rfl _ w2 (by exact hr2) ?_)
          go_roundw
          case rel => exact ⟨i + 1, _, c3, by omega, by go_num, rfl, HR.out.1, HR.out.2⟩
          case measure => simp [intOf]; omega
    · obtain rfl : i = p := by omega
      have hfam1 := hfam.later hB0
      have hga : ∀ k, k < 2 * i → ∀ q ∈ G k, ∀ g, (Value.slice xa (2 * i) ca).ownBlock = some g → q ≠ g := fun k hk q hq g hg e => by
        have h1 := (hfam.lt k hk q hq).1
        have h2 := (OwnG.lt hO g hg).1
        omega
      have HB1 : Hid (Below B W wr) := hB0.mono hB
      have hsz : Hid (W.heap.size ≤ wr.heap.size) := hB0.size
      obtain ⟨w1, rfl⟩ : ∃ w1, w1 = wr := ⟨_, rfl⟩
      have HO1 : Hid _ := hO
      have HF1 : Hid _ := hfam1
      clear hO hB0 hlt hi hbook hwant hfam hfam1
      go_wp2
      go_loopw [5] (fun iv wr => ∃ t : Nat, t ≤ 2 * i ∧ iv = .int .i64 t ∧ OwnG 31 wr W.heap.size (.slice xa (2 * i) ca) (allV pgs (2 * i)) ∧ Fam wr B (2 * i) (sP pgs) (fun k => if k < t then List.replicate (ls (k / 2)).length (mk9 k) else ls (k / 2)) G ∧ Below B W wr ∧ W.heap.size ≤ wr.heap.size) (fun iv _ => 2 * i - (intOf iv).toNat)
      case atStart => exact ⟨0, by omega, rfl, HO1.out, by simpa using HF1.out, HB1.out, hsz.out⟩
      case round =>
        clear HO1 HF1 HB1 hsz
        obtain ⟨t, ht, rfl, hO, hF, hB1, hsz⟩ := hrel
        by_cases hlt : t < 2 * i
        · have hlt' : (t : Int) < 2 * (i : Int) := by omega
          obtain ⟨wo, rfl⟩ : ∃ wo, wo = wr := ⟨_, rfl⟩
          obtain ⟨ga, c', hg, -⟩ := OwnG.form hO (by intro hh; have := congrArg List.length hh; rw [allV_len] at this; simp at this; omega)
          rw [allV_len] at hg
          cases hg
          have HR : Hid _ := And.intro hO (And.intro hF (And.intro hB1 hsz))
          clear hO hF hB1 hsz
          obtain ⟨⟨y, n, c⟩, hst⟩ : ∃ s, sP pgs t = s := ⟨_, rfl⟩
          have hlt2 : (ls (t / 2)).length = n := by
            have := HR.out.2.1.len t hlt
            rw [hst, if_neg (Nat.lt_irrefl t)] at this
            exact this
          have hn2 : n ≤ 2000 := by have := hll (t / 2); omega
          have hgat : ∀ q ∈ G t, q ≠ ga := fun q hq => hga t hlt q hq ga rfl
          go_wp2
          go_loopw [6] (fun jv wr => ∃ j : Nat, j ≤ n ∧ jv = .int .i64 j ∧ OwnG 31 wr W.heap.size (.slice (some ⟨ga, 0, none⟩) (2 * i) ca) (allV pgs (2 * i)) ∧ Fam wr B (2 * i) (sP pgs) (fun k => if k < t then List.replicate (ls (k / 2)).length (mk9 k) else if k = t then over8 (mk9 t) j (ls (k / 2)) else ls (k / 2)) G ∧ Below B W wr ∧ W.heap.size ≤ wr.heap.size) (fun jv _ => n - (intOf jv).toNat)
          case atStart =>
            refine ⟨0, by omega, rfl, HR.out.1, ?_, HR.out.2.2.1, HR.out.2.2.2⟩
            have := HR.out.2.1
            have e : (fun k => if k < t then List.replicate (ls (k / 2)).length (mk9 k) else if k = t then over8 (mk9 t) 0 (ls (k / 2)) else ls (k / 2)) = (fun k => if k < t then List.replicate (ls (k / 2)).length (mk9 k) else ls (k / 2)) := by
              funext k
              rw [over8_zero]
              split
              · rfl
              · split <;> rfl
            rw [e]; exact this
          case round =>
            clear HR
            obtain ⟨j, hj, rfl, hO, hF, hB1, hsz⟩ := hrel
            have d0 := hO.cell t _ (allV_at pgs (2 * i) t hlt)
            rw [hst, sl_form] at d0
            simp only at d0
            by_cases hjn : j < n
            · have hjn' : (j : Int) < (n : Int) := by omega
              have hown := hF.own t hlt
              rw [hst, sl_form, if_neg (Nat.lt_irrefl t), if_pos rfl] at hown
              simp only at hown
              have hlo := over8_len (mk9 t) j (ls (t / 2)) (by omega)
              obtain ⟨g, rfl⟩ := slice_block hown (by rw [hlo]; omega)
              have hgG : g ∈ G t := hF.blk t hlt g (by rw [hst]; rfl)
              have hsto := prStore_mid hown j (mk9 t) hjn
              have hput := hown.put prE_ok j (mk9 t) hjn
              rw [prE_k, over8_set _ _ _ (by omega)] at hput
              have hK : Keep (G t) wr (wr.setCells g (j * 2) (prE.enc (mk9 t))) := Keep.of_grown (grown_setC wr g (j * 2) (prE.enc (mk9 t))) (fun q hq => by cases hq; exact hgG)
              have hF2 : Fam (wr.setCells g (j * 2) (prE.enc (mk9 t))) B (2 * i) (sP pgs) (fun k => if k < t then List.replicate (ls (k / 2)).length (mk9 k) else if k = t then over8 (mk9 t) (j + 1) (ls (k / 2)) else ls (k / 2)) G := hF.put t hlt hK (by rw [hst, sl_form, if_neg (Nat.lt_irrefl t), if_pos rfl]; exact hput) (by rw [hst, if_neg (Nat.lt_irrefl t), if_pos rfl, over8_len _ _ _ (by omega)]; exact hlt2) (fun k hk => by simp only [hk, if_false])
              have hO2 := OwnG.keeps8 hO hK (fun q hq hm => hgat q hm (by simpa [Value.ownBlock] using hq.symm))
              have hB2 := hB1.trans (hK.below (fun q hq => (hF.lt t hlt q hq).2) (by have := hB1.size; omega))
              have hz2 := Nat.le_trans hsz hK.size
              have HR : Hid _ := And.intro hO2 (And.intro hF2 (And.intro hB2 hz2))
              have hmk : mk9 t = (-9, (t : Int)) := rfl
              clear hO hF hB1 hsz hown hlo hgG hput hK hF2 hO2 hB2 hz2
              have hlt' : (t : Int) < 2 * (i : Int) := by omega
              generalize wr.setCells g (j * 2) (prE.enc (mk9 t)) = X1 at hsto HR
              rw [hmk] at hsto
              clear hmk
              go_wp2
              go_roundw
              case rel => exact ⟨j + 1, by omega, by go_num, HR.out.1, HR.out.2.1, HR.out.2.2.1, HR.out.2.2.2⟩
              case measure => simp [intOf]; omega
            · obtain rfl : j = n := by omega
              have e : (fun k => if k < t then List.replicate (ls (k / 2)).length (mk9 k) else if k = t then over8 (mk9 t) j (ls (k / 2)) else ls (k / 2)) = (fun k => if k < t + 1 then List.replicate (ls (k / 2)).length (mk9 k) else ls (k / 2)) := by
                funext k
                by_cases h1 : k < t
                · rw [if_pos h1, if_pos (by omega)]
                · rw [if_neg h1]
                  by_cases h2 : k = t
                  · subst h2
                    rw [if_pos rfl, if_pos (by omega), ← hlt2, over8_all]
                  · rw [if_neg h2, if_neg (by omega)]
              rw [e] at hF
              have HR : Hid _ := And.intro hO (And.intro hF (And.intro hB1 hsz))
              clear hO hF hB1 hsz e
              have hlt' : (t : Int) < 2 * (i : Int) := by omega
              go_wp2
              go_roundw
              case rel => exact ⟨t + 1, by omega, by go_num, HR.out.1, HR.out.2.1, HR.out.2.2.1, HR.out.2.2.2⟩
              case measure => simp [intOf]; omega
        · obtain rfl : t = 2 * i := by omega
          have hF2 : Fam wr B (2 * i) (sP pgs) (fun k => List.replicate (ls (k / 2)).length (mk9 k)) G := hF.congr (fun k hk => by rw [if_pos hk])
          have hgw := hB1
          have HO : Hid _ := hO
          have HF : Hid _ := hF2
          have HB1 : Hid (Below B W wr) := hB1
          have hszH : Hid (W.heap.size ≤ wr.heap.size) := hsz
          obtain ⟨w5, rfl⟩ : ∃ w5, w5 = wr := ⟨_, rfl⟩
          have hlt' : ¬ (2 * (i : Int)) < 2 * (i : Int) := by omega
          clear hO hF hF2 hB1 hsz hlt ht hgw
          go_wp2
          go_loopw [7, 8] (fun lv uv wr => ∃ (u : Nat) (z : Nat → Sl3) (G : Nat → List Nat) (xl : Option Addr) (cl : Nat), u ≤ 2 * i ∧ uv = .int .i64 u ∧ lv = .slice xl u cl ∧ OwnG 31 wr W.heap.size (.slice xl u cl) (zL z u) ∧ OwnG 31 wr W.heap.size (.slice xa (2 * i) ca) (allV pgs (2 * i)) ∧ Fam wr B (2 * i) (sP pgs) (fun k => List.replicate (ls (k / 2)).length (mk9 k)) G ∧ Grw wr B u z (fun k => List.replicate (ls (k / 2)).length (mk9 k)) G ∧ (∀ k, k < 2 * i → ∀ q ∈ G k, (∀ g, (Value.slice xa (2 * i) ca).ownBlock = some g → q ≠ g) ∧ ∀ g, (Value.slice xl u cl).ownBlock = some g → q ≠ g) ∧ (∀ g g', (Value.slice xl u cl).ownBlock = some g → (Value.slice xa (2 * i) ca).ownBlock = some g' → g ≠ g') ∧ Below B W wr ∧ W.heap.size ≤ wr.heap.size) (fun _ uv _ => 2 * i - (intOf uv).toNat)
          case atStart => exact ⟨0, fun _ => slZ, G, none, 0, by omega, rfl, rfl, OwnG.nil _ _ _, HO.out, HF.out, ⟨fun k hk => by omega, fun k hk => by omega, fun k hk => by omega⟩, fun k hk q hq => ⟨fun g hg => hga k hk q hq g hg, fun g hg => by simp [Value.ownBlock] at hg⟩, fun g g' hg => by simp [Value.ownBlock] at hg, HB1.out, hszH.out⟩
          case round =>
            clear HO HF HB1 hszH hga
            obtain ⟨u, z, G', xl, cl, hu, rfl, rfl, hL, hO, hF, hZ, hgs, hla, hB1, hsz⟩ := hrel
            by_cases hlt : u < 2 * i
            · have hlt' : (u : Int) < 2 * (i : Int) := by omega
              obtain ⟨ga, c', hg, -⟩ := OwnG.form hO (by intro hh; have := congrArg List.length hh; rw [allV_len] at this; simp at this; omega)
              rw [allV_len] at hg
              cases hg
              have d0 := hO.cell u _ (allV_at pgs (2 * i) u hlt)
              have hown := hF.own u hlt
              have hlen := hF.len u hlt
              have hl2 := hll (u / 2)
              try dsimp only at hown hlen
              have hlen' : (ls (u / 2)).length = (sP pgs u).n := by rw [← hlen]; simp
              have hBr : B ≤ wr.heap.size := by omega
              obtain ⟨g1, c1, w1, hr1, g2, c2, w2, hr2, hO2, hS2, hK2, hway2⟩ := grow2 wr B (sP pgs u) _ (mk9 u) 31 hown hlen hBr (by omega)
              obtain ⟨hF2, hZ2⟩ := fam_grow (g := g2) (c := c2) hF hZ hlt hBr hO2 hS2 hK2 hway2
              have hgG : ∀ q, q ∈ (sP pgs u).v.ownBlock.toList → q ∈ G' u := fun q hq => hF.blk u hlt q (by simpa using hq)
              have hL2 := OwnG.keeps8 hL hK2 (fun q hq hm => (hgs u hlt q (hgG q hm)).2 q hq rfl)
              have hA2 := OwnG.keeps8 hO hK2 (fun q hq hm => (hgs u hlt q (hgG q hm)).1 q hq rfl)
              obtain ⟨g3, c3, w3, hr3, hO3, hK3, hway3⟩ := app1S w2 W.heap.size xl u cl (zL z u) ⟨some ⟨g2, 0, none⟩, (sP pgs u).n + 2, c2⟩ 76 hL2 (zL_len _ _) (by have := hK2.size; omega) (by omega) (by unfold maxLen; omega)
              rw [zL_snoc] at hO3
              have hgs2 : ∀ k, k < 2 * i → ∀ q ∈ (if k = u then g2 :: G' u else G' k), (∀ g, (Value.slice (some (⟨ga, 0, none⟩ : Addr)) (2 * i) ca).ownBlock = some g → q ≠ g) ∧ ∀ g, (Value.slice xl u cl).ownBlock = some g → q ≠ g := fun k hk q hq => by
                by_cases e : k = u
                · rw [if_pos e] at hq
                  rcases List.mem_cons.1 hq with rfl | hq
                  · rcases hway2 with h1 | h1
                    · exact hgs u hlt q (hF.blk u hlt q h1)
                    · exact ⟨fun g hg e => by have := (OwnG.lt hO g hg).2; omega, fun g hg e => by have := (OwnG.lt hL g hg).2; omega⟩
                  · exact hgs u hlt q hq
                · rw [if_neg e] at hq; exact hgs k hk q hq
              have hF3 := hF2.keeps hK3 (fun k hk q hq hm => (hgs2 k hk q hq).2 q (by simpa using hm) rfl)
              have hZ3 := hZ2.keeps hK3 (fun k hk q hq hm => (hgs2 k (by omega) q hq).2 q (by simpa using hm) rfl)
              have hA3 := OwnG.keeps8 hA2 hK3 (fun q hq hm => hla q q (by simpa using hm) hq rfl)
              have hgs3 : ∀ k, k < 2 * i → ∀ q ∈ (if k = u then g2 :: G' u else G' k), (∀ g, (Value.slice (some (⟨ga, 0, none⟩ : Addr)) (2 * i) ca).ownBlock = some g → q ≠ g) ∧ ∀ g, (Value.slice (some (⟨g3, 0, none⟩ : Addr)) (u + 1) c3).ownBlock = some g → q ≠ g := fun k hk q hq => by
                refine ⟨(hgs2 k hk q hq).1, fun g hg e => ?_⟩
                have hgg : g = g3 := by simpa [Value.ownBlock] using hg.symm
                subst hgg
                rcases hway3 with h1 | h1
                · exact (hgs2 k hk q hq).2 g h1 e
                · have := (hF2.lt k hk q hq).1; omega
              have hla3 : ∀ g g', (Value.slice (some (⟨g3, 0, none⟩ : Addr)) (u + 1) c3).ownBlock = some g → (Value.slice (some (⟨ga, 0, none⟩ : Addr)) (2 * i) ca).ownBlock = some g' → g ≠ g' := fun g g' hg hg' e => by
                have hgg : g = g3 := by simpa [Value.ownBlock] using hg.symm
                subst hgg
                rcases hway3 with h1 | h1
                · exact hla g g' h1 hg' e
                · have := (OwnG.lt hA2 g' hg').2; omega
              have hbel : Below B W w3 := (hB1.trans (hK2.below (fun q hq => (hF.lt u hlt q (hgG q hq)).2) hBr)).trans (hK3.below (fun q hq => by have := (OwnG.lt hL2 q (by simpa using hq)).1; omega) (by have := hK2.size; omega))
              have hsz3 : W.heap.size ≤ w3.heap.size := by have := hK2.size; have := hK3.size; omega
              have HR : Hid _ := And.intro hO3 (And.intro hA3 (And.intro hF3 (And.intro hZ3 (And.intro hgs3 (And.intro hla3 (And.intro hbel hsz3))))))
              obtain ⟨⟨y, n, c⟩, hst⟩ : ∃ s, sP pgs u = s := ⟨_, rfl⟩
              have Hst : Hid _ := hst
              rw [hst, sl_form] at d0 hr1
              rw [hst] at hr2 hr3
              simp only [Sl3.v] at d0 hr1 hr2 hr3
              have hmk : mk9 u = (-9, (u : Int)) := rfl
              rw [hmk] at hr1 hr2
              clear hL hO hF hZ hgs hla hB1 hsz hown hlen hlen' hO2 hS2 hK2 hway2 hF2 hZ2 hgG hL2 hA2 hO3 hK3 hway3 hgs2 hF3 hZ3 hA3 hgs3 hla3 hbel hsz3 hst hmk
              go_upto_region 20 with (at_builtin; refine wpL_appG 31 rfl _ _ rfl _ w1 (by exact hr1) ?_)
              clear hr1
              go_wp2_with (at_builtin; first | refine wpL_appG 31 rfl _ _ rfl _ w2 (by exact hr2) ?_ | refine wpL_appG 76 rfl _ _ rfl _ w3 (by exact hr3) ?_)
              go_roundw
              case rel =>
                obtain ⟨r1, r2, r3, r4, r5, r6, r7, r8⟩ := HR.out
                exact ⟨u + 1, _, _, _, c3, by omega, by go_num, rfl, r1, r2, r3, r4, r5, r6, r7, r8⟩
              case measure => simp [intOf]; omega
            · obtain rfl : u = 2 * i := by omega
              have HR : Hid _ := And.intro hL (And.intro hO (And.intro hF (And.intro hZ hB1)))
              obtain ⟨w6, rfl⟩ : ∃ w6, w6 = wr := ⟨_, rfl⟩
              have hlt' : ¬ (2 * (i : Int)) < 2 * (i : Int) := by omega
              clear hL hO hF hZ hB1 hgs hla hsz hlt hu
              go_wp2
              go_loopw [10] (fun av wr => ∃ a : Nat, a ≤ 2 * i ∧ av = .int .i64 a ∧ wr = w6) (fun av _ => 2 * i - (intOf av).toNat)
              case atStart => exact ⟨0, by omega, rfl, rfl⟩
              case round =>
                obtain ⟨a, ha, rfl, hwr⟩ := hrel
                have hwr' := hwr.symm
                subst hwr'
                clear hwr
                by_cases hla : a < 2 * i
                · have hla' : (a : Int) < 2 * (i : Int) := by omega
                  obtain ⟨hL, hO, hF, hZ, -⟩ := HR.out
                  obtain ⟨ga, c', hg, -⟩ := OwnG.form hO (by intro hh; have := congrArg List.length hh; rw [allV_len] at this; simp at this; omega)
                  rw [allV_len] at hg
                  cases hg
                  obtain ⟨gl, c'', hg, -⟩ := OwnG.form hL (by intro hh; have := congrArg List.length hh; rw [zL_len] at this; simp at this; omega)
                  rw [zL_len] at hg
                  cases hg
                  have d0 := hO.cell a _ (allV_at pgs (2 * i) a hla)
                  have d1 := hL.cell a _ (zL_at z (2 * i) a hla)
                  have hown := hF.own a hla
                  have hlen := hF.len a hla
                  have hzo := hZ.own a hla
                  have hzn := hZ.n a hla
                  have hl2 := hll (a / 2)
                  obtain ⟨⟨y, n, c⟩, hst⟩ : ∃ s, sP pgs a = s := ⟨_, rfl⟩
                  obtain ⟨⟨yz, nz, cz⟩, hsz⟩ : ∃ s, z a = s := ⟨_, rfl⟩
                  rw [hst] at hown hlen d0
                  rw [hsz] at hzo hzn d1
                  try dsimp only at hown hlen hzo hzn
                  rw [List.length_replicate] at hlen hzn
                  simp only [Sl3.v] at hown hzo d0 d1
                  rw [hlen] at hown hzo hzn hl2
                  have hzo' : OwnK prE w6 B (.slice yz nz cz) (List.replicate (n + 2) (mk9 a)) := by
                    have e : List.replicate n (mk9 a) ++ [mk9 a] ++ [mk9 a] = List.replicate (n + 2) (mk9 a) := by rw [List.append_assoc, show n + 2 = n + 1 + 1 by omega, List.replicate_succ', List.replicate_succ', List.append_assoc]
                    rw [e] at hzo; exact hzo
                  have hnz : nz = n + 2 := hzn
                  subst hnz
                  clear hL hO hF hZ hzo hzn hlen hst hsz
                  go_wp2
                  go_loopw [11] (fun bv wr => ∃ b : Nat, b ≤ n + 2 ∧ bv = .int .i64 b ∧ wr = w6) (fun bv _ => n + 2 - (intOf bv).toNat)
                  case atStart => exact ⟨0, by omega, rfl, rfl⟩
                  case round =>
                    obtain ⟨b, hb, rfl, hwr⟩ := hrel
                    have hwr' := hwr.symm
                    subst hwr'
                    clear hwr
                    by_cases hbl : b < n + 2
                    · have hbl' : (b : Int) < (n : Int) + 2 := by omega
                      obtain ⟨gz, rfl⟩ := slice_block hzo' (by simp)
                      obtain ⟨ok1, rg1⟩ := rg_of (hzo'.range prE_ok b (mk9 a) (by simp [hbl])) (prE_ok.len _)
                      rw [prE_arr] at rg1
                      rw [prE_k] at ok1 rg1
                      have hmk : mk9 a = (-9, (a : Int)) := rfl
                      have heq : prEq (-9, (a : Int)) (-9, (a : Int)) = true := by rw [prEq_dec]; simp
                      rw [hmk] at rg1
                      by_cases hbn : b < n
                      · have hbn' : (b : Int) < (n : Int) := by omega
                        obtain ⟨gy, rfl⟩ := slice_block hown (by simp; omega)
                        obtain ⟨ok2, rg2⟩ := rg_of (hown.range prE_ok b (mk9 a) (by simp [hbn])) (prE_ok.len _)
                        rw [prE_arr] at rg2
                        rw [prE_k] at ok2 rg2
                        rw [hmk] at rg2
                        clear hmk
                        go_wp2
                        go_roundw
                        case rel => exact ⟨b + 1, by omega, by go_num, by trivial⟩
                        case measure => simp [intOf]; omega
                      · have hbn' : ¬ (b : Int) < (n : Int) := by omega
                        clear hmk
                        go_wp2
                        go_roundw
                        case rel => exact ⟨b + 1, by omega, by go_num, by trivial⟩
                        case measure => simp [intOf]; omega
                    · obtain rfl : b = n + 2 := by omega
                      have hbl' : ¬ ((n : Int) + 2) < (n : Int) + 2 := by omega
                      go_wp2
                      go_roundw
                      case rel => exact ⟨a + 1, by omega, by go_num, by trivial⟩
                      case measure => simp [intOf]; omega
                · obtain rfl : a = 2 * i := by omega
                  have hla' : ¬ (2 * (i : Int)) < 2 * (i : Int) := by omega
                  go_wp2
                  go_ret
                  exact ⟨rfl, HR.out.2.2.2.2⟩
end Go.Proofs.Ytafbkdpheneceaa
