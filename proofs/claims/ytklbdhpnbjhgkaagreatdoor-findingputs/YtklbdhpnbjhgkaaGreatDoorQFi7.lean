import Derived.Test.YtklbdhpnbjhgkaaGreatDoorQFi6
namespace Go.Proofs.YtklbdhpnbjhgkaaGreatDoor
open Go.RowKit Go.Sort

/-! The law's twin -/
def cutD0 (x hi : Value) : Sem Next := do pure (.value (← Instr.sliceAt 29 x none (some hi) none))
@[go_sem ↓] theorem execOp_cutD0 (ρ : Operand → Value) (dst : Option Tmp) (ty : TypeId) (pos : String) (after : Array Edge) (guard : Option (Nat × Bool)) (x hi : Operand) : execOp ρ { dst, op := .slice 29 x none (some hi) none, type := ty, pos, after, guard } = cutD0 (ρ x) (ρ hi) := rfl
theorem run_cutD0 (w : World) (b o n c k : Nat) (h1 : k ≤ c) : (cutD0 (.slice (some ⟨b, o, none⟩) n c) (.int .i64 (k : Int))).run Tryz.prog w = .ok (.value (.slice (some ⟨b, o, none⟩) k c)) w := by
  have b1 : ∀ W : World, (Instr.sliceBound (.int .i64 (k : Int)) c BoundsCode.sliceAcap).run Tryz.prog W = .ok k W := fun W => by
    have := run_sliceBound (P := Tryz.prog) W .i64 (k : Int) c BoundsCode.sliceAcap (by omega) (by omega)
    simpa using this
  by_cases hc : c = 0
  · subst hc
    simp [cutD0, Instr.sliceAt, Instr.slice, run_underlying Tryz.underlying29, Instr.sliceBounds, b1]
  · simp [cutD0, Instr.sliceAt, Instr.slice, run_underlying Tryz.underlying29, Instr.sliceBounds, b1]
    intro _
    rw [addr_add, Nat.add_zero]
def cutI0 (x hi : Value) : Sem Next := do pure (.value (← Instr.sliceAt 30 x none (some hi) none))
@[go_sem ↓] theorem execOp_cutI0 (ρ : Operand → Value) (dst : Option Tmp) (ty : TypeId) (pos : String) (after : Array Edge) (guard : Option (Nat × Bool)) (x hi : Operand) : execOp ρ { dst, op := .slice 30 x none (some hi) none, type := ty, pos, after, guard } = cutI0 (ρ x) (ρ hi) := rfl
theorem run_cutI0 (w : World) (b o n c k : Nat) (h1 : k ≤ c) : (cutI0 (.slice (some ⟨b, o, none⟩) n c) (.int .i64 (k : Int))).run Tryz.prog w = .ok (.value (.slice (some ⟨b, o, none⟩) k c)) w := by
  have b1 : ∀ W : World, (Instr.sliceBound (.int .i64 (k : Int)) c BoundsCode.sliceAcap).run Tryz.prog W = .ok k W := fun W => by
    have := run_sliceBound (P := Tryz.prog) W .i64 (k : Int) c BoundsCode.sliceAcap (by omega) (by omega)
    simpa using this
  by_cases hc : c = 0
  · subst hc
    simp [cutI0, Instr.sliceAt, Instr.slice, run_underlying Tryz.underlying30, Instr.sliceBounds, b1]
  · simp [cutI0, Instr.sliceAt, Instr.slice, run_underlying Tryz.underlying30, Instr.sliceBounds, b1]
    intro _
    rw [addr_add, Nat.add_zero]
def T0 (e : TypeId) (k B : Nat) : Value → World → Prop := fun v x => ∃ g, v = .slice (some ⟨g, 0, none⟩) 0 0 ∧ x.ownsRow B e k v 0 []
def T3 (e : TypeId) (k B n : Nat) (xs : List Value) : Value → World → Prop := fun v x => ∃ y c, v = .slice y n c ∧ x.ownsRow B e k v n xs
def T5 (e : TypeId) (k B : Nat) (ys : List Value) : Value → World → Prop := fun v x => ∃ g, v = .slice (some ⟨g, 0, none⟩) 1 1 ∧ x.ownsRow B e k v 1 ys
def T6 (e : TypeId) (k B n : Nat) (zs : List Value) : Value → World → Prop := fun v x => ∃ g c, v = .slice (some ⟨g, 0, none⟩) (n + 1) c ∧ x.ownsRow B e k v (n + 1) zs
def T9 (e : TypeId) (k B n : Nat) (zs : List Value) : Value → World → Prop := fun v x => ∃ g c, v = .slice (some ⟨g, 0, none⟩) n c ∧ x.ownsRow B e k (.slice (some ⟨g, 0, none⟩) (n + 1) c) (n + 1) zs
theorem T0.mono {e : TypeId} {k B : Nat} {v : Value} {x y : World} (h : T0 e k B v x) (hb : Below x.heap.size x y) : T0 e k B v y := by obtain ⟨g, h1, h2⟩ := h; exact ⟨g, h1, row_keep h2 hb⟩
theorem T3.mono {e : TypeId} {k B n : Nat} {xs : List Value} {v : Value} {x y : World} (h : T3 e k B n xs v x) (hb : Below x.heap.size x y) : T3 e k B n xs v y := by obtain ⟨g, c, h1, h2⟩ := h; exact ⟨g, c, h1, row_keep h2 hb⟩
theorem T5.mono {e : TypeId} {k B : Nat} {ys : List Value} {v : Value} {x y : World} (h : T5 e k B ys v x) (hb : Below x.heap.size x y) : T5 e k B ys v y := by obtain ⟨g, h1, h2⟩ := h; exact ⟨g, h1, row_keep h2 hb⟩
theorem T6.mono {e : TypeId} {k B n : Nat} {xs : List Value} {v : Value} {x y : World} (h : T6 e k B n xs v x) (hb : Below x.heap.size x y) : T6 e k B n xs v y := by obtain ⟨g, c, h1, h2⟩ := h; exact ⟨g, c, h1, row_keep h2 hb⟩
theorem T9.mono {e : TypeId} {k B n : Nat} {xs : List Value} {v : Value} {x y : World} (h : T9 e k B n xs v x) (hb : Below x.heap.size x y) : T9 e k B n xs v y := by obtain ⟨g, c, h1, h2⟩ := h; exact ⟨g, c, h1, row_keep h2 hb⟩
theorem T0.monoK {e : TypeId} {k B n : Nat} {xs ys : List Value} {v : Value} {x y : World} (h : T0 e k B v x) (hb : KO e k B n xs ys x y) : T0 e k B v y := by
  obtain ⟨g, h1, h2⟩ := h
  have := hb.2.2.1 v 0 (by omega) (by simpa using h2)
  exact ⟨g, h1, by simpa using this⟩
theorem T3.monoK {e : TypeId} {k B n : Nat} {xs ys : List Value} {v : Value} {x y : World} (h : T3 e k B n xs v x) (hb : KO e k B n xs ys x y) : T3 e k B n xs v y := by
  obtain ⟨g, c, h1, h2⟩ := h
  have e1 : (xs ++ ys).take (n * k) = xs := List.take_left' h2.1
  have := hb.2.2.1 v n (by omega) (by rw [e1]; exact h2)
  rw [e1] at this
  exact ⟨g, c, h1, this⟩
theorem T5.monoK {e : TypeId} {k B n : Nat} {xs ys : List Value} {v : Value} {x y : World} (h : T5 e k B ys v x) (hb : KO e k B n xs ys x y) : T5 e k B ys v y := by obtain ⟨g, h1, h2⟩ := h; exact ⟨g, h1, hb.2.2.2 v h2⟩
theorem T9.monoK {e : TypeId} {k B n : Nat} {xs ys : List Value} {v : Value} {x y : World} (h : T9 e k B n (xs ++ ys) v x) (hb : KO e k B n xs ys x y) : T9 e k B n (xs ++ ys) v y := by
  obtain ⟨g, c, h1, h2⟩ := h
  have e1 : (xs ++ ys).take ((n + 1) * k) = xs ++ ys := List.take_of_length_le (by rw [h2.1]; exact Nat.le_refl _)
  have := hb.2.2.1 _ (n + 1) (by omega) (by rw [e1]; exact h2)
  rw [e1] at this
  exact ⟨g, c, h1, this⟩
theorem row_cap {e : TypeId} {k B n c : Nat} {g : Option Addr} {zs : List Value} {x : World} (h : x.ownsRow B e k (.slice g n c) n zs) : n ≤ c := by
  rcases h.2 with ⟨h1, h2⟩ | ⟨g1, c1, cur, he, -, -, hle, -⟩
  · omega
  · simp only [Value.slice.injEq] at he
    omega
theorem row_le {e : TypeId} {k B B' n : Nat} {v : Value} {zs : List Value} {x : World} (h : x.ownsRow B e k v n zs) (hb : B' ≤ B) : x.ownsRow B' e k v n zs :=
  ⟨h.1, h.2.elim .inl fun ⟨g, cap, cur, hv, hg, r⟩ => .inr ⟨g, cap, cur, hv, Nat.le_trans hb hg, r⟩⟩
theorem row_new {e : TypeId} {k B n : Nat} {cs : Array Value} (x : World) (hb : B ≤ x.heap.size) (hs : cs.size = n * k) (hn : n ≤ maxLen) : (x.alloc (.cells cs e)).ownsRow B e k (.slice (some ⟨x.heap.size, 0, none⟩) n n) n cs.toList :=
  ⟨by simpa using hs, .inr ⟨x.heap.size, n, cs, rfl, hb, heap_alloc_last x _, Nat.le_refl _, hn, hs, by rw [List.take_of_length_le (by simp [hs])]⟩⟩
theorem row_keeps {e : TypeId} {k B n : Nat} {F : List Nat} {w w' : World} {v : Value} {zs : List Value} (h : w.ownsRow B e k v n zs) (hK : Keep F w w') (hq : ∀ q, v.ownBlock = some q → q ∉ F) : w'.ownsRow B e k v n zs := by
  refine ⟨h.1, ?_⟩
  rcases h.2 with hn | ⟨g, cap, cur, rfl, hb, hg, rest⟩
  · exact .inl hn
  · exact .inr ⟨g, cap, cur, rfl, hb, by rw [hK.block g (Array.getElem?_eq_some_iff.1 hg).1 (hq g rfl)]; exact hg, rest⟩
theorem rp_ret1 {fn : Func} {R : Ending → World → Prop} {a : Act} {w : World} (p n : Nat) (c : Array Value) (hres : fn.results = #[.cell p 32]) (hp : a.tmps.getD p undef = .pointer (some ⟨n, 0, none⟩)) (hd : a.defers = [])
    (hok : RowC w n c) (hc : c.size = 4) (h : R (.returned (.agg c)) w) : bodyPost Tryz.prog fn R .ret a w := by
  obtain ⟨t, hg⟩ := row_of_L hok.1
  rw [hok.2] at hg
  have hp' : a.tmps[p]?.getD undef = .pointer (some ⟨n, 0, none⟩) := by simpa using hp
  have hl := run_loadVar_row (P := Tryz.prog) w n t 32 c (0, 0) _ hg Tryz.underlying32 rfl (by rw [sizeT_rp, hc])
  refine bodyPost_ret (v := .agg c) ?_ hd h
  simp [results, hres, hp', asAddr, hl]
theorem cells_src {α : Type} {E : EK α} (O : E.Ok) {w : World} {x : Option Addr} {n c : Nat} {l : List α} (h : IsK E w (.slice x n c) l) (hn : l.length = n) : n = 0 ∨ ∃ ad, x = some ad ∧ ∀ j u, (flK E l)[j]? = some u → w.cell? (ad.add j) = some u := by
  subst hn
  by_cases h0 : l = []
  · left; rw [h0]; rfl
  · right
    obtain ⟨b, o, rfl, -, -⟩ := h.at 0 _ (List.getElem?_eq_getElem (List.length_pos_iff.2 h0))
    exact ⟨_, rfl, fun j u hu => by rw [addr_add]; exact h.cells O j u hu⟩
theorem ints_src {w : World} {x : Option Addr} {n c : Nat} {l : List Int} (h : IsG w (.slice x n c) (inV l)) (hn : l.length = n) : n = 0 ∨ ∃ ad, x = some ad ∧ ∀ j u, (inV l)[j]? = some u → w.cell? (ad.add j) = some u := by
  subst hn
  by_cases h0 : l.length = 0
  · exact .inl h0
  · right
    have hA : IsG w (.slice x (inV l).length c) (inV l) := by rw [inV_len]; exact h
    obtain ⟨g, o, rfl, -, qa⟩ := hA.spot 0 (by rw [inV_len]; omega)
    exact ⟨_, rfl, fun j u hu => by rw [addr_add]; exact qa j u hu⟩
/-- What a twin is. -/
def TwQ (w : World) (r : Rp) (nf nd ni : Nat) (e : Ending) (w' : World) : Prop := ∃ g1 c1 g2 c2 g3 c3, e = .returned (.agg (rpA r.st (.slice (some ⟨g1, 0, none⟩) nf c1) (.slice (some ⟨g2, 0, none⟩) nd c2) (.slice (some ⟨g3, 0, none⟩) ni c3))) ∧
  OwnK fdE w' w.heap.size (.slice (some ⟨g1, 0, none⟩) (nf + 1) c1) (r.fs ++ [(777, 0)]) ∧ OwnK dgE w' w.heap.size (.slice (some ⟨g2, 0, none⟩) (nd + 1) c2) (r.ds ++ [dg7]) ∧ OwnI w' w.heap.size (.slice (some ⟨g3, 0, none⟩) (ni + 1) c3) (r.dr ++ [777]) ∧ Below w.heap.size w w'
set_option linter.unusedSimpArgs false in
set_option maxRecDepth 100000 in
set_option maxHeartbeats 8000000 in
theorem twin22 (w : World) (r : Rp) (xf : Option Addr) (nf cf : Nat) (xd : Option Addr) (nd cd : Nat) (xi : Option Addr) (ni ci : Nat) (h : RpI w r xf nf cf xd nd cd xi ni ci) (s1 : nf * 16 ≤ 140737488351232) (s2 : nd * 32 ≤ 140737488351232) (s3 : ni * 8 ≤ 140737488351232) :
    Calls Tryz.prog 15 #[.agg (rpA r.st (.slice xf nf cf) (.slice xd nd cd) (.slice xi ni ci))] w fun e w' => TwQ w r nf nd ni e w' := by
  have b0 := below_alloc w (.cells (rpA r.st (.slice xf nf cf) (.slice xd nd cd) (.slice xi ni ci)) 32)
  have r0 := RowC.new w (rpA r.st (.slice xf nf cf) (.slice xd nd cd) (.slice xi ni ci)) 32
  have hI := h.kept b0
  have HI0 : Hid (RpI w r xf nf cf xd nd cd xi ni ci) := h
  clear h
  go_enter Tryz.func15, Tryz.ntmps15
  go_upto_region 1 with fail
  obtain ⟨A, hA⟩ : ∃ z, (w.alloc (.cells (rpA r.st (.slice xf nf cf) (.slice xd nd cd) (.slice xi ni ci)) 32)).alloc (.cells (rpA 0 (.slice none 0 0) (.slice none 0 0) (.slice none 0 0)) 32) = z := ⟨_, rfl⟩
  have bA0 := below_alloc (w.alloc (.cells (rpA r.st (.slice xf nf cf) (.slice xd nd cd) (.slice xi ni ci)) 32)) (.cells (rpA 0 (.slice none 0 0) (.slice none 0 0) (.slice none 0 0)) 32)
  have ra1 := r0.kept bA0
  have ra2 := RowC.new (w.alloc (.cells (rpA r.st (.slice xf nf cf) (.slice xd nd cd) (.slice xi ni ci)) 32)) (rpA 0 (.slice none 0 0) (.slice none 0 0) (.slice none 0 0)) 32
  have hIA := hI.kept bA0
  have HBA : Hid (Below w.heap.size w A) := by show Below _ _ _; rw [← hA]; exact b0.trans (bA0.mono b0.size)
  rw [hA] at ra1 ra2 hIA
  rw [World.size_alloc] at ra2
  have HZ12 : Hid (w.heap.size ≤ w.heap.size + 1) := Nat.le_succ _
  obtain ⟨z2, hz2⟩ : ∃ z, w.heap.size + 1 = z := ⟨_, rfl⟩
  obtain ⟨z1, hz1⟩ : ∃ z, w.heap.size = z := ⟨_, rfl⟩
  have HZ : Hid (z1 = w.heap.size ∧ z2 = w.heap.size + 1) := ⟨hz1.symm, hz2.symm⟩
  simp only [hA, hz2]
  rw [hz2] at ra2
  rw [hz1] at ra1
  simp only [hz1]
  clear hz1 hz2 hA bA0 b0 r0 hI HZ12
  have cst : A.cell? ⟨z1, 0, none⟩ = some (.int .i64 r.st) := by rw [ra1.cell]; rfl
  have st := run_store_rp (A.alloc (.cells (rpA 0 (.slice none 0 0) (.slice none 0 0) (.slice none 0 0)) 32)) A.heap.size (rpA r.st (.slice none 0 0) (.slice none 0 0) (.slice none 0 0)) (RowC.new A _ _).1 (by rw [(RowC.new A _ _).2]; rfl) rfl (rpA_one _ _ _ _ _ _ _ _ _ _)
  have bW := below_alloc A (.cells (rpA r.st (.slice none 0 0) (.slice none 0 0) (.slice none 0 0)) 32)
  have r1 := ra1.kept bW
  have r2 := ra2.kept bW
  have r3 := RowC.new A (rpA r.st (.slice none 0 0) (.slice none 0 0) (.slice none 0 0)) 32
  have hI := hIA.kept bW
  have HB : Hid (Below w.heap.size w (A.alloc (.cells (rpA r.st (.slice none 0 0) (.slice none 0 0) (.slice none 0 0)) 32))) := HBA.out.trans (bW.mono HBA.out.size)
  have HZ3 : Hid (w.heap.size ≤ A.heap.size ∧ z2 < A.heap.size) := ⟨HBA.out.size, ra2.lt⟩
  go_upto_region 2 with fail
  clear st cst ra1 ra2 hIA bW
  obtain ⟨z3, hz3⟩ : ∃ z, A.heap.size = z := ⟨_, rfl⟩
  rw [hz3] at r3 HZ3
  try simp only [hz3]
  generalize A.alloc (.cells (rpA r.st (.slice none 0 0) (.slice none 0 0) (.slice none 0 0)) 32) = W at r1 r2 r3 hI HB ⊢
  clear hz3 HBA
  have c1 : W.cell? ⟨z1, 1, none⟩ = some (.slice xf nf cf) := by rw [r1.cell]; rfl
  have HXL : Hid ((flK fdE r.fs).length = nf * 2 ∧ ∀ u ∈ (flK fdE r.fs), u.oneCell' = true) := ⟨by rw [flK_len fdE_ok, hI.nf]; rfl, flK_all fdE_ok _⟩
  have HYO : Hid (∀ u ∈ (fdA (777, 0)).toList, u.oneCell' = true) := fun u hu => by have h9 := fdA_one ((777, 0) : Fd); unfold OneC at h9; exact Array.all_eq_true_iff_forall_mem.1 h9 u (by simpa using hu)
  have HSZ : Hid (nf * 16 ≤ 140737488351232) := s1
  have SRC : Hid (∀ y, Below W.heap.size W y → (nf = 0 ∨ ∃ ad, xf = some ad ∧ ∀ j u, (flK fdE r.fs)[j]? = some u → y.cell? (ad.add j) = some u)) := fun y hy => cells_src fdE_ok (hI.f.kept hy) hI.nf
  refine wp_reliesK (kokO (e := 25) (k := 2) (B := W.heap.size) (n := nf) (xs := (flK fdE r.fs)) (ys := (fdA (777, 0)).toList)) 6 [0, 1, 2, 3, 4, 5] [T0 25 2 (W.heap.size), Fx (.pointer (some ⟨z1, 1, none⟩)), Fx (.slice xf nf cf), T3 25 2 (W.heap.size) nf (flK fdE r.fs), Fx (.agg (fdA (777, 0))), T5 25 2 (W.heap.size) (fdA (777, 0)).toList, T6 25 2 (W.heap.size) nf ((flK fdE r.fs) ++ (fdA (777, 0)).toList), Fx (.pointer (some ⟨z1, 1, none⟩)), Fx (.slice xf nf cf), Fx (.int .i64 (nf : Int)), T9 25 2 (W.heap.size) nf ((flK fdE r.fs) ++ (fdA (777, 0)).toList), Fx (.pointer (some ⟨z3, 1, none⟩))] (by simp) (by kernel_rfl) (by kernel_rfl) (by kernel_rfl) ?_ ?_ ?_ ?_
  · repeat' (first | exact all_nil | apply all_cons)
    all_goals intro v y y' hv hb
    all_goals first | exact Fx_mono _ _ _ _ hv hb | exact T0.mono hv hb | exact T3.mono hv hb | exact T5.mono hv hb | exact T6.mono hv hb | exact T9.mono hv hb
  · simp only [List.eraseIdx]
    repeat' (first | exact all_nil | apply all_cons)
    all_goals intro v y y' hv hb
    all_goals first | exact (show Fx _ _ _ from hv) | exact T0.monoK hv hb | exact T3.monoK hv hb | exact T5.monoK hv hb | exact T9.monoK hv hb
  · refine ⟨?_, ?_, ?_, ?_, ?_, ?_, ?_, ?_, ?_, ?_, ?_, ?_, trivial⟩
    all_goals
      intro ρ x hk hp ρc ρg ρf ho hd
      first | (replace hp := hp (by decide)) | clear hp
      have o1 : ρ (.tmp 1) = .pointer (some ⟨z1, 0, none⟩) := ho 1 rfl
      have o3 : ρ (.tmp 3) = .pointer (some ⟨z3, 0, none⟩) := ho 3 rfl
      clear ho
      have hb9 := hk.1 (Nat.le_refl _)
      have q1 := cell_later hb9 c1
      simp only [depsR, depR, slotR, Fx, List.getElem?_cons_succ, List.getElem?_cons_zero, Region.binds, forall_const] at hd
      simp only [guardR, Nat.reduceBEq, cond_true, cond_false]
      go_split_ands
    · go_simp
      exact ⟨⟨_, rfl, row_new (cs := #[]) x hb9.size (by simp) (by decide)⟩, below_alloc _ _⟩
    · go_simp
    · go_simp
    · obtain ⟨⟨g, hg, h0⟩, hd1⟩ : T0 25 2 (W.heap.size) (ρ (.tmp 7)) x ∧ ρ (.tmp 9) = .slice xf nf cf := by first | exact ⟨hd.1, hd.2.1⟩ | (constructor <;> assumption)
      rw [hg] at h0
      obtain ⟨y9, c9, x9, hr, o4, o5⟩ := rawCopy (rawK fdE_ok) x (W.heap.size) g xf nf cf (flK fdE r.fs) 22 h0 HXL.out.1 HXL.out.2 (SRC.out x hb9) (by have := HSZ.out; show _ * 16 ≤ _; omega) (by have := HSZ.out; unfold maxLen; omega) hb9.size
      change (Builtin.append_ #[22, 22] _ _).run Tryz.prog x = _ at hr
      rw [BigFrame.execOp_builtin, BigFrame.builtin_append]
      simp only [List.map_toArray, List.map_cons, List.map_nil, hg, hd1, hr, Sem.run_bind, Result.andThen_ok, Sem.run_pure, okUpon_value, okUponK_value]
      exact ⟨⟨y9, c9, rfl, o4⟩, o5⟩
    · go_simp
    · go_simp
      exact ⟨⟨_, rfl, row_new (cs := fdA (777, 0)) x hb9.size rfl (by decide)⟩, below_alloc _ _⟩
    · obtain ⟨⟨y, c, hy, h3⟩, ⟨g5, h5, h6⟩⟩ : T3 25 2 (W.heap.size) nf (flK fdE r.fs) (ρ (.tmp 10)) x ∧ T5 25 2 (W.heap.size) (fdA (777, 0)).toList (ρ (.tmp 12)) x := by first | exact ⟨hd.1, hd.2.1⟩ | (constructor <;> assumption)
      rw [hy] at h3
      rw [h5] at h6
      obtain ⟨g9, c9, x9, hr, o4, o5⟩ := rawMark (rawK fdE_ok) x (W.heap.size) g5 nf c y (flK fdE r.fs) (fdA (777, 0)).toList 22 h3 h6 HYO.out (by have := HSZ.out; show _ * 16 ≤ _; omega) (by have := HSZ.out; unfold maxLen; omega) hb9.size
      change (Builtin.append_ #[22, 22] _ _).run Tryz.prog x = _ at hr
      rw [BigFrame.execOp_builtin, BigFrame.builtin_append]
      simp only [List.map_toArray, List.map_cons, List.map_nil, hy, h5, hr, Sem.run_bind, Result.andThen_ok, Sem.run_pure, okUpon_value, okUponK_value]
      exact ⟨⟨g9, c9, rfl, o4⟩, o5⟩
    · go_simp
    · go_simp
    · go_simp
    · obtain ⟨⟨g, c, hg, h6⟩, hd1⟩ : T6 25 2 (W.heap.size) nf ((flK fdE r.fs) ++ (fdA (777, 0)).toList) (ρ (.tmp 13)) x ∧ ρ (.tmp 16) = .int .i64 (nf : Int) := by first | exact ⟨hd.1, hd.2.1⟩ | (constructor <;> assumption)
      rw [hg] at h6
      have hc := run_cutF0 x g 0 (nf + 1) c nf (by have := row_cap h6; omega)
      go_simp
      exact ⟨g, c, rfl, h6⟩
    · go_simp
  · intro vs x1 hk hw
    simp only [owed, Fx] at hw
    obtain ⟨⟨q0, e0, -⟩, e1, e2, ⟨q3, q3c, e3, -⟩, e4, ⟨q5, e5, -⟩, ⟨q6, q6c, e6, -⟩, e7, e8, e9, ⟨gg, cc, e10, hOw⟩, e11, -⟩ := hw
    simp only [List.length_cons, List.length_nil, List.take_succ_cons, List.take_zero, List.drop_succ_cons, List.drop_zero, asg, List.cons_append, List.nil_append, e0, e1, e2, e3, e4, e5, e6, e7, e8, e9, e10, e11]
    clear e0 e1 e2 e3 e4 e5 e6 e7 e8 e9 e10 e11
    obtain ⟨g1, hgk⟩ : ∃ q, q = gg := ⟨_, rfl⟩
    obtain ⟨d1, hdk⟩ : ∃ q, q = cc := ⟨_, rfl⟩
    subst hgk hdk
    have hb := hk.1 (Nat.le_refl _)
    clear hk SRC HXL HYO HSZ c1
    have r1' := r1.kept hb
    have r2' := r2.kept hb
    have r3' := r3.kept hb
    have zc : x1.cell? ⟨z3, 1, none⟩ = some (.slice none 0 0) := by rw [r3'.cell]; rfl
    have fz := r3'.frozen 1
    have kc := Keep.cell1 x1 z3 1 (.slice (some ⟨g1, 0, none⟩) nf d1)
    have n1 : z1 ∉ [z3] := by have := HZ.out; have := HZ3.out; simp; omega
    have n2 : z2 ∉ [z3] := by have := HZ.out; have := HZ3.out; simp; omega
    have q1 := r1'.keepsF kc n1
    have q2 := r2'.keepsF kc n2
    have q3 : RowC (x1.setCell ⟨z3, 1, none⟩ (.slice (some ⟨g1, 0, none⟩) nf d1)) z3 (rpA r.st (.slice (some ⟨g1, 0, none⟩) nf d1) (.slice none 0 0) (.slice none 0 0)) := r3'.set 1 _
    have HBx : Hid (Below w.heap.size w (x1.setCell ⟨z3, 1, none⟩ (.slice (some ⟨g1, 0, none⟩) nf d1))) := (HB.out.trans (hb.mono HB.out.size)).setCell (by show w.heap.size ≤ z3; exact HZ3.out.1) _
    have hIx := HI0.out.kept HBx.out
    have lt3 := r3.lt
    have lt2 := r2.lt
    have HO1 : Hid ((x1.setCell ⟨z3, 1, none⟩ (.slice (some ⟨g1, 0, none⟩) nf d1)).ownsRow w.heap.size 25 2 (.slice (some ⟨g1, 0, none⟩) (nf + 1) d1) (nf + 1) (flK fdE r.fs ++ (fdA (777, 0)).toList) ∧ ∀ q, ((.slice (some ⟨g1, 0, none⟩) (nf + 1) d1) : Value).ownBlock = some q → q ≠ z3 ∧ q ≠ z2) := ⟨row_le (row_keeps hOw kc (fun q hq => by have := (World.ownsRow.lt hOw q hq).1; simp; omega)) HB.out.size, fun q hq => by have := (World.ownsRow.lt hOw q hq).1; omega⟩
    clear r1 r2 r3 hI r1' r2' r3' kc n1 n2 hb hOw HB
    go_upto_region 3 with fail
    clear zc fz
    generalize (x1.setCell ⟨z3, 1, none⟩ (.slice (some ⟨g1, 0, none⟩) nf d1)) = W2 at q1 q2 q3 hIx HBx HO1  ⊢
    have r1 := q1
    have r2 := q2
    have r3 := q3
    have hI := hIx
    have HB := HBx
    clear q1 q2 q3 hIx HBx lt3 lt2
    have c1 : W2.cell? ⟨z1, 2, none⟩ = some (.slice xd nd cd) := by rw [r1.cell]; rfl
    have HXL : Hid ((flK dgE r.ds).length = nd * 32 ∧ ∀ u ∈ (flK dgE r.ds), u.oneCell' = true) := ⟨by rw [flK_len dgE_ok, hI.nd]; rfl, flK_all dgE_ok _⟩
    have HYO : Hid (∀ u ∈ (dg_secA dg7).toList, u.oneCell' = true) := fun u hu => dgE_ok.one dg7 u (by rw [dgE_enc]; exact hu)
    have HSZ : Hid (nd * 32 ≤ 140737488351232) := s2
    have SRC : Hid (∀ y, Below W2.heap.size W2 y → (nd = 0 ∨ ∃ ad, xd = some ad ∧ ∀ j u, (flK dgE r.ds)[j]? = some u → y.cell? (ad.add j) = some u)) := fun y hy => cells_src dgE_ok (hI.d.kept hy) hI.nd
    refine wp_reliesK (kokO (e := 50) (k := 32) (B := W2.heap.size) (n := nd) (xs := (flK dgE r.ds)) (ys := (dg_secA dg7).toList)) 6 [0, 1, 2, 3, 4, 5] [T0 50 32 (W2.heap.size), Fx (.pointer (some ⟨z1, 2, none⟩)), Fx (.slice xd nd cd), T3 50 32 (W2.heap.size) nd (flK dgE r.ds), Fx (.agg (dg_secA dg7)), T5 50 32 (W2.heap.size) (dg_secA dg7).toList, T6 50 32 (W2.heap.size) nd ((flK dgE r.ds) ++ (dg_secA dg7).toList), Fx (.pointer (some ⟨z1, 2, none⟩)), Fx (.slice xd nd cd), Fx (.int .i64 (nd : Int)), T9 50 32 (W2.heap.size) nd ((flK dgE r.ds) ++ (dg_secA dg7).toList), Fx (.pointer (some ⟨z3, 2, none⟩))] (by simp) (by kernel_rfl) (by kernel_rfl) (by kernel_rfl) ?_ ?_ ?_ ?_
    · repeat' (first | exact all_nil | apply all_cons)
      all_goals intro v y y' hv hb
      all_goals first | exact Fx_mono _ _ _ _ hv hb | exact T0.mono hv hb | exact T3.mono hv hb | exact T5.mono hv hb | exact T6.mono hv hb | exact T9.mono hv hb
    · simp only [List.eraseIdx]
      repeat' (first | exact all_nil | apply all_cons)
      all_goals intro v y y' hv hb
      all_goals first | exact (show Fx _ _ _ from hv) | exact T0.monoK hv hb | exact T3.monoK hv hb | exact T5.monoK hv hb | exact T9.monoK hv hb
    · refine ⟨?_, ?_, ?_, ?_, ?_, ?_, ?_, ?_, ?_, ?_, ?_, ?_, trivial⟩
      all_goals
        intro ρ x hk hp ρc ρg ρf ho hd
        first | (replace hp := hp (by decide)) | clear hp
        have o1 : ρ (.tmp 1) = .pointer (some ⟨z1, 0, none⟩) := ho 1 rfl
        have o3 : ρ (.tmp 3) = .pointer (some ⟨z3, 0, none⟩) := ho 3 rfl
        clear ho
        have hb9 := hk.1 (Nat.le_refl _)
        have q1 := cell_later hb9 c1
        simp only [depsR, depR, slotR, Fx, List.getElem?_cons_succ, List.getElem?_cons_zero, Region.binds, forall_const] at hd
        simp only [guardR, Nat.reduceBEq, cond_true, cond_false]
        go_split_ands
      · go_simp
        exact ⟨⟨_, rfl, row_new (cs := #[]) x hb9.size (by simp) (by decide)⟩, below_alloc _ _⟩
      · go_simp
      · go_simp
      · obtain ⟨⟨g, hg, h0⟩, hd1⟩ : T0 50 32 (W2.heap.size) (ρ (.tmp 19)) x ∧ ρ (.tmp 21) = .slice xd nd cd := by first | exact ⟨hd.1, hd.2.1⟩ | (constructor <;> assumption)
        rw [hg] at h0
        obtain ⟨y9, c9, x9, hr, o4, o5⟩ := rawCopy (rawK dgE_ok) x (W2.heap.size) g xd nd cd (flK dgE r.ds) 29 h0 HXL.out.1 HXL.out.2 (SRC.out x hb9) (by have := HSZ.out; show _ * 32 ≤ _; omega) (by have := HSZ.out; unfold maxLen; omega) hb9.size
        change (Builtin.append_ #[29, 29] _ _).run Tryz.prog x = _ at hr
        rw [BigFrame.execOp_builtin, BigFrame.builtin_append]
        simp only [List.map_toArray, List.map_cons, List.map_nil, hg, hd1, hr, Sem.run_bind, Result.andThen_ok, Sem.run_pure, okUpon_value, okUponK_value]
        exact ⟨⟨y9, c9, rfl, o4⟩, o5⟩
      · go_simp
      · go_simp
        exact ⟨⟨_, rfl, row_new (cs := dg_secA dg7) x hb9.size rfl (by decide)⟩, below_alloc _ _⟩
      · obtain ⟨⟨y, c, hy, h3⟩, ⟨g5, h5, h6⟩⟩ : T3 50 32 (W2.heap.size) nd (flK dgE r.ds) (ρ (.tmp 22)) x ∧ T5 50 32 (W2.heap.size) (dg_secA dg7).toList (ρ (.tmp 24)) x := by first | exact ⟨hd.1, hd.2.1⟩ | (constructor <;> assumption)
        rw [hy] at h3
        rw [h5] at h6
        obtain ⟨g9, c9, x9, hr, o4, o5⟩ := rawMark (rawK dgE_ok) x (W2.heap.size) g5 nd c y (flK dgE r.ds) (dg_secA dg7).toList 29 h3 h6 HYO.out (by have := HSZ.out; show _ * 32 ≤ _; omega) (by have := HSZ.out; unfold maxLen; omega) hb9.size
        change (Builtin.append_ #[29, 29] _ _).run Tryz.prog x = _ at hr
        rw [BigFrame.execOp_builtin, BigFrame.builtin_append]
        simp only [List.map_toArray, List.map_cons, List.map_nil, hy, h5, hr, Sem.run_bind, Result.andThen_ok, Sem.run_pure, okUpon_value, okUponK_value]
        exact ⟨⟨g9, c9, rfl, o4⟩, o5⟩
      · go_simp
      · go_simp
      · go_simp
      · obtain ⟨⟨g, c, hg, h6⟩, hd1⟩ : T6 50 32 (W2.heap.size) nd ((flK dgE r.ds) ++ (dg_secA dg7).toList) (ρ (.tmp 25)) x ∧ ρ (.tmp 28) = .int .i64 (nd : Int) := by first | exact ⟨hd.1, hd.2.1⟩ | (constructor <;> assumption)
        rw [hg] at h6
        have hc := run_cutD0 x g 0 (nd + 1) c nd (by have := row_cap h6; omega)
        go_simp
        exact ⟨g, c, rfl, h6⟩
      · go_simp
    · intro vs x1 hk hw
      simp only [owed, Fx] at hw
      obtain ⟨⟨q0, e0, -⟩, e1, e2, ⟨q3, q3c, e3, -⟩, e4, ⟨q5, e5, -⟩, ⟨q6, q6c, e6, -⟩, e7, e8, e9, ⟨gg, cc, e10, hOw⟩, e11, -⟩ := hw
      simp only [List.length_cons, List.length_nil, List.take_succ_cons, List.take_zero, List.drop_succ_cons, List.drop_zero, asg, List.cons_append, List.nil_append, e0, e1, e2, e3, e4, e5, e6, e7, e8, e9, e10, e11]
      clear e0 e1 e2 e3 e4 e5 e6 e7 e8 e9 e10 e11
      obtain ⟨g2, hgk⟩ : ∃ q, q = gg := ⟨_, rfl⟩
      obtain ⟨d2, hdk⟩ : ∃ q, q = cc := ⟨_, rfl⟩
      subst hgk hdk
      have hb := hk.1 (Nat.le_refl _)
      clear hk SRC HXL HYO HSZ c1
      have r1' := r1.kept hb
      have r2' := r2.kept hb
      have r3' := r3.kept hb
      have zc : x1.cell? ⟨z3, 2, none⟩ = some (.slice none 0 0) := by rw [r3'.cell]; rfl
      have fz := r3'.frozen 2
      have kc := Keep.cell1 x1 z3 2 (.slice (some ⟨g2, 0, none⟩) nd d2)
      have n1 : z1 ∉ [z3] := by have := HZ.out; have := HZ3.out; simp; omega
      have n2 : z2 ∉ [z3] := by have := HZ.out; have := HZ3.out; simp; omega
      have q1 := r1'.keepsF kc n1
      have q2 := r2'.keepsF kc n2
      have q3 : RowC (x1.setCell ⟨z3, 2, none⟩ (.slice (some ⟨g2, 0, none⟩) nd d2)) z3 (rpA r.st (.slice (some ⟨g1, 0, none⟩) nf d1) (.slice (some ⟨g2, 0, none⟩) nd d2) (.slice none 0 0)) := r3'.set 2 _
      have HBx : Hid (Below w.heap.size w (x1.setCell ⟨z3, 2, none⟩ (.slice (some ⟨g2, 0, none⟩) nd d2))) := (HB.out.trans (hb.mono HB.out.size)).setCell (by show w.heap.size ≤ z3; exact HZ3.out.1) _
      have hIx := HI0.out.kept HBx.out
      have lt3 := r3.lt
      have lt2 := r2.lt
      have HO2 : Hid ((x1.setCell ⟨z3, 2, none⟩ (.slice (some ⟨g2, 0, none⟩) nd d2)).ownsRow w.heap.size 50 32 (.slice (some ⟨g2, 0, none⟩) (nd + 1) d2) (nd + 1) (flK dgE r.ds ++ (dg_secA dg7).toList) ∧ ∀ q, ((.slice (some ⟨g2, 0, none⟩) (nd + 1) d2) : Value).ownBlock = some q → q ≠ z3 ∧ q ≠ z2) := ⟨row_le (row_keeps hOw kc (fun q hq => by have := (World.ownsRow.lt hOw q hq).1; simp; omega)) HB.out.size, fun q hq => by have := (World.ownsRow.lt hOw q hq).1; omega⟩
      have HO1' : Hid ((x1.setCell ⟨z3, 2, none⟩ (.slice (some ⟨g2, 0, none⟩) nd d2)).ownsRow w.heap.size 25 2 (.slice (some ⟨g1, 0, none⟩) (nf + 1) d1) (nf + 1) (flK fdE r.fs ++ (fdA (777, 0)).toList) ∧ ∀ q, ((.slice (some ⟨g1, 0, none⟩) (nf + 1) d1) : Value).ownBlock = some q → q ≠ z3 ∧ q ≠ z2) := ⟨row_keeps (row_keep HO1.out.1 hb) kc (fun q hq => by have := (HO1.out.2 q hq).1; simpa using this), HO1.out.2⟩
      clear HO1
      clear r1 r2 r3 hI r1' r2' r3' kc n1 n2 hb hOw HB
      go_upto_region 4 with fail
      clear zc fz
      generalize (x1.setCell ⟨z3, 2, none⟩ (.slice (some ⟨g2, 0, none⟩) nd d2)) = W3 at q1 q2 q3 hIx HBx HO2 HO1' ⊢
      have r1 := q1
      have r2 := q2
      have r3 := q3
      have hI := hIx
      have HB := HBx
      clear q1 q2 q3 hIx HBx lt3 lt2
      have HO1 := HO1'
      clear HO1'
      have c1 : W3.cell? ⟨z1, 3, none⟩ = some (.slice xi ni ci) := by rw [r1.cell]; rfl
      have HXL : Hid ((inV r.dr).length = ni * 1 ∧ ∀ u ∈ (inV r.dr), u.oneCell' = true) := ⟨by rw [inV_len, hI.ni, Nat.mul_one], fun u hu => by unfold inV at hu; obtain ⟨a, -, rfl⟩ := List.mem_map.1 hu; rfl⟩
      have HYO : Hid (∀ u ∈ (#[Value.int .i64 777] : Array Value).toList, u.oneCell' = true) := fun u hu => by simp at hu; subst hu; rfl
      have HSZ : Hid (ni * 8 ≤ 140737488351232) := s3
      have SRC : Hid (∀ y, Below W3.heap.size W3 y → (ni = 0 ∨ ∃ ad, xi = some ad ∧ ∀ j u, (inV r.dr)[j]? = some u → y.cell? (ad.add j) = some u)) := fun y hy => ints_src (hI.i.kept hy) hI.ni
      refine wp_reliesK (kokO (e := 3) (k := 1) (B := W3.heap.size) (n := ni) (xs := (inV r.dr)) (ys := (#[Value.int .i64 777] : Array Value).toList)) 5 [0, 1, 2, 3, 4] [T0 3 1 (W3.heap.size), Fx (.pointer (some ⟨z1, 3, none⟩)), Fx (.slice xi ni ci), T3 3 1 (W3.heap.size) ni (inV r.dr), T5 3 1 (W3.heap.size) (#[Value.int .i64 777] : Array Value).toList, T6 3 1 (W3.heap.size) ni ((inV r.dr) ++ (#[Value.int .i64 777] : Array Value).toList), Fx (.pointer (some ⟨z1, 3, none⟩)), Fx (.slice xi ni ci), Fx (.int .i64 (ni : Int)), T9 3 1 (W3.heap.size) ni ((inV r.dr) ++ (#[Value.int .i64 777] : Array Value).toList), Fx (.pointer (some ⟨z3, 3, none⟩))] (by simp) (by kernel_rfl) (by kernel_rfl) (by kernel_rfl) ?_ ?_ ?_ ?_
      · repeat' (first | exact all_nil | apply all_cons)
        all_goals intro v y y' hv hb
        all_goals first | exact Fx_mono _ _ _ _ hv hb | exact T0.mono hv hb | exact T3.mono hv hb | exact T5.mono hv hb | exact T6.mono hv hb | exact T9.mono hv hb
      · simp only [List.eraseIdx]
        repeat' (first | exact all_nil | apply all_cons)
        all_goals intro v y y' hv hb
        all_goals first | exact (show Fx _ _ _ from hv) | exact T0.monoK hv hb | exact T3.monoK hv hb | exact T5.monoK hv hb | exact T9.monoK hv hb
      · refine ⟨?_, ?_, ?_, ?_, ?_, ?_, ?_, ?_, ?_, ?_, ?_, trivial⟩
        all_goals
          intro ρ x hk hp ρc ρg ρf ho hd
          first | (replace hp := hp (by decide)) | clear hp
          have o1 : ρ (.tmp 1) = .pointer (some ⟨z1, 0, none⟩) := ho 1 rfl
          have o3 : ρ (.tmp 3) = .pointer (some ⟨z3, 0, none⟩) := ho 3 rfl
          clear ho
          have hb9 := hk.1 (Nat.le_refl _)
          have q1 := cell_later hb9 c1
          simp only [depsR, depR, slotR, Fx, List.getElem?_cons_succ, List.getElem?_cons_zero, Region.binds, forall_const] at hd
          simp only [guardR, Nat.reduceBEq, cond_true, cond_false]
          go_split_ands
        · go_simp
          exact ⟨⟨_, rfl, row_new (cs := #[]) x hb9.size (by simp) (by decide)⟩, below_alloc _ _⟩
        · go_simp
        · go_simp
        · obtain ⟨⟨g, hg, h0⟩, hd1⟩ : T0 3 1 (W3.heap.size) (ρ (.tmp 31)) x ∧ ρ (.tmp 33) = .slice xi ni ci := by first | exact ⟨hd.1, hd.2.1⟩ | (constructor <;> assumption)
          rw [hg] at h0
          obtain ⟨y9, c9, x9, hr, o4, o5⟩ := rawCopy rawI x (W3.heap.size) g xi ni ci (inV r.dr) 30 h0 HXL.out.1 HXL.out.2 (SRC.out x hb9) (by have := HSZ.out; show _ * 8 ≤ _; omega) (by have := HSZ.out; unfold maxLen; omega) hb9.size
          change (Builtin.append_ #[30, 30] _ _).run Tryz.prog x = _ at hr
          rw [BigFrame.execOp_builtin, BigFrame.builtin_append]
          simp only [List.map_toArray, List.map_cons, List.map_nil, hg, hd1, hr, Sem.run_bind, Result.andThen_ok, Sem.run_pure, okUpon_value, okUponK_value]
          exact ⟨⟨y9, c9, rfl, o4⟩, o5⟩
        · go_simp
          exact ⟨⟨_, rfl, row_new (cs := #[Value.int .i64 777]) x hb9.size rfl (by decide)⟩, below_alloc _ _⟩
        · obtain ⟨⟨y, c, hy, h3⟩, ⟨g5, h5, h6⟩⟩ : T3 3 1 (W3.heap.size) ni (inV r.dr) (ρ (.tmp 34)) x ∧ T5 3 1 (W3.heap.size) (#[Value.int .i64 777] : Array Value).toList (ρ (.tmp 35)) x := by first | exact ⟨hd.1, hd.2.1⟩ | (constructor <;> assumption)
          rw [hy] at h3
          rw [h5] at h6
          obtain ⟨g9, c9, x9, hr, o4, o5⟩ := rawMark rawI x (W3.heap.size) g5 ni c y (inV r.dr) (#[Value.int .i64 777] : Array Value).toList 30 h3 h6 HYO.out (by have := HSZ.out; show _ * 8 ≤ _; omega) (by have := HSZ.out; unfold maxLen; omega) hb9.size
          change (Builtin.append_ #[30, 30] _ _).run Tryz.prog x = _ at hr
          rw [BigFrame.execOp_builtin, BigFrame.builtin_append]
          simp only [List.map_toArray, List.map_cons, List.map_nil, hy, h5, hr, Sem.run_bind, Result.andThen_ok, Sem.run_pure, okUpon_value, okUponK_value]
          exact ⟨⟨g9, c9, rfl, o4⟩, o5⟩
        · go_simp
        · go_simp
        · go_simp
        · obtain ⟨⟨g, c, hg, h6⟩, hd1⟩ : T6 3 1 (W3.heap.size) ni ((inV r.dr) ++ (#[Value.int .i64 777] : Array Value).toList) (ρ (.tmp 36)) x ∧ ρ (.tmp 39) = .int .i64 (ni : Int) := by first | exact ⟨hd.1, hd.2.1⟩ | (constructor <;> assumption)
          rw [hg] at h6
          have hc := run_cutI0 x g 0 (ni + 1) c ni (by have := row_cap h6; omega)
          go_simp
          exact ⟨g, c, rfl, h6⟩
        · go_simp
      · intro vs x1 hk hw
        simp only [owed, Fx] at hw
        obtain ⟨⟨q0, e0, -⟩, e1, e2, ⟨q3, q3c, e3, -⟩, ⟨q5, e4, -⟩, ⟨q6, q6c, e5, -⟩, e6, e7, e8, ⟨gg, cc, e9, hOw⟩, e10, -⟩ := hw
        simp only [List.length_cons, List.length_nil, List.take_succ_cons, List.take_zero, List.drop_succ_cons, List.drop_zero, asg, List.cons_append, List.nil_append, e0, e1, e2, e3, e4, e5, e6, e7, e8, e9, e10]
        clear e0 e1 e2 e3 e4 e5 e6 e7 e8 e9 e10
        obtain ⟨g3, hgk⟩ : ∃ q, q = gg := ⟨_, rfl⟩
        obtain ⟨d3, hdk⟩ : ∃ q, q = cc := ⟨_, rfl⟩
        subst hgk hdk
        have hb := hk.1 (Nat.le_refl _)
        clear hk SRC HXL HYO HSZ c1
        have r1' := r1.kept hb
        have r2' := r2.kept hb
        have r3' := r3.kept hb
        have zc : x1.cell? ⟨z3, 3, none⟩ = some (.slice none 0 0) := by rw [r3'.cell]; rfl
        have fz := r3'.frozen 3
        have kc := Keep.cell1 x1 z3 3 (.slice (some ⟨g3, 0, none⟩) ni d3)
        have n1 : z1 ∉ [z3] := by have := HZ.out; have := HZ3.out; simp; omega
        have n2 : z2 ∉ [z3] := by have := HZ.out; have := HZ3.out; simp; omega
        have q1 := r1'.keepsF kc n1
        have q2 := r2'.keepsF kc n2
        have q3 : RowC (x1.setCell ⟨z3, 3, none⟩ (.slice (some ⟨g3, 0, none⟩) ni d3)) z3 (rpA r.st (.slice (some ⟨g1, 0, none⟩) nf d1) (.slice (some ⟨g2, 0, none⟩) nd d2) (.slice (some ⟨g3, 0, none⟩) ni d3)) := r3'.set 3 _
        have HBx : Hid (Below w.heap.size w (x1.setCell ⟨z3, 3, none⟩ (.slice (some ⟨g3, 0, none⟩) ni d3))) := (HB.out.trans (hb.mono HB.out.size)).setCell (by show w.heap.size ≤ z3; exact HZ3.out.1) _
        have hIx := HI0.out.kept HBx.out
        have lt3 := r3.lt
        have lt2 := r2.lt
        have HO3 : Hid ((x1.setCell ⟨z3, 3, none⟩ (.slice (some ⟨g3, 0, none⟩) ni d3)).ownsRow w.heap.size 3 1 (.slice (some ⟨g3, 0, none⟩) (ni + 1) d3) (ni + 1) (inV r.dr ++ (#[Value.int .i64 777] : Array Value).toList) ∧ ∀ q, ((.slice (some ⟨g3, 0, none⟩) (ni + 1) d3) : Value).ownBlock = some q → q ≠ z3 ∧ q ≠ z2) := ⟨row_le (row_keeps hOw kc (fun q hq => by have := (World.ownsRow.lt hOw q hq).1; simp; omega)) HB.out.size, fun q hq => by have := (World.ownsRow.lt hOw q hq).1; omega⟩
        have HO1' : Hid ((x1.setCell ⟨z3, 3, none⟩ (.slice (some ⟨g3, 0, none⟩) ni d3)).ownsRow w.heap.size 25 2 (.slice (some ⟨g1, 0, none⟩) (nf + 1) d1) (nf + 1) (flK fdE r.fs ++ (fdA (777, 0)).toList) ∧ ∀ q, ((.slice (some ⟨g1, 0, none⟩) (nf + 1) d1) : Value).ownBlock = some q → q ≠ z3 ∧ q ≠ z2) := ⟨row_keeps (row_keep HO1.out.1 hb) kc (fun q hq => by have := (HO1.out.2 q hq).1; simpa using this), HO1.out.2⟩
        clear HO1
        have HO2' : Hid ((x1.setCell ⟨z3, 3, none⟩ (.slice (some ⟨g3, 0, none⟩) ni d3)).ownsRow w.heap.size 50 32 (.slice (some ⟨g2, 0, none⟩) (nd + 1) d2) (nd + 1) (flK dgE r.ds ++ (dg_secA dg7).toList) ∧ ∀ q, ((.slice (some ⟨g2, 0, none⟩) (nd + 1) d2) : Value).ownBlock = some q → q ≠ z3 ∧ q ≠ z2) := ⟨row_keeps (row_keep HO2.out.1 hb) kc (fun q hq => by have := (HO2.out.2 q hq).1; simpa using this), HO2.out.2⟩
        clear HO2
        clear r1 r2 r3 hI r1' r2' r3' kc n1 n2 hb hOw HB
        go_upto_region 5 with fail
        clear zc fz
        generalize (x1.setCell ⟨z3, 3, none⟩ (.slice (some ⟨g3, 0, none⟩) ni d3)) = W4 at q1 q2 q3 hIx HBx HO3 HO1' HO2' ⊢
        have r1 := q1
        have r2 := q2
        have r3 := q3
        have hI := hIx
        have HB := HBx
        clear q1 q2 q3 hIx HBx lt3 lt2
        have HO1 := HO1'
        clear HO1'
        have HO2 := HO2'
        clear HO2'
        have ld := run_load_rp W4 z3 r3.1 (by rw [r3.2]; rfl)
        rw [r3.2] at ld
        have st := run_store_rp W4 z2 (rpA r.st (.slice (some ⟨g1, 0, none⟩) nf d1) (.slice (some ⟨g2, 0, none⟩) nd d2) (.slice (some ⟨g3, 0, none⟩) ni d3)) r2.1 (by rw [r2.2]; rfl) rfl (rpA_one _ _ _ _ _ _ _ _ _ _)
        have HX : Hid (RowC (W4.setRow z2 (rpA r.st (.slice (some ⟨g1, 0, none⟩) nf d1) (.slice (some ⟨g2, 0, none⟩) nd d2) (.slice (some ⟨g3, 0, none⟩) ni d3))) z2 (rpA r.st (.slice (some ⟨g1, 0, none⟩) nf d1) (.slice (some ⟨g2, 0, none⟩) nd d2) (.slice (some ⟨g3, 0, none⟩) ni d3))) := ⟨rowL_setRow_same _ _ _ r2.1, rowAt_setRow_L _ _ _ r2.1⟩
        have kr := Keep.mine1 W4 z2 (rpA r.st (.slice (some ⟨g1, 0, none⟩) nf d1) (.slice (some ⟨g2, 0, none⟩) nd d2) (.slice (some ⟨g3, 0, none⟩) ni d3))
        have HY1 : Hid (OwnK fdE (W4.setRow z2 (rpA r.st (.slice (some ⟨g1, 0, none⟩) nf d1) (.slice (some ⟨g2, 0, none⟩) nd d2) (.slice (some ⟨g3, 0, none⟩) ni d3))) w.heap.size (.slice (some ⟨g1, 0, none⟩) (nf + 1) d1) (r.fs ++ [(777, 0)])) := by
          show OwnK _ _ _ _ _
          have := row_keeps HO1.out.1 kr (fun q hq => by have := (HO1.out.2 q hq).2; simpa using this)
          unfold OwnK
          rw [flK_app, flK_one1, fdE_enc, List.length_append, hI.nf]
          exact this
        have HY2 : Hid (OwnK dgE (W4.setRow z2 (rpA r.st (.slice (some ⟨g1, 0, none⟩) nf d1) (.slice (some ⟨g2, 0, none⟩) nd d2) (.slice (some ⟨g3, 0, none⟩) ni d3))) w.heap.size (.slice (some ⟨g2, 0, none⟩) (nd + 1) d2) (r.ds ++ [dg7])) := by
          show OwnK _ _ _ _ _
          have := row_keeps HO2.out.1 kr (fun q hq => by have := (HO2.out.2 q hq).2; simpa using this)
          unfold OwnK
          rw [flK_app, flK_one1, dgE_enc, List.length_append, hI.nd]
          exact this
        have HY3 : Hid (OwnI (W4.setRow z2 (rpA r.st (.slice (some ⟨g1, 0, none⟩) nf d1) (.slice (some ⟨g2, 0, none⟩) nd d2) (.slice (some ⟨g3, 0, none⟩) ni d3))) w.heap.size (.slice (some ⟨g3, 0, none⟩) (ni + 1) d3) (r.dr ++ [777])) := by
          show OwnI _ _ _ _
          have := row_keeps HO3.out.1 kr (fun q hq => by have := (HO3.out.2 q hq).2; simpa using this)
          unfold OwnI OwnG
          rw [inV_app, List.length_append, inV_len, hI.ni]
          exact this
        have HY4 : Hid (Below w.heap.size w (W4.setRow z2 (rpA r.st (.slice (some ⟨g1, 0, none⟩) nf d1) (.slice (some ⟨g2, 0, none⟩) nd d2) (.slice (some ⟨g3, 0, none⟩) ni d3)))) := below_row HB.out (by have := HZ.out; omega) _
        clear r1 r2 r3 hI kr HO1 HO2 HO3 HB
        go_wp2
        exact rp_ret1 2 z2 _ rfl rfl rfl HX.out rfl ⟨g1, d1, g2, d2, g3, d3, rfl, HY1.out, HY2.out, HY3.out, HY4.out⟩
end Go.Proofs.YtklbdhpnbjhgkaaGreatDoor
