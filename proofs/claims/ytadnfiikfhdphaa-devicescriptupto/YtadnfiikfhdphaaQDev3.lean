import Derived.Test.YtadnfiikfhdphaaQDev2
namespace Go.Proofs.Ytadnfiikfhdphaa
open Go.RowKit

/-! A row that holds a sector; assaylaw05's sector and fill -/
def ScR (w : World) (g : Nat) (s : Sc) : Prop := rowOk w g = true ∧ rowAt w g = secA s
theorem ScR.kept {w w1 : World} {g : Nat} {s : Sc} (h : ScR w g s) (hb : Below w.heap.size w w1) : ScR w1 g s := keepRow hb (lt_of_rowOk h.1) h.1 h.2
theorem ScR.new (w : World) (s : Sc) (t : TypeId) : ScR (w.alloc (.cells (secA s) t)) w.heap.size s := ⟨rowOk_new _ _ _ _ rfl (secA_size _), rowAt_new _ _ _ _ rfl⟩
theorem ScR.lt {w : World} {g : Nat} {s : Sc} (h : ScR w g s) : g < w.heap.size := lt_of_rowOk h.1
theorem ScR.cell {w : World} {g : Nat} {s : Sc} (h : ScR w g s) (i : Nat) (hi : i < 64) : w.cell? ⟨g, i, none⟩ = some (Value.int .u8 ((s i).toNat : Int)) := by
  rw [cell_rowAt h.1, h.2, secA_get s i hi]
theorem ScR.frozen {w : World} {g : Nat} {s : Sc} (h : ScR w g s) (i : Nat) : w.frozen? ⟨g, i, none⟩ = false := by
  obtain ⟨t, hg, _⟩ := row_of_ok h.1
  simp [World.frozen?, hg]
theorem ScR.set {w : World} {g : Nat} {s : Sc} (h : ScR w g s) (i : Nat) (b : UInt8) (hi : i < 64) : ScR (w.setCell ⟨g, i, none⟩ (.int .u8 (b.toNat : Int))) g (upd s i b) := by
  obtain ⟨t, hg, hs⟩ := row_of_ok h.1
  have e := heap_setCell w g i (.int .u8 (b.toNat : Int)) _ t _ hg
  constructor
  · unfold rowOk; rw [e]; simp [hs]
  · have e2 : rowAt (w.setCell ⟨g, i, none⟩ (.int .u8 (b.toNat : Int))) g = (rowAt w g).setIfInBounds i (.int .u8 (b.toNat : Int)) := by
      show (match (w.setCell ⟨g, i, none⟩ (.int .u8 (b.toNat : Int))).heap[g]? with | some (.cells c _ _) => c | _ => #[]) = _
      rw [e]
    rw [e2, h.2]; exact secA_set s i b hi
theorem ScR.set_ne {w : World} {g k : Nat} {s : Sc} (h : ScR w k s) (i : Nat) (v : Value) (hn : g ≠ k) : ScR (w.setCell ⟨g, i, none⟩ v) k s := by
  unfold ScR rowOk rowAt at *
  have e : (w.setCell ⟨g, i, none⟩ v).heap[k]? = w.heap[k]? := by simp only [World.setCell, Array.getElem?_modify]; rw [if_neg hn]
  rw [e]; exact h
theorem ScR.range {w : World} {g : Nat} {s : Sc} (h : ScR w g s) : w.rangeAt g 0 (secA s).toList := fun j u hu => by
  rw [Array.getElem?_toList] at hu
  rw [Nat.zero_add, cell_rowAt h.1, h.2]; exact hu
def sectorD (v : UInt8) : Sc := fun i => v + UInt8.ofNat i
def upS (d : Sc) (k : Nat) : Sc := fun j => if j < k then d j else 0
theorem upS_zero (d : Sc) : upS d 0 = secZ := by funext j; simp [upS, secZ]
theorem upS_succ (d : Sc) (k : Nat) : upS d (k + 1) = upd (upS d k) k (d k) := by
  funext j
  unfold upS upd
  by_cases h : j = k
  · subst h; simp
  · have : (j < k + 1) = (j < k) := by simp; omega
    simp [h, this]
theorem upS_all (d : Sc) : secA (upS d 64) = secA d := (secA_inj _ _).2 fun i hi => by simp [upS, hi]
set_option linter.unusedSimpArgs false in
set_option maxHeartbeats 400000 in
theorem sector_any (v : UInt8) (w : World) : Calls Try.prog 26 #[.int .u8 (v.toNat : Int)] w fun e w' => e = .returned (.agg (secA (sectorD v))) ∧ Below w.heap.size w w' := by
  have hB : Below w.heap.size w ((w.alloc (.cells (secA secZ) 27)).alloc (.cells (secA secZ) 27)) := (below_alloc w _).alloc (by simp) _
  have hRr : ScR ((w.alloc (.cells (secA secZ) 27)).alloc (.cells (secA secZ) 27)) w.heap.size secZ := (ScR.new w secZ _).kept (below_alloc _ _)
  have hRd : ScR ((w.alloc (.cells (secA secZ) 27)).alloc (.cells (secA secZ) 27)) (w.heap.size + 1) secZ := by
    have := ScR.new (w.alloc (.cells (secA secZ) 27)) secZ 27
    rw [World.size_alloc] at this
    exact this
  go_enter Try.func26, Try.ntmps26
  go_wp2_with fail
  obtain ⟨gd, hgd⟩ : ∃ g, w.heap.size + 1 = g := ⟨_, rfl⟩
  obtain ⟨gr, hgr⟩ : ∃ g, w.heap.size = g := ⟨_, rfl⟩
  have hne : gd ≠ gr := by omega
  have hlr : w.heap.size ≤ gr := by omega
  have hld : w.heap.size ≤ gd := by omega
  rw [hgd] at hRd
  rw [hgr] at hRr
  simp only [hgd]
  simp only [hgr]
  generalize (w.alloc (.cells (secA secZ) 27)).alloc (.cells (secA secZ) 27) = X at hB hRr hRd ⊢
  clear hgd
  go_loopw [4] (fun i wr => ∃ k : Nat, k ≤ 64 ∧ i = .int .i64 k ∧ ScR wr gd (upS (sectorD v) k) ∧ ScR wr gr secZ ∧ Below w.heap.size w wr) (fun i _ => 64 - (intOf i).toNat)
  case atStart => exact ⟨0, by omega, rfl, by rw [upS_zero]; exact hRd, hRr, hB⟩
  case round =>
    clear hRd hRr hB
    obtain ⟨k, hk, rfl, hRd, hRr, hB⟩ := hrel
    by_cases hlt : k < 64
    · have hcd := hRd.cell k hlt
      have hfz := hRd.frozen k
      obtain ⟨b, hb⟩ : ∃ b, sectorD v k = b := ⟨_, rfl⟩
      have hbn : (b.toNat : Int) = ((v.toNat : Int) + (k : Int)) % 256 := by
        rw [← hb]
        unfold sectorD
        rw [UInt8.toNat_add, UInt8.toNat_ofNat']
        omega
      have w1 : IntKind.u8.wrap (k : Int) = (k : Int) := by simp [IntKind.wrap, IntKind.bits, IntKind.signed]; omega
      have w2 : IntKind.u8.wrap ((v.toNat : Int) + (k : Int)) = (b.toNat : Int) := by rw [hbn]; simp [IntKind.wrap, IntKind.bits, IntKind.signed]
      have HR : Hid (ScR (wr.setCell ⟨gd, k, none⟩ (.int .u8 (b.toNat : Int))) gd (upS (sectorD v) (k + 1))) := by show ScR _ _ _; rw [upS_succ, hb]; exact hRd.set k b hlt
      have HZ : Hid _ := hRr.set_ne k (.int .u8 (b.toNat : Int)) hne
      have HB : Hid _ := hB.setCell (p := ⟨gd, k, none⟩) hld (.int .u8 (b.toNat : Int))
      have hk0 : (0 : Int) ≤ (k : Int) := by omega
      have hk1 : (k : Int) < 64 := by omega
      clear hRd hRr hB hb hbn
      generalize (upS (sectorD v) k k).toNat = old at hcd
      generalize v.toNat = vn at *
      generalize b.toNat = bn at *
      go_wp2
      go_roundw
      case rel => exact ⟨k + 1, by omega, by go_num, HR.out, HZ.out, HB.out⟩
      case measure => simp [intOf]; omega
    · obtain rfl : k = 64 := by omega
      obtain ⟨r1, q1⟩ := hRd
      rw [upS_all] at q1
      have HR9 : Hid (ScR (wr.setRow gr (secA (sectorD v))) gr (sectorD v)) := ⟨rowOk_setRow_same _ _ _ hRr.1 (secA_size _), rowAt_setRow_same _ _ _ hRr.1⟩
      have HB : Hid _ := below_row hB hlr (secA (sectorD v))
      obtain ⟨r2, q2⟩ := hRr
      clear hB
      go_wp2
      exact bodyPost_sec 2 gr rfl rfl rfl HR9.out.1 ⟨by rw [HR9.out.2], HB.out⟩
def firstS (fs : List UInt8) (i : Nat) : Sc := if i < fs.length then upd secZ 0 (fs[i]?.getD 0) else secZ
def fillL (n : Nat) (fs : List UInt8) : List Sc := (List.range n).map (firstS fs)
theorem fillL_len (n : Nat) (fs : List UInt8) : (fillL n fs).length = n := by simp [fillL]
theorem fillL_succ (n : Nat) (fs : List UInt8) : fillL (n + 1) fs = fillL n fs ++ [firstS fs n] := by simp [fillL, List.range_succ]
theorem wpL_appT {ops : Array Oper} {rest : List Oper} {o : Oper} {a : Act} {w : World} {Q : Exit → Act → World → Prop} (t : TypeId) (hgd : o.guard = none) (s x : Operand)
    (ho : o.op = .call { callee := .builtin .append, args := #[s, x], argTypes := #[t, t] }) (v' : Value) (w' : World) (hr : (Builtin.append_ #[t, t] o.type #[a.eval s, a.eval x]).run Try.prog w = .ok v' w')
    (h : wpList Try.prog ops Q rest (a.put o.dst v') w') : wpList Try.prog ops Q (o :: rest) a w :=
  wpList_plain hgd fun _ hK => by
    unfold Oper.wp execOp
    simp only [ho, resolve, invoke, builtin, Sem.run_bind, Sem.run_pure, Result.andThen_ok, List.map_toArray, List.map_cons, List.map_nil, hr]
    exact hK _ _ h
theorem newSc (w : World) (s : Sc) : (w.alloc (.cells (secA s) 27)).rangeAt w.heap.size 0 (secE.enc s) := by
  rw [secE_enc]; exact (ScR.new w s _).range
set_option linter.unusedSimpArgs false in
set_option maxHeartbeats 400000 in
theorem fill_any (n : Nat) (hn : n ≤ 2000) (x : Option Addr) (c nf : Nat) (fs : List UInt8) (w : World) (hnf : fs.length = nf) (hf : IsB w (.slice x nf c) fs) :
    Calls Try.prog 4 #[.int .i64 (n : Int), .slice x nf c] w fun e w' => ∃ y c', e = .returned (.slice y n c') ∧ OwnK secE w' w.heap.size (.slice y n c') (fillL n fs) ∧ Below w.heap.size w w' := by
  go_enter Try.func4, Try.ntmps4
  go_wp2_with fail
  go_loopw [5, 6] (fun v i wr => ∃ (k : Nat) (y : Option Addr) (c' : Nat), k ≤ n ∧ i = .int .i64 k ∧ v = .slice y k c' ∧ OwnK secE wr w.heap.size (.slice y k c') (fillL k fs) ∧ Below w.heap.size w wr) (fun _ i _ => n - (intOf i).toNat)
  case atStart => exact ⟨0, none, 0, by omega, rfl, rfl, OwnK.nil _ _ _, Below.refl _ _⟩
  case round =>
    obtain ⟨k, y, c', hk, rfl, rfl, hO, hB⟩ := hrel
    by_cases hlt : k < n
    · have hkn : (k : Int) < (n : Int) := by omega
      have hk0 : (0 : Int) ≤ (k : Int) := by omega
      obtain ⟨S, hS⟩ : ∃ s, firstS fs k = s := ⟨_, rfl⟩
      have hsz := hB.size
      have HS : Hid (fillL (k + 1) fs = fillL k fs ++ [S]) := by show _ = _; rw [fillL_succ, hS]
      have step : ∀ X : World, Below wr.heap.size wr X → ∃ g c2 w', (Builtin.append_ #[24, 24] 24 #[.slice y k c', .slice (some ⟨X.heap.size, 0, none⟩) 1 1]).run Try.prog (X.alloc (.cells (secA S) 27)) = .ok (.slice (some ⟨g, 0, none⟩) (k + 1) c2) w' ∧ OwnK secE w' w.heap.size (.slice (some ⟨g, 0, none⟩) (k + 1) c2) (fillL (k + 1) fs) ∧ Below w.heap.size w w' := fun X hX => by
        have hX2 : Below wr.heap.size wr (X.alloc (.cells (secA S) 27)) := hX.alloc hX.size _
        obtain ⟨g, c2, w', hr, h1, -, h3, -⟩ := run_app1K secE_ok (X.alloc (.cells (secA S) 27)) w.heap.size X.heap.size (.slice y k c') (fillL k fs) S 24 (hO.keep hX2) (newSc X S) (by simp) (by rw [fillL_len]; show (k + 1) * 64 ≤ _; omega) (by rw [fillL_len]; unfold maxLen; omega) (by have := hX2.size; omega)
        rw [fillL_len] at hr h1
        rw [← HS.out] at h1
        exact ⟨g, c2, w', hr, h1, (hB.trans (hX2.mono hsz)).trans ((hO.keep hX2).below h3 (by have := hX2.size; omega))⟩
      by_cases hi : k < nf
      · have hki : (k : Int) < (nf : Int) := by omega
        have hf' := hf.kept hB
        rw [← hnf] at hf'
        obtain ⟨b, o, rfl, hb, hc⟩ := hf'.spot k (by omega)
        obtain ⟨f, hfk⟩ : ∃ f, fs[k]?.getD 0 = f := ⟨_, rfl⟩
        rw [hfk] at hc
        have hc1 := cell_later (below_alloc wr (.cells (secA secZ) 27)) hc
        have hSz : S = upd secZ 0 f := by rw [← hS]; unfold firstS; rw [if_pos (by omega), hfk]
        have hR := ScR.new wr secZ 27
        have hc0 := hR.cell 0 (by omega)
        have hfz := hR.frozen 0
        go_upto_region 8 with fail
        rw [secA_set secZ 0 f (by omega), ← hSz]
        obtain ⟨g, c2, w', hr, hO2, hB2⟩ := step (wr.alloc (.cells (secA S) 27)) (below_alloc _ _)
        rw [World.size_alloc] at hr
        have HO : Hid _ := hO2
        have HB : Hid _ := hB2
        clear hO hB step hO2 hB2 hS hSz hR hc0 hfz hc hc1 hf'
        go_wp2_with (at_builtin; refine wpL_appT 24 rfl _ _ rfl _ w' (by exact hr) ?_)
        go_roundw
        case rel => exact ⟨k + 1, _, _, by omega, by go_num, rfl, HO.out, HB.out⟩
        case measure => simp [intOf]; omega
      · have hki : ¬ (k : Int) < (nf : Int) := by omega
        have hSz : S = secZ := by rw [← hS]; unfold firstS; rw [if_neg (by omega)]
        subst hSz
        obtain ⟨g, c2, w', hr, hO2, hB2⟩ := step (wr.alloc (.cells (secA secZ) 27)) (below_alloc _ _)
        rw [World.size_alloc] at hr
        have HO : Hid _ := hO2
        have HB : Hid _ := hB2
        clear hO hB step hO2 hB2 hS
        go_wp2_with (at_builtin; refine wpL_appT 24 rfl _ _ rfl _ w' (by exact hr) ?_)
        go_roundw
        case rel => exact ⟨k + 1, _, _, by omega, by go_num, rfl, HO.out, HB.out⟩
        case measure => simp [intOf]; omega
    · obtain rfl : k = n := by omega
      go_wp2
      go_ret
      exact ⟨y, c', rfl, hO, hB⟩
theorem sec_bodyPost2 {fn : Func} {R : Ending → World → Prop} {a : Act} {w : World} (p q n : Nat) (s : Sc) (hres : fn.results = #[.cell p 27, .tmp q]) (hp : a.tmps.getD p undef = .pointer (some ⟨n, 0, none⟩)) (hd : a.defers = [])
    (hok : ScR w n s) (h : R (.returned (.tuple #[.agg (secA s), a.tmps.getD q undef])) w) : bodyPost Try.prog fn R .ret a w := by
  obtain ⟨t, hg, hs⟩ := row_of_ok hok.1
  rw [hok.2] at hg
  have hp' : a.tmps[p]?.getD undef = .pointer (some ⟨n, 0, none⟩) := by simpa using hp
  have hl := run_loadVar_row (P := Try.prog) w n t 27 (secA s) (0, 0) _ hg Try.underlying27 rfl (by rw [size27, secA_size])
  refine bodyPost_ret (v := .tuple #[.agg (secA s), a.tmps.getD q undef]) ?_ hd h
  simp [results, hres, hp', asAddr, hl]
end Go.Proofs.Ytadnfiikfhdphaa
