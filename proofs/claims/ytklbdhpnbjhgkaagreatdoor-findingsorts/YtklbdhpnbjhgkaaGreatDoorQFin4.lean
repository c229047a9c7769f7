import Derived.Test.YtklbdhpnbjhgkaaGreatDoorQFin3
import Derived.Shelf.Abstract
namespace Go.Proofs.YtklbdhpnbjhgkaaGreatDoor
open Go.RowKit Go.Sort

/-! The reader: a number, a finding, a digest, a slot -/
/-- Two results, the first a row in its variable. -/
theorem row_bodyPost2 {fn : Func} {R : Ending → World → Prop} {a : Act} {w : World} (T : TypeId) (p q n : Nat) (c : Array Value) (hl : ∀ t, w.heap[n]? = some (.cells c t (0, 0)) → (loadVar T ⟨n, 0, none⟩).run Tryz.prog w = .ok (.agg c) w) (hres : fn.results = #[.cell p T, .tmp q]) (hp : a.tmps.getD p undef = .pointer (some ⟨n, 0, none⟩)) (hd : a.defers = [])
    (hok : RowC w n c) (h : R (.returned (.tuple #[.agg c, a.tmps.getD q undef])) w) : bodyPost Tryz.prog fn R .ret a w := by
  obtain ⟨t, hg⟩ := row_of_L hok.1
  rw [hok.2] at hg
  have hp' : a.tmps[p]?.getD undef = .pointer (some ⟨n, 0, none⟩) := by simpa using hp
  refine bodyPost_ret (v := .tuple #[.agg c, a.tmps.getD q undef]) ?_ hd h
  simp [results, hres, hp', asAddr, hl t hg]
theorem fd_ret2 {fn : Func} {R : Ending → World → Prop} {a : Act} {w : World} (p q n : Nat) (c : Array Value) (hres : fn.results = #[.cell p 25, .tmp q]) (hp : a.tmps.getD p undef = .pointer (some ⟨n, 0, none⟩)) (hd : a.defers = [])
    (hok : RowC w n c) (hc : c.size = 2) (h : R (.returned (.tuple #[.agg c, a.tmps.getD q undef])) w) : bodyPost Tryz.prog fn R .ret a w :=
  row_bodyPost2 25 p q n c (fun t hg => run_loadVar_row (P := Tryz.prog) w n t 25 c (0, 0) _ hg Tryz.underlying25 rfl (by rw [sizeT_fd, hc])) hres hp hd hok h
theorem dg_ret2 {fn : Func} {R : Ending → World → Prop} {a : Act} {w : World} (p q n : Nat) (c : Array Value) (hres : fn.results = #[.cell p 50, .tmp q]) (hp : a.tmps.getD p undef = .pointer (some ⟨n, 0, none⟩)) (hd : a.defers = [])
    (hok : RowC w n c) (hc : c.size = 32) (h : R (.returned (.tuple #[.agg c, a.tmps.getD q undef])) w) : bodyPost Tryz.prog fn R .ret a w :=
  row_bodyPost2 50 p q n c (fun t hg => run_loadVar_row (P := Tryz.prog) w n t 50 c (0, 0) _ hg Tryz.underlying50 rfl (by rw [size50, hc])) hres hp hd hok h
theorem rp_ret2 {fn : Func} {R : Ending → World → Prop} {a : Act} {w : World} (p q n : Nat) (c : Array Value) (hres : fn.results = #[.cell p 32, .tmp q]) (hp : a.tmps.getD p undef = .pointer (some ⟨n, 0, none⟩)) (hd : a.defers = [])
    (hok : RowC w n c) (hc : c.size = 4) (h : R (.returned (.tuple #[.agg c, a.tmps.getD q undef])) w) : bodyPost Tryz.prog fn R .ret a w :=
  row_bodyPost2 32 p q n c (fun t hg => run_loadVar_row (P := Tryz.prog) w n t 32 c (0, 0) _ hg Tryz.underlying32 rfl (by rw [sizeT_rp, hc])) hres hp hd hok h
/-- What one step of the reader leaves. -/
def RdQ {α : Type} (val : α → Value) (zero : Value) (w : World) (g : Nat) (x : Option Addr) (n c : Nat) (b : List UInt8) (r : Except (Nat × Nat) (α × Nat)) (e : Ending) (w' : World) : Prop := Keep [g] w w' ∧ match r with
  | .ok (v, j) => e = .returned (.tuple #[val v, .pointer none]) ∧ RdI w' g x n c b j
  | .error (a, cd) => ∃ q, e = .returned (.tuple #[zero, .pointer (some ⟨q, 0, none⟩)]) ∧ w.heap.size ≤ q ∧ RowC w' q (ftA a cd)
theorem num_lay (b : List UInt8) (i k : Nat) (hk : k = 1 ∨ k = 2) (hi : i + k ≤ b.length) : numI (layI secZ 0 ((b.drop i).take k)) 0 2 = numN (lB b) i k := by
  have hl : ((b.drop i).take k).length = k := by simp; omega
  have hg : ∀ j, j < k → ((b.drop i).take k)[j]? = b[i + j]? := fun j hj => by rw [List.getElem?_take_of_lt hj, List.getElem?_drop]
  have e1 : layI secZ 0 ((b.drop i).take k) = layL secZ 0 ((b.drop i).take k) := by
    unfold layI
    rw [if_pos (by rw [hl, inB_iff]; omega)]; rfl
  have e2 : ∀ s, numI s 0 2 = numN s 0 2 := fun s => rfl
  have e3 : ∀ j, j < k → layL secZ 0 ((b.drop i).take k) j = lB b (i + j) := fun j hj => by
    unfold layL lB
    rw [dif_pos (by omega), ← hg j hj, List.getElem?_eq_getElem (by omega)]
    rfl
  have e4 : ∀ j, k ≤ j → layL secZ 0 ((b.drop i).take k) j = 0 := fun j hj => by
    unfold layL
    rw [dif_neg (by omega)]; rfl
  rw [e1, e2, num2]
  rcases hk with rfl | rfl
  · rw [e3 0 (by omega), e4 1 (by omega), num1]; simp
  · rw [e3 0 (by omega), e3 1 (by omega), num2]; rfl
theorem numN_small (s : Nat → UInt8) (i k : Nat) (hk : k = 1 ∨ k = 2) : numN s i k < 65536 := by
  have := numN_lt s i k
  rcases hk with rfl | rfl <;> omega
set_option linter.unusedSimpArgs false in
set_option maxHeartbeats 1600000 in
theorem number22 (w : World) (g : Nat) (x : Option Addr) (n c : Nat) (b : List UInt8) (i k : Nat) (hk : k = 1 ∨ k = 2) (fn : FuncId) (okI' : Int → Bool) (ok : Nat → Bool) (hw : WOk fn okI') (he : ∀ v : Nat, okI' v = ok v) (hen : ∀ args w, (callFunc fn args).run Tryz.prog w = .ok (.enter fn args) w) (h : RdI w g x n c b i) :
    Calls Tryz.prog 83 #[.pointer (some ⟨g, 0, none⟩), .int .i64 (k : Int), .func (.func fn) #[] #[]] w fun e w' => RdQ (fun v : Nat => .int .i64 (v : Int)) (.int .i64 0) w g x n c b (rdN k ok b i) e w' := by
  have c1 : w.cell? ⟨g, 1, none⟩ = some (.int .i64 (i : Int)) := by rw [h.row.cell]; rfl
  have ht := take22 w g x n c b i k (by omega) h
  have hL := h.len
  by_cases hlt : n < i + k
  · have hr : rdN k ok b i = .error (i, 10) := by unfold rdN; rw [if_pos (by omega)]
    rw [hr]
    clear hr h
    go_enter Tryz.func83, Tryz.ntmps83
    go_wp2_with fail
    refine ht.mono ?_
    rintro e w1 ⟨-, h2⟩
    obtain ⟨q, rfl, hq, hR, hK⟩ := h2 hlt
    clear hlt ht c1 hL
    go_wp2
    go_ret2
    exact ⟨hK, q, rfl, hq, hR⟩
  · have hle : i + k ≤ b.length := by omega
    have hr : rdN k ok b i = bif ok (numN (lB b) i k) then .ok (numN (lB b) i k, i + k) else .error (i, 13) := by unfold rdN; rw [if_neg (by omega)]
    have hnl := num_lay b i k hk hle
    have hns := numN_small (lB b) i k hk
    rw [hr]
    obtain ⟨z, hz⟩ : ∃ z, numN (lB b) i k = z := ⟨_, rfl⟩
    rw [hz] at hnl hns ⊢
    have hwz := hw (z : Int)
    rw [he z] at hwz
    have HL : Hid (((b.drop i).take k).length ≤ maxLen) := by show _ ≤ _; unfold maxLen; simp; omega
    clear hr hz h
    go_enter Tryz.func83, Tryz.ntmps83
    go_wp2_with fail
    refine ht.mono ?_
    rintro e w1 ⟨h2, -⟩
    obtain ⟨y, d, hd, rfl, hyb, hR, hK⟩ := h2 (by omega)
    have hp := putBytes_any secZ 0 (.slice y k d) ((b.drop i).take k) w1 (by omega) (by omega) HL.out hyb
    clear hlt ht c1 hL h2 hle hyb
    go_wp2_with fail
    refine hp.mono ?_
    rintro e w2 ⟨rfl, b2⟩
    have hu := u16_any (layI secZ 0 ((b.drop i).take k)) 0 w2 (by omega) (by omega)
    rw [hnl] at hu
    clear hp
    go_wp2_with fail
    refine hu.mono ?_
    rintro e w3 ⟨rfl, b3⟩
    have hz9 : ((z : Nat) : Int) % 65536 = z := by omega
    have b13 : Below w1.heap.size w1 w3 := b2.trans (b3.mono b2.size)
    have hW3 := hwz w3
    clear hu b2 b3 hnl
    cases hok : ok z
    · rw [hok] at hW3
      go_wp2_with fail
      refine hW3.mono ?_
      rintro e w4 ⟨rfl, rfl⟩
      have K3 : Hid (Keep [g] w w4) := hK.trans (Keep.of_below b13)
      have bb := below_alloc w4 (.cells (ftA (i : Int) 13) 72)
      have K4 : Hid (Keep [g] w (w4.alloc (.cells (ftA (i : Int) 13) 72))) := K3.out.trans (Keep.of_below bb)
      have hq : Hid (w.heap.size ≤ w4.heap.size) := K3.out.size
      have hN : Hid (RowC (w4.alloc (.cells (ftA (i : Int) 13) 72)) w4.heap.size (ftA (i : Int) 13)) := RowC.new _ _ _
      clear bb hW3 hwz hK b13 hR
      go_wp2
      go_ret2
      refine ⟨K4.out, ?_⟩
      rw [hok]
      exact ⟨_, rfl, hq.out, hN.out⟩
    · rw [hok] at hW3
      go_wp2_with fail
      refine hW3.mono ?_
      rintro e w4 ⟨rfl, rfl⟩
      have K3 : Hid (Keep [g] w w4) := hK.trans (Keep.of_below b13)
      have hR4 : Hid (RdI w4 g x n c b (i + k)) := hR.later b13
      clear hW3 hwz hK b13 hR
      go_wp2
      go_ret2
      refine ⟨K3.out, ?_⟩
      rw [hok]
      exact ⟨rfl, hR4.out⟩
theorem enK22 : ∀ args w, (callFunc 85 args).run Tryz.prog w = .ok (.enter 85 args) w := enters_of Tryz.func85 (by kernel_rfl) rfl
theorem enA22 : ∀ args w, (callFunc 86 args).run Tryz.prog w = .ok (.enter 86 args) w := enters_of Tryz.func86 (by kernel_rfl) rfl
theorem enS22 : ∀ args w, (callFunc 58 args).run Tryz.prog w = .ok (.enter 58 args) w := enters_of Tryz.func58 (by kernel_rfl) rfl
theorem enN22 : ∀ args w, (callFunc 84 args).run Tryz.prog w = .ok (.enter 84 args) w := enters_of Tryz.func84 (by kernel_rfl) rfl
theorem okK_of (v : Nat) : okR 1 19 (v : Int) = okK v := by unfold okR okK; congr 1; simp; omega
theorem okA_of (v : Nat) : okR 0 1023 (v : Int) = okA v := by unfold okR okA; congr 1; simp; omega
theorem okS_of (v : Nat) : okR 0 127 (v : Int) = okS v := by unfold okR okS; congr 1; simp; omega
set_option linter.unusedSimpArgs false in
theorem slot22 (w : World) (g : Nat) (x : Option Addr) (n c : Nat) (b : List UInt8) (i : Nat) (h : RdI w g x n c b i) :
    Calls Tryz.prog 49 #[.pointer (some ⟨g, 0, none⟩)] w fun e w' => RdQ (fun v : Int => .int .i64 v) (.int .i64 0) w g x n c b (rdS b i) e w' := by
  have hn := number22 w g x n c b i 2 (.inr rfl) _ _ _ isSlot22 okS_of enS22 h
  clear h
  cases hr : rdN 2 okS b i with
  | error p =>
    have hs : rdS b i = .error p := by unfold rdS; rw [hr]
    rw [hs]
    rw [hr] at hn
    clear hr hs
    go_enter Tryz.func49, Tryz.ntmps49
    go_wp2_with fail
    refine hn.mono ?_
    rintro e w1 ⟨hK, q, rfl, hq, hR⟩
    clear hn
    go_wp2
    go_ret2
    exact ⟨hK, q, rfl, hq, hR⟩
  | ok p =>
    obtain ⟨v, j⟩ := p
    have hs : rdS b i = .ok ((v : Int), j) := by unfold rdS; rw [hr]
    rw [hs]
    rw [hr] at hn
    clear hr hs
    go_enter Tryz.func49, Tryz.ntmps49
    go_wp2_with fail
    refine hn.mono ?_
    rintro e w1 ⟨hK, rfl, hR⟩
    clear hn
    go_wp2
    go_ret2
    exact ⟨hK, rfl, hR⟩
theorem Keep.mine1 (w : World) (z : Nat) (c : Array Value) : Keep [z] w (w.setRow z c) := ⟨rfl, rfl, rfl, by simp [World.setRow], fun k _ hk => setRow_other w z k c (by simpa using hk)⟩
theorem Keep.mine {F : List Nat} {w w1 : World} (h : Keep F w w1) {z : Nat} (hz : w.heap.size ≤ z) (c : Array Value) : Keep F w (w1.setRow z c) :=
  ⟨h.os, h.tape, h.output, Nat.le_trans h.size (by simp [World.setRow]), fun k hk hn => by rw [setRow_other w1 z k c (by omega)]; exact h.block k hk hn⟩
theorem RdI.apart {w w' : World} {g : Nat} {x : Option Addr} {n c : Nat} {b : List UInt8} {i : Nat} {F : List Nat} (h : RdI w g x n c b i) (hK : Keep F w w') (hg : g ∉ F) (hx : ∀ a, x = some a → a.block ∉ F) : RdI w' g x n c b i :=
  ⟨h.row.keepsF hK hg, h.isb.keepF hK hx, h.len, h.cap, h.far, h.small, h.le⟩
theorem RdI.old {w : World} {g : Nat} {x : Option Addr} {n c : Nat} {b : List UInt8} {i : Nat} (h : RdI w g x n c b i) (hn : 0 < n) : ∀ a, x = some a → a.block < w.heap.size := fun a ha => by
  subst ha
  exact h.isb.lt (by intro e; have := h.len; rw [e] at this; simp at this; omega)
set_option linter.unusedSimpArgs false in
set_option maxRecDepth 100000 in
set_option maxHeartbeats 800000 in
theorem finding22 (w : World) (g : Nat) (x : Option Addr) (n c : Nat) (b : List UInt8) (i : Nat) (h : RdI w g x n c b i) :
    Calls Tryz.prog 44 #[.pointer (some ⟨g, 0, none⟩)] w fun e w' => RdQ (fun f : Fd => .agg (fdA f)) (.agg (fdA fdZ)) w g x n c b (rdF b i) e w' := by
  have b0 := below_alloc w (.cells (fdA fdZ) 25)
  have hn := number22 _ g x n c b i 1 (.inl rfl) _ _ _ isKind22 okK_of enK22 (h.later b0)
  have hZ := RowC.new w (fdA fdZ) 25
  have hg := h.row.lt
  obtain ⟨z, hz⟩ : ∃ z, w.heap.size = z := ⟨_, rfl⟩
  have hgz : z ≠ g := by omega
  have HZ : Hid (w.heap.size = z) := hz
  have HF : Hid (0 < n → ∀ a, x = some a → a.block ∉ [z]) := fun h0 a ha => by
    have := h.old h0 a ha
    simp only [List.mem_singleton]; omega
  have hL := h.len
  cases hr : rdN 1 okK b i with
  | error p =>
    have hs : rdF b i = .error p := by unfold rdF; rw [hr]
    rw [hs]
    rw [hr] at hn
    go_enter Tryz.func44, Tryz.ntmps44
    go_upto_region 1 with fail
    rw [hz] at hZ hg
    generalize w.alloc (.cells (fdA fdZ) 25) = W at b0 hn hZ ⊢
    clear hz h hs hr
    go_wp2_with fail
    refine hn.mono ?_
    rintro e w1 ⟨hK, q, rfl, hq, hR⟩
    have hZ1 := hZ.keepsF hK (by simpa using hgz)
    have K1 : Hid (Keep [g] w w1) := (Keep.of_below b0).trans hK
    have HQ : Hid (w.heap.size ≤ q) := Nat.le_trans b0.size hq
    have hzq : z ≠ q := by have := HZ.out; have := b0.size; have := hZ.lt; omega
    have K9 : Hid (Keep [g] w (w1.setRow z (fdA fdZ))) := K1.out.mine (by rw [HZ.out]; exact Nat.le_refl _) _
    have hR9 : Hid (RowC (w1.setRow z (fdA fdZ)) q (ftA p.1 p.2)) := hR.setRow_ne _ hzq.symm
    have hZ9 : Hid (RowC (w1.setRow z (fdA fdZ)) z (fdA fdZ)) := hZ1.setRow _
    have st := run_store_fd w1 z (fdA fdZ) hZ1.1 (by rw [hZ1.2]; rfl) rfl (fdA_one _)
    clear hn b0 hZ hK hR hq hZ1
    go_wp2
    (try simp only [Exit.inBlock, Exit.then])
    exact fd_ret2 2 3 z _ rfl rfl rfl hZ9.out (fdA_size _) ⟨K9.out, q, rfl, HQ.out, hR9.out⟩
  | ok p =>
    obtain ⟨v, j⟩ := p
    have HP : Hid (0 < n) := by have := (rdN_ok hr).1; show _ < _; omega
    clear hL
    rw [hr] at hn
    go_enter Tryz.func44, Tryz.ntmps44
    go_upto_region 1 with fail
    rw [hz] at hZ hg
    generalize w.alloc (.cells (fdA fdZ) 25) = W at b0 hn hZ ⊢
    clear hz h
    go_wp2_with fail
    refine hn.mono ?_
    rintro e w1 ⟨hK, rfl, hR⟩
    have hZ1 := hZ.keepsF hK (by simpa using hgz)
    have K1 : Hid (Keep [g] w w1) := (Keep.of_below b0).trans hK
    have hm := number22 w1 g x n c b j 2 (.inr rfl) _ _ _ isAt22 okA_of enA22 hR
    have hlW := hZ.lt
    have hW1 := hK.size
    clear hn b0 hZ hK hR
    cases hr2 : rdN 2 okA b j with
    | error p =>
      have hs : rdF b i = .error p := by unfold rdF; rw [hr]; dsimp only; rw [hr2]
      rw [hr2] at hm
      have HS : Hid _ := hs
      clear hr hr2 hs
      go_wp2_with fail
      refine hm.mono ?_
      rintro e w2 ⟨hK2, q, rfl, hq, hR⟩
      have hZ2 := hZ1.keepsF hK2 (by simpa using hgz)
      have K2 := K1.out.trans hK2
      have hzq : z ≠ q := by omega
      have HQ : Hid (w.heap.size ≤ q) := Nat.le_trans K1.out.size hq
      have K9 : Hid (Keep [g] w (w2.setRow z (fdA fdZ))) := K2.mine (by rw [HZ.out]; exact Nat.le_refl _) _
      have hR9 : Hid (RowC (w2.setRow z (fdA fdZ)) q (ftA p.1 p.2)) := hR.setRow_ne _ hzq.symm
      have hZ9 : Hid (RowC (w2.setRow z (fdA fdZ)) z (fdA fdZ)) := hZ2.setRow _
      have st := run_store_fd w2 z (fdA fdZ) hZ2.1 (by rw [hZ2.2]; rfl) rfl (fdA_one _)
      clear hm hZ1 hK2 hR hq K2 hZ2
      go_wp2
      (try simp only [Exit.inBlock, Exit.then])
      refine fd_ret2 2 3 z _ rfl rfl rfl hZ9.out (fdA_size _) ?_
      rw [HS.out]
      exact ⟨K9.out, q, rfl, HQ.out, hR9.out⟩
    | ok p =>
      obtain ⟨v2, j2⟩ := p
      have hs : rdF b i = .ok (((v : Int), (v2 : Int)), j2) := by unfold rdF; rw [hr]; dsimp only; rw [hr2]
      rw [hr2] at hm
      have HS : Hid _ := hs
      clear hr hr2 hs
      go_wp2_with fail
      refine hm.mono ?_
      rintro e w2 ⟨hK2, rfl, hR⟩
      have hZ2 := hZ1.keepsF hK2 (by simpa using hgz)
      have K2 := K1.out.trans hK2
      have K9 : Hid (Keep [g] w (w2.setRow z (fdA ((v : Int), (v2 : Int))))) := K2.mine (by rw [HZ.out]; exact Nat.le_refl _) _
      have hX9 : Hid (Keep [z] w2 (w2.setRow z (fdA ((v : Int), (v2 : Int))))) := Keep.mine1 _ _ _
      have hR9 : Hid (RdI (w2.setRow z (fdA ((v : Int), (v2 : Int)))) g x n c b j2) := hR.apart hX9.out (by simp only [List.mem_singleton]; exact fun e => hgz e.symm) (HF.out HP.out)
      have hZ9 : Hid (RowC (w2.setRow z (fdA ((v : Int), (v2 : Int)))) z (fdA ((v : Int), (v2 : Int)))) := hZ2.setRow _
      have st := run_store_fd w2 z (fdA ((v : Int), (v2 : Int))) hZ2.1 (by rw [hZ2.2]; rfl) rfl (fdA_one _)
      clear hm hZ1 hK2 hR K2 hZ2
      go_wp2
      (try simp only [Exit.inBlock, Exit.then])
      refine fd_ret2 2 3 z _ rfl rfl rfl hZ9.out (fdA_size _) ?_
      rw [HS.out]
      exact ⟨K9.out, rfl, hR9.out⟩
end Go.Proofs.YtklbdhpnbjhgkaaGreatDoor
