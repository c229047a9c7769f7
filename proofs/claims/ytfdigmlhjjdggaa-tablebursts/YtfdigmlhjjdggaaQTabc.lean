import Derived.Test.YtfdigmlhjjdggaaQTabb
import Derived.Test.YtfdigmlhjjdggaaQOpenTab
import Derived.Test.YtfdigmlhjjdggaaQKn9
namespace Go.Proofs.Ytfdigmlhjjdggaa
open Go.RowKit

/-! TableBursts -/
def PB17 (q m : Nat) (i : Nat) : Bool := m.testBit i && decide (q + i < 512)
theorem and_bit17 (pat i : Nat) (h : pat < 4294967296) : bits .and .u32 ((pat : Int) / (2 : Int) ^ i) 1 = bif pat.testBit i then 1 else 0 := by
  have e1 : (pat : Int) / (2 : Int) ^ i = ((pat / 2 ^ i : Nat) : Int) := by simp
  have h2 : pat / 2 ^ i < 4294967296 := Nat.lt_of_le_of_lt (Nat.div_le_self _ _) h
  have e := u32_and_nat (pat / 2 ^ i) 1 h2 (by omega)
  rw [show ((1 : Nat) : Int) = 1 from rfl] at e
  rw [e1, e, Nat.and_one_is_mod, Nat.testBit_eq_decide_div_mod_eq]
  rcases Nat.mod_two_eq_zero_or_one (pat / 2 ^ i) with h3 | h3 <;> simp [h3]
theorem oneAt_nat17 (q : Nat) : (oneAt q).toNat = 2 ^ (q % 8) := by
  unfold oneAt
  have : ∀ r : Fin 8, (UInt8.ofNat (2 ^ r.val)).toNat = 2 ^ r.val := by decide
  exact this ⟨q % 8, by omega⟩
theorem xor817 (a b : UInt8) : bits .xor .u8 (a.toNat : Int) (b.toNat : Int) = ((a ^^^ b).toNat : Int) := by
  rw [u8_xor_nat _ _ a.toNat_lt b.toNat_lt, UInt8.toNat_xor]
theorem burst17 {B : Sc} {q m : Nat} (hq : q ≤ 511) (hm : m.testBit 0 = true) : isSl (turnS (sealS B) (PB17 q m) q 32) = false := by
  have h := turn_sealed B (PB17 q m) q (fun i h => by unfold PB17 at h; simp at h; exact h.2)
  have ha : anyP (PB17 q m) 32 = true := (anyP_iff _ _).2 ⟨0, by omega, by unfold PB17; rw [hm, decide_eq_true (by omega)]; rfl⟩
  rw [ha] at h
  exact h
theorem told17 {T : Sc} (h : isSl T = false) : gtK T ≠ 2 ∧ gsK T ≠ 2 ∧ gcB T 15 = false := by
  refine ⟨fun h2 => ?_, fun h2 => ?_, ?_⟩
  · unfold gtK at h2
    cases hz : secEq T secZ
    · rw [hz, cond_false] at h2
      cases hr : tgR T
      · rw [hr, cond_false] at h2; exact absurd h2 (by decide)
      · rw [(tgR_sl hr).1] at h; cases h
    · rw [hz, cond_true] at h2; exact absurd h2 (by decide)
  · unfold gsK at h2
    cases hz : secEq T secZ
    · rw [hz, cond_false] at h2
      cases hr : snR T
      · rw [hr, cond_false] at h2; exact absurd h2 (by decide)
      · rw [(snR_sl hr).1] at h; cases h
    · rw [hz, cond_true] at h2; exact absurd h2 (by decide)
  · cases hr : gcB T 15
    · rfl
    · rw [gcB_sl hr] at h; cases h
theorem or_one17 (v : Nat) (h : v < 4294967296) : bits .or .u32 (v : Int) 1 = ((v ||| 1 : Nat) : Int) := u32_or_nat v 1 h (by omega)
theorem or_one_lt17 (v : Nat) (h : v < 4294967296) : v ||| 1 < 4294967296 := Nat.or_lt_two_pow (n := 32) h (by decide)
theorem or_one_bit17 (v : Nat) : (v ||| 1).testBit 0 = true := by simp
/-- Blocks below B stay, and every row stays a row of its length. -/
structure KT (B : Nat) (w w' : World) : Prop where
  kn : KN9 B w w'
  row : ∀ g, rowL w g = true → rowL w' g = true ∧ (rowAt w' g).size = (rowAt w g).size
theorem KT.of_below {B : Nat} {w w' : World} (h : Below w.heap.size w w') : KT B w w' := ⟨KN9.of_below h, fun g hg => by
  have h2 : RowC w' g (rowAt w g) := RowC.kept ⟨hg, rfl⟩ h
  exact ⟨h2.1, by rw [h2.2]⟩⟩
theorem KT.below {w w' : World} (h : KT w.heap.size w w') : Below w.heap.size w w' := h.kn.below
theorem kokT {B : Nat} : KOk (KT B) := ⟨fun h => KT.of_below h, fun h k => ⟨h.kn.trans k.kn, fun g hg => ⟨(k.row g (h.row g hg).1).1, by rw [(k.row g (h.row g hg).1).2, (h.row g hg).2]⟩⟩⟩
theorem KT.setRow {B : Nat} {w : World} {g : Nat} {c : Array Value} (hg : B ≤ g) (hr : rowL w g = true) (hc : (rowAt w g).size = c.size) : KT B w (w.setRow g c) := ⟨KN9.setRow hg, fun k hk => by
  by_cases e : k = g
  · subst e
    exact ⟨rowL_setRow_same _ _ _ hr, by rw [rowAt_setRow_L _ _ _ hr, hc]⟩
  · have h2 : RowC (w.setRow g c) k (rowAt w k) := RowC.setRow_ne ⟨hk, rfl⟩ c e
    exact ⟨h2.1, by rw [h2.2]⟩⟩
def BuI (B : Nat) (A1 : Array Value) : List Value → World → Prop
  | [], _ => True
  | [v], x => ∃ g7, v = .pointer (some ⟨g7, 0, none⟩) ∧ B ≤ g7 ∧ RowC x g7 (tgA tgZ)
  | v :: _, x => ∃ g7, v = .pointer (some ⟨g7, 0, none⟩) ∧ B ≤ g7 ∧ RowC x g7 A1
theorem BuI_later (B : Nat) (A1 : Array Value) : ∀ vs w w', BuI B A1 vs w → Below w.heap.size w w' → BuI B A1 vs w'
  | [], _, _, _, _ => trivial
  | [_], _, _, ⟨g5, h1, h2, h3⟩, hb => ⟨g5, h1, h2, h3.kept hb⟩
  | _ :: _ :: _, _, _, ⟨g5, h1, h2, h3⟩, hb => ⟨g5, h1, h2, h3.kept hb⟩
@[go_sem] theorem run_load_tg67 (w : World) (g : Nat) (h : rowL w g = true) (hs : (rowAt w g).size = 67) : (bigLoad 25 (.pointer (some ⟨g, 0, none⟩))).run Try.prog w = .ok (.value (.agg ((rowAt w g).extract 0 33))) w := by
  rw [run_bigLoad 25 _ 33 Try.underlying25 rfl sizeT_tg w g 0 h (by omega), Nat.zero_add]
@[go_sem] theorem run_load_sn67 (w : World) (g : Nat) (h : rowL w g = true) (hs : (rowAt w g).size = 67) : (bigLoad 28 (.pointer (some ⟨g, 33, none⟩))).run Try.prog w = .ok (.value (.agg ((rowAt w g).extract 33 67))) w := by
  rw [run_bigLoad 28 _ 34 Try.underlying28 rfl sizeT_sn w g 33 h (by omega)]
theorem app17 (W : World) (B : Nat) (xu : Option Addr) (nu cu : Nat) (du : List Sc) (d : Sc) (h : OwnK secE W B (.slice xu nu cu) du) (hB : B ≤ W.heap.size) (hn : du.length = nu) (hs : nu ≤ 1000) :
    ∃ g c' w', (Builtin.append_ #[33, 33] 33 #[.slice xu nu cu, .slice (some ⟨W.heap.size, 0, none⟩) 1 1]).run Try.prog (W.alloc (.cells (secA d) 35)) = .ok (.slice (some ⟨g, 0, none⟩) (nu + 1) c') w' ∧
      OwnK secE w' B (.slice (some ⟨g, 0, none⟩) (nu + 1) c') (du ++ [d]) ∧ Below B W w' ∧ ∀ k A, RowC W k A → (Value.slice xu nu cu).ownBlock ≠ some k → RowC w' k A := by
  subst hn
  have hA : Below W.heap.size W (W.alloc (.cells (secA d) 35)) := below_alloc _ _
  obtain ⟨g, c', w', hr, hO, -, hg, -⟩ := run_app1K secE_ok (W.alloc (.cells (secA d) 35)) B W.heap.size (.slice xu du.length cu) du d 33 (h.keep hA) (newSc W d) (by simp) (by show (du.length + 1) * 64 ≤ _; omega) (by unfold maxLen; omega) (by simp; omega)
  exact ⟨g, c', w', hr, hO, (hA.mono hB).trans ((h.keep hA).below hg (by simp; omega)), fun k A hk hne => (hk.kept hA).block (hg.block k (hk.kept hA).lt (fun e => hne e.symm))⟩
theorem btA_size (nm : ByteArray) (key : Nat → UInt8) (a b : Nat) (ly : Nat → UInt8) : (btA nm key a b ly).size = 67 := by unfold btA; rw [Array.size_append, tgA_size, snA_size]
theorem btA_tag (nm : ByteArray) (key : Nat → UInt8) (a b : Nat) (ly : Nat → UInt8) : (btA nm key a b ly).extract 0 33 = tgA ⟨nm, key⟩ := by
  unfold btA; rw [Array.extract_append]; simp [tgA_size]
theorem btA_snap (nm : ByteArray) (key : Nat → UInt8) (a b : Nat) (ly : Nat → UInt8) : (btA nm key a b ly).extract 33 67 = snA ⟨(a : Int), (b : Int), ly⟩ := by
  unfold btA; rw [Array.extract_append]; simp [tgA_size]
  rw [Array.extract_eq_empty_of_le (by omega), Array.empty_append, Array.extract_eq_self_of_le (by rw [snA_size]; omega)]
def Sealed17 (L : List Sc) : Prop := ∀ s ∈ L, ∃ B : Sc, s = sealS B
theorem Sealed17.add {L : List Sc} (h : Sealed17 L) (B : Sc) : Sealed17 (L ++ [sealS B]) := fun s hs => by
  rcases List.mem_append.1 hs with h1 | h1
  · exact h s h1
  · simp at h1; exact ⟨B, h1⟩
set_option linter.unusedSimpArgs false in
set_option linter.unusedVariables false in
set_option maxRecDepth 100000 in
set_option maxHeartbeats 16000000 in
theorem lawTableBursts_any (O : TabOk) (nm : ByteArray) (key : Nat → UInt8) (a b : Nat) (ly : Nat → UInt8) (l : List Nat) (x : Option Addr) (n c : Nat) (bit : Int) (w : World) (hnm : nm.size ≤ 9223372036854775807) (ha : a < 4294967296) (hb4 : b < 4294967296) (hn : l.length = n) (hnc : n ≤ c) (hn47 : n * 4 ≤ 140737488355328) (hv4 : ∀ (i : Nat) (v : Nat), l[i]? = some v → v < 4294967296) (hl : IsG w (.slice x n c) (uV l)) (hb0 : -9223372036854775808 ≤ bit) (hb1 : bit ≤ 9223372036854775807) :
    Calls Try.prog 3 #[.agg (btA nm key a b ly), .slice x n c, .int .i64 bit] w fun e w' => e = .returned (.bool true) ∧ Below w.heap.size w w' := by
  have kK := known17_any O
  have k1 := fun W => O.pt nm key W hnm
  have k3 := fun W => O.ps a b ly W ha hb4
  have kC := fun W (hb : Below w.heap.size w W) => O.pc l x n c W hn hnc (by omega) hv4 (hl.kept hb)
  have t1 : ptE (lS nm) = 0 → ∃ B, ptS (lS nm) key = sealS B := fun h => by
    unfold ptE at h
    unfold ptS
    cases hN : isN (lS nm)
    · rw [hN, cond_false] at h; exact absurd h (by decide)
    · exact ⟨_, rfl⟩
  have s1 : psE a = 0 → ∃ B, psS a b ly = sealS B := fun h => by
    unfold psE at h
    unfold psS
    cases hN : (a == 0)
    · exact ⟨_, rfl⟩
    · rw [hN, cond_true] at h; exact absurd h (by decide)
  have c1 : n < 16 → ∃ B, pcS l = sealS B := fun h => by
    unfold pcS
    rw [decide_eq_true (by omega)]
    exact ⟨_, rfl⟩
  generalize ptS (lS nm) key = P1 at k1 t1
  generalize psS a b ly = P2 at k3 s1
  generalize pcS l = P3 at kC c1
  generalize ptE (lS nm) = E1 at k1 t1
  generalize psE a = E2 at k3 s1
  generalize pcE l = E3 at kC
  obtain ⟨A1, hA1⟩ : ∃ q, tgA ⟨nm, key⟩ = q := ⟨_, rfl⟩
  obtain ⟨A2, hA2⟩ : ∃ q, snA ⟨(a : Int), (b : Int), ly⟩ = q := ⟨_, rfl⟩
  obtain ⟨A, hA⟩ : ∃ q, btA nm key a b ly = q := ⟨_, rfl⟩
  have z1 : A1.size = 33 := by rw [← hA1, tgA_size]
  have z2 : A2.size = 34 := by rw [← hA2, snA_size]
  have o1 : OneC A1 = true := by rw [← hA1, tgA_one]
  have o2 : OneC A2 = true := by rw [← hA2, snA_one]
  have zA : A.size = 67 := by rw [← hA, btA_size]
  have x1 : A.extract 0 33 = A1 := by rw [← hA, ← hA1, btA_tag]
  have x2 : A.extract 33 67 = A2 := by rw [← hA, ← hA2, btA_snap]
  simp only [hA1] at k1
  simp only [hA2] at k3
  rw [hA]
  clear hA hA1 hA2
  have hB := below_alloc w (.cells A 30)
  have hR3 : RowC (w.alloc (.cells A 30)) w.heap.size A := RowC.new _ _ _
  go_enter Try.func3, Try.ntmps3
  go_upto_region 1 with fail
  generalize w.alloc (.cells A 30) = X at hB hR3 ⊢
  obtain ⟨g3, hg3⟩ : ∃ q, w.heap.size = q := ⟨_, rfl⟩
  rw [hg3] at hR3
  simp only [hg3]
  have hl3 : w.heap.size ≤ g3 := by omega
  clear hg3
  refine wp_reliesI (kokT (B := X.heap.size)) (BuI X.heap.size A1) [4, 6] [none, none, none, none, some (0, [], []), none, some (1, [], [])] [Fx (.pointer (some ⟨g3, 0, none⟩)), Fx (.agg A1), Fx (.pointer (some ⟨g3, 33, none⟩)), Fx (.agg A2), fun _ _ => True, fun v x => ∃ g8, v = .pointer (some ⟨g8, 0, none⟩) ∧ X.heap.size ≤ g8 ∧ rowL x g8 = true ∧ (rowAt x g8).size = 34, fun _ _ => True] rfl (by decide) rfl (by kernel_rfl) (by kernel_rfl) (by kernel_rfl) trivial (BuI_later _ _) ?_ ?_ ?_ ?_
  · repeat' (first | exact all_nil | apply all_cons)
    all_goals intro v y y' hv hb
    all_goals first | exact Fx_mono _ _ _ _ hv hb | exact trivial | (obtain ⟨g8, h1, h2, h3, h4⟩ := hv; have h5 := (KT.of_below (B := 0) hb).row g8 h3; exact ⟨g8, h1, h2, h5.1, h5.2.trans h4⟩)
  · intro i9 f9 hf9 hl9 v y y' hv hb
    rcases i9 with _ | i9
    · first | (cases hl9; done) | (cases hf9; first | exact hv | exact trivial | (obtain ⟨g8, h1, h2, h3, h4⟩ := hv; have h5 := hb.row g8 h3; exact ⟨g8, h1, h2, h5.1, h5.2.trans h4⟩))
    rcases i9 with _ | i9
    · first | (cases hl9; done) | (cases hf9; first | exact hv | exact trivial | (obtain ⟨g8, h1, h2, h3, h4⟩ := hv; have h5 := hb.row g8 h3; exact ⟨g8, h1, h2, h5.1, h5.2.trans h4⟩))
    rcases i9 with _ | i9
    · first | (cases hl9; done) | (cases hf9; first | exact hv | exact trivial | (obtain ⟨g8, h1, h2, h3, h4⟩ := hv; have h5 := hb.row g8 h3; exact ⟨g8, h1, h2, h5.1, h5.2.trans h4⟩))
    rcases i9 with _ | i9
    · first | (cases hl9; done) | (cases hf9; first | exact hv | exact trivial | (obtain ⟨g8, h1, h2, h3, h4⟩ := hv; have h5 := hb.row g8 h3; exact ⟨g8, h1, h2, h5.1, h5.2.trans h4⟩))
    rcases i9 with _ | i9
    · first | (cases hl9; done) | (cases hf9; first | exact hv | exact trivial | (obtain ⟨g8, h1, h2, h3, h4⟩ := hv; have h5 := hb.row g8 h3; exact ⟨g8, h1, h2, h5.1, h5.2.trans h4⟩))
    rcases i9 with _ | i9
    · first | (cases hl9; done) | (cases hf9; first | exact hv | exact trivial | (obtain ⟨g8, h1, h2, h3, h4⟩ := hv; have h5 := hb.row g8 h3; exact ⟨g8, h1, h2, h5.1, h5.2.trans h4⟩))
    rcases i9 with _ | i9
    · first | (cases hl9; done) | (cases hf9; first | exact hv | exact trivial | (obtain ⟨g8, h1, h2, h3, h4⟩ := hv; have h5 := hb.row g8 h3; exact ⟨g8, h1, h2, h5.1, h5.2.trans h4⟩))
    · simp at hf9
  · refine ⟨?_, ?_, ?_, ?_, ?_, ?_, ?_, trivial⟩
    all_goals
      intro ρ x hk hat ρc ρg ρf ho hd
      have t3 : ρ (.tmp 3) = .pointer (some ⟨g3, 0, none⟩) := ho 3 rfl
      clear ho
      have hx := hR3.kept hk.below
      have kr := hx.1
      have ka := hx.2
      have ks : (rowAt x g3).size = 67 := by rw [ka]; exact zA
      simp only [depsR, depR, slotR, Fx, List.getElem?_cons_succ, List.getElem?_cons_zero, Region.binds, forall_const] at hd
      simp only [guardR, List.contains_cons, List.contains_nil, List.elem_cons, List.elem_nil, Nat.reduceBEq, Bool.or_false, Bool.false_or, Bool.or_true, Bool.true_or, cond_true, cond_false]
      go_split_ands
    · go_simp
    · go_simp
    · go_simp
    · go_simp
    · go_simp
      refine ⟨⟨trivial, x.heap.size, rfl, ?_, RowC.new x (tgA tgZ) 25⟩, KT.of_below (below_alloc _ _)⟩
      exact hk.below.size
    · go_simp
      exact ⟨hk.below.size, below_alloc _ _⟩
    · obtain ⟨g7, e7, hg7, hrc⟩ := hat
      simp only [valR, slotR, List.getElem?_cons_succ, List.getElem?_cons_zero] at e7
      have rok := hrc.1
      have rat := hrc.2
      have rsz : (rowAt x g7).size = 33 := by rw [rat]; exact tgA_size _
      have z9 := z1
      have z8 := o1
      go_simp
      refine ⟨⟨trivial, g7, ?_, hg7, rowL_setRow_same _ _ _ rok, rowAt_setRow_L _ _ _ rok⟩, KT.setRow hg7 rok (by rw [rsz, z1])⟩
      exact e7
  · intro vs x1 hk hw hI
    simp only [owed, Fx] at hw
    obtain ⟨e0, e1, e2, e3, e4, ⟨g8, e5, hg8, rl8, rs8⟩, e6, -⟩ := hw
    simp only [List.length_cons, List.length_nil, List.take_succ_cons, List.take_zero, List.drop_succ_cons, List.drop_zero, asg, List.cons_append, List.nil_append, e0, e1, e2, e3, e5]
    clear e0 e1 e2 e3 e5 e4 e6
    obtain ⟨g7, e4, hg7, hr7⟩ : ∃ g7, vs 4 = .pointer (some ⟨g7, 0, none⟩) ∧ X.heap.size ≤ g7 ∧ RowC x1 g7 A1 := hI
    simp only [e4]
    have hn78 : g7 ≠ g8 := fun e9 => by
      subst e9
      rw [hr7.2, z1] at rs8
      omega
    have hB1 := hB.trans (hk.below.mono hB.size)
    have hl8 : w.heap.size ≤ g8 := Nat.le_trans hB.size hg8
    have K8 : Hid (RowC (x1.setRow g8 A2) g8 A2) := RowC.setRow ⟨rl8, rfl⟩ A2
    have K7 : Hid (RowC (x1.setRow g8 A2) g7 A1) := hr7.setRow_ne A2 hn78
    have KB : Hid (Below w.heap.size w (x1.setRow g8 A2)) := below_row hB1 hl8 A2
    clear hk e4 hB hB1 hR3 hg7 hr7
    go_upto_region 2 with fail
    generalize x1.setRow g8 A2 = Y at K8 K7 KB ⊢
    have h7 := K7.out
    have h8 := K8.out
    have hB := KB.out
    clear K7 K8 KB rl8 rs8 hn78 hl8 hg8
    go_wp2_with fail
    refine (kK _).mono ?_
    rintro e w1 ⟨rfl, hb⟩
    replace h7 := h7.kept hb
    replace h8 := h8.kept hb
    replace hB := hB.trans (hb.mono hB.size)
    clear kK hb vs x1
    go_upto_region 4 with fail
    rename_i Q1 K1 hK1 K2 hK2
    have hA : ∀ (q : Nat) (hq : q ≤ 511) (a0 a3 a4 a5 a6 a9 a10 a11 a12 a13 a14 a15 a16 a17 a18 a19 a20 a21 a22 a23 a24 a25 a26 a27 a28 a29 a30 a31 a32 a33 a34 a35 a36 a37 a38 a39 a40 a41 a42 a43 a44 a45 a46 a47 a48 a49 a50 a51 a52 a53 a54 a55 a56 a57 a58 a59 a60 a61 a62 a63 a64 a65 a66 a67 a68 a69 a70 a71 a72 a73 a74 a75 a76 a77 a78 a79 a80 a81 a82 a83 a84 a85 a86 a87 a88 a89 a90 a91 a92 a93 a94 a95 a96 a97 a98 a99 a100 a101 a102 a103 a104 a105 a106 a107 a108 a109 a110 a111 a112 a113 a114 a115 a116 a117 a118 a119 a120 a121 a122 a123 a124 a125 a126 a127 a128 a129 a130 a131 a132 a133 a134 a135 a136 a137 a138 a139 a140 a141 a142 : Value), K1 { tmps := #[a0, .slice x n c, .int .i64 ((q : Int)), a3, a4, a5, a6, .pointer (some ⟨g7, 0, none⟩), .pointer (some ⟨g8, 0, none⟩), a9, a10, a11, a12, a13, a14, a15, a16, a17, a18, a19, a20, a21, a22, a23, a24, a25, a26, a27, a28, a29, a30, a31, a32, a33, a34, a35, a36, a37, a38, a39, a40, a41, a42, a43, a44, a45, a46, a47, a48, a49, a50, a51, a52, a53, a54, a55, a56, a57, a58, a59, a60, a61, a62, a63, a64, a65, a66, a67, a68, a69, a70, a71, a72, a73, a74, a75, a76, a77, a78, a79, a80, a81, a82, a83, a84, a85, a86, a87, a88, a89, a90, a91, a92, a93, a94, a95, a96, a97, a98, a99, a100, a101, a102, a103, a104, a105, a106, a107, a108, a109, a110, a111, a112, a113, a114, a115, a116, a117, a118, a119, a120, a121, a122, a123, a124, a125, a126, a127, a128, a129, a130, a131, a132, a133, a134, a135, a136, a137, a138, a139, a140, a141, a142], defers := [] } w1 := by
      intro q hq a0 a3 a4 a5 a6 a9 a10 a11 a12 a13 a14 a15 a16 a17 a18 a19 a20 a21 a22 a23 a24 a25 a26 a27 a28 a29 a30 a31 a32 a33 a34 a35 a36 a37 a38 a39 a40 a41 a42 a43 a44 a45 a46 a47 a48 a49 a50 a51 a52 a53 a54 a55 a56 a57 a58 a59 a60 a61 a62 a63 a64 a65 a66 a67 a68 a69 a70 a71 a72 a73 a74 a75 a76 a77 a78 a79 a80 a81 a82 a83 a84 a85 a86 a87 a88 a89 a90 a91 a92 a93 a94 a95 a96 a97 a98 a99 a100 a101 a102 a103 a104 a105 a106 a107 a108 a109 a110 a111 a112 a113 a114 a115 a116 a117 a118 a119 a120 a121 a122 a123 a124 a125 a126 a127 a128 a129 a130 a131 a132 a133 a134 a135 a136 a137 a138 a139 a140 a141 a142
      refine hK1 _ _ ?_
      clear hK1 hK2 hb0 hb1
      go_upto_region 7 with fail
      rename_i K3 hK3 K4 hK4
      have hBp : ∀ (m : Nat) (hm : m < 4294967296) (hm0 : m.testBit 0 = true) (b0 b3 b4 b5 b6 b10 b11 b12 b13 b14 b15 b16 b17 b18 b19 b20 b21 b22 b23 b24 b25 b26 b27 b28 b29 b30 b31 b32 b33 b34 b35 b36 b37 b38 b39 b40 b41 b42 b43 b44 b45 b46 b47 b48 b49 b50 b51 b52 b53 b54 b55 b56 b57 b58 b59 b60 b61 b62 b63 b64 b65 b66 b67 b68 b69 b70 b71 b72 b73 b74 b75 b76 b77 b78 b79 b80 b81 b82 b83 b84 b85 b86 b87 b88 b89 b90 b91 b92 b93 b94 b95 b96 b97 b98 b99 b100 b101 b102 b103 b104 b105 b106 b107 b108 b109 b110 b111 b112 b113 b114 b115 b116 b117 b118 b119 b120 b121 b122 b123 b124 b125 b126 b127 b128 b129 b130 b131 b132 b133 b134 b135 b136 b137 b138 b139 b140 b141 b142 : Value), K3 { tmps := #[b0, .slice x n c, .int .i64 ((q : Int)), b3, b4, b5, b6, .pointer (some ⟨g7, 0, none⟩), .pointer (some ⟨g8, 0, none⟩), .int .u32 (m : Int), b10, b11, b12, b13, b14, b15, b16, b17, b18, b19, b20, b21, b22, b23, b24, b25, b26, b27, b28, b29, b30, b31, b32, b33, b34, b35, b36, b37, b38, b39, b40, b41, b42, b43, b44, b45, b46, b47, b48, b49, b50, b51, b52, b53, b54, b55, b56, b57, b58, b59, b60, b61, b62, b63, b64, b65, b66, b67, b68, b69, b70, b71, b72, b73, b74, b75, b76, b77, b78, b79, b80, b81, b82, b83, b84, b85, b86, b87, b88, b89, b90, b91, b92, b93, b94, b95, b96, b97, b98, b99, b100, b101, b102, b103, b104, b105, b106, b107, b108, b109, b110, b111, b112, b113, b114, b115, b116, b117, b118, b119, b120, b121, b122, b123, b124, b125, b126, b127, b128, b129, b130, b131, b132, b133, b134, b135, b136, b137, b138, b139, b140, b141, b142], defers := [] } w1 := by
        intro m hm hm0 b0 b3 b4 b5 b6 b10 b11 b12 b13 b14 b15 b16 b17 b18 b19 b20 b21 b22 b23 b24 b25 b26 b27 b28 b29 b30 b31 b32 b33 b34 b35 b36 b37 b38 b39 b40 b41 b42 b43 b44 b45 b46 b47 b48 b49 b50 b51 b52 b53 b54 b55 b56 b57 b58 b59 b60 b61 b62 b63 b64 b65 b66 b67 b68 b69 b70 b71 b72 b73 b74 b75 b76 b77 b78 b79 b80 b81 b82 b83 b84 b85 b86 b87 b88 b89 b90 b91 b92 b93 b94 b95 b96 b97 b98 b99 b100 b101 b102 b103 b104 b105 b106 b107 b108 b109 b110 b111 b112 b113 b114 b115 b116 b117 b118 b119 b120 b121 b122 b123 b124 b125 b126 b127 b128 b129 b130 b131 b132 b133 b134 b135 b136 b137 b138 b139 b140 b141 b142
        refine hK3 _ _ ?_
        clear hK3 hK4
        clear a0 a3 a4 a5 a6 a9 a10 a11 a12 a13 a14 a15 a16 a17 a18 a19 a20 a21 a22 a23 a24 a25 a26 a27 a28 a29 a30 a31 a32 a33 a34 a35 a36 a37 a38 a39 a40 a41 a42 a43 a44 a45 a46 a47 a48 a49 a50 a51 a52 a53 a54 a55 a56 a57 a58 a59 a60 a61 a62 a63 a64 a65 a66 a67 a68 a69 a70 a71 a72 a73 a74 a75 a76 a77 a78 a79 a80 a81 a82 a83 a84 a85 a86 a87 a88 a89 a90 a91 a92 a93 a94 a95 a96 a97 a98 a99 a100 a101 a102 a103 a104 a105 a106 a107 a108 a109 a110 a111 a112 a113 a114 a115 a116 a117 a118 a119 a120 a121 a122 a123 a124 a125 a126 a127 a128 a129 a130 a131 a132 a133 a134 a135 a136 a137 a138 a139 a140 a141 a142
        have h7' := h7
        obtain ⟨r7, q7⟩ := h7'
        go_wp2_with fail
        refine (k1 _).mono ?_
        rintro e w2 ⟨rfl, hb⟩
        have h11 : ScR (w2.alloc (.cells (secA P1) 35)) w2.heap.size P1 := ScR.new _ _ _
        replace h8 := (h8.kept hb).kept (below_alloc w2 (.cells (secA P1) 35))
        replace hB := hB.trans (hb.mono hB.size)
        replace hB := hB.alloc hB.size (.cells (secA P1) 35)
        clear k1 hb r7 q7
        go_upto_region 11 with fail
        generalize w2.alloc (.cells (secA P1) 35) = X2 at h11 hB h8 ⊢
        generalize w2.heap.size = g11 at h11 ⊢
        rename_i K5 hK5 K6 hK6
        have hC : ∀ (W : World) (L : List Sc) (xl : Option Addr) (nl cl : Nat) (hL : Sealed17 L) (hlen : L.length = nl) (hnl : nl ≤ 1) (oL : OwnK secE W w.heap.size (.slice xl nl cl) L) (hB : Below w.heap.size w W) (h8 : RowC W g8 A2) (c0 c3 c4 c5 c6 c7 c11 c12 c13 c14 c15 c16 c17 c18 c19 c20 c21 c22 c23 c24 c25 c26 c27 c28 c29 c30 c31 c32 c33 c34 c35 c36 c37 c38 c39 c40 c41 c42 c43 c44 c45 c46 c47 c48 c49 c50 c51 c52 c53 c54 c55 c56 c57 c58 c59 c60 c61 c62 c63 c64 c65 c66 c67 c68 c69 c70 c71 c72 c73 c74 c75 c76 c77 c78 c79 c80 c81 c82 c83 c84 c85 c86 c87 c88 c89 c90 c91 c92 c93 c94 c95 c96 c97 c98 c99 c100 c101 c102 c103 c104 c105 c106 c107 c108 c109 c110 c111 c112 c113 c114 c115 c116 c117 c118 c119 c120 c121 c122 c123 c124 c125 c126 c127 c128 c129 c130 c131 c132 c133 c134 c135 c136 c137 c138 c139 c140 c141 c142 : Value), K5 { tmps := #[c0, .slice x n c, .int .i64 ((q : Int)), c3, c4, c5, c6, c7, .pointer (some ⟨g8, 0, none⟩), .int .u32 (m : Int), .slice xl nl cl, c11, c12, c13, c14, c15, c16, c17, c18, c19, c20, c21, c22, c23, c24, c25, c26, c27, c28, c29, c30, c31, c32, c33, c34, c35, c36, c37, c38, c39, c40, c41, c42, c43, c44, c45, c46, c47, c48, c49, c50, c51, c52, c53, c54, c55, c56, c57, c58, c59, c60, c61, c62, c63, c64, c65, c66, c67, c68, c69, c70, c71, c72, c73, c74, c75, c76, c77, c78, c79, c80, c81, c82, c83, c84, c85, c86, c87, c88, c89, c90, c91, c92, c93, c94, c95, c96, c97, c98, c99, c100, c101, c102, c103, c104, c105, c106, c107, c108, c109, c110, c111, c112, c113, c114, c115, c116, c117, c118, c119, c120, c121, c122, c123, c124, c125, c126, c127, c128, c129, c130, c131, c132, c133, c134, c135, c136, c137, c138, c139, c140, c141, c142], defers := [] } W := by
          clear h7 h8 h11 hB
          intro W L xl nl cl hL hlen hnl oL hB h8 c0 c3 c4 c5 c6 c7 c11 c12 c13 c14 c15 c16 c17 c18 c19 c20 c21 c22 c23 c24 c25 c26 c27 c28 c29 c30 c31 c32 c33 c34 c35 c36 c37 c38 c39 c40 c41 c42 c43 c44 c45 c46 c47 c48 c49 c50 c51 c52 c53 c54 c55 c56 c57 c58 c59 c60 c61 c62 c63 c64 c65 c66 c67 c68 c69 c70 c71 c72 c73 c74 c75 c76 c77 c78 c79 c80 c81 c82 c83 c84 c85 c86 c87 c88 c89 c90 c91 c92 c93 c94 c95 c96 c97 c98 c99 c100 c101 c102 c103 c104 c105 c106 c107 c108 c109 c110 c111 c112 c113 c114 c115 c116 c117 c118 c119 c120 c121 c122 c123 c124 c125 c126 c127 c128 c129 c130 c131 c132 c133 c134 c135 c136 c137 c138 c139 c140 c141 c142
          refine hK5 _ _ ?_
          clear hK5 hK6 t1
          clear b0 b3 b4 b5 b6 b10 b11 b12 b13 b14 b15 b16 b17 b18 b19 b20 b21 b22 b23 b24 b25 b26 b27 b28 b29 b30 b31 b32 b33 b34 b35 b36 b37 b38 b39 b40 b41 b42 b43 b44 b45 b46 b47 b48 b49 b50 b51 b52 b53 b54 b55 b56 b57 b58 b59 b60 b61 b62 b63 b64 b65 b66 b67 b68 b69 b70 b71 b72 b73 b74 b75 b76 b77 b78 b79 b80 b81 b82 b83 b84 b85 b86 b87 b88 b89 b90 b91 b92 b93 b94 b95 b96 b97 b98 b99 b100 b101 b102 b103 b104 b105 b106 b107 b108 b109 b110 b111 b112 b113 b114 b115 b116 b117 b118 b119 b120 b121 b122 b123 b124 b125 b126 b127 b128 b129 b130 b131 b132 b133 b134 b135 b136 b137 b138 b139 b140 b141 b142
          have h8' := h8
          obtain ⟨r8, q8⟩ := h8'
          go_wp2_with fail
          refine (k3 _).mono ?_
          rintro e w2 ⟨rfl, hb⟩
          have h13 : ScR (w2.alloc (.cells (secA P2) 35)) w2.heap.size P2 := ScR.new _ _ _
          replace hB := hB.trans (hb.mono hB.size)
          replace oL := (oL.keep hb).keep (below_alloc w2 (.cells (secA P2) 35))
          replace hB := hB.alloc hB.size (.cells (secA P2) 35)
          clear k3 hb r8 q8
          go_upto_region 14 with fail
          generalize w2.alloc (.cells (secA P2) 35) = X4 at h13 hB oL ⊢
          generalize w2.heap.size = g13 at h13 ⊢
          rename_i K7 hK7 K8 hK8
          have hD : ∀ (W : World) (L : List Sc) (xl : Option Addr) (nl cl : Nat) (hL : Sealed17 L) (hlen : L.length = nl) (hnl : nl ≤ 2) (oL : OwnK secE W w.heap.size (.slice xl nl cl) L) (hB : Below w.heap.size w W) (d0 d3 d4 d5 d6 d7 d8 d11 d12 d13 d14 d15 d16 d17 d18 d19 d20 d21 d22 d23 d24 d25 d26 d27 d28 d29 d30 d31 d32 d33 d34 d35 d36 d37 d38 d39 d40 d41 d42 d43 d44 d45 d46 d47 d48 d49 d50 d51 d52 d53 d54 d55 d56 d57 d58 d59 d60 d61 d62 d63 d64 d65 d66 d67 d68 d69 d70 d71 d72 d73 d74 d75 d76 d77 d78 d79 d80 d81 d82 d83 d84 d85 d86 d87 d88 d89 d90 d91 d92 d93 d94 d95 d96 d97 d98 d99 d100 d101 d102 d103 d104 d105 d106 d107 d108 d109 d110 d111 d112 d113 d114 d115 d116 d117 d118 d119 d120 d121 d122 d123 d124 d125 d126 d127 d128 d129 d130 d131 d132 d133 d134 d135 d136 d137 d138 d139 d140 d141 d142 : Value), K7 { tmps := #[d0, .slice x n c, .int .i64 ((q : Int)), d3, d4, d5, d6, d7, d8, .int .u32 (m : Int), .slice xl nl cl, d11, d12, d13, d14, d15, d16, d17, d18, d19, d20, d21, d22, d23, d24, d25, d26, d27, d28, d29, d30, d31, d32, d33, d34, d35, d36, d37, d38, d39, d40, d41, d42, d43, d44, d45, d46, d47, d48, d49, d50, d51, d52, d53, d54, d55, d56, d57, d58, d59, d60, d61, d62, d63, d64, d65, d66, d67, d68, d69, d70, d71, d72, d73, d74, d75, d76, d77, d78, d79, d80, d81, d82, d83, d84, d85, d86, d87, d88, d89, d90, d91, d92, d93, d94, d95, d96, d97, d98, d99, d100, d101, d102, d103, d104, d105, d106, d107, d108, d109, d110, d111, d112, d113, d114, d115, d116, d117, d118, d119, d120, d121, d122, d123, d124, d125, d126, d127, d128, d129, d130, d131, d132, d133, d134, d135, d136, d137, d138, d139, d140, d141, d142], defers := [] } W := by
            clear oL hB hnl hL hlen
            clear h13 h8
            clear L xl nl cl
            intro W L xl nl cl hL hlen hnl oL hB d0 d3 d4 d5 d6 d7 d8 d11 d12 d13 d14 d15 d16 d17 d18 d19 d20 d21 d22 d23 d24 d25 d26 d27 d28 d29 d30 d31 d32 d33 d34 d35 d36 d37 d38 d39 d40 d41 d42 d43 d44 d45 d46 d47 d48 d49 d50 d51 d52 d53 d54 d55 d56 d57 d58 d59 d60 d61 d62 d63 d64 d65 d66 d67 d68 d69 d70 d71 d72 d73 d74 d75 d76 d77 d78 d79 d80 d81 d82 d83 d84 d85 d86 d87 d88 d89 d90 d91 d92 d93 d94 d95 d96 d97 d98 d99 d100 d101 d102 d103 d104 d105 d106 d107 d108 d109 d110 d111 d112 d113 d114 d115 d116 d117 d118 d119 d120 d121 d122 d123 d124 d125 d126 d127 d128 d129 d130 d131 d132 d133 d134 d135 d136 d137 d138 d139 d140 d141 d142
            refine hK7 _ _ ?_
            clear hK7 hK8 s1
            clear c0 c3 c4 c5 c6 c7 c11 c12 c13 c14 c15 c16 c17 c18 c19 c20 c21 c22 c23 c24 c25 c26 c27 c28 c29 c30 c31 c32 c33 c34 c35 c36 c37 c38 c39 c40 c41 c42 c43 c44 c45 c46 c47 c48 c49 c50 c51 c52 c53 c54 c55 c56 c57 c58 c59 c60 c61 c62 c63 c64 c65 c66 c67 c68 c69 c70 c71 c72 c73 c74 c75 c76 c77 c78 c79 c80 c81 c82 c83 c84 c85 c86 c87 c88 c89 c90 c91 c92 c93 c94 c95 c96 c97 c98 c99 c100 c101 c102 c103 c104 c105 c106 c107 c108 c109 c110 c111 c112 c113 c114 c115 c116 c117 c118 c119 c120 c121 c122 c123 c124 c125 c126 c127 c128 c129 c130 c131 c132 c133 c134 c135 c136 c137 c138 c139 c140 c141 c142
            go_upto_region 16 with fail
            rename_i K9 hK9 K10 hK10
            have hE : ∀ (W : World) (L : List Sc) (xl : Option Addr) (nl cl : Nat) (hL : Sealed17 L) (hlen : L.length = nl) (hnl : nl ≤ 3) (oL : OwnK secE W w.heap.size (.slice xl nl cl) L) (hB : Below w.heap.size w W) (e0 e1 e3 e4 e5 e6 e7 e8 e11 e12 e13 e14 e15 e16 e17 e18 e19 e20 e21 e22 e23 e24 e25 e26 e27 e28 e29 e30 e31 e32 e33 e34 e35 e36 e37 e38 e39 e40 e41 e42 e43 e44 e45 e46 e47 e48 e49 e50 e51 e52 e53 e54 e55 e56 e57 e58 e59 e60 e61 e62 e63 e64 e65 e66 e67 e68 e69 e70 e71 e72 e73 e74 e75 e76 e77 e78 e79 e80 e81 e82 e83 e84 e85 e86 e87 e88 e89 e90 e91 e92 e93 e94 e95 e96 e97 e98 e99 e100 e101 e102 e103 e104 e105 e106 e107 e108 e109 e110 e111 e112 e113 e114 e115 e116 e117 e118 e119 e120 e121 e122 e123 e124 e125 e126 e127 e128 e129 e130 e131 e132 e133 e134 e135 e136 e137 e138 e139 e140 e141 e142 : Value), K9 { tmps := #[e0, e1, .int .i64 ((q : Int)), e3, e4, e5, e6, e7, e8, .int .u32 (m : Int), .slice xl nl cl, e11, e12, e13, e14, e15, e16, e17, e18, e19, e20, e21, e22, e23, e24, e25, e26, e27, e28, e29, e30, e31, e32, e33, e34, e35, e36, e37, e38, e39, e40, e41, e42, e43, e44, e45, e46, e47, e48, e49, e50, e51, e52, e53, e54, e55, e56, e57, e58, e59, e60, e61, e62, e63, e64, e65, e66, e67, e68, e69, e70, e71, e72, e73, e74, e75, e76, e77, e78, e79, e80, e81, e82, e83, e84, e85, e86, e87, e88, e89, e90, e91, e92, e93, e94, e95, e96, e97, e98, e99, e100, e101, e102, e103, e104, e105, e106, e107, e108, e109, e110, e111, e112, e113, e114, e115, e116, e117, e118, e119, e120, e121, e122, e123, e124, e125, e126, e127, e128, e129, e130, e131, e132, e133, e134, e135, e136, e137, e138, e139, e140, e141, e142], defers := [] } W := by
              clear oL hB hnl hL hlen
              clear L xl nl cl
              intro W L xl nl cl hL hlen hnl oL hB e0 e1 e3 e4 e5 e6 e7 e8 e11 e12 e13 e14 e15 e16 e17 e18 e19 e20 e21 e22 e23 e24 e25 e26 e27 e28 e29 e30 e31 e32 e33 e34 e35 e36 e37 e38 e39 e40 e41 e42 e43 e44 e45 e46 e47 e48 e49 e50 e51 e52 e53 e54 e55 e56 e57 e58 e59 e60 e61 e62 e63 e64 e65 e66 e67 e68 e69 e70 e71 e72 e73 e74 e75 e76 e77 e78 e79 e80 e81 e82 e83 e84 e85 e86 e87 e88 e89 e90 e91 e92 e93 e94 e95 e96 e97 e98 e99 e100 e101 e102 e103 e104 e105 e106 e107 e108 e109 e110 e111 e112 e113 e114 e115 e116 e117 e118 e119 e120 e121 e122 e123 e124 e125 e126 e127 e128 e129 e130 e131 e132 e133 e134 e135 e136 e137 e138 e139 e140 e141 e142
              refine hK9 _ _ ?_
              clear hK9 hK10 kC c1
              clear d0 d3 d4 d5 d6 d7 d8 d11 d12 d13 d14 d15 d16 d17 d18 d19 d20 d21 d22 d23 d24 d25 d26 d27 d28 d29 d30 d31 d32 d33 d34 d35 d36 d37 d38 d39 d40 d41 d42 d43 d44 d45 d46 d47 d48 d49 d50 d51 d52 d53 d54 d55 d56 d57 d58 d59 d60 d61 d62 d63 d64 d65 d66 d67 d68 d69 d70 d71 d72 d73 d74 d75 d76 d77 d78 d79 d80 d81 d82 d83 d84 d85 d86 d87 d88 d89 d90 d91 d92 d93 d94 d95 d96 d97 d98 d99 d100 d101 d102 d103 d104 d105 d106 d107 d108 d109 d110 d111 d112 d113 d114 d115 d116 d117 d118 d119 d120 d121 d122 d123 d124 d125 d126 d127 d128 d129 d130 d131 d132 d133 d134 d135 d136 d137 d138 d139 d140 d141 d142
              have hn64 : (nl : Int) ≤ 3 := by omega
              go_wp2_with fail
              go_loopw [17] (fun iv wr => ∃ i : Nat, i ≤ nl ∧ iv = .int .i64 i ∧ OwnK secE wr w.heap.size (.slice xl nl cl) L ∧ Below w.heap.size w wr) (fun iv _ => nl - (intOf iv).toNat)
              case atStart => exact ⟨0, by omega, rfl, oL, hB⟩
              case round =>
                clear oL hB
                obtain ⟨i, hi, rfl, oL, hB⟩ := hrel
                by_cases hlt : i < nl
                · have j0 : (0 : Int) ≤ (i : Int) := by omega
                  have j1 : (i : Int) < (nl : Int) := by omega
                  obtain ⟨s, hs⟩ : ∃ d, L[i]? = some d := ⟨_, List.getElem?_eq_getElem (by omega)⟩
                  obtain ⟨B9, hB9⟩ := hL s (List.mem_of_getElem? hs)
                  obtain ⟨g, rfl, hgl⟩ := oL.form (by omega)
                  have h9 : wr.rangeAt g (i * 64) (secA s).toList := by
                    have h8 := oL.range secE_ok i s hs
                    rw [secE_enc] at h8
                    exact h8
                  obtain ⟨rg1, rg2⟩ := rg_of h9 (k := 64) (by simp)
                  rw [Array.toArray_toList] at rg2
                  have hbs : isSl (turnS s (PB17 q m) q 32) = false := by rw [hB9]; exact burst17 hq hm0
                  clear hB9 h9
                  have HI : Hid (i < nl) := hlt
                  clear hi hlt hs
                  go_upto_region 23 with fail
                  have h18 : ScR (wr.alloc (.cells (secA s) 35)) wr.heap.size s := ScR.new _ _ _
                  have b18 := below_alloc wr (.cells (secA s) 35)
                  generalize wr.alloc (.cells (secA s) 35) = X6 at h18 b18 ⊢
                  obtain ⟨g18, hg18⟩ : ∃ y, wr.heap.size = y := ⟨_, rfl⟩
                  have hl18 : wr.heap.size ≤ g18 := by omega
                  rw [hg18] at h18
                  simp only [hg18]
                  clear hg18 rg1 rg2
                  obtain ⟨wo, rfl⟩ : ∃ wo, wo = wr := ⟨_, rfl⟩
                  have HO : Hid (OwnK secE wo w.heap.size (.slice (some ⟨g, 0, none⟩) nl cl) L ∧ Below w.heap.size w wo) := ⟨oL, hB⟩
                  have HBS : Hid (isSl (turnS s (PB17 q m) q 32) = false) := hbs
                  clear oL hB hbs hgl
                  go_wp2_with fail
                  go_loopw [19] (fun kv wr => ∃ k : Nat, k ≤ 32 ∧ kv = .int .i64 k ∧ ScR wr g18 (turnS s (PB17 q m) q k) ∧ Below wo.heap.size wo wr) (fun kv _ => 32 - (intOf kv).toNat)
                  case atStart => exact ⟨0, by omega, rfl, h18, b18⟩
                  case round =>
                    clear h18 b18
                    obtain ⟨k, hk, rfl, h18, b18⟩ := hrel
                    by_cases h32 : k < 32
                    · have h32' : (k : Int) < 32 := by omega
                      have hab := and_bit17 m k hm
                      obtain ⟨p, hp⟩ : ∃ p : Nat, q + k = p := ⟨_, rfl⟩
                      have hqk : IntKind.i64.wrap ((q : Int) + (k : Int)) = (p : Int) := by rw [IntKind.wrap_i64]; omega
                      have HK : Hid (k < 32) := h32
                      clear hk h32
                      by_cases hPi : PB17 q m k = true
                      · have hPi' := hPi
                        unfold PB17 at hPi'
                        simp only [Bool.and_eq_true, decide_eq_true_eq] at hPi'
                        obtain ⟨hbt, hlt⟩ := hPi'
                        rw [hbt, cond_true] at hab
                        obtain ⟨T, hT⟩ : ∃ T, turnS s (PB17 q m) q k = T := ⟨_, rfl⟩
                        rw [hT] at h18
                        have hp5 : p < 512 := by omega
                        have hp5' : (p : Int) < 512 := by omega
                        have hca := h18.cell (p / 8) (by omega)
                        obtain ⟨A9, hA9⟩ : ∃ A, T (p / 8) = A := ⟨_, rfl⟩
                        obtain ⟨C9, hC9⟩ : ∃ B, A9 ^^^ oneAt p = B := ⟨_, rfl⟩
                        rw [hA9] at hca
                        have HTT : Hid (turnS s (PB17 q m) q (k + 1) = upd T (p / 8) C9) := by
                          show _ = _
                          rw [turnS, hPi, cond_true, hT, flip, hp, hA9, hC9]
                        have F1 : Hid (IntKind.i64.wrap ((p : Int) / 8) = (p : Int) / 8) := by show _ = _; rw [IntKind.wrap_i64]; omega
                        have F2 : Hid ((p : Int).tmod 8 = (p : Int) % 8) := by show _ = _; rw [Int.tmod_eq_emod_of_nonneg (by omega)]
                        have F3 : Hid (IntKind.u8.wrap (2 ^ ((p : Int) % 8).toNat) = ((oneAt p).toNat : Int)) := by
                          show _ = _
                          have h8 := (oneAt p).toNat_lt
                          rw [show ((p : Int) % 8).toNat = p % 8 by omega, show (2 : Int) ^ (p % 8) = ((2 ^ (p % 8) : Nat) : Int) by simp, ← oneAt_nat17 p, IntKind.wrap_u8]; omega
                        have F4 : Hid (bits .xor .u8 (A9.toNat : Int) ((oneAt p).toNat : Int) = (C9.toNat : Int)) := by show _ = _; rw [xor817, hC9]
                        have F5 : Hid ((0 : Int) ≤ (p : Int) / 8 ∧ (p : Int) / 8 < 64 ∧ ((p : Int) / 8).toNat = p / 8) := by show _ ∧ _; omega
                        have hf1 := h18.frozen (p / 8)
                        have h18' := h18.set (p / 8) C9 (by omega)
                        rw [← HTT.out] at h18'
                        have H18 : Hid (ScR (wr.setCell ⟨g18, p / 8, none⟩ (.int .u8 (C9.toNat : Int))) g18 (turnS s (PB17 q m) q (k + 1))) := h18'
                        have HB : Hid (Below wo.heap.size wo (wr.setCell ⟨g18, p / 8, none⟩ (.int .u8 (C9.toNat : Int)))) := b18.setCell (p := ⟨g18, p / 8, none⟩) hl18 (.int .u8 (C9.toNat : Int))
                        clear h18 b18 h18' HTT hA9 hT hPi hC9 hp hbt hlt hp5
                        go_upto_region 28 with fail
                        clear hab hqk
                        have f1 := F1.out
                        have f2 := F2.out
                        have f3 := F3.out
                        have f4 := F4.out
                        obtain ⟨f5, f6, f7⟩ := F5.out
                        go_wp2
                        go_roundw
                        case rel => exact ⟨k + 1, by have := HK.out; omega, by go_num, H18.out, HB.out⟩
                        case measure => have := HK.out; simp [intOf]; omega
                      · have hPf : PB17 q m k = false := by simpa using hPi
                        have H18 : Hid (ScR wr g18 (turnS s (PB17 q m) q (k + 1))) := by show ScR _ _ _; rw [turnS, hPf]; exact h18
                        clear h18 hPi
                        by_cases hlt : p < 512
                        · have hlt' : (p : Int) < 512 := by omega
                          have hbt : m.testBit k = false := by
                            unfold PB17 at hPf
                            rw [hp, decide_eq_true hlt, Bool.and_true] at hPf
                            exact hPf
                          rw [hbt, cond_false] at hab
                          clear hbt hPf hp hlt
                          go_wp2
                          go_roundw
                          case rel => exact ⟨k + 1, by have := HK.out; omega, by go_num, H18.out, b18⟩
                          case measure => have := HK.out; simp [intOf]; omega
                        · have hlt' : ¬ (p : Int) < 512 := by omega
                          clear hPf hp hlt hab
                          go_wp2
                          go_roundw
                          case rel => exact ⟨k + 1, by have := HK.out; omega, by go_num, H18.out, b18⟩
                          case measure => have := HK.out; simp [intOf]; omega
                    · obtain rfl : k = 32 := by omega
                      have i0 : ¬ ((32 : Nat) : Int) < 32 := by omega
                      obtain ⟨u1, u2, u3⟩ := told17 HBS.out
                      obtain ⟨T, hT⟩ : ∃ T, turnS s (PB17 q m) q 32 = T := ⟨_, rfl⟩
                      rw [hT] at h18 u1 u2 u3
                      have kG := fun V => O.gt T V
                      have kH := fun V => O.gs T V
                      have kN := fun V => O.gc T 15 V (by omega) (by omega)
                      unfold GtP at kG
                      unfold GsP at kH
                      unfold GcP at kN
                      rw [u3] at kN
                      generalize (⟨⟨(gtL T).toArray⟩, gtD T⟩ : Tg) = G1 at kG
                      generalize (⟨(gsA T : Int), (gsB T : Int), gsD T⟩ : Sn) = G2 at kH
                      generalize gtK T = K1 at kG u1
                      generalize gsK T = K2 at kH u2
                      have v1 : (K1 == 2) = false := by simpa using u1
                      have v2 : (K2 == 2) = false := by simpa using u2
                      clear hT hk h32
                      have h18' := h18
                      obtain ⟨r18, q18⟩ := h18'
                      go_wp2_with fail
                      refine (kG _).mono ?_
                      rintro e w3 ⟨rfl, hb⟩
                      replace h18 := (h18.kept hb).kept (below_alloc w3 (.cells (tgA G1) 25))
                      replace b18 := b18.trans (hb.mono b18.size)
                      replace b18 := b18.alloc b18.size (.cells (tgA G1) 25)
                      clear kG hb r18 q18
                      go_upto_region 30 with fail
                      generalize w3.alloc (.cells (tgA G1) 25) = X7 at h18 b18 ⊢
                      have h18' := h18
                      obtain ⟨r18, q18⟩ := h18'
                      go_wp2_with fail
                      refine (kH _).mono ?_
                      rintro e w4 ⟨rfl, hb⟩
                      replace h18 := (h18.kept hb).kept (below_alloc w4 (.cells (snA G2) 28))
                      replace b18 := b18.trans (hb.mono b18.size)
                      replace b18 := b18.alloc b18.size (.cells (snA G2) 28)
                      clear kH hb r18 q18
                      go_upto_region 31 with fail
                      generalize w4.alloc (.cells (snA G2) 28) = X8 at h18 b18 ⊢
                      obtain ⟨r18, q18⟩ := h18
                      go_wp2_with fail
                      refine (kN _).mono ?_
                      rintro e w5 ⟨⟨vl, rfl, -⟩, hb⟩
                      replace b18 := b18.trans (hb.mono b18.size)
                      obtain ⟨oL, hB⟩ := HO.out
                      have HL : Hid (OwnK secE w5 w.heap.size (.slice (some ⟨g, 0, none⟩) nl cl) L) := oL.keep b18
                      have HB : Hid (Below w.heap.size w w5) := hB.trans (b18.mono hB.size)
                      clear kN hb r18 q18 b18 oL hB HO
                      go_wp2
                      go_roundw
                      case rel => exact ⟨i + 1, by have := HI.out; omega, by go_num, HL.out, HB.out⟩
                      case measure => have := HI.out; simp [intOf]; omega
                · obtain rfl : nl = i := by omega
                  have j0 : ¬ (nl : Int) < (nl : Int) := by omega
                  go_wp2
                  go_ret
                  exact ⟨rfl, hB⟩
            by_cases h16 : n < 16
            · have h16' : (n : Int) < 16 := by omega
              obtain ⟨B9, rfl⟩ := c1 h16
              have kC' := kC _ hB
              go_wp2_with fail
              refine kC'.mono ?_
              rintro e w3 ⟨rfl, hb⟩
              have h15 : ScR (w3.alloc (.cells (secA (sealS B9)) 35)) w3.heap.size (sealS B9) := ScR.new _ _ _
              have hB3 := hB.trans (hb.mono hB.size)
              have oL3 := (oL.keep hb).keep (below_alloc w3 (.cells (secA (sealS B9)) 35))
              replace hB3 := hB3.alloc hB3.size (.cells (secA (sealS B9)) 35)
              clear hb kC' kC oL hB
              go_upto_region 18 with fail
              generalize w3.alloc (.cells (secA (sealS B9)) 35) = X5 at h15 hB3 oL3 ⊢
              generalize w3.heap.size = g15 at h15 ⊢
              obtain ⟨g9, c9, w9, hr, o9, b9, -⟩ := app17 X5 w.heap.size xl nl cl L (sealS B9) oL3 hB3.size hlen (by omega)
              have hN := hE w9 (L ++ [sealS B9]) (some ⟨g9, 0, none⟩) (nl + 1) c9 (hL.add B9) (by simp [hlen]) (by omega) o9 (hB3.trans b9)
              obtain ⟨r15, q15⟩ := h15
              clear hE o9 b9 oL3 hB3
              go_wp2_with (at_builtin; refine wpL_appT 33 rfl _ _ rfl _ w9 (by exact hr) ?_)
              exact hN _ _ _ _ _ _ _ _ _ _ _ _ _ _ _ _ _ _ _ _ _ _ _ _ _ _ _ _ _ _ _ _ _ _ _ _ _ _ _ _ _ _ _ _ _ _ _ _ _ _ _ _ _ _ _ _ _ _ _ _ _ _ _ _ _ _ _ _ _ _ _ _ _ _ _ _ _ _ _ _ _ _ _ _ _ _ _ _ _ _ _ _ _ _ _ _ _ _ _ _ _ _ _ _ _ _ _ _ _ _ _ _ _ _ _ _ _ _ _ _ _ _ _ _ _ _ _ _ _ _ _ _ _ _ _ _ _ _ _ _
            · have h16' : ¬ (n : Int) < 16 := by omega
              have hN := hE W L xl nl cl hL hlen (by omega) oL hB
              clear hE
              go_wp2
              exact hN _ _ _ _ _ _ _ _ _ _ _ _ _ _ _ _ _ _ _ _ _ _ _ _ _ _ _ _ _ _ _ _ _ _ _ _ _ _ _ _ _ _ _ _ _ _ _ _ _ _ _ _ _ _ _ _ _ _ _ _ _ _ _ _ _ _ _ _ _ _ _ _ _ _ _ _ _ _ _ _ _ _ _ _ _ _ _ _ _ _ _ _ _ _ _ _ _ _ _ _ _ _ _ _ _ _ _ _ _ _ _ _ _ _ _ _ _ _ _ _ _ _ _ _ _ _ _ _ _ _ _ _ _ _ _ _ _ _ _ _
          by_cases hE2 : E2 = 0
          · obtain ⟨B9, rfl⟩ := s1 hE2
            subst hE2
            obtain ⟨g9, c9, w9, hr, o9, b9, -⟩ := app17 X4 w.heap.size xl nl cl L (sealS B9) oL hB.size hlen (by omega)
            have hN := hD w9 (L ++ [sealS B9]) (some ⟨g9, 0, none⟩) (nl + 1) c9 (hL.add B9) (by simp [hlen]) (by omega) o9 (hB.trans b9)
            obtain ⟨r13, q13⟩ := h13
            clear hD o9 b9 oL hB h8
            go_wp2_with (at_builtin; refine wpL_appT 33 rfl _ _ rfl _ w9 (by exact hr) ?_)
            exact hN _ _ _ _ _ _ _ _ _ _ _ _ _ _ _ _ _ _ _ _ _ _ _ _ _ _ _ _ _ _ _ _ _ _ _ _ _ _ _ _ _ _ _ _ _ _ _ _ _ _ _ _ _ _ _ _ _ _ _ _ _ _ _ _ _ _ _ _ _ _ _ _ _ _ _ _ _ _ _ _ _ _ _ _ _ _ _ _ _ _ _ _ _ _ _ _ _ _ _ _ _ _ _ _ _ _ _ _ _ _ _ _ _ _ _ _ _ _ _ _ _ _ _ _ _ _ _ _ _ _ _ _ _ _ _ _ _ _ _
          · have hE3 : (E2 == 0) = false := by simpa using hE2
            have hN := hD X4 L xl nl cl hL hlen (by omega) oL hB
            clear hD h8
            go_wp2
            exact hN _ _ _ _ _ _ _ _ _ _ _ _ _ _ _ _ _ _ _ _ _ _ _ _ _ _ _ _ _ _ _ _ _ _ _ _ _ _ _ _ _ _ _ _ _ _ _ _ _ _ _ _ _ _ _ _ _ _ _ _ _ _ _ _ _ _ _ _ _ _ _ _ _ _ _ _ _ _ _ _ _ _ _ _ _ _ _ _ _ _ _ _ _ _ _ _ _ _ _ _ _ _ _ _ _ _ _ _ _ _ _ _ _ _ _ _ _ _ _ _ _ _ _ _ _ _ _ _ _ _ _ _ _ _ _ _ _ _ _
        by_cases hE1 : E1 = 0
        · obtain ⟨B9, rfl⟩ := t1 hE1
          subst hE1
          obtain ⟨g9, c9, w9, hr, o9, b9, r9⟩ := app17 X2 w.heap.size none 0 0 [] (sealS B9) (OwnK.nil _ _ _) hB.size rfl (by omega)
          have hN := hC w9 [sealS B9] (some ⟨g9, 0, none⟩) (0 + 1) c9 (Sealed17.add (L := []) (fun s hs => by cases hs) B9) rfl (by omega) o9 (hB.trans b9) (r9 g8 A2 h8 (by simp [Value.ownBlock]))
          obtain ⟨r11, q11⟩ := h11
          clear hC o9 b9 r9 hB h8 h7
          go_wp2_with (at_builtin; refine wpL_appT 33 rfl _ _ rfl _ w9 (by exact hr) ?_)
          exact hN _ _ _ _ _ _ _ _ _ _ _ _ _ _ _ _ _ _ _ _ _ _ _ _ _ _ _ _ _ _ _ _ _ _ _ _ _ _ _ _ _ _ _ _ _ _ _ _ _ _ _ _ _ _ _ _ _ _ _ _ _ _ _ _ _ _ _ _ _ _ _ _ _ _ _ _ _ _ _ _ _ _ _ _ _ _ _ _ _ _ _ _ _ _ _ _ _ _ _ _ _ _ _ _ _ _ _ _ _ _ _ _ _ _ _ _ _ _ _ _ _ _ _ _ _ _ _ _ _ _ _ _ _ _ _ _ _ _
        · have hE3 : (E1 == 0) = false := by simpa using hE1
          have hN := hC X2 [] none 0 0 (fun s hs => by cases hs) rfl (by omega) (OwnK.nil _ _ _) hB h8
          clear hC h8 h7
          go_wp2
          exact hN _ _ _ _ _ _ _ _ _ _ _ _ _ _ _ _ _ _ _ _ _ _ _ _ _ _ _ _ _ _ _ _ _ _ _ _ _ _ _ _ _ _ _ _ _ _ _ _ _ _ _ _ _ _ _ _ _ _ _ _ _ _ _ _ _ _ _ _ _ _ _ _ _ _ _ _ _ _ _ _ _ _ _ _ _ _ _ _ _ _ _ _ _ _ _ _ _ _ _ _ _ _ _ _ _ _ _ _ _ _ _ _ _ _ _ _ _ _ _ _ _ _ _ _ _ _ _ _ _ _ _ _ _ _ _ _ _ _
      by_cases hn0 : n = 0
      · have hz : ¬ (0 : Int) < (n : Int) := by omega
        have hz2 : ¬ (n : Int) > 0 := by omega
        have hN := hBp 1 (by omega) rfl
        clear hBp hn0
        go_wp2
        exact hN _ _ _ _ _ _ _ _ _ _ _ _ _ _ _ _ _ _ _ _ _ _ _ _ _ _ _ _ _ _ _ _ _ _ _ _ _ _ _ _ _ _ _ _ _ _ _ _ _ _ _ _ _ _ _ _ _ _ _ _ _ _ _ _ _ _ _ _ _ _ _ _ _ _ _ _ _ _ _ _ _ _ _ _ _ _ _ _ _ _ _ _ _ _ _ _ _ _ _ _ _ _ _ _ _ _ _ _ _ _ _ _ _ _ _ _ _ _ _ _ _ _ _ _ _ _ _ _ _ _ _ _ _ _ _ _ _ _
      · have hz : (0 : Int) < (n : Int) := by omega
        obtain ⟨v, hv⟩ : ∃ d, l[0]? = some d := ⟨_, List.getElem?_eq_getElem (by omega)⟩
        obtain ⟨gl, ol, rfl, -, hc9⟩ := (hl.kept hB).spot 0 (by rw [uV_len]; omega)
        have hc := hc9 0 _ (uV_get l 0 v hv)
        rw [Nat.add_zero] at hc
        have hv2 := hv4 0 v hv
        have hor := or_one17 v hv2
        have hN := hBp (v ||| 1) (or_one_lt17 v hv2) (or_one_bit17 v)
        generalize v ||| 1 = m9 at hN hor
        clear hBp hc9 hv
        go_wp2
        exact hN _ _ _ _ _ _ _ _ _ _ _ _ _ _ _ _ _ _ _ _ _ _ _ _ _ _ _ _ _ _ _ _ _ _ _ _ _ _ _ _ _ _ _ _ _ _ _ _ _ _ _ _ _ _ _ _ _ _ _ _ _ _ _ _ _ _ _ _ _ _ _ _ _ _ _ _ _ _ _ _ _ _ _ _ _ _ _ _ _ _ _ _ _ _ _ _ _ _ _ _ _ _ _ _ _ _ _ _ _ _ _ _ _ _ _ _ _ _ _ _ _ _ _ _ _ _ _ _ _ _ _ _ _ _ _ _ _ _
    by_cases hneg : bit < 0
    · have hN := hA 3 (by omega)
      clear hA
      go_wp2
      exact hN _ _ _ _ _ _ _ _ _ _ _ _ _ _ _ _ _ _ _ _ _ _ _ _ _ _ _ _ _ _ _ _ _ _ _ _ _ _ _ _ _ _ _ _ _ _ _ _ _ _ _ _ _ _ _ _ _ _ _ _ _ _ _ _ _ _ _ _ _ _ _ _ _ _ _ _ _ _ _ _ _ _ _ _ _ _ _ _ _ _ _ _ _ _ _ _ _ _ _ _ _ _ _ _ _ _ _ _ _ _ _ _ _ _ _ _ _ _ _ _ _ _ _ _ _ _ _ _ _ _ _ _ _ _ _ _ _ _ _
    · by_cases hbig : bit > 511
      · have hN := hA 3 (by omega)
        clear hA
        go_wp2
        exact hN _ _ _ _ _ _ _ _ _ _ _ _ _ _ _ _ _ _ _ _ _ _ _ _ _ _ _ _ _ _ _ _ _ _ _ _ _ _ _ _ _ _ _ _ _ _ _ _ _ _ _ _ _ _ _ _ _ _ _ _ _ _ _ _ _ _ _ _ _ _ _ _ _ _ _ _ _ _ _ _ _ _ _ _ _ _ _ _ _ _ _ _ _ _ _ _ _ _ _ _ _ _ _ _ _ _ _ _ _ _ _ _ _ _ _ _ _ _ _ _ _ _ _ _ _ _ _ _ _ _ _ _ _ _ _ _ _ _ _
      · have hN := hA bit.toNat (by omega)
        rw [Int.toNat_of_nonneg (by omega)] at hN
        clear hA
        go_wp2
        exact hN _ _ _ _ _ _ _ _ _ _ _ _ _ _ _ _ _ _ _ _ _ _ _ _ _ _ _ _ _ _ _ _ _ _ _ _ _ _ _ _ _ _ _ _ _ _ _ _ _ _ _ _ _ _ _ _ _ _ _ _ _ _ _ _ _ _ _ _ _ _ _ _ _ _ _ _ _ _ _ _ _ _ _ _ _ _ _ _ _ _ _ _ _ _ _ _ _ _ _ _ _ _ _ _ _ _ _ _ _ _ _ _ _ _ _ _ _ _ _ _ _ _ _ _ _ _ _ _ _ _ _ _ _ _ _ _ _ _ _
end Go.Proofs.Ytfdigmlhjjdggaa
