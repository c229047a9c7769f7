
import Derived.Test.YtmbkkdojjfdliaaBatM
namespace Go.Proofs.Ytmbkkdojjfdliaa
open Go.RowKit

/-! assayref26.Sorted -/
theorem isK_dropK {α : Type} {E : EK α} (O : E.Ok) {W : World} {B g n c : Nat} {ds : List α} (h : OwnK E W B (.slice (some ⟨g, 0, none⟩) n c) ds) (k : Nat) (hk : k ≤ n) : IsK E W (.slice (if c = k then some ⟨g, 0, none⟩ else some ⟨g, k * E.k, none⟩) (n - k) (c - k)) (ds.drop k) := by
  obtain ⟨cur, h1, h2, h3, h4, h5, h6, h7⟩ := h.heap
  by_cases hc : c = k
  · rw [if_pos hc]
    have hcap := (h.isK O).cap
    have hd : ds.drop k = [] := List.drop_eq_nil_of_le (by omega)
    rw [hd]
    exact ⟨some ⟨g, 0, none⟩, c - k, by rw [show n - k = 0 by omega]; rfl, Nat.zero_le _, fun i d hi => by simp at hi⟩
  · rw [if_neg hc]
    refine ⟨some ⟨g, k * E.k, none⟩, c - k, by rw [List.length_drop, ← h1], by rw [List.length_drop]; omega, fun i d hi => ?_⟩
    rw [List.getElem?_drop] at hi
    refine ⟨g, k * E.k, rfl, (Array.getElem?_eq_some_iff.1 h3).1, ?_⟩
    have := h.range O (k + i) d hi
    rwa [Nat.add_mul] at this
theorem isK_takeK {α : Type} {E : EK α} (O : E.Ok) {W : World} {B g n c : Nat} {ds : List α} (h : OwnK E W B (.slice (some ⟨g, 0, none⟩) n c) ds) (k : Nat) (hk : k ≤ n) : IsK E W (.slice (some ⟨g, 0, none⟩) k c) (ds.take k) := (h.cut O k hk).isK O
def Ap26 (v u : Value) : Prop := v.ownBlock = none ∨ v.ownBlock ≠ u.ownBlock
/-- append of any list, an empty one too: what is apart stays, and stays apart. -/
theorem run_appAll {α : Type} {E : EK α} (O : E.Ok) (w : World) (B : Nat) (v : Option Addr) (n c' : Nat) (ds es : List α) (x : Option Addr) (m c N : Nat) (ty : TypeId) (h : OwnK E w B (.slice v n c') ds) (hx : IsK E w (.slice x m c) es) (hn : ds.length = n) (hm : es.length = m) (hN : n + m = N) (hl : N * E.bytes ≤ 140737488355328) (h63 : N ≤ maxLen) (hb : B ≤ w.heap.size) :
    ∃ v' c'' w', (Builtin.append_ #[E.S, E.S] ty #[.slice v n c', .slice x m c]).run Try.prog w = .ok (.slice v' N c'') w' ∧ OwnK E w' B (.slice v' N c'') (ds ++ es) ∧ Below B w w' ∧ (0 < N → v' ≠ none) ∧
      ∀ (v2 : Value) (e : TypeId) (k m2 : Nat) (xs : List Value), w.ownsRow B e k v2 m2 xs → Ap26 v2 (.slice v n c') → w'.ownsRow B e k v2 m2 xs ∧ Ap26 v2 (.slice v' N c'') := by
  subst hn hm hN
  by_cases h0 : es = []
  · subst h0
    have hcap := (h.isK O).cap
    have hv0 : v = none → ds.length = 0 := fun hv => by
      subst hv
      rcases Nat.eq_zero_or_pos ds.length with h1 | h1
      · exact h1
      · obtain ⟨g, e, -⟩ := h.form h1
        cases e
    exact ⟨v, c', w, run_appK0 O w v ds.length c' hcap.2 x c ty hv0, by simpa using h, Below.refl _ _, fun h9 hv => by have := hv0 hv; simp at h9; omega, fun _ _ _ _ _ h1 h2 => ⟨h1, h2⟩⟩
  · obtain ⟨g, c2, w', hr, hO, hg, hway⟩ := run_appK O w B (.slice v ds.length c') ds es x c ty h hx h0 hl h63 hb
    refine ⟨_, c2, w', hr, hO, h.below hg hb, fun _ => by simp, fun v2 e k m2 xs hv hap => ⟨World.ownsRow.kept hv hg hap, ?_⟩⟩
    unfold Ap26
    cases hq : v2.ownBlock with
    | none => exact .inl rfl
    | some q =>
      right
      intro he
      have hql := (World.ownsRow.lt hv q hq).2
      have hqg : q = g := by simpa [Value.ownBlock] using he
      rcases hway with h1 | h1
      · rcases hap with h2 | h2
        · rw [hq] at h2; cases h2
        · exact h2 (by rw [hq, h1, hqg])
      · omega
theorem own_alloc26 {W : World} {B k m : Nat} {e : TypeId} {v : Value} {xs : List Value} (o : Obj) (hv : W.ownsRow B e k v m xs) : (W.alloc o).ownsRow B e k v m xs := World.ownsRow.kept hv (row := none) (World.grownBy_alloc W _ none) (by
  cases hq : v.ownBlock with
  | none => exact .inl rfl
  | some k => exact .inr (by simp))
theorem wrE_enc26 (x : Wr) : wrE.enc x = (wrA x).toList := by unfold wrE; simp only
theorem wr_at26 {w : World} {b o : Nat} {x : Wr} (h : w.rangeAt b o (wrE.enc x)) : w.cell? ⟨b, o, none⟩ = some (.int .i64 x.1) := by
  have := h 0 (.int .i64 x.1) (by rw [wrE_enc26, wrA_list]; rfl)
  simpa using this
theorem wr_rg26 {w : World} {b o : Nat} {x : Wr} (h : w.rangeAt b o (wrE.enc x)) : rgOk w b o 65 = true ∧ rg w b o 65 = wrA x := by
  rw [wrE_enc26] at h
  have := rg_of h (k := 65) (by rw [Array.length_toList, wrA_size])
  simpa using this
theorem insW_ne_nil (x : Wr) (A : List Wr) : insW x A ≠ [] := by
  cases A with
  | nil => simp [insW]
  | cons y r => unfold insW; split; · simp
                split <;> simp
set_option linter.unusedSimpArgs false in
set_option maxRecDepth 100000 in
set_option maxHeartbeats 6400000 in
theorem refSorted26_any (l : List Wr) (x0 : Option Addr) (n c : Nat) (w : World) (hn : l.length = n) (hl : IsK wrE w (.slice x0 n c) l) (hn47 : (n + 1) * 72 ≤ 140737488355328) :
    Calls Try.prog 13 #[.slice x0 n c] w fun e w' => ∃ y k c', e = .returned (.slice y k c') ∧ (srtW l).length = k ∧ OwnK wrE w' w.heap.size (.slice y k c') (srtW l) ∧ Below w.heap.size w w' := by
  go_enter Try.func13, Try.ntmps13
  go_wp2_with fail
  go_loopw [3, 4] (fun v iv wr => ∃ (i : Nat) (y : Option Addr) (m co : Nat), i ≤ n ∧ iv = .int .i64 i ∧ v = .slice y m co ∧ (srtW (l.take i)).length = m ∧ (m = 0 → y = none ∧ co = 0) ∧ OwnK wrE wr w.heap.size (.slice y m co) (srtW (l.take i)) ∧ Below w.heap.size w wr) (fun _ iv _ => n - (intOf iv).toNat)
  case atStart => exact ⟨0, none, 0, 0, by omega, rfl, rfl, rfl, fun _ => ⟨rfl, rfl⟩, OwnK.nil _ _ _, Below.refl _ _⟩
  case round =>
    obtain ⟨i, y, m, co, hi, rfl, rfl, hm, hnil, oA, hB⟩ := hrel
    by_cases hlt : i < n
    · have i0 : (0 : Int) ≤ (i : Int) := by omega
      have i1 : (i : Int) < (n : Int) := by omega
      obtain ⟨x, hx⟩ : ∃ d, l[i]? = some d := ⟨_, List.getElem?_eq_getElem (by omega)⟩
      obtain ⟨gl, ol, rfl, hgl, hr0⟩ := hl.at i x hx
      have hrx : ∀ W, Below w.heap.size w W → W.rangeAt gl (ol + i * 65) (wrE.enc x) := fun W hW => range_later hr0 hW
      clear hr0
      have hmi : m ≤ i := by have h1 := srtW_len (l.take i); rw [List.length_take] at h1; omega
      have HST := srtW_take l i x hx
      have hne := insW_ne_nil x (srtW (l.take i))
      obtain ⟨A, hA⟩ : ∃ q, srtW (l.take i) = q := ⟨_, rfl⟩
      rw [hA] at HST hne oA hm
      have HS : Hid (srtW (l.take (i + 1)) = insW x A) := HST
      have HN : Hid (insW x A ≠ []) := hne
      have HI : Hid (i < n) := hlt
      have FI : Hid ((0 : Int) ≤ (i : Int) ∧ (i : Int) < (n : Int)) := ⟨i0, i1⟩
      have hin : i * 72 + 72 ≤ 140737488355328 := by omega
      clear hi hlt hx hA HST hne hn47
      by_cases hm0 : m = 0
      · obtain ⟨rfl, rfl⟩ := hnil hm0
        subst hm0
        obtain rfl : A = [] := by cases A with | nil => rfl | cons _ _ => simp at hm
        clear hnil hm
        obtain ⟨wo, rfl⟩ : ∃ wo, wo = wr := ⟨_, rfl⟩
        clear oA
        go_wp2_with fail
        go_loopw [5] (fun v wr => v = .int .i64 0 ∧ Below wo.heap.size wo wr) (fun _ _ => 0)
        case atStart => exact ⟨rfl, Below.refl _ _⟩
        case round =>
          obtain ⟨rfl, hB2⟩ := hrel
          have FN : Hid (¬ (0 : Int) < (0 : Int)) := by show ¬ _; omega
          go_upto_region 6 with fail
          refine wp_relies [Fx (.int .i64 0), Fx (.slice none 0 0), Fx (.int .i64 0), Fx (.bool false), Fx (.bool false), Fx (undef), Fx (undef), Fx (undef), Fx (undef), Fx (undef), Fx (undef), Fx (undef), Fx (undef), Fx (undef), Fx (undef), Fx (undef), Fx (.bool false)] (by kernel_rfl) (by kernel_rfl) ?_ ?_ ?_
          · repeat' (first | exact all_nil | apply all_cons)
            all_goals intro v y y' hv hb
            all_goals first | exact Fx_mono _ _ _ _ hv hb
          · refine ⟨?_, ?_, ?_, ?_, ?_, ?_, ?_, ?_, ?_, ?_, ?_, ?_, ?_, ?_, ?_, ?_, ?_, trivial⟩
            all_goals
              intro ρ x hp ρc ρg ρf ho hd
              have o3 : ρ (.tmp 3) = .slice none 0 0 := ho 3 rfl
              have o5 : ρ (.tmp 5) = .int .i64 0 := ho 5 rfl
              clear ho
              simp only [depsR, depR, slotR, Fx, List.getElem?_cons_succ, List.getElem?_cons_zero, Region.binds, forall_const] at hd
              simp only [guardR]
              go_split_ands
            · go_simp
            · go_simp
            · go_simp
            · have z1 := FN.out
              go_simp
            · go_simp
            · refine ⟨fun hy => ?_, fun _ => rfl⟩
              exfalso; simp [yieldR, slotR, undef, *] at hy
            · refine ⟨fun hy => ?_, fun _ => rfl⟩
              exfalso; simp [yieldR, slotR, undef, *] at hy
            · refine ⟨fun hy => ?_, fun _ => rfl⟩
              exfalso; simp [yieldR, slotR, undef, *] at hy
            · refine ⟨fun hy => ?_, fun _ => rfl⟩
              exfalso; simp [yieldR, slotR, undef, *] at hy
            · refine ⟨fun hy => ?_, fun _ => rfl⟩
              exfalso; simp [yieldR, slotR, undef, *] at hy
            · refine ⟨fun hy => ?_, fun _ => rfl⟩
              exfalso; simp [yieldR, slotR, undef, *] at hy
            · refine ⟨fun hy => ?_, fun _ => rfl⟩
              exfalso; simp [yieldR, slotR, undef, *] at hy
            · refine ⟨fun hy => ?_, fun _ => rfl⟩
              exfalso; simp [yieldR, slotR, undef, *] at hy
            · refine ⟨fun hy => ?_, fun _ => rfl⟩
              exfalso; simp [yieldR, slotR, undef, *] at hy
            · refine ⟨fun hy => ?_, fun _ => rfl⟩
              exfalso; simp [yieldR, slotR, undef, *] at hy
            · refine ⟨fun hy => ?_, fun _ => rfl⟩
              exfalso; simp [yieldR, slotR, undef, *] at hy
            · go_simp
          · intro vs x1 hp1 hw
            simp only [owed, Fx] at hw
            obtain ⟨e0, e1, e2, e3, e4, e5, e6, e7, e8, e9, e10, e11, e12, e13, e14, e15, e16, -⟩ := hw
            simp only [List.length_cons, List.length_nil, List.take_succ_cons, List.take_nil, List.drop_succ_cons, List.drop_nil, asg, List.cons_append, List.nil_append, e0, e1, e2, e3, e4, e5, e6, e7, e8, e9, e10, e11, e12, e13, e14, e15, e16]
            clear e0 e1 e2 e3 e4 e5 e6 e7 e8 e9 e10 e11 e12 e13 e14 e15 e16
            have hB3 := hB2.trans (hp1.mono hB2.size)
            clear hp1 hB2 vs
            go_upto_region 8 with fail
            refine wp_relies [Fx (.int .i64 0), Fx (.slice none 0 0), Fx (.int .i64 0), Fx (.bool false), Fx (.bool false), Fx (undef), Fx (undef), Fx (undef), Fx (undef), Fx (undef), Fx (undef), Fx (undef), Fx (undef), Fx (undef), Fx (undef), Fx (undef), Fx (.bool false)] (by kernel_rfl) (by kernel_rfl) ?_ ?_ ?_
            · repeat' (first | exact all_nil | apply all_cons)
              all_goals intro v y y' hv hb
              all_goals first | exact Fx_mono _ _ _ _ hv hb
            · refine ⟨?_, ?_, ?_, ?_, ?_, ?_, ?_, ?_, ?_, ?_, ?_, ?_, ?_, ?_, ?_, ?_, ?_, trivial⟩
              all_goals
                intro ρ x hp ρc ρg ρf ho hd
                have o3 : ρ (.tmp 3) = .slice none 0 0 := ho 3 rfl
                have o5 : ρ (.tmp 5) = .int .i64 0 := ho 5 rfl
                clear ho
                simp only [depsR, depR, slotR, Fx, List.getElem?_cons_succ, List.getElem?_cons_zero, Region.binds, forall_const] at hd
                simp only [guardR]
                go_split_ands
              · go_simp
              · go_simp
              · go_simp
              · have z1 := FN.out
                go_simp
              · go_simp
              · refine ⟨fun hy => ?_, fun _ => rfl⟩
                exfalso; simp [yieldR, slotR, undef, *] at hy
              · refine ⟨fun hy => ?_, fun _ => rfl⟩
                exfalso; simp [yieldR, slotR, undef, *] at hy
              · refine ⟨fun hy => ?_, fun _ => rfl⟩
                exfalso; simp [yieldR, slotR, undef, *] at hy
              · refine ⟨fun hy => ?_, fun _ => rfl⟩
                exfalso; simp [yieldR, slotR, undef, *] at hy
              · refine ⟨fun hy => ?_, fun _ => rfl⟩
                exfalso; simp [yieldR, slotR, undef, *] at hy
              · refine ⟨fun hy => ?_, fun _ => rfl⟩
                exfalso; simp [yieldR, slotR, undef, *] at hy
              · refine ⟨fun hy => ?_, fun _ => rfl⟩
                exfalso; simp [yieldR, slotR, undef, *] at hy
              · refine ⟨fun hy => ?_, fun _ => rfl⟩
                exfalso; simp [yieldR, slotR, undef, *] at hy
              · refine ⟨fun hy => ?_, fun _ => rfl⟩
                exfalso; simp [yieldR, slotR, undef, *] at hy
              · refine ⟨fun hy => ?_, fun _ => rfl⟩
                exfalso; simp [yieldR, slotR, undef, *] at hy
              · refine ⟨fun hy => ?_, fun _ => rfl⟩
                exfalso; simp [yieldR, slotR, undef, *] at hy
              · go_simp
            · intro vs x2 hp2 hw
              simp only [owed, Fx] at hw
              obtain ⟨e0, e1, e2, e3, e4, e5, e6, e7, e8, e9, e10, e11, e12, e13, e14, e15, e16, -⟩ := hw
              simp only [List.length_cons, List.length_nil, List.take_succ_cons, List.take_nil, List.drop_succ_cons, List.drop_nil, asg, List.cons_append, List.nil_append, e0, e1, e2, e3, e4, e5, e6, e7, e8, e9, e10, e11, e12, e13, e14, e15, e16]
              clear e0 e1 e2 e3 e4 e5 e6 e7 e8 e9 e10 e11 e12 e13 e14 e15 e16
              have hBw := hB.trans ((hB3.trans (hp2.mono hB3.size)).mono hB.size)
              have HE : Hid (srtW (l.take (i + 1)) = [x]) := HS.out
              have hr1 : (Builtin.append_ #[22, 22] 22 #[.slice none 0 0, .slice none 0 0]).run Try.prog x2 = .ok (.slice none 0 0) x2 := run_appK0 wrE_ok x2 none 0 0 (by omega) none 0 _ (fun _ => rfl)
              obtain ⟨rg1, rg2⟩ := wr_rg26 (hrx _ hBw)
              have hlit := (OwnK.lit1 wrE_ok x2 x).isK wrE_ok
              rw [wrE_arr] at hlit
              have hB6 := hBw.alloc hBw.size (.cells (wrA x) wrE.T)
              obtain ⟨y2, c2, w2, hr2, o2, bb2, nn2, -⟩ := run_appAll wrE_ok (x2.alloc (.cells (wrA x) wrE.T)) w.heap.size none 0 0 [] [x] (some ⟨x2.heap.size, 0, none⟩) 1 1 1 22 (OwnK.nil _ _ _) hlit rfl rfl rfl (by show 1 * 72 ≤ _; omega) (by unfold maxLen; omega) hB6.size
              have hcap := (o2.isK wrE_ok).cap
              have HR2 : Hid ((Builtin.append_ #[22, 22] 22 #[.slice none 0 0, .slice (some ⟨x2.heap.size, 0, none⟩) 1 1]).run Try.prog (x2.alloc (.cells (wrA x) 29)) = .ok (.slice y2 1 c2) w2) := hr2
              have HR3 : Hid ((Builtin.append_ #[22, 22] 22 #[.slice y2 1 c2, .slice none 0 0]).run Try.prog w2 = .ok (.slice y2 1 c2) w2) := run_appK0 wrE_ok w2 y2 1 c2 hcap.2 none 0 _ (fun e9 => absurd e9 (nn2 (by omega)))
              have HO : Hid (OwnK wrE w2 w.heap.size (.slice y2 1 c2) (srtW (l.take (i + 1)))) := by show OwnK _ _ _ _ _; rw [HE.out]; exact o2
              have HB : Hid (Below w.heap.size w w2) := hB6.trans bb2
              have HL : Hid ((srtW (l.take (i + 1))).length = 1) := by show _ = _; rw [HE.out]; rfl
              obtain ⟨f2, f3⟩ := FI.out
              clear hr2 hrx hBw hlit hB6 o2 bb2 nn2 hcap HE hB3 hp2
              go_upto_region 12 with (at_builtin; refine wpL_appT 22 rfl _ _ rfl _ x2 (by exact hr1) ?_)
              clear hr1
              have hr2 := HR2.out
              go_upto_region 13 with (at_builtin; refine wpL_appT 22 rfl _ _ rfl _ w2 (by exact hr2) ?_)
              clear hr2 rg1 rg2
              have hr3 := HR3.out
              go_wp2_with (at_builtin; refine wpL_appT 22 rfl _ _ rfl _ w2 (by exact hr3) ?_)
              go_roundw
              case rel => exact ⟨i + 1, _, 1, c2, by have := HI.out; omega, by go_num, rfl, HL.out, fun h9 => by omega, HO.out, HB.out⟩
              case measure => have := HI.out; simp [intOf]; omega
      · obtain ⟨g, rfl, hg⟩ := oA.form (by omega)
        obtain ⟨wo, rfl⟩ : ∃ wo, wo = wr := ⟨_, rfl⟩
        clear hnil
        go_wp2_with fail
        go_loopw [5] (fun v wr => ∃ a : Nat, v = .int .i64 a ∧ a ≤ m ∧ (∀ j, j < a → ∀ d, A[j]? = some d → d.1 < x.1) ∧ Below wo.heap.size wo wr) (fun v _ => m - (intOf v).toNat)
        case atStart => exact ⟨0, rfl, by omega, fun j hj => by omega, Below.refl _ _⟩
        case round =>
          obtain ⟨a, rfl, ham, hbe, hB2⟩ := hrel
          by_cases ha : a < m
          · have FA : Hid ((0 : Int) ≤ (a : Int) ∧ (a : Int) < (m : Int)) := by show _ ∧ _; omega
            obtain ⟨d, hd⟩ : ∃ d, A[a]? = some d := ⟨_, List.getElem?_eq_getElem (by omega)⟩
            have hra := (oA.keep hB2).range wrE_ok a d hd
            replace hra : wr.rangeAt g (a * 65) (wrE.enc d) := hra
            have ca := wr_at26 hra
            have cx := wr_at26 (hrx _ (hB.trans (hB2.mono hB.size)))
            by_cases hlt : d.1 < x.1
            · go_upto_region 6 with fail
              refine wp_relies [Fx (.int .i64 ((a : Int))), Fx (.slice (some ⟨g, 0, none⟩) m co), Fx (.int .i64 ((m : Int))), Fx (.bool true), Fx (.bool true), Fx (.slice (some ⟨g, 0, none⟩) m co), Fx (.int .i64 ((a : Int))), Fx (.pointer (some ⟨g, a * 65, none⟩)), Fx (.pointer (some ⟨g, a * 65, none⟩)), Fx (.int .i64 (d.1)), Fx (.slice (some ⟨gl, ol, none⟩) n c), Fx (.int .i64 ((i : Int))), Fx (.pointer (some ⟨gl, ol + i * 65, none⟩)), Fx (.pointer (some ⟨gl, ol + i * 65, none⟩)), Fx (.int .i64 (x.1)), Fx (.bool true), Fx (.bool true)] (by kernel_rfl) (by kernel_rfl) ?_ ?_ ?_
              · repeat' (first | exact all_nil | apply all_cons)
                all_goals intro v y y' hv hb
                all_goals first | exact Fx_mono _ _ _ _ hv hb
              · refine ⟨?_, ?_, ?_, ?_, ?_, ?_, ?_, ?_, ?_, ?_, ?_, ?_, ?_, ?_, ?_, ?_, ?_, trivial⟩
                all_goals
                  intro ρ x hp ρc ρg ρf ho hd
                  have o0 : ρ (.tmp 0) = .slice (some ⟨gl, ol, none⟩) n c := ho 0 rfl
                  have o3 : ρ (.tmp 3) = .slice (some ⟨g, 0, none⟩) m co := ho 3 rfl
                  have o4 : ρ (.tmp 4) = .int .i64 ((i : Int)) := ho 4 rfl
                  have o5 : ρ (.tmp 5) = .int .i64 ((a : Int)) := ho 5 rfl
                  clear ho
                  have c1 := cell_later hp ca
                  have c2 := cell_later hp cx
                  simp only [depsR, depR, slotR, Fx, List.getElem?_cons_succ, List.getElem?_cons_zero, Region.binds, forall_const] at hd
                  simp only [guardR]
                  go_split_ands
                · go_simp
                · go_simp
                · go_simp
                · have z1 := FA.out.2
                  go_simp
                · go_simp
                · refine ⟨fun _ => ?_, fun hy => absurd (by simp [yieldR, slotR, *]) hy⟩
                  go_simp
                · refine ⟨fun _ => ?_, fun hy => absurd (by simp [yieldR, slotR, *]) hy⟩
                  go_simp
                · refine ⟨fun _ => ?_, fun hy => absurd (by simp [yieldR, slotR, *]) hy⟩
                  obtain ⟨z1, z2⟩ := FA.out
                  go_simp
                · refine ⟨fun _ => ?_, fun hy => absurd (by simp [yieldR, slotR, *]) hy⟩
                  go_simp
                · refine ⟨fun _ => ?_, fun hy => absurd (by simp [yieldR, slotR, *]) hy⟩
                  go_simp
                · refine ⟨fun _ => ?_, fun hy => absurd (by simp [yieldR, slotR, *]) hy⟩
                  go_simp
                · refine ⟨fun _ => ?_, fun hy => absurd (by simp [yieldR, slotR, *]) hy⟩
                  go_simp
                · refine ⟨fun _ => ?_, fun hy => absurd (by simp [yieldR, slotR, *]) hy⟩
                  obtain ⟨z1, z2⟩ := FI.out
                  go_simp
                · refine ⟨fun _ => ?_, fun hy => absurd (by simp [yieldR, slotR, *]) hy⟩
                  go_simp
                · refine ⟨fun _ => ?_, fun hy => absurd (by simp [yieldR, slotR, *]) hy⟩
                  go_simp
                · refine ⟨fun _ => ?_, fun hy => absurd (by simp [yieldR, slotR, *]) hy⟩
                  have z9 := hlt
                  go_simp
                · go_simp
              · intro vs x1 hp1 hw
                simp only [owed, Fx] at hw
                obtain ⟨e0, e1, e2, e3, e4, e5, e6, e7, e8, e9, e10, e11, e12, e13, e14, e15, e16, -⟩ := hw
                simp only [List.length_cons, List.length_nil, List.take_succ_cons, List.take_nil, List.drop_succ_cons, List.drop_nil, asg, List.cons_append, List.nil_append, e0, e1, e2, e3, e4, e5, e6, e7, e8, e9, e10, e11, e12, e13, e14, e15, e16]
                clear e0 e1 e2 e3 e4 e5 e6 e7 e8 e9 e10 e11 e12 e13 e14 e15 e16
                have HB : Hid _ := hB2.trans (hp1.mono hB2.size)
                have HBE : Hid (∀ j, j < a + 1 → ∀ d, A[j]? = some d → d.1 < x.1) := fun j hj e he => by
                  by_cases h9 : j < a
                  · exact hbe j h9 e he
                  · obtain rfl : j = a := by omega
                    rw [hd] at he
                    cases he
                    exact hlt
                clear hp1 hB2 hbe ca cx hra
                go_wp2
                go_roundw
                case rel => exact ⟨a + 1, by go_num, by omega, HBE.out, HB.out⟩
                case measure => simp [intOf]; omega
            · go_upto_region 6 with fail
              refine wp_relies [Fx (.int .i64 ((a : Int))), Fx (.slice (some ⟨g, 0, none⟩) m co), Fx (.int .i64 ((m : Int))), Fx (.bool true), Fx (.bool true), Fx (.slice (some ⟨g, 0, none⟩) m co), Fx (.int .i64 ((a : Int))), Fx (.pointer (some ⟨g, a * 65, none⟩)), Fx (.pointer (some ⟨g, a * 65, none⟩)), Fx (.int .i64 (d.1)), Fx (.slice (some ⟨gl, ol, none⟩) n c), Fx (.int .i64 ((i : Int))), Fx (.pointer (some ⟨gl, ol + i * 65, none⟩)), Fx (.pointer (some ⟨gl, ol + i * 65, none⟩)), Fx (.int .i64 (x.1)), Fx (.bool false), Fx (.bool false)] (by kernel_rfl) (by kernel_rfl) ?_ ?_ ?_
              · repeat' (first | exact all_nil | apply all_cons)
                all_goals intro v y y' hv hb
                all_goals first | exact Fx_mono _ _ _ _ hv hb
              · refine ⟨?_, ?_, ?_, ?_, ?_, ?_, ?_, ?_, ?_, ?_, ?_, ?_, ?_, ?_, ?_, ?_, ?_, trivial⟩
                all_goals
                  intro ρ x hp ρc ρg ρf ho hd
                  have o0 : ρ (.tmp 0) = .slice (some ⟨gl, ol, none⟩) n c := ho 0 rfl
                  have o3 : ρ (.tmp 3) = .slice (some ⟨g, 0, none⟩) m co := ho 3 rfl
                  have o4 : ρ (.tmp 4) = .int .i64 ((i : Int)) := ho 4 rfl
                  have o5 : ρ (.tmp 5) = .int .i64 ((a : Int)) := ho 5 rfl
                  clear ho
                  have c1 := cell_later hp ca
                  have c2 := cell_later hp cx
                  simp only [depsR, depR, slotR, Fx, List.getElem?_cons_succ, List.getElem?_cons_zero, Region.binds, forall_const] at hd
                  simp only [guardR]
                  go_split_ands
                · go_simp
                · go_simp
                · go_simp
                · have z1 := FA.out.2
                  go_simp
                · go_simp
                · refine ⟨fun _ => ?_, fun hy => absurd (by simp [yieldR, slotR, *]) hy⟩
                  go_simp
                · refine ⟨fun _ => ?_, fun hy => absurd (by simp [yieldR, slotR, *]) hy⟩
                  go_simp
                · refine ⟨fun _ => ?_, fun hy => absurd (by simp [yieldR, slotR, *]) hy⟩
                  obtain ⟨z1, z2⟩ := FA.out
                  go_simp
                · refine ⟨fun _ => ?_, fun hy => absurd (by simp [yieldR, slotR, *]) hy⟩
                  go_simp
                · refine ⟨fun _ => ?_, fun hy => absurd (by simp [yieldR, slotR, *]) hy⟩
                  go_simp
                · refine ⟨fun _ => ?_, fun hy => absurd (by simp [yieldR, slotR, *]) hy⟩
                  go_simp
                · refine ⟨fun _ => ?_, fun hy => absurd (by simp [yieldR, slotR, *]) hy⟩
                  go_simp
                · refine ⟨fun _ => ?_, fun hy => absurd (by simp [yieldR, slotR, *]) hy⟩
                  obtain ⟨z1, z2⟩ := FI.out
                  go_simp
                · refine ⟨fun _ => ?_, fun hy => absurd (by simp [yieldR, slotR, *]) hy⟩
                  go_simp
                · refine ⟨fun _ => ?_, fun hy => absurd (by simp [yieldR, slotR, *]) hy⟩
                  go_simp
                · refine ⟨fun _ => ?_, fun hy => absurd (by simp [yieldR, slotR, *]) hy⟩
                  have z9 := hlt
                  go_simp
                · go_simp
              · intro vs x1 hp1 hw
                simp only [owed, Fx] at hw
                obtain ⟨e0, e1, e2, e3, e4, e5, e6, e7, e8, e9, e10, e11, e12, e13, e14, e15, e16, -⟩ := hw
                simp only [List.length_cons, List.length_nil, List.take_succ_cons, List.take_nil, List.drop_succ_cons, List.drop_nil, asg, List.cons_append, List.nil_append, e0, e1, e2, e3, e4, e5, e6, e7, e8, e9, e10, e11, e12, e13, e14, e15, e16]
                clear e0 e1 e2 e3 e4 e5 e6 e7 e8 e9 e10 e11 e12 e13 e14 e15 e16
                have hB3 := hB2.trans (hp1.mono hB2.size)
                replace ca := cell_later hp1 ca
                replace cx := cell_later hp1 cx
                replace hra := range_later hra hp1
                clear hp1 hB2 vs
                by_cases heq : d.1 = x.1
                · go_upto_region 8 with fail
                  refine wp_relies [Fx (.int .i64 ((a : Int))), Fx (.slice (some ⟨g, 0, none⟩) m co), Fx (.int .i64 ((m : Int))), Fx (.bool true), Fx (.bool true), Fx (.slice (some ⟨g, 0, none⟩) m co), Fx (.int .i64 ((a : Int))), Fx (.pointer (some ⟨g, a * 65, none⟩)), Fx (.pointer (some ⟨g, a * 65, none⟩)), Fx (.int .i64 (d.1)), Fx (.slice (some ⟨gl, ol, none⟩) n c), Fx (.int .i64 ((i : Int))), Fx (.pointer (some ⟨gl, ol + i * 65, none⟩)), Fx (.pointer (some ⟨gl, ol + i * 65, none⟩)), Fx (.int .i64 (x.1)), Fx (.bool true), Fx (.bool true)] (by kernel_rfl) (by kernel_rfl) ?_ ?_ ?_
                  · repeat' (first | exact all_nil | apply all_cons)
                    all_goals intro v y y' hv hb
                    all_goals first | exact Fx_mono _ _ _ _ hv hb
                  · refine ⟨?_, ?_, ?_, ?_, ?_, ?_, ?_, ?_, ?_, ?_, ?_, ?_, ?_, ?_, ?_, ?_, ?_, trivial⟩
                    all_goals
                      intro ρ x hp ρc ρg ρf ho hd
                      have o0 : ρ (.tmp 0) = .slice (some ⟨gl, ol, none⟩) n c := ho 0 rfl
                      have o3 : ρ (.tmp 3) = .slice (some ⟨g, 0, none⟩) m co := ho 3 rfl
                      have o4 : ρ (.tmp 4) = .int .i64 ((i : Int)) := ho 4 rfl
                      have o5 : ρ (.tmp 5) = .int .i64 ((a : Int)) := ho 5 rfl
                      clear ho
                      have c1 := cell_later hp ca
                      have c2 := cell_later hp cx
                      simp only [depsR, depR, slotR, Fx, List.getElem?_cons_succ, List.getElem?_cons_zero, Region.binds, forall_const] at hd
                      simp only [guardR]
                      go_split_ands
                    · go_simp
                    · go_simp
                    · go_simp
                    · have z1 := FA.out.2
                      go_simp
                    · go_simp
                    · refine ⟨fun _ => ?_, fun hy => absurd (by simp [yieldR, slotR, *]) hy⟩
                      go_simp
                    · refine ⟨fun _ => ?_, fun hy => absurd (by simp [yieldR, slotR, *]) hy⟩
                      go_simp
                    · refine ⟨fun _ => ?_, fun hy => absurd (by simp [yieldR, slotR, *]) hy⟩
                      obtain ⟨z1, z2⟩ := FA.out
                      go_simp
                    · refine ⟨fun _ => ?_, fun hy => absurd (by simp [yieldR, slotR, *]) hy⟩
                      go_simp
                    · refine ⟨fun _ => ?_, fun hy => absurd (by simp [yieldR, slotR, *]) hy⟩
                      go_simp
                    · refine ⟨fun _ => ?_, fun hy => absurd (by simp [yieldR, slotR, *]) hy⟩
                      go_simp
                    · refine ⟨fun _ => ?_, fun hy => absurd (by simp [yieldR, slotR, *]) hy⟩
                      go_simp
                    · refine ⟨fun _ => ?_, fun hy => absurd (by simp [yieldR, slotR, *]) hy⟩
                      obtain ⟨z1, z2⟩ := FI.out
                      go_simp
                    · refine ⟨fun _ => ?_, fun hy => absurd (by simp [yieldR, slotR, *]) hy⟩
                      go_simp
                    · refine ⟨fun _ => ?_, fun hy => absurd (by simp [yieldR, slotR, *]) hy⟩
                      go_simp
                    · refine ⟨fun _ => ?_, fun hy => absurd (by simp [yieldR, slotR, *]) hy⟩
                      have z9 := heq
                      go_simp
                    · go_simp
                  · intro vs x2 hp2 hw
                    simp only [owed, Fx] at hw
                    obtain ⟨e0, e1, e2, e3, e4, e5, e6, e7, e8, e9, e10, e11, e12, e13, e14, e15, e16, -⟩ := hw
                    simp only [List.length_cons, List.length_nil, List.take_succ_cons, List.take_nil, List.drop_succ_cons, List.drop_nil, asg, List.cons_append, List.nil_append, e0, e1, e2, e3, e4, e5, e6, e7, e8, e9, e10, e11, e12, e13, e14, e15, e16]
                    clear e0 e1 e2 e3 e4 e5 e6 e7 e8 e9 e10 e11 e12 e13 e14 e15 e16
                    have hB4 := hB3.trans (hp2.mono hB3.size)
                    have hBw := hB.trans (hB4.mono hB.size)
                    have oB := oA.keep hB4
                    obtain ⟨rg1, rg2⟩ := wr_rg26 (hrx _ hBw)
                    have hst : (wrStore (.pointer (some ⟨g, a * 65, none⟩)) (.agg (wrA x))).run Try.prog x2 = .ok .skip (x2.setCells g (a * 65) (wrE.enc x)) := by
                      have h9 := oB.store wrE_ok a x ha
                      rw [wrE_arr, wrE_k] at h9
                      unfold wrStore
                      rw [Sem.run_bind]
                      show ((Instr.storeAt 29 _ _).run Try.prog x2).andThen _ = _
                      rw [show (Instr.storeAt 29 (.pointer (some ⟨g, a * 65, none⟩)) (.agg (wrA x))).run Try.prog x2 = _ from h9]
                      rfl
                    have HO : Hid (OwnK wrE (x2.setCells g (a * 65) (wrE.enc x)) w.heap.size (.slice (some ⟨g, 0, none⟩) m co) (A.set a x)) := oB.put wrE_ok a x ha
                    have HB : Hid (Below w.heap.size w (x2.setCells g (a * 65) (wrE.enc x))) := hBw.trans (oB.below (grown_setC x2 g (a * 65) (wrE.enc x)) hBw.size)
                    have HE : Hid (srtW (l.take (i + 1)) = A.set a x) := HS.out.trans (insW_eq x A a d hbe hd heq)
                    have f1 := FA.out
                    obtain ⟨f2, f3⟩ := f1
                    clear hp2 hB3 hB4 hBw oB ca cx hra hbe
                    go_wp2
                    go_roundw
                    case rel => exact ⟨i + 1, _, m, co, by have := HI.out; omega, by go_num, rfl, by rw [HE.out, List.length_set, hm], fun h9 => absurd h9 hm0, by rw [HE.out]; exact HO.out, HB.out⟩
                    case measure => have := HI.out; simp [intOf]; omega
                · have hne9 : (d.1 == x.1) = false := by simpa using heq
                  go_upto_region 8 with fail
                  refine wp_relies [Fx (.int .i64 ((a : Int))), Fx (.slice (some ⟨g, 0, none⟩) m co), Fx (.int .i64 ((m : Int))), Fx (.bool true), Fx (.bool true), Fx (.slice (some ⟨g, 0, none⟩) m co), Fx (.int .i64 ((a : Int))), Fx (.pointer (some ⟨g, a * 65, none⟩)), Fx (.pointer (some ⟨g, a * 65, none⟩)), Fx (.int .i64 (d.1)), Fx (.slice (some ⟨gl, ol, none⟩) n c), Fx (.int .i64 ((i : Int))), Fx (.pointer (some ⟨gl, ol + i * 65, none⟩)), Fx (.pointer (some ⟨gl, ol + i * 65, none⟩)), Fx (.int .i64 (x.1)), Fx (.bool false), Fx (.bool false)] (by kernel_rfl) (by kernel_rfl) ?_ ?_ ?_
                  · repeat' (first | exact all_nil | apply all_cons)
                    all_goals intro v y y' hv hb
                    all_goals first | exact Fx_mono _ _ _ _ hv hb
                  · refine ⟨?_, ?_, ?_, ?_, ?_, ?_, ?_, ?_, ?_, ?_, ?_, ?_, ?_, ?_, ?_, ?_, ?_, trivial⟩
                    all_goals
                      intro ρ x hp ρc ρg ρf ho hd
                      have o0 : ρ (.tmp 0) = .slice (some ⟨gl, ol, none⟩) n c := ho 0 rfl
                      have o3 : ρ (.tmp 3) = .slice (some ⟨g, 0, none⟩) m co := ho 3 rfl
                      have o4 : ρ (.tmp 4) = .int .i64 ((i : Int)) := ho 4 rfl
                      have o5 : ρ (.tmp 5) = .int .i64 ((a : Int)) := ho 5 rfl
                      clear ho
                      have c1 := cell_later hp ca
                      have c2 := cell_later hp cx
                      simp only [depsR, depR, slotR, Fx, List.getElem?_cons_succ, List.getElem?_cons_zero, Region.binds, forall_const] at hd
                      simp only [guardR]
                      go_split_ands
                    · go_simp
                    · go_simp
                    · go_simp
                    · have z1 := FA.out.2
                      go_simp
                    · go_simp
                    · refine ⟨fun _ => ?_, fun hy => absurd (by simp [yieldR, slotR, *]) hy⟩
                      go_simp
                    · refine ⟨fun _ => ?_, fun hy => absurd (by simp [yieldR, slotR, *]) hy⟩
                      go_simp
                    · refine ⟨fun _ => ?_, fun hy => absurd (by simp [yieldR, slotR, *]) hy⟩
                      obtain ⟨z1, z2⟩ := FA.out
                      go_simp
                    · refine ⟨fun _ => ?_, fun hy => absurd (by simp [yieldR, slotR, *]) hy⟩
                      go_simp
                    · refine ⟨fun _ => ?_, fun hy => absurd (by simp [yieldR, slotR, *]) hy⟩
                      go_simp
                    · refine ⟨fun _ => ?_, fun hy => absurd (by simp [yieldR, slotR, *]) hy⟩
                      go_simp
                    · refine ⟨fun _ => ?_, fun hy => absurd (by simp [yieldR, slotR, *]) hy⟩
                      go_simp
                    · refine ⟨fun _ => ?_, fun hy => absurd (by simp [yieldR, slotR, *]) hy⟩
                      obtain ⟨z1, z2⟩ := FI.out
                      go_simp
                    · refine ⟨fun _ => ?_, fun hy => absurd (by simp [yieldR, slotR, *]) hy⟩
                      go_simp
                    · refine ⟨fun _ => ?_, fun hy => absurd (by simp [yieldR, slotR, *]) hy⟩
                      go_simp
                    · refine ⟨fun _ => ?_, fun hy => absurd (by simp [yieldR, slotR, *]) hy⟩
                      have z9 := hne9
                      go_simp
                    · go_simp
                  · intro vs x2 hp2 hw
                    simp only [owed, Fx] at hw
                    obtain ⟨e0, e1, e2, e3, e4, e5, e6, e7, e8, e9, e10, e11, e12, e13, e14, e15, e16, -⟩ := hw
                    simp only [List.length_cons, List.length_nil, List.take_succ_cons, List.take_nil, List.drop_succ_cons, List.drop_nil, asg, List.cons_append, List.nil_append, e0, e1, e2, e3, e4, e5, e6, e7, e8, e9, e10, e11, e12, e13, e14, e15, e16]
                    clear e0 e1 e2 e3 e4 e5 e6 e7 e8 e9 e10 e11 e12 e13 e14 e15 e16
                    have hB4 := hB3.trans (hp2.mono hB3.size)
                    have HE : Hid (srtW (l.take (i + 1)) = A.take a ++ [x] ++ A.drop a) := HS.out.trans (insW_ne x A a hbe (by omega) (fun e he => by rw [hd] at he; cases he; exact ⟨hlt, heq⟩))
                    clear hp2 hB3 hbe ca cx hra hd FA
                    have hBw := hB.trans (hB4.mono hB.size)
                    have oB := oA.keep hB4
                    have b1 := isK_takeK wrE_ok oB a (by omega)
                    obtain ⟨y1, c1, w1, hr1, o1, bb1, -, k1⟩ := run_appAll wrE_ok x2 w.heap.size none 0 0 [] (A.take a) (some ⟨g, 0, none⟩) a co a 22 (OwnK.nil _ _ _) b1 rfl (by rw [List.length_take]; omega) (by omega) (by show a * 72 ≤ _; omega) (by unfold maxLen; omega) hBw.size
                    obtain ⟨oC, ap1⟩ := k1 _ _ _ _ _ oB (.inr (by simp [Value.ownBlock]))
                    rw [List.nil_append] at o1
                    have hB5 := hBw.trans bb1
                    obtain ⟨rg1, rg2⟩ := wr_rg26 (hrx _ hB5)
                    have hlit := (OwnK.lit1 wrE_ok w1 x).isK wrE_ok
                    rw [wrE_arr] at hlit
                    have oC2 := own_alloc26 (.cells (wrA x) wrE.T) oC
                    have o12 := own_alloc26 (.cells (wrA x) wrE.T) o1
                    have hB6 := hB5.alloc hB5.size (.cells (wrA x) wrE.T)
                    obtain ⟨y2, c2, w2, hr2, o2, bb2, -, k2⟩ := run_appAll wrE_ok (w1.alloc (.cells (wrA x) wrE.T)) w.heap.size y1 a c1 (A.take a) [x] (some ⟨w1.heap.size, 0, none⟩) 1 1 (a + 1) 22 o12 hlit (by rw [List.length_take]; omega) rfl rfl (by show (a + 1) * 72 ≤ _; omega) (by unfold maxLen; omega) hB6.size
                    obtain ⟨oD, ap2⟩ := k2 _ _ _ _ _ oC2 ap1
                    have hB7 := hB6.trans bb2
                    have hco : m ≤ co := ((oA.isK wrE_ok).cap).2
                    have b3 := isK_dropK wrE_ok (h := oD) a (by omega)
                    rw [if_neg (by omega)] at b3
                    obtain ⟨y3, c3, w3, hr3, o3, bb3, nn3, -⟩ := run_appAll wrE_ok w2 w.heap.size y2 (a + 1) c2 (A.take a ++ [x]) (A.drop a) (some ⟨g, a * 65, none⟩) (m - a) (co - a) (m + 1) 22 o2 b3 (by rw [List.length_append, List.length_take]; simp; omega) (by rw [List.length_drop]; omega) (by omega) (by show (m + 1) * 72 ≤ _; omega) (by unfold maxLen; omega) hB7.size
                    have HO : Hid (OwnK wrE w3 w.heap.size (.slice y3 (m + 1) c3) (srtW (l.take (i + 1)))) := by show OwnK _ _ _ _ _; rw [HE.out]; exact o3
                    have HB : Hid (Below w.heap.size w w3) := hB7.trans bb3
                    have HL : Hid ((srtW (l.take (i + 1))).length = m + 1) := by show _ = _; rw [HE.out]; simp; omega
                    replace hr1 : (Builtin.append_ #[22, 22] 22 #[.slice none 0 0, .slice (some ⟨g, 0, none⟩) a co]).run Try.prog x2 = .ok (.slice y1 a c1) w1 := hr1
                    have HR2 : Hid ((Builtin.append_ #[22, 22] 22 #[.slice y1 a c1, .slice (some ⟨w1.heap.size, 0, none⟩) 1 1]).run Try.prog (w1.alloc (.cells (wrA x) 29)) = .ok (.slice y2 (a + 1) c2) w2) := hr2
                    have HR3 : Hid ((Builtin.append_ #[22, 22] 22 #[.slice y2 (a + 1) c2, .slice (some ⟨g, a * 65, none⟩) (m - a) (co - a)]).run Try.prog w2 = .ok (.slice y3 (m + 1) c3) w3) := hr3
                    have j1 : (0 : Int) ≤ (a : Int) := by omega
                    have j2 : (a : Int) ≤ (m : Int) := by omega
                    have j3 : (a : Int) ≤ (co : Int) := by omega
                    have j4 : (m : Int) ≤ (co : Int) := by omega
                    obtain ⟨f2, f3⟩ := FI.out
                    clear hr2 hr3 hrx hB4 hBw oB b1 o1 bb1 k1 oC ap1 hB5 hlit oC2 o12 hB6 o2 bb2 k2 oD ap2 hB7 b3 o3 bb3 nn3 HE
                    go_upto_region 12 with (at_builtin; refine wpL_appT 22 rfl _ _ rfl _ w1 (by exact hr1) ?_)
                    clear hr1
                    have hr2 := HR2.out
                    go_upto_region 13 with (at_builtin; refine wpL_appT 22 rfl _ _ rfl _ w2 (by exact hr2) ?_)
                    clear hr2 rg1 rg2
                    have hr3 := HR3.out
                    go_wp2_with (at_builtin; refine wpL_appT 22 rfl _ _ rfl _ w3 (by exact hr3) ?_)
                    go_roundw
                    case rel => exact ⟨i + 1, _, m + 1, c3, by have := HI.out; omega, by go_num, rfl, HL.out, fun h9 => by omega, HO.out, HB.out⟩
                    case measure => have := HI.out; simp [intOf]; omega
          · obtain rfl : a = m := by omega
            have FN : Hid (¬ (a : Int) < (a : Int)) := by show ¬ _; omega
            go_upto_region 6 with fail
            refine wp_relies [Fx (.int .i64 ((a : Int))), Fx (.slice (some ⟨g, 0, none⟩) a co), Fx (.int .i64 ((a : Int))), Fx (.bool false), Fx (.bool false), Fx (undef), Fx (undef), Fx (undef), Fx (undef), Fx (undef), Fx (undef), Fx (undef), Fx (undef), Fx (undef), Fx (undef), Fx (undef), Fx (.bool false)] (by kernel_rfl) (by kernel_rfl) ?_ ?_ ?_
            · repeat' (first | exact all_nil | apply all_cons)
              all_goals intro v y y' hv hb
              all_goals first | exact Fx_mono _ _ _ _ hv hb
            · refine ⟨?_, ?_, ?_, ?_, ?_, ?_, ?_, ?_, ?_, ?_, ?_, ?_, ?_, ?_, ?_, ?_, ?_, trivial⟩
              all_goals
                intro ρ x hp ρc ρg ρf ho hd
                have o3 : ρ (.tmp 3) = .slice (some ⟨g, 0, none⟩) a co := ho 3 rfl
                have o5 : ρ (.tmp 5) = .int .i64 ((a : Int)) := ho 5 rfl
                clear ho
                simp only [depsR, depR, slotR, Fx, List.getElem?_cons_succ, List.getElem?_cons_zero, Region.binds, forall_const] at hd
                simp only [guardR]
                go_split_ands
              · go_simp
              · go_simp
              · go_simp
              · have z1 := FN.out
                go_simp
              · go_simp
              · refine ⟨fun hy => ?_, fun _ => rfl⟩
                exfalso; simp [yieldR, slotR, undef, *] at hy
              · refine ⟨fun hy => ?_, fun _ => rfl⟩
                exfalso; simp [yieldR, slotR, undef, *] at hy
              · refine ⟨fun hy => ?_, fun _ => rfl⟩
                exfalso; simp [yieldR, slotR, undef, *] at hy
              · refine ⟨fun hy => ?_, fun _ => rfl⟩
                exfalso; simp [yieldR, slotR, undef, *] at hy
              · refine ⟨fun hy => ?_, fun _ => rfl⟩
                exfalso; simp [yieldR, slotR, undef, *] at hy
              · refine ⟨fun hy => ?_, fun _ => rfl⟩
                exfalso; simp [yieldR, slotR, undef, *] at hy
              · refine ⟨fun hy => ?_, fun _ => rfl⟩
                exfalso; simp [yieldR, slotR, undef, *] at hy
              · refine ⟨fun hy => ?_, fun _ => rfl⟩
                exfalso; simp [yieldR, slotR, undef, *] at hy
              · refine ⟨fun hy => ?_, fun _ => rfl⟩
                exfalso; simp [yieldR, slotR, undef, *] at hy
              · refine ⟨fun hy => ?_, fun _ => rfl⟩
                exfalso; simp [yieldR, slotR, undef, *] at hy
              · refine ⟨fun hy => ?_, fun _ => rfl⟩
                exfalso; simp [yieldR, slotR, undef, *] at hy
              · go_simp
            · intro vs x1 hp1 hw
              simp only [owed, Fx] at hw
              obtain ⟨e0, e1, e2, e3, e4, e5, e6, e7, e8, e9, e10, e11, e12, e13, e14, e15, e16, -⟩ := hw
              simp only [List.length_cons, List.length_nil, List.take_succ_cons, List.take_nil, List.drop_succ_cons, List.drop_nil, asg, List.cons_append, List.nil_append, e0, e1, e2, e3, e4, e5, e6, e7, e8, e9, e10, e11, e12, e13, e14, e15, e16]
              clear e0 e1 e2 e3 e4 e5 e6 e7 e8 e9 e10 e11 e12 e13 e14 e15 e16
              have hB3 := hB2.trans (hp1.mono hB2.size)
              clear hp1 hB2 vs
              go_upto_region 8 with fail
              refine wp_relies [Fx (.int .i64 ((a : Int))), Fx (.slice (some ⟨g, 0, none⟩) a co), Fx (.int .i64 ((a : Int))), Fx (.bool false), Fx (.bool false), Fx (undef), Fx (undef), Fx (undef), Fx (undef), Fx (undef), Fx (undef), Fx (undef), Fx (undef), Fx (undef), Fx (undef), Fx (undef), Fx (.bool false)] (by kernel_rfl) (by kernel_rfl) ?_ ?_ ?_
              · repeat' (first | exact all_nil | apply all_cons)
                all_goals intro v y y' hv hb
                all_goals first | exact Fx_mono _ _ _ _ hv hb
              · refine ⟨?_, ?_, ?_, ?_, ?_, ?_, ?_, ?_, ?_, ?_, ?_, ?_, ?_, ?_, ?_, ?_, ?_, trivial⟩
                all_goals
                  intro ρ x hp ρc ρg ρf ho hd
                  have o3 : ρ (.tmp 3) = .slice (some ⟨g, 0, none⟩) a co := ho 3 rfl
                  have o5 : ρ (.tmp 5) = .int .i64 ((a : Int)) := ho 5 rfl
                  clear ho
                  simp only [depsR, depR, slotR, Fx, List.getElem?_cons_succ, List.getElem?_cons_zero, Region.binds, forall_const] at hd
                  simp only [guardR]
                  go_split_ands
                · go_simp
                · go_simp
                · go_simp
                · have z1 := FN.out
                  go_simp
                · go_simp
                · refine ⟨fun hy => ?_, fun _ => rfl⟩
                  exfalso; simp [yieldR, slotR, undef, *] at hy
                · refine ⟨fun hy => ?_, fun _ => rfl⟩
                  exfalso; simp [yieldR, slotR, undef, *] at hy
                · refine ⟨fun hy => ?_, fun _ => rfl⟩
                  exfalso; simp [yieldR, slotR, undef, *] at hy
                · refine ⟨fun hy => ?_, fun _ => rfl⟩
                  exfalso; simp [yieldR, slotR, undef, *] at hy
                · refine ⟨fun hy => ?_, fun _ => rfl⟩
                  exfalso; simp [yieldR, slotR, undef, *] at hy
                · refine ⟨fun hy => ?_, fun _ => rfl⟩
                  exfalso; simp [yieldR, slotR, undef, *] at hy
                · refine ⟨fun hy => ?_, fun _ => rfl⟩
                  exfalso; simp [yieldR, slotR, undef, *] at hy
                · refine ⟨fun hy => ?_, fun _ => rfl⟩
                  exfalso; simp [yieldR, slotR, undef, *] at hy
                · refine ⟨fun hy => ?_, fun _ => rfl⟩
                  exfalso; simp [yieldR, slotR, undef, *] at hy
                · refine ⟨fun hy => ?_, fun _ => rfl⟩
                  exfalso; simp [yieldR, slotR, undef, *] at hy
                · refine ⟨fun hy => ?_, fun _ => rfl⟩
                  exfalso; simp [yieldR, slotR, undef, *] at hy
                · go_simp
              · intro vs x2 hp2 hw
                simp only [owed, Fx] at hw
                obtain ⟨e0, e1, e2, e3, e4, e5, e6, e7, e8, e9, e10, e11, e12, e13, e14, e15, e16, -⟩ := hw
                simp only [List.length_cons, List.length_nil, List.take_succ_cons, List.take_nil, List.drop_succ_cons, List.drop_nil, asg, List.cons_append, List.nil_append, e0, e1, e2, e3, e4, e5, e6, e7, e8, e9, e10, e11, e12, e13, e14, e15, e16]
                clear e0 e1 e2 e3 e4 e5 e6 e7 e8 e9 e10 e11 e12 e13 e14 e15 e16
                have hB4 := hB3.trans (hp2.mono hB3.size)
                have HE : Hid (srtW (l.take (i + 1)) = A.take a ++ [x] ++ A.drop a) := HS.out.trans (insW_ne x A a hbe (by omega) (fun e he => by rw [List.getElem?_eq_none (by omega)] at he; cases he))
                clear hp2 hB3 hbe FN ha
                have hBw := hB.trans (hB4.mono hB.size)
                have oB := oA.keep hB4
                have b1 := isK_takeK wrE_ok oB a (by omega)
                obtain ⟨y1, c1, w1, hr1, o1, bb1, -, k1⟩ := run_appAll wrE_ok x2 w.heap.size none 0 0 [] (A.take a) (some ⟨g, 0, none⟩) a co a 22 (OwnK.nil _ _ _) b1 rfl (by rw [List.length_take]; omega) (by omega) (by show a * 72 ≤ _; omega) (by unfold maxLen; omega) hBw.size
                obtain ⟨oC, ap1⟩ := k1 _ _ _ _ _ oB (.inr (by simp [Value.ownBlock]))
                rw [List.nil_append] at o1
                have hB5 := hBw.trans bb1
                obtain ⟨rg1, rg2⟩ := wr_rg26 (hrx _ hB5)
                have hlit := (OwnK.lit1 wrE_ok w1 x).isK wrE_ok
                rw [wrE_arr] at hlit
                have oC2 := own_alloc26 (.cells (wrA x) wrE.T) oC
                have o12 := own_alloc26 (.cells (wrA x) wrE.T) o1
                have hB6 := hB5.alloc hB5.size (.cells (wrA x) wrE.T)
                obtain ⟨y2, c2, w2, hr2, o2, bb2, -, k2⟩ := run_appAll wrE_ok (w1.alloc (.cells (wrA x) wrE.T)) w.heap.size y1 a c1 (A.take a) [x] (some ⟨w1.heap.size, 0, none⟩) 1 1 (a + 1) 22 o12 hlit (by rw [List.length_take]; omega) rfl rfl (by show (a + 1) * 72 ≤ _; omega) (by unfold maxLen; omega) hB6.size
                obtain ⟨oD, ap2⟩ := k2 _ _ _ _ _ oC2 ap1
                have hB7 := hB6.trans bb2
                obtain ⟨px, hpx⟩ : ∃ px, (if co = a then some (⟨g, 0, none⟩ : Addr) else some ⟨g, a * 65, none⟩) = px := ⟨_, rfl⟩
                have hco : a ≤ co := ((oA.isK wrE_ok).cap).2
                have b3 := isK_dropK wrE_ok (h := oD) a (by omega)
                rw [wrE_k, hpx, Nat.sub_self] at b3
                obtain ⟨y3, c3, w3, hr3, o3, bb3, nn3, -⟩ := run_appAll wrE_ok w2 w.heap.size y2 (a + 1) c2 (A.take a ++ [x]) (A.drop a) (px) 0 (co - a) (a + 1) 22 o2 b3 (by rw [List.length_append, List.length_take]; simp; omega) (by rw [List.length_drop]; omega) (by omega) (by show (a + 1) * 72 ≤ _; omega) (by unfold maxLen; omega) hB7.size
                have HO : Hid (OwnK wrE w3 w.heap.size (.slice y3 (a + 1) c3) (srtW (l.take (i + 1)))) := by show OwnK _ _ _ _ _; rw [HE.out]; exact o3
                have HB : Hid (Below w.heap.size w w3) := hB7.trans bb3
                have HL : Hid ((srtW (l.take (i + 1))).length = a + 1) := by show _ = _; rw [HE.out]; simp; omega
                replace hr1 : (Builtin.append_ #[22, 22] 22 #[.slice none 0 0, .slice (some ⟨g, 0, none⟩) a co]).run Try.prog x2 = .ok (.slice y1 a c1) w1 := hr1
                have HR2 : Hid ((Builtin.append_ #[22, 22] 22 #[.slice y1 a c1, .slice (some ⟨w1.heap.size, 0, none⟩) 1 1]).run Try.prog (w1.alloc (.cells (wrA x) 29)) = .ok (.slice y2 (a + 1) c2) w2) := hr2
                have HR3 : Hid ((Builtin.append_ #[22, 22] 22 #[.slice y2 (a + 1) c2, .slice (px) 0 (co - a)]).run Try.prog w2 = .ok (.slice y3 (a + 1) c3) w3) := hr3
                have j1 : (0 : Int) ≤ (a : Int) := by omega
                have j2 : (a : Int) ≤ (a : Int) := by omega
                have j3 : (a : Int) ≤ (co : Int) := by omega
                have j4 : (a : Int) ≤ (co : Int) := by omega
                obtain ⟨f2, f3⟩ := FI.out
                clear hr2 hr3 hrx hB4 hBw oB b1 o1 bb1 k1 oC ap1 hB5 hlit oC2 o12 hB6 o2 bb2 k2 oD ap2 hB7 b3 o3 bb3 nn3 HE
                go_upto_region 12 with (at_builtin; refine wpL_appT 22 rfl _ _ rfl _ w1 (by exact hr1) ?_)
                clear hr1
                have hr2 := HR2.out
                go_upto_region 13 with (at_builtin; refine wpL_appT 22 rfl _ _ rfl _ w2 (by exact hr2) ?_)
                clear hr2 rg1 rg2
                have hr3 := HR3.out
                go_wp2_with (at_builtin; refine wpL_appT 22 rfl _ _ rfl _ w3 (by exact hr3) ?_)
                go_roundw
                case rel => exact ⟨i + 1, _, a + 1, c3, by have := HI.out; omega, by go_num, rfl, HL.out, fun h9 => by omega, HO.out, HB.out⟩
                case measure => have := HI.out; simp [intOf]; omega
    · obtain rfl : n = i := by omega
      have i0 : ¬ (n : Int) < (n : Int) := by omega
      rw [List.take_of_length_le (by omega)] at hm oA
      go_wp2
      go_ret
      exact ⟨_, _, _, rfl, rfl, oA, hB⟩
end Go.Proofs.Ytmbkkdojjfdliaa
