import Derived.Test.YtfihpfaljjljhaaAsksYes
import Derived.Test.YtfihpfaljjljhaaOpenAsk
namespace Go.Proofs.Ytfihpfaljjljhaa
open Go.ChangeShapes Go.WideShapes Go.ChangeAt Go.RowKit

theorem lawAsks_any (s : Nat → UInt8) (At An To Av : Int) (sl : Value) (l : List UInt8) (w : World) (h0 : -9223372036854775808 ≤ At) (h1 : At ≤ 9223372036854775807) (h2 : -9223372036854775808 ≤ An) (h3 : An ≤ 9223372036854775807) (hv0 : 0 ≤ Av) (hv1 : Av < 4294967296) (hl : l.length + 1 ≤ 140737488355328) (hs : IsB w sl l) :
    Calls Try.prog 5 #[.agg (secA s), .agg #[.int .i64 At, .int .i64 An, .int .i64 To, .int .u32 Av, sl]] w fun e w' => e = .returned (.bool true) ∧ Below w.heap.size w w' := by
  cases hin : inB At An
  · exact lawAsks_no s At An To Av sl l w h0 h1 h2 h3 hv0 hv1 hl hs hin
  · exact lawAsks_yes s At An To Av sl l w h0 h1 h2 h3 hv0 hv1 hl hs hin
set_option maxRecDepth 100000 in
theorem liftedAsks (os : Os) (started : os.Started) (H : Type) (enc : TypeId × Value → H) :
    ReturnsInHanded {} Try.checked os 5 .any (Rows.octetAsksSpec.pre6 enc Try.prog Try.f5 Rows.octetAsksRow.domain false) (Rows.octetAsksSpec.post enc Try.prog Try.f5 false true false false) := by
  refine returnsInHanded_of_change_sized (C := Try.checked) own started (by kernel_rfl) Try.func5
    (ChangeSpec.witness6 (enc := enc) (C := Try.checked) false ⟨#[], #[.agg (secA secZ), .agg #[.int .i64 0, .int .i64 0, .int .i64 0, .int .u32 0, .slice none 0 0]], []⟩ 8 (by kernel_rfl) (by kernel_rfl) (by kernel_rfl) (by kernel_rfl)) ?_
  intro W base args ds gs before hval0 hW hcnd hsz0 _
  have hval : ∀ (j : Nat) t v, Try.f5.params[j]? = some t → args[j]? = some v → Value.okWide Try.prog W .any base t v := hval0
  have hsz : (DataW.weightsEach Try.prog (Try.f5.params.toList ++ Rows.octetAsksSpec.plain.varTypes Try.prog) (ds ++ gs)).all (fun x => decide (x ≤ reachBytes)) = true := hsz0
  have hW' := hW
  obtain ⟨p, q, hA0, hV, rfl, hfz, hnd⟩ := hW
  have hA : DataW.TrodAll enc Try.prog W 0 (fun _ => true) true Try.f5.params.toList args.toList ds p := hA0
  rw [Try.params5] at hA hval hsz
  obtain ⟨v0, vs0, d0, ds0, p0, q0, hargs, rfl, rfl, h0, r0⟩ := trodAll_cons hA
  obtain ⟨v1, vs1, d1, ds1, p1, q1, rfl, rfl, rfl, h1, r1⟩ := trodAll_cons r0
  obtain ⟨rfl, rfl, rfl⟩ := trodAll_nil r1
  obtain rfl : args = #[v0, v1] := by cases args; simp_all
  obtain ⟨rfl, rfl⟩ := trodVars_none hV
  have k0 := h0
  have k1 := h1
  have lt0 : ∀ x ∈ p0, x.block < W.heap.size := by obtain ⟨m, hm⟩ := k0; exact DataW.trod_lt m _ _ _ hm
  have lt1 : ∀ x ∈ p1, x.block < W.heap.size := by obtain ⟨m, hm⟩ := k1; exact DataW.trod_lt m _ _ _ hm
  obtain ⟨s, rfl⟩ := open_sec (hval 0 23 v0 rfl rfl) h0
  obtain ⟨At, An, To, Av, sl, l, e0, e1, e2, e3, e4, rfl, rfl, hAt, hAn, hTo, hAv, hb, hlen⟩ := open_ask (hval 1 30 v1 rfl rfl) h1
  have hr := ask_sized (j := 1) hsz rfl rfl
  clear hA0 hval0
  refine (lawAsks_any s At An To Av sl l W hAt.1 hAt.2 hAn.1 hAn.2 hAv.1 hAv.2 (by omega) hb).mono fun e W' ⟨he, bel⟩ => ?_
  subst he
  exact ⟨_, rfl, _, _, _, [], _, [], hW', trodAll_mk1 (shut_bool Try.underlying4 _), (trodAll_cons_mk (Below.trod laidOut (by kernel_rfl) (of_decide_eq_true (by kernel_rfl)) k0 bel lt0) (trodAll_cons_mk (Below.trod laidOut (by kernel_rfl) (of_decide_eq_true (by kernel_rfl)) k1 bel lt1) trodAll_mk0)), rfl, bel.frame _, fun h => by cases h⟩

theorem octetAsks_holds : Rows.OctetAsksSaid :=
  OpenClaim.holds_of_wide 5 Try.f5 rfl rfl rfl rfl rfl rfl rfl ⟨rfl, rfl, rfl, rfl, rfl⟩ rfl rfl rfl rfl rfl (by kernel_rfl) Try.func5 (by kernel_rfl)
    (of_decide_eq_true (by kernel_rfl)) (by unfold Func.isWrapper; first | (rw [if_pos (by decide +kernel)]; kernel_rfl) | (rw [if_neg (by decide +kernel)]; exact ⟨rfl, rfl⟩))
    (fun os started H enc _ => liftedAsks os started H enc)
#print axioms octetAsks_holds
end Go.Proofs.Ytfihpfaljjljhaa
