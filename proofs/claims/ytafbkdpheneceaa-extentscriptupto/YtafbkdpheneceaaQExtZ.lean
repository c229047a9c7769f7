import Derived.Test.YtafbkdpheneceaaQExZ5
namespace Go.Proofs.Ytafbkdpheneceaa
open Go.RowKit Go.Shelf

/-! The landed extent keeps what extent owes -/
theorem extOk : ExtOk EIs where
  keeps := fun h hk hG => eis_keeps h hk hG
  lt := fun h => eis_lt h
  ok := fun h => by obtain ⟨b, sv, l, rfl, h, rfl⟩ := h; exact ⟨h.le, h.hi⟩
  ptr := fun h => by obtain ⟨b, sv, l, rfl, h, rfl⟩ := h; exact ⟨_, rfl⟩
  new := fun w a b _ _ => xnew_any w a b
  take := fun w v st F a n h ha hn => by obtain ⟨b, sv, l, rfl, h, rfl⟩ := h; exact xtake_any w b st sv l a n h ha hn
  free := fun w v st F a n h ha hn => by obtain ⟨b, sv, l, rfl, h, rfl⟩ := h; exact xfree_any w b st sv l a n h ha hn
  taken := fun w v st F a h ha => by
    obtain ⟨b, sv, l, rfl, h, rfl⟩ := h
    exact (xtaken_any w b st sv l a h ha).mono fun e w' hh => ⟨hh.1, h.quiet hh.2⟩
  lowest := fun w v st F n h hn => by
    obtain ⟨b, sv, l, rfl, h, rfl⟩ := h
    by_cases c : n < 1
    · exact (xlow_no w b st n c).mono fun e w' hh => ⟨hh.1, h.quiet hh.2⟩
    · exact (xlow_yes w b st sv l n h c).mono fun e w' hh => ⟨hh.1, h.quiet hh.2⟩
  left := fun w v st F h => by
    obtain ⟨b, sv, l, rfl, h, rfl⟩ := h
    exact (xleft_any w b st sv l h).mono fun e w' hh => ⟨hh.1, h.quiet hh.2⟩
  ranges := fun w v st F h => by
    obtain ⟨b, sv, l, rfl, h, rfl⟩ := h
    refine (xranges_any w b st sv l h).mono ?_
    rintro e w' ⟨y, c, rfl, hO, hB⟩
    refine ⟨y, c, _, rfl, hO, (h.later hB).is, fun q hq => .inl hq, fun q hq hm => ?_, Keep.of_below hB⟩
    have := (World.ownsRow.lt hO q hq).1
    have h9 := eis_lt h.is q hm
    omega
  copy := fun w v st F h => by
    obtain ⟨b, sv, l, rfl, h, rfl⟩ := h
    obtain ⟨fr, hi, f⟩ := st
    refine (xcopy_any w b fr hi f sv l h).mono ?_
    rintro e w' ⟨g, sv', rfl, hE, hv, hg, hB⟩
    refine ⟨_, _, _, rfl, (h.later hB).is, hE.is, fun q hq => .inl hq, fun q hq => ?_, Keep.of_below hB⟩
    have h9 : w.heap.size ≤ q := by
      rcases List.mem_cons.1 hq with rfl | hq
      · exact hg
      · exact hv q (by simpa using hq)
    exact ⟨h9, fun hm => by have := eis_lt h.is q hm; omega⟩
theorem extNil : ExtNil where
  take := fun w a n => by
    go_enter Try.func8, Try.ntmps8
    go_wp2_with fail
    go_ret
    exact ⟨rfl, Below.refl _ _⟩
  free := fun w a n => by
    go_enter Try.func9, Try.ntmps9
    go_wp2_with fail
    go_ret
    exact ⟨rfl, Below.refl _ _⟩
  taken := fun w a => by
    go_enter Try.func11, Try.ntmps11
    go_wp2_with fail
    go_ret
    exact ⟨rfl, Below.refl _ _⟩
  lowest := fun w n => by
    obtain ⟨hB, h3, h4, h5, hs⟩ := low_boxes w n
    go_enter Try.func12, Try.ntmps12
    go_wp2_with fail
    refine bodyPost_ret (cell_results2 4 5 (w.heap.size + 1) (w.heap.size + 1 + 1) 0 false rfl rfl rfl h4.cell h5.cell) rfl ?_
    exact ⟨⟨0, rfl⟩, hB⟩
  left := fun w => by
    go_enter Try.func13, Try.ntmps13
    go_wp2_with fail
    go_ret
    exact ⟨rfl, Below.refl _ _⟩
  ranges := fun w => by
    go_enter Try.func10, Try.ntmps10
    go_wp2_with fail
    go_ret
    exact ⟨⟨none, 0, rfl⟩, Below.refl _ _⟩
  copy := fun w => by
    go_enter Try.func18, Try.ntmps18
    go_wp2_with fail
    go_ret
    exact ⟨rfl, Below.refl _ _⟩
end Go.Proofs.Ytafbkdpheneceaa
