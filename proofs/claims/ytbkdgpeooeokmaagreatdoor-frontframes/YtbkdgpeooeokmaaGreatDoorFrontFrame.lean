/- Package front: Frame. -/
import Derived.Test.YtbkdgpeooeokmaaGreatDoorFrontCoefs
import Derived.Test.YtbkdgpeooeokmaaGreatDoorFrontRwhole
namespace Go.Proofs.YtbkdgpeooeokmaaGreatDoor
open Go.RowKit
set_option linter.unusedVariables false

set_option maxRecDepth 100000 in
set_option maxHeartbeats 1600000 in
theorem frame_no (s hop b c pre : Int) (a : Option Addr) (n cap : Nat) (ys : List Int) (w : World) (hl : Lies w a ys) (hy : ys.length = n) (hn63 : n ≤ 9223372036854775807) (hq : Quar w) (h : ¬ (rightF s hop b c pre ∧ allIn ys (-65536) 65536 = true ∧ (n : Int) = s)) :
    Calls Tryz.prog 8 #[.agg #[.int .i64 s, .int .i64 hop, .int .i64 b, .int .i64 c, .int .i64 pre], .slice a n cap] w (Told [] w) := by
  have HL := hide hl
  have HY := hide hy
  obtain ⟨F, hF⟩ : ∃ F, w.heap.size = F := ⟨_, rfl⟩
  obtain ⟨W0, hW0⟩ : ∃ W0, (w.alloc (.cells #[.int .i64 s, .int .i64 hop, .int .i64 b, .int .i64 c, .int .i64 pre] 23)).alloc (.cells #[.int .i64 s, .int .i64 hop, .int .i64 b, .int .i64 c, .int .i64 pre] 47) = W0 := ⟨_, rfl⟩
  have HF := hide (show Cells W0 F [.int .i64 s, .int .i64 hop, .int .i64 b, .int .i64 c, .int .i64 pre] by rw [← hW0, ← hF]; exact (cells_new w [.int .i64 s, .int .i64 hop, .int .i64 b, .int .i64 c, .int .i64 pre] _).alloc _)
  have HG := hide (show Cells W0 (F + 1) [.int .i64 s, .int .i64 hop, .int .i64 b, .int .i64 c, .int .i64 pre] by
    rw [← hW0, ← hF]
    have := cells_new (w.alloc (.cells #[.int .i64 s, .int .i64 hop, .int .i64 b, .int .i64 c, .int .i64 pre] 23)) [.int .i64 s, .int .i64 hop, .int .i64 b, .int .i64 c, .int .i64 pre] 47
    simpa using this)
  have HB := hide (show Below w.heap.size w W0 by rw [← hW0]; exact (alloc_below w _).alloc (by simp) _)
  have HQ := hide (hq.below (unhide HB))
  have HRT := hide (right_any s hop b c pre W0)
  obtain ⟨d, hd⟩ : ∃ d, decide (rightF s hop b c pre) = d := ⟨_, rfl⟩
  obtain ⟨u, hu⟩ : ∃ u, allIn ys (-65536) 65536 = u := ⟨_, rfl⟩
  have H := hide (show ¬ (d = true ∧ u = true ∧ (n : Int) = s) from fun e => h ⟨of_decide_eq_true (hd.trans e.1), hu.trans e.2.1, e.2.2⟩)
  have HD := hide hd
  have HU := hide hu
  have k0 := (unhide HG).cell 0 _ rfl
  have k1 := (unhide HG).cell 1 _ rfl
  have k2 := (unhide HG).cell 2 _ rfl
  have k3 := (unhide HG).cell 3 _ rfl
  have k4 := (unhide HG).cell 4 _ rfl
  clear hl hy hq hd hu h
  go_enter Tryz.func8, Tryz.ntmps8
  go_wp2_with fail
  clear hW0 hF k0 k1 k2 k3 k4
  refine (unhide HRT).mono ?_
  rintro e w1 ⟨rfl, hb⟩
  rw [unhide HD]
  have HB1 := hide (below_trans (unhide HB) hb)
  have HL1 := hide ((unhide HL).below (unhide HB1))
  have f0 := ((unhide HF).below hb).cell 0 _ rfl
  clear hb
  cases d
  · go_wp2
    go_ret
    exact ⟨none, 0, 0, rfl, rfl, .inl rfl, unhide HB1⟩
  · by_cases hs : (n : Int) = s
    · subst hs
      obtain rfl : u = false := by
        cases u
        · rfl
        · exact absurd ⟨rfl, rfl, rfl⟩ (unhide H)
      go_wp2_with fail
      refine (within_any a cap n ys (-65536) 65536 w1 (unhide HL1) (unhide HY) hn63).mono ?_
      rintro e w2 ⟨rfl, rfl⟩
      rw [unhide HU]
      go_wp2
      go_ret
      exact ⟨none, 0, 0, rfl, rfl, .inl rfl, unhide HB1⟩
    · have hs2 : ((n : Int) == s) = false := by simp; exact hs
      go_wp2
      go_ret
      exact ⟨none, 0, 0, rfl, rfl, .inl rfl, unhide HB1⟩

set_option maxRecDepth 100000 in
set_option maxHeartbeats 1600000 in
theorem frame_yes (h B C : Nat) (hop pre : Int) (a : Option Addr) (n cap : Nat) (ys : List Int) (w : World) (hl : Lies w a ys) (hy : ys.length = n) (hn63 : n ≤ 9223372036854775807) (hq : Quar w) (hr : rightF (n : Int) hop (B : Int) (C : Int) pre) (hh : n = 2 * h) (hm : mayN h) (hall : allIn ys (-65536) 65536 = true) :
    Calls Tryz.prog 8 #[.agg #[.int .i64 (n : Int), .int .i64 hop, .int .i64 (B : Int), .int .i64 (C : Int), .int .i64 pre], .slice a n cap] w (Told (frameI n B C ys) w) := by
  have HL := hide hl
  have HY := hide hy
  obtain ⟨F, hF⟩ : ∃ F, w.heap.size = F := ⟨_, rfl⟩
  obtain ⟨W0, hW0⟩ : ∃ W0, (w.alloc (.cells #[.int .i64 (n : Int), .int .i64 hop, .int .i64 (B : Int), .int .i64 (C : Int), .int .i64 pre] 23)).alloc (.cells #[.int .i64 (n : Int), .int .i64 hop, .int .i64 (B : Int), .int .i64 (C : Int), .int .i64 pre] 47) = W0 := ⟨_, rfl⟩
  have HF := hide (show Cells W0 F [.int .i64 (n : Int), .int .i64 hop, .int .i64 (B : Int), .int .i64 (C : Int), .int .i64 pre] by rw [← hW0, ← hF]; exact (cells_new w [.int .i64 (n : Int), .int .i64 hop, .int .i64 (B : Int), .int .i64 (C : Int), .int .i64 pre] _).alloc _)
  have HG := hide (show Cells W0 (F + 1) [.int .i64 (n : Int), .int .i64 hop, .int .i64 (B : Int), .int .i64 (C : Int), .int .i64 pre] by
    rw [← hW0, ← hF]
    have := cells_new (w.alloc (.cells #[.int .i64 (n : Int), .int .i64 hop, .int .i64 (B : Int), .int .i64 (C : Int), .int .i64 pre] 23)) [.int .i64 (n : Int), .int .i64 hop, .int .i64 (B : Int), .int .i64 (C : Int), .int .i64 pre] 47
    simpa using this)
  have HB := hide (show Below w.heap.size w W0 by rw [← hW0]; exact (alloc_below w _).alloc (by simp) _)
  have HQ := hide (hq.below (unhide HB))
  have HRT := hide (right_any (n : Int) hop (B : Int) (C : Int) pre W0)
  have HD := hide (decide_eq_true hr)
  have HU := hide hall
  have HCO := hide (show ∀ w', Lies w' a ys → Quar w' → Calls Tryz.prog 21 #[.agg #[.int .i64 (n : Int), .int .i64 hop, .int .i64 (B : Int), .int .i64 (C : Int), .int .i64 pre], .slice a n cap] w' fun e w'' => ∃ g, e = .returned (.slice (some ⟨g, 0, none⟩) C C) ∧ w'.heap.size ≤ g ∧ Lies w'' (some ⟨g, 0, none⟩) (frameI n B C ys) ∧ Below w'.heap.size w' w'' from fun w' h1 h2 => coefs_any n h B C hop pre a cap ys w' hr hh hm h1 hy hall h2)
  have k0 := (unhide HG).cell 0 _ rfl
  have k1 := (unhide HG).cell 1 _ rfl
  have k2 := (unhide HG).cell 2 _ rfl
  have k3 := (unhide HG).cell 3 _ rfl
  have k4 := (unhide HG).cell 4 _ rfl
  clear hl hy hq hr hall hh hm
  go_enter Tryz.func8, Tryz.ntmps8
  go_wp2_with fail
  clear hW0 hF k0 k1 k2 k3 k4
  refine (unhide HRT).mono ?_
  rintro e w1 ⟨rfl, hb⟩
  rw [unhide HD]
  have HB1 := hide (below_trans (unhide HB) hb)
  have HL1 := hide ((unhide HL).below (unhide HB1))
  have HQ1 := hide ((unhide HQ).below hb)
  have f0 := ((unhide HF).below hb).cell 0 _ rfl
  have k0 := ((unhide HG).below hb).cell 0 _ rfl
  have k1 := ((unhide HG).below hb).cell 1 _ rfl
  have k2 := ((unhide HG).below hb).cell 2 _ rfl
  have k3 := ((unhide HG).below hb).cell 3 _ rfl
  have k4 := ((unhide HG).below hb).cell 4 _ rfl
  clear hb
  go_wp2_with fail
  refine (within_any a cap n ys (-65536) 65536 w1 (unhide HL1) (unhide HY) hn63).mono ?_
  rintro e w2 ⟨rfl, rfl⟩
  rw [unhide HU]
  go_wp2_with fail
  refine (unhide HCO _ (unhide HL1) (unhide HQ1)).mono ?_
  rintro e w3 ⟨g, rfl, _, hlg, hb3⟩
  have HLG := hide hlg
  have HB3 := hide (below_trans (unhide HB1) hb3)
  clear hlg hb3
  go_wp2
  go_ret
  exact ⟨_, C, C, rfl, frame_len n B C ys, unhide HLG, unhide HB3⟩

theorem frame_any (s hop b c pre : Int) (a : Option Addr) (n cap : Nat) (ys : List Int) (w : World) (hl : Lies w a ys) (hy : ys.length = n) (hn63 : n ≤ 9223372036854775807) (hq : Quar w) :
    Calls Tryz.prog 8 #[.agg #[.int .i64 s, .int .i64 hop, .int .i64 b, .int .i64 c, .int .i64 pre], .slice a n cap] w (Told (frameR s hop b c pre ys) w) := by
  by_cases h : rightF s hop b c pre ∧ allIn ys (-65536) 65536 = true ∧ (n : Int) = s
  · obtain ⟨hr, ha, hs⟩ := h
    obtain ⟨B, rfl⟩ : ∃ B : Nat, b = (B : Int) := ⟨b.toNat, by have := hr.2.2.2.1; omega⟩
    obtain ⟨C, rfl⟩ : ∃ C : Nat, c = (C : Int) := ⟨c.toNat, by have := hr.2.2.2.2.1; omega⟩
    subst hs
    obtain ⟨h', hm, hh⟩ := size_half n (by have := hr.1; omega)
    rw [frameR_yes n B C hop pre ys hr ha hy]
    exact frame_yes h' B C hop pre a n cap ys w hl hy hn63 hq hr hh hm ha
  · rw [frameR_no s hop b c pre ys (by rw [hy]; exact h)]
    exact frame_no s hop b c pre a n cap ys w hl hy hn63 hq h
end Go.Proofs.YtbkdgpeooeokmaaGreatDoor
