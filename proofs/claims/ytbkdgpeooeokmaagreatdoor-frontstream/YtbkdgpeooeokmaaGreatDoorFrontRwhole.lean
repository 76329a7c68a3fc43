/- The document's frames of all sound: frames of any front; flattened samples; tails. -/
import Derived.Test.YtbkdgpeooeokmaaGreatDoorFrontRframe
namespace Go.Proofs.YtbkdgpeooeokmaaGreatDoor
open Go.RowKit
set_option linter.unusedVariables false

/-- Frame(f, ys..), of any front and any numbers. -/
def frameR (s hop b c pre : Int) (ys : List Int) : List Int := if rightF s hop b c pre ∧ allIn ys (-65536) 65536 = true ∧ (ys.length : Int) = s then frameI s.toNat b.toNat c.toNat ys else []
theorem frameR_no (s hop b c pre : Int) (ys : List Int) (h : ¬ (rightF s hop b c pre ∧ allIn ys (-65536) 65536 = true ∧ (ys.length : Int) = s)) : frameR s hop b c pre ys = [] := by unfold frameR; rw [if_neg h]
theorem frameR_yes (n B C : Nat) (hop pre : Int) (ys : List Int) (hr : rightF (n : Int) hop (B : Int) (C : Int) pre) (ha : allIn ys (-65536) 65536 = true) (hy : ys.length = n) : frameR (n : Int) hop (B : Int) (C : Int) pre ys = frameI n B C ys := by
  unfold frameR; rw [if_pos ⟨hr, ha, by omega⟩]; simp
theorem frameR_le (s hop b c pre : Int) (ys : List Int) : (frameR s hop b c pre ys).length ≤ 16 := by
  unfold frameR; split
  · rename_i h; rw [frame_len]; have := h.1.2.2.2.1; have := h.1.2.2.2.2.2.1; omega
  · simp
theorem size_half (n : Nat) (h : n = 16 ∨ n = 32 ∨ n = 64) : ∃ h', mayN h' ∧ n = 2 * h' := by
  rcases h with rfl | rfl | rfl
  · exact ⟨8, by decide, rfl⟩
  · exact ⟨16, by decide, rfl⟩
  · exact ⟨32, by decide, rfl⟩

set_option maxRecDepth 100000 in
set_option maxHeartbeats 1600000 in
theorem rframe_no (s hop b c pre : Int) (a : Option Addr) (n cap : Nat) (ys : List Int) (w : World) (hl : Lies w a ys) (hy : ys.length = n) (hn63 : n ≤ 9223372036854775807) (h : ¬ (rightF s hop b c pre ∧ allIn ys (-65536) 65536 = true ∧ (n : Int) = s)) :
    Calls Tryz.prog 9 #[.agg #[.int .i64 s, .int .i64 hop, .int .i64 b, .int .i64 c, .int .i64 pre], .slice a n cap] w (Told [] w) := by
  have HL := hide hl
  have HY := hide hy
  obtain ⟨W0, hW0⟩ : ∃ W0, w.alloc (.cells #[.int .i64 s, .int .i64 hop, .int .i64 b, .int .i64 c, .int .i64 pre] 23) = W0 := ⟨_, rfl⟩
  obtain ⟨F, hF⟩ : ∃ F, w.heap.size = F := ⟨_, rfl⟩
  have f0 : W0.cell? ⟨F, 0, none⟩ = some (.int .i64 s) := by rw [← hW0, ← hF, World.cell?_alloc_at _ _ _ _ rfl]; rfl
  have f1 : W0.cell? ⟨F, 1, none⟩ = some (.int .i64 hop) := by rw [← hW0, ← hF, World.cell?_alloc_at _ _ _ _ rfl]; rfl
  have f2 : W0.cell? ⟨F, 2, none⟩ = some (.int .i64 b) := by rw [← hW0, ← hF, World.cell?_alloc_at _ _ _ _ rfl]; rfl
  have f3 : W0.cell? ⟨F, 3, none⟩ = some (.int .i64 c) := by rw [← hW0, ← hF, World.cell?_alloc_at _ _ _ _ rfl]; rfl
  have f4 : W0.cell? ⟨F, 4, none⟩ = some (.int .i64 pre) := by rw [← hW0, ← hF, World.cell?_alloc_at _ _ _ _ rfl]; rfl
  have HF0 := hide f0
  have HBW := hide (show Below w.heap.size w W0 by rw [← hW0]; exact alloc_below w _)
  obtain ⟨d, hd⟩ : ∃ d, decide (rightF s hop b c pre) = d := ⟨_, rfl⟩
  obtain ⟨u, hu⟩ : ∃ u, allIn ys (-65536) 65536 = u := ⟨_, rfl⟩
  have H := hide (show ¬ (d = true ∧ u = true ∧ (n : Int) = s) from fun e => h ⟨of_decide_eq_true (hd.trans e.1), hu.trans e.2.1, e.2.2⟩)
  have HD := hide hd
  have HU := hide hu
  clear h hl hy hd hu
  go_enter Tryz.func9, Tryz.ntmps9
  go_wp2_with fail
  clear hW0 hF
  refine (rright_any s hop b c pre W0).mono ?_
  rintro e w1 ⟨rfl, hb⟩
  rw [unhide HD]
  have HL1 := hide ((unhide HL).below (below_trans (unhide HBW) hb))
  have HB1 := hide (below_trans (unhide HBW) hb)
  have g0 : w1.cell? ⟨F, 0, none⟩ = some (.int .i64 s) := (hb.cell (p := ⟨F, 0, none⟩) (lt_of_cell f0)).trans f0
  clear hb f0 f1 f2 f3 f4
  go_wp2_with fail
  refine (rall_any a cap n ys (-65536) 65536 w1 (unhide HL1) (unhide HY) hn63).mono ?_
  rintro e w2 ⟨rfl, rfl⟩
  rw [unhide HU]
  have hne := unhide H
  cases d
  · clear hne
    go_wp2
    go_ret
    exact ⟨none, 0, 0, rfl, rfl, .inl rfl, unhide HB1⟩
  · cases u
    · clear hne
      go_wp2
      go_ret
      exact ⟨none, 0, 0, rfl, rfl, .inl rfl, unhide HB1⟩
    · have hns : ¬ (n : Int) = s := fun e => hne ⟨rfl, rfl, e⟩
      have hns2 : ((n : Int) == s) = false := by simp; exact hns
      clear hne
      go_wp2
      go_ret
      exact ⟨none, 0, 0, rfl, rfl, .inl rfl, unhide HB1⟩
theorem rframe_any (s hop b c pre : Int) (a : Option Addr) (n cap : Nat) (ys : List Int) (w : World) (hl : Lies w a ys) (hy : ys.length = n) (hn63 : n ≤ 9223372036854775807) :
    Calls Tryz.prog 9 #[.agg #[.int .i64 s, .int .i64 hop, .int .i64 b, .int .i64 c, .int .i64 pre], .slice a n cap] w (Told (frameR s hop b c pre ys) w) := by
  by_cases h : rightF s hop b c pre ∧ allIn ys (-65536) 65536 = true ∧ (n : Int) = s
  · obtain ⟨hr, ha, hs⟩ := h
    obtain ⟨B, rfl⟩ : ∃ B : Nat, b = (B : Int) := ⟨b.toNat, by have := hr.2.2.2.1; omega⟩
    obtain ⟨C, rfl⟩ : ∃ C : Nat, c = (C : Int) := ⟨c.toNat, by have := hr.2.2.2.2.1; omega⟩
    subst hs
    obtain ⟨h', hm, hh⟩ := size_half n (by have := hr.1; omega)
    rw [frameR_yes n B C hop pre ys hr ha hy]
    exact rframe_yes n h' B C hop pre a cap ys w hr hh hm hl hy ha
  · rw [frameR_no s hop b c pre ys (by rw [hy]; exact h)]
    exact rframe_no s hop b c pre a n cap ys w hl hy hn63 h
end Go.Proofs.YtbkdgpeooeokmaaGreatDoor
