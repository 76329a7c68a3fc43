/- MelTells: the walk. -/
import Derived.Test.YtmogegacgmgkbaaMelWake
namespace Go.Proofs.Ytmogegacgmgkbaa
open Go.RowKit
set_option linter.unusedVariables false

theorem and31t (n : Int) : bits .and .i64 n 31 = n % 32 := i64_mask n 31 5 (by decide) (by decide)
theorem and127t (n : Int) : bits .and .i64 n 127 = n % 128 := i64_mask n 127 7 (by decide) (by decide)

set_option maxRecDepth 100000 in
set_option maxHeartbeats 4000000 in
theorem meltells_walk (q0 q1 q2 q3 x y : Int) (w : World) (h0 : In64 q0) (h1 : In64 q1) (h2 : In64 q2) (h3 : In64 q3) (hx : In64 x) (hy : In64 y) :
    Calls Try.prog 3 #[.agg #[.int .i64 q0, .int .i64 q1, .int .i64 q2, .int .i64 q3], .int .i64 x, .int .i64 y] w fun e w' => e = .returned (.bool true) ∧ Below w.heap.size w w' := by
  have H := hide (And.intro h0 (And.intro h1 (And.intro h2 h3)))
  have HX := hide (And.intro hx hy)
  clear h0 h1 h2 h3 hx hy
  obtain ⟨W0, hW0⟩ : ∃ W0, w.alloc (.cells #[.int .i64 q0, .int .i64 q1, .int .i64 q2, .int .i64 q3] 22) = W0 := ⟨_, rfl⟩
  obtain ⟨B, hB⟩ : ∃ B, w.heap.size = B := ⟨_, rfl⟩
  have hcs : W0.cell? ⟨B, 0, none⟩ = some (.int .i64 q0) ∧ W0.cell? ⟨B, 1, none⟩ = some (.int .i64 q1) ∧ W0.cell? ⟨B, 2, none⟩ = some (.int .i64 q2) ∧ W0.cell? ⟨B, 3, none⟩ = some (.int .i64 q3) := by
    rw [← hW0, ← hB]
    refine ⟨?_, ?_, ?_, ?_⟩ <;> (rw [World.cell?_alloc_at _ _ _ _ rfl]; rfl)
  have HC := hide hcs
  have HBW := hide (show Below w.heap.size w W0 by rw [← hW0]; exact alloc_below w _)
  have HSZ := hide (show B < W0.heap.size by rw [← hW0, ← hB]; simp)
  have ax := and127t x
  have ay := and31t y
  have hx2 : In64 (x % 128) := by unfold In64; omega
  have hy2 : In64 (y % 32) := by unfold In64; omega
  have HXY := hide (And.intro hx2 hy2)
  clear hcs hx2 hy2
  go_enter Try.func3, Try.ntmps3
  go_wp2_with fail
  have HB' := hide hB
  clear hW0 hB
  refine (mel_awake W0).mono ?_
  rintro e w0 ⟨rfl, hb⟩
  have HB0 := hide hb
  clear hb
  go_wp2_with fail
  refine (edges_any x y _ (unhide HX).1 (unhide HX).2).mono ?_
  rintro e w1a ⟨a1, l1, c1, rfl, hl1, hlies1, hb1⟩
  have HL1 := hide hl1
  have HLI1 := hide hlies1
  have HB1a := hide (below_trans (unhide HB0) hb1)
  clear hl1 hlies1 hb1
  go_wp2_with fail
  refine (redges_any x y _ (unhide HX).1 (unhide HX).2).mono ?_
  rintro e w1b ⟨r1, m1, d1, rfl, hl1, hlies1, hb1⟩
  obtain rfl : l1 = m1 := by rw [← unhide HL1, ← hl1]
  have HLJ1 := hide hlies1
  have HB1c := hide hb1
  have HB1b := hide (below_trans (unhide HB1a) hb1)
  clear hl1 hlies1 hb1
  go_wp2_with fail
  refine (same_any a1 r1 c1 d1 (edgesI x y) l1 (unhide HL1) (by have := edgesI_le x y; rw [unhide HL1] at this; omega) _ ((unhide HLI1).below (unhide HB1c)) (unhide HLJ1)).mono ?_
  rintro e w1 ⟨rfl, hb1⟩
  have HB1 := hide (below_trans (unhide HB1b) hb1)
  clear hb1
  go_wp2_with fail
  refine (edges_any (x % 128) (y % 32) _ (unhide HXY).1 (unhide HXY).2).mono ?_
  rintro e w2a ⟨a2, l2, c2, rfl, hl2, hlies2, hb2⟩
  have HL2 := hide hl2
  have HLI2 := hide hlies2
  have HB2a := hide (below_trans (unhide HB1) hb2)
  clear hl2 hlies2 hb2
  go_wp2_with fail
  refine (redges_any (x % 128) (y % 32) _ (unhide HXY).1 (unhide HXY).2).mono ?_
  rintro e w2b ⟨r2, m2, d2, rfl, hl2, hlies2, hb2⟩
  obtain rfl : l2 = m2 := by rw [← unhide HL2, ← hl2]
  have HLJ2 := hide hlies2
  have HB2c := hide hb2
  have HB2b := hide (below_trans (unhide HB2a) hb2)
  clear hl2 hlies2 hb2
  go_wp2_with fail
  refine (same_any a2 r2 c2 d2 (edgesI (x % 128) (y % 32)) l2 (unhide HL2) (by have := edgesI_le (x % 128) (y % 32); rw [unhide HL2] at this; omega) _ ((unhide HLI2).below (unhide HB2c)) (unhide HLJ2)).mono ?_
  rintro e w2 ⟨rfl, hb2⟩
  have HB2 := hide (below_trans (unhide HB2b) hb2)
  clear hb2
  have c0 : w2.cell? ⟨B, 0, none⟩ = some (.int .i64 q0) := ((unhide HB2).cell (p := ⟨B, 0, none⟩) (unhide HSZ)).trans (unhide HC).1
  have c1 : w2.cell? ⟨B, 1, none⟩ = some (.int .i64 q1) := ((unhide HB2).cell (p := ⟨B, 1, none⟩) (unhide HSZ)).trans (unhide HC).2.1
  have c2 : w2.cell? ⟨B, 2, none⟩ = some (.int .i64 q2) := ((unhide HB2).cell (p := ⟨B, 2, none⟩) (unhide HSZ)).trans (unhide HC).2.2.1
  have c3 : w2.cell? ⟨B, 3, none⟩ = some (.int .i64 q3) := ((unhide HB2).cell (p := ⟨B, 3, none⟩) (unhide HSZ)).trans (unhide HC).2.2.2
  have a0 := and63 q0
  have a1 := and63 q1
  have a2 := and63 q2
  have a3 := and63 q3
  obtain ⟨t, ht, htb⟩ : ∃ t, IntKind.i64.wrap (q0 % 128 - 30) = t ∧ In64 t := ⟨q0 % 128 - 30, by rw [IntKind.wrap_i64]; omega, by unfold In64; omega⟩
  have HT := hide htb
  obtain ⟨z0, hz0⟩ : ∃ z, q0 % 64 = z := ⟨_, rfl⟩
  obtain ⟨z1, hz1⟩ : ∃ z, q1 % 64 = z := ⟨_, rfl⟩
  obtain ⟨z2, hz2⟩ : ∃ z, q2 % 64 = z := ⟨_, rfl⟩
  obtain ⟨z3, hz3⟩ : ∃ z, q3 % 64 = z := ⟨_, rfl⟩
  have HZ := hide (show In64 z0 ∧ In64 z1 ∧ In64 z2 ∧ In64 z3 by unfold In64; omega)
  have a7 := and127t q0
  clear htb
  go_wp2_with fail
  have p0 := (unhide H).1
  have p1 := (unhide H).2.1
  have p2 := (unhide H).2.2.1
  have p3 := (unhide H).2.2.2
  have p4 := unhide HT
  have p5 := (unhide HZ).1
  have p6 := (unhide HZ).2.1
  have p7 := (unhide HZ).2.2.1
  have p8 := (unhide HZ).2.2.2
  clear HT HZ H HB1a HB1b HB1c HB2a HB2b HB2c HLI1 HLI2 HLJ1 HLJ2 HL1 HL2 hz0 hz1 hz2 hz3 HX HXY ax ay
  go_quiet ((first
    | (go_at_call 12; exact Calls.quiet_of_same (high_any _ _ (by assumption)))
    | (go_at_call 13; exact Calls.quiet_of_same (rhigh_any _ _ (by assumption)))
    | (go_at_call 14; exact Calls.quiet_of (weight_quiet _ _ _ _ _ (by assumption) (by assumption) (by assumption) (by assumption)))
    | (go_at_call 15; exact Calls.quiet_of_same (rweight_any _ _ _ _ _ (by assumption) (by assumption) (by assumption) (by assumption)))))
  have HB5 := hide (show Below w.heap.size w (w2.drewN nq) from below_trans (below_trans (unhide HBW) (unhide HB2)) (below_drewN w2 nq))
  clear HB2 HBW
  go_wp2
  go_ret
  exact ⟨rfl, unhide HB5⟩
end Go.Proofs.Ytmogegacgmgkbaa
