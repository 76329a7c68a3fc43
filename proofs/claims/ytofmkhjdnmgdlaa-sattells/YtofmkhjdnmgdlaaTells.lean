/- The walk of SatTells. -/
import Derived.Test.YtofmkhjdnmgdlaaRef
import Derived.Test.YtofmkhjdnmgdlaaSumw
namespace Go.Proofs.Ytofmkhjdnmgdlaa
open Go.RowKit
set_option linter.unusedVariables false

set_option maxHeartbeats 1000000 in
theorem tells_any (a : Option Addr) (cap : Nat) (x b : Int) (xs : List Int) (w : World) (hl : Lies w a xs) (hs : Small xs) (hn : xs.length ≤ 1000000) :
    Calls Try.prog 16 #[.int .i64 x, .int .i64 b, .slice a xs.length cap] w fun e w' => e = .returned (.bool true) ∧ Below w.heap.size w w' := by
  go_enter Try.func16, Try.ntmps16
  go_wp2_with fail
  refine (fits_any _ _ _).mono ?_
  rintro e w1 ⟨rfl, rfl⟩
  go_wp2_with fail
  refine (rfits_any _ _ _).mono ?_
  rintro e w2 ⟨rfl, rfl⟩
  go_wp2_with fail
  refine (sat_any _ _ _).mono ?_
  rintro e w3 ⟨rfl, rfl⟩
  go_wp2_with fail
  refine (rsat_any _ _ _).mono ?_
  rintro e w4 ⟨rfl, rfl⟩
  go_wp2_with fail
  refine (add_any a cap b xs _ hl hs hn).mono ?_
  rintro e w5 ⟨rfl, hb5⟩
  go_wp2_with fail
  refine (radd_any a cap b xs _ (hl.below hb5) hs hn).mono ?_
  rintro e w6 ⟨rfl, rfl⟩
  go_wp2
  go_ret
  exact ⟨rfl, hb5⟩

theorem undrew {B : Nat} {w w' : World} (h : Below B w.drew w') : Below B w w' := ⟨h.os, h.tape, h.output, h.size, h.block⟩
theorem keep7 {W X : World} {b c d : Nat} {v0 v1 v2 v3 v4 v5 v6 : Value} (h : Below W.heap.size W X) (hb : b < W.heap.size) (hc : c < W.heap.size) (hd : d < W.heap.size)
    (h0 : W.cell? ⟨b, 0, none⟩ = some v0) (h1 : W.cell? ⟨b, 1, none⟩ = some v1) (h2 : W.cell? ⟨b, 2, none⟩ = some v2) (h3 : W.cell? ⟨c, 0, none⟩ = some v3) (h4 : W.cell? ⟨c, 1, none⟩ = some v4) (h5 : W.cell? ⟨d, 0, none⟩ = some v5) (h6 : W.cell? ⟨d, 1, none⟩ = some v6) :
    X.cell? ⟨b, 0, none⟩ = some v0 ∧ X.cell? ⟨b, 1, none⟩ = some v1 ∧ X.cell? ⟨b, 2, none⟩ = some v2 ∧ X.cell? ⟨c, 0, none⟩ = some v3 ∧ X.cell? ⟨c, 1, none⟩ = some v4 ∧ X.cell? ⟨d, 0, none⟩ = some v5 ∧ X.cell? ⟨d, 1, none⟩ = some v6 :=
  ⟨(h.cell (p := ⟨b, 0, none⟩) hb).trans h0, (h.cell (p := ⟨b, 1, none⟩) hb).trans h1, (h.cell (p := ⟨b, 2, none⟩) hb).trans h2, (h.cell (p := ⟨c, 0, none⟩) hc).trans h3, (h.cell (p := ⟨c, 1, none⟩) hc).trans h4, (h.cell (p := ⟨d, 0, none⟩) hd).trans h5, (h.cell (p := ⟨d, 1, none⟩) hd).trans h6⟩

set_option maxRecDepth 100000 in
set_option maxHeartbeats 4000000 in
theorem tells_walk (a : Option Addr) (len cap : Nat) (zs : List Int) (p q r bits : Int) (w : World) (hrow : IsRow .i64 w a len cap zs) (hp : In64 p) (hq : In64 q) (hr : In64 r) (hbits : In64 bits) :
    Calls Try.prog 3 #[.agg #[.int .i64 p, .int .i64 q, .int .i64 r], .int .i64 bits, .slice a len cap] w fun e w' => e = .returned (.bool true) ∧ Below w.heap.size w w' := by
  obtain ⟨xs, h40, hcap, hmax, hl, hs, hnone, hfew⟩ := few_came a len cap zs w hrow
  go_enter Try.func3, Try.ntmps3
  go_wp2_with fail
  refine (awake_any _).mono ?_
  rintro e w1 ⟨rfl, hb1⟩
  go_wp2_with fail
  refine (hfew _).mono ?_
  rintro e w2 ⟨rfl, rfl⟩
  clear hfew hrow
  have hbx : Below w.heap.size w w2 := ((Below.refl _ w).alloc (Nat.le_refl _) _).trans (hb1.mono (by simp))
  have hl2 := hl.below hbx
  have c0 : w2.cell? ⟨w.heap.size, 0, none⟩ = some (.int .i64 p) := by
    rw [hb1.cell (p := ⟨w.heap.size, 0, none⟩) (by simp), World.cell?_alloc_at _ _ _ _ rfl]; rfl
  have c1 : w2.cell? ⟨w.heap.size, 1, none⟩ = some (.int .i64 q) := by
    rw [hb1.cell (p := ⟨w.heap.size, 1, none⟩) (by simp), World.cell?_alloc_at _ _ _ _ rfl]; rfl
  have c2 : w2.cell? ⟨w.heap.size, 2, none⟩ = some (.int .i64 r) := by
    rw [hb1.cell (p := ⟨w.heap.size, 2, none⟩) (by simp), World.cell?_alloc_at _ _ _ _ rfl]; rfl
  have hw2 : w.heap.size < w2.heap.size := by have := hb1.size; simp at this; omega
  go_wp2_with fail
  refine (sum_any a cap xs _ hl2 hs (by omega)).mono ?_
  rintro e w3 ⟨rfl, hb3⟩
  go_wp2_with fail
  refine (rsum_any a cap xs _ (hl2.below hb3) hs (by omega)).mono ?_
  rintro e w4 ⟨rfl, hb4⟩
  have hb24 : Below w2.heap.size w2 w4 := hb3.trans (hb4.mono hb3.size)
  have d0 : w4.cell? ⟨w.heap.size, 0, none⟩ = some (.int .i64 p) := by rw [hb24.cell (p := ⟨w.heap.size, 0, none⟩) hw2]; exact c0
  have d1 : w4.cell? ⟨w.heap.size, 1, none⟩ = some (.int .i64 q) := by rw [hb24.cell (p := ⟨w.heap.size, 1, none⟩) hw2]; exact c1
  have d2 : w4.cell? ⟨w.heap.size, 2, none⟩ = some (.int .i64 r) := by rw [hb24.cell (p := ⟨w.heap.size, 2, none⟩) hw2]; exact c2
  have hw4 : w.heap.size < w4.heap.size := Nat.lt_of_lt_of_le hw2 hb24.size
  have hl4 := hl2.below hb24
  have hbx4 : Below w.heap.size w w4 := hbx.trans (hb24.mono (by omega))
  clear c0 c1 c2 hb1 hb3 hb4 hl2 hl hb24 hbx
  generalize xs.sum = S at *
  have e1 : (w4.alloc (.cells #[.int .i64 (num64 S), .bool (ok64 S)] 29)).cell? ⟨w.heap.size, 0, none⟩ = some (.int .i64 p) := by rw [World.cell?_alloc_past _ _ _ hw4]; exact d0
  have e2 : (w4.alloc (.cells #[.int .i64 (num64 S), .bool (ok64 S)] 29)).cell? ⟨w.heap.size, 1, none⟩ = some (.int .i64 q) := by rw [World.cell?_alloc_past _ _ _ hw4]; exact d1
  go_wp2_with fail
  refine (mul_any _ _ _ hp hq).mono ?_
  rintro e w5 ⟨rfl, rfl⟩
  go_wp2_with fail
  refine (rmul_any _ _ _ hp hq).mono ?_
  rintro e w6 ⟨rfl, hb6⟩
  have g0 : w6.cell? ⟨w.heap.size, 0, none⟩ = some (.int .i64 p) := by rw [hb6.cell (p := ⟨w.heap.size, 0, none⟩) (by simp; omega)]; exact e1
  have g1 : w6.cell? ⟨w.heap.size, 1, none⟩ = some (.int .i64 q) := by rw [hb6.cell (p := ⟨w.heap.size, 1, none⟩) (by simp; omega)]; exact e2
  have g2 : w6.cell? ⟨w.heap.size, 2, none⟩ = some (.int .i64 r) := by rw [hb6.cell (p := ⟨w.heap.size, 2, none⟩) (by simp; omega), World.cell?_alloc_past _ _ _ hw4]; exact d2
  have k0 : w6.cell? ⟨w4.heap.size, 0, none⟩ = some (.int .i64 (num64 S)) := by rw [hb6.cell (p := ⟨w4.heap.size, 0, none⟩) (by simp), World.cell?_alloc_at _ _ _ _ rfl]; rfl
  have k1 : w6.cell? ⟨w4.heap.size, 1, none⟩ = some (.bool (ok64 S)) := by rw [hb6.cell (p := ⟨w4.heap.size, 1, none⟩) (by simp), World.cell?_alloc_at _ _ _ _ rfl]; rfl
  have hw46 : w4.heap.size < w6.heap.size := by have := hb6.size; simp at this; omega
  have hl6 : Lies w6 a xs := (hl4.below ((Below.refl _ w4).alloc (Nat.le_refl _) _)).below hb6
  have hbx6 : Below w.heap.size w w6 := (hbx4.alloc (by omega) _).trans (hb6.mono (by simp; omega))
  clear hb6 e1 e2 d0 d1 d2 hl4 hbx4
  generalize hP : num64 (p * q) = P at *
  generalize hO : ok64 (p * q) = O at *
  generalize hSN : num64 S = SN at *
  generalize hSO : ok64 S = SO at *
  clear hP hO hSN hSO
  obtain ⟨W, hW⟩ : ∃ W, W = w6.alloc (.cells #[.int .i64 P, .bool O] 29) := ⟨_, rfl⟩
  have m0 : W.cell? ⟨w6.heap.size, 0, none⟩ = some (.int .i64 P) := by rw [hW, World.cell?_alloc_at _ _ _ _ rfl]; rfl
  have m1 : W.cell? ⟨w6.heap.size, 1, none⟩ = some (.bool O) := by rw [hW, World.cell?_alloc_at _ _ _ _ rfl]; rfl
  have hb6W : Below w6.heap.size w6 W := by rw [hW]; exact (Below.refl _ w6).alloc (Nat.le_refl _) _
  have hWs : W.heap.size = w6.heap.size + 1 := by rw [hW]; simp
  have hlW := hl6.below hb6W
  have n0 : W.cell? ⟨w.heap.size, 0, none⟩ = some (.int .i64 p) := by rw [hb6W.cell (p := ⟨w.heap.size, 0, none⟩) (by show w.heap.size < w6.heap.size; omega)]; exact g0
  have n1 : W.cell? ⟨w.heap.size, 1, none⟩ = some (.int .i64 q) := by rw [hb6W.cell (p := ⟨w.heap.size, 1, none⟩) (by show w.heap.size < w6.heap.size; omega)]; exact g1
  have n2 : W.cell? ⟨w.heap.size, 2, none⟩ = some (.int .i64 r) := by rw [hb6W.cell (p := ⟨w.heap.size, 2, none⟩) (by show w.heap.size < w6.heap.size; omega)]; exact g2
  have s0 : W.cell? ⟨w4.heap.size, 0, none⟩ = some (.int .i64 SN) := by rw [hb6W.cell (p := ⟨w4.heap.size, 0, none⟩) hw46]; exact k0
  have s1 : W.cell? ⟨w4.heap.size, 1, none⟩ = some (.bool SO) := by rw [hb6W.cell (p := ⟨w4.heap.size, 1, none⟩) hw46]; exact k1
  have hbxW : Below w.heap.size w W := hbx6.trans (hb6W.mono (by omega))
  have HWs := hide hWs
  have HW := hide hW
  clear g0 g1 g2 k0 k1 hl6 hbx6 hb6W hW hWs
  go_wp2
  rw [← unhide HW]
  have hlWd : Lies W.drew a xs := hlW
  have hle : xs.length ≤ 1000000 := by omega
  have hNW : w.heap.size < W.heap.size := by have := unhide HWs; omega
  have h4W : w4.heap.size < W.heap.size := by have := unhide HWs; omega
  have h6W : w6.heap.size < W.heap.size := by have := unhide HWs; omega
  go_region_held3 (fun w' => w'.cell? ⟨w.heap.size, 0, none⟩ = some (.int .i64 p) ∧ w'.cell? ⟨w.heap.size, 1, none⟩ = some (.int .i64 q) ∧ w'.cell? ⟨w.heap.size, 2, none⟩ = some (.int .i64 r) ∧ w'.cell? ⟨w4.heap.size, 0, none⟩ = some (.int .i64 SN) ∧ w'.cell? ⟨w4.heap.size, 1, none⟩ = some (.bool SO) ∧ w'.cell? ⟨w6.heap.size, 0, none⟩ = some (.int .i64 P) ∧ w'.cell? ⟨w6.heap.size, 1, none⟩ = some (.bool O))
    (first | exact ⟨n0, n1, n2, s0, s1, m0, m1⟩ | exact keep7 hbu' hNW h4W h6W n0 n1 n2 s0 s1 m0 m1 | exact keep7 hbt' hNW h4W h6W n0 n1 n2 s0 s1 m0 m1 | assumption) (first | (go_at_call 14; refine (clamp_any _ _ _ _).mono ?_; rintro e w' ⟨rfl, rfl⟩) | (go_at_call 15; refine (rclamp_any _ _ _ _).mono ?_; rintro e w' ⟨rfl, rfl⟩) | (go_at_call 16; refine (tells_any a cap _ _ xs wt (hlW.below hbt') hs hle).mono ?_; rintro e wu ⟨rfl, hbu⟩; have hbu' := hbt'.trans (hbu.mono hbt'.size)) | (go_at_call 16; refine (tells_any a cap _ _ xs W.drew hlWd hs hle).mono ?_; rintro e wt ⟨rfl, hbt⟩; have hbt' := undrew hbt))
  go_wp2
  go_ret
  exact ⟨rfl, hbxW.trans (hbu'.mono (by show w.heap.size ≤ W.heap.size; omega))⟩
end Go.Proofs.Ytofmkhjdnmgdlaa
