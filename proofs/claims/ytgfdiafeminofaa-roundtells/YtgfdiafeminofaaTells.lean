/- The walk of RoundTells. -/
import Derived.Test.YtgfdiafeminofaaRef2
import Derived.Test.YtgfdiafeminofaaWake
import Derived.Deep.RegionHeld3
namespace Go.Proofs.Ytgfdiafeminofaa
open Go.RowKit
set_option linter.unusedVariables false

set_option maxHeartbeats 1000000 in
theorem tells_any (x n s : Int) (w : World) (hx : In64 x) (hn : In64 n) :
    Calls Try.prog 9 #[.int .i64 x, .int .i64 n, .int .i64 s] w fun e w' => e = .returned (.bool true) ∧ Below w.heap.size w w' := by
  by_cases c : n < 1
  · have H1 := hide (quoI_no x n c)
    have H2 := hide (remI_no x n c)
    have H3 := hide (divI_no x n c)
    go_enter Try.func9, Try.ntmps9
    go_wp2_with fail
    refine (parts_any x n _ hx hn).mono ?_
    rintro e w1 ⟨rfl, hb1⟩
    rw [unhide H1, unhide H2]
    go_wp2_with fail
    refine (div_any x n _ hx hn).mono ?_
    rintro e w2 ⟨rfl, hb2⟩
    rw [unhide H3]
    go_wp2_with fail
    refine (half_any x s _ hx).mono ?_
    rintro e w3 ⟨rfl, hb3⟩
    go_wp2_with fail
    refine (rhalf_any x s _ hx).mono ?_
    rintro e w4 ⟨rfl, rfl⟩
    go_wp2
    go_ret
    exact ⟨rfl, below_trans (below_trans hb1 hb2) hb3⟩
  · have hn1 : 1 ≤ n := by omega
    have hn2 := hn.2
    have H1 := hide (quoI_pos x n hn1)
    have H2 := hide (remI_pos x n hn1)
    go_enter Try.func9, Try.ntmps9
    go_wp2_with fail
    refine (parts_any x n _ hx hn).mono ?_
    rintro e w1 ⟨rfl, hb1⟩
    rw [unhide H1, unhide H2]
    go_wp2_with fail
    refine (rquot_any x n _ hx hn1 hn2).mono ?_
    rintro e w2 ⟨rfl, rfl⟩
    go_wp2_with fail
    refine (rrest_any x n _ hx hn1 hn2).mono ?_
    rintro e w2 ⟨rfl, rfl⟩
    go_wp2_with fail
    refine (div_any x n _ hx hn).mono ?_
    rintro e w3 ⟨rfl, hb3⟩
    go_wp2_with fail
    refine (rdiv_any x n _ hx hn2).mono ?_
    rintro e w4 ⟨rfl, rfl⟩
    go_wp2_with fail
    refine (half_any x s _ hx).mono ?_
    rintro e w5 ⟨rfl, hb5⟩
    go_wp2_with fail
    refine (rhalf_any x s _ hx).mono ?_
    rintro e w6 ⟨rfl, rfl⟩
    go_wp2_with fail
    refine (scale_any x n s _ hx).mono ?_
    rintro e w7 ⟨rfl, hb7⟩
    go_wp2_with fail
    refine (rscale_any x n s _ hx).mono ?_
    rintro e w8 ⟨rfl, hb8⟩
    go_wp2
    go_ret
    exact ⟨rfl, below_trans (below_trans (below_trans (below_trans hb1 hb3) hb5) hb7) hb8⟩

theorem keep3 {W X : World} {b : Nat} {v0 v1 v2 : Value} (h : Below W.heap.size W X) (hb : b < W.heap.size)
    (h0 : W.cell? ⟨b, 0, none⟩ = some v0) (h1 : W.cell? ⟨b, 1, none⟩ = some v1) (h2 : W.cell? ⟨b, 2, none⟩ = some v2) :
    X.cell? ⟨b, 0, none⟩ = some v0 ∧ X.cell? ⟨b, 1, none⟩ = some v1 ∧ X.cell? ⟨b, 2, none⟩ = some v2 :=
  ⟨(h.cell (p := ⟨b, 0, none⟩) hb).trans h0, (h.cell (p := ⟨b, 1, none⟩) hb).trans h1, (h.cell (p := ⟨b, 2, none⟩) hb).trans h2⟩

theorem mod12 (n : Int) : bits .and .i64 n 4095 = n % 4096 := i64_mask n 4095 12 (by decide) (by decide)
theorem mod16 (n : Int) : bits .and .i64 n 65535 = n % 65536 := i64_mask n 65535 16 (by decide) (by decide)

set_option maxRecDepth 100000 in
set_option maxHeartbeats 4000000 in
theorem tells_walk (a : Option Addr) (len cap : Nat) (zs : List Int) (p q r : Int) (w : World) (hrow : IsRow .i64 w a len cap zs) (hp : In64 p) (hq : In64 q) (hr : In64 r) :
    Calls Try.prog 3 #[.agg #[.int .i64 p, .int .i64 q, .int .i64 r], .slice a len cap] w fun e w' => e = .returned (.bool true) ∧ Below w.heap.size w w' := by
  obtain ⟨xs, h40, hcap, hmax, hl, hs, hnone, hfew⟩ := few_came a len cap zs w hrow
  clear hrow hnone
  go_enter Try.func3, Try.ntmps3
  go_wp2_with fail
  refine (awake_any _).mono ?_
  rintro e w1 ⟨rfl, hb1⟩
  have hbl : Below w.heap.size w w1 := ((Below.refl _ w).alloc (Nat.le_refl _) _).trans (hb1.mono (by simp))
  have c0 : w1.cell? ⟨w.heap.size, 0, none⟩ = some (.int .i64 p) := by
    rw [hb1.cell (p := ⟨w.heap.size, 0, none⟩) (by simp), World.cell?_alloc_at _ _ _ _ rfl]; rfl
  have c1 : w1.cell? ⟨w.heap.size, 1, none⟩ = some (.int .i64 q) := by
    rw [hb1.cell (p := ⟨w.heap.size, 1, none⟩) (by simp), World.cell?_alloc_at _ _ _ _ rfl]; rfl
  have c2 : w1.cell? ⟨w.heap.size, 2, none⟩ = some (.int .i64 r) := by
    rw [hb1.cell (p := ⟨w.heap.size, 2, none⟩) (by simp), World.cell?_alloc_at _ _ _ _ rfl]; rfl
  have hlt : w.heap.size < w1.heap.size := by have := hb1.size; simp at this; omega
  clear hb1
  go_wp2_with fail
  refine (tells_any p q r _ hp hq).mono ?_
  rintro e w2 ⟨rfl, hb2⟩
  obtain ⟨d0, d1, d2⟩ := keep3 hb2 hlt c0 c1 c2
  have hlt2 : w.heap.size < w2.heap.size := by have := hb2.size; omega
  have hbl2 := below_trans hbl hb2
  clear c0 c1 c2 hb2 hbl hlt
  go_wp2_with fail
  refine (tells_any p _ _ _ hp ⟨by rw [mod12]; omega, by rw [mod12]; omega⟩).mono ?_
  rintro e w3 ⟨rfl, hb3⟩
  obtain ⟨e0, e1, e2⟩ := keep3 hb3 hlt2 d0 d1 d2
  have hlt3 : w.heap.size < w3.heap.size := by have := hb3.size; omega
  have hbl3 := below_trans hbl2 hb3
  clear d0 d1 d2 hb3 hbl2 hlt2
  go_wp2
  go_region_held3 (fun w' => w'.cell? ⟨w.heap.size, 0, none⟩ = some (.int .i64 p) ∧ w'.cell? ⟨w.heap.size, 1, none⟩ = some (.int .i64 q) ∧ w'.cell? ⟨w.heap.size, 2, none⟩ = some (.int .i64 r))
    (first | exact ⟨e0, e1, e2⟩ | exact keep3 hbu' hlt3 e0 e1 e2 | exact keep3 hbt' hlt3 e0 e1 e2 | assumption) (first | (go_at_call 11; refine (rscale_any _ _ _ wt hp).mono ?_; rintro e wu ⟨rfl, hbu⟩; have hbu' := hbt'.trans (hbu.mono hbt'.size)) | (go_at_call 10; refine (scale_any _ _ _ w3.drew hp).mono ?_; rintro e wt ⟨rfl, hbt⟩; have hbt' := undrew hbt))
  obtain ⟨f0, f1, f2⟩ := keep3 hbu' hlt3 e0 e1 e2
  have hbl4 : Below w.heap.size w wu := below_trans hbl3 hbu'
  have hlt4 : w.heap.size < wu.heap.size := Nat.lt_of_lt_of_le hlt3 hbu'.size
  have hp20 : In64 (p / 1048576) := by obtain ⟨h1, h2⟩ := hp; exact ⟨by omega, by omega⟩
  obtain ⟨w4, rfl⟩ : ∃ w4, w4 = wu := ⟨_, rfl⟩
  clear e0 e1 e2 hbt hbt' hbu hbu' hbl3 hlt3
  rename_i hHeld
  clear hHeld
  go_wp2
  go_region_held3 (fun w' => w'.cell? ⟨w.heap.size, 0, none⟩ = some (.int .i64 p) ∧ w'.cell? ⟨w.heap.size, 1, none⟩ = some (.int .i64 q) ∧ w'.cell? ⟨w.heap.size, 2, none⟩ = some (.int .i64 r))
    (first | exact ⟨f0, f1, f2⟩ | exact keep3 hbz' hlt4 f0 f1 f2 | exact keep3 hby' hlt4 f0 f1 f2 | assumption) (first | (go_at_call 11; refine (rscale_any _ _ _ wy hp20).mono ?_; rintro e wz ⟨rfl, hbz⟩; have hbz' := hby'.trans (hbz.mono hby'.size)) | (go_at_call 10; refine (scale_any _ _ _ w4.drew hp20).mono ?_; rintro e wy ⟨rfl, hby⟩; have hby' := undrew hby))
  have hbl5 : Below w.heap.size w wz := below_trans hbl4 hbz'
  have hl5 := hl.below hbl5
  clear f0 f1 f2 hby hby' hbz hbz' hbl4
  go_wp2_with fail
  refine (hfew _).mono ?_
  rintro e w5 ⟨rfl, rfl⟩
  go_wp2_with fail
  refine (mean_any a cap xs xs.length rfl _ hl5 hs (by omega)).mono ?_
  rintro e w6 ⟨rfl, hb6⟩
  go_wp2_with fail
  refine (hfew _).mono ?_
  rintro e w7 ⟨rfl, rfl⟩
  go_wp2_with fail
  refine (rmean_any a cap xs _ (hl5.below hb6) hs (by omega)).mono ?_
  rintro e w8 ⟨rfl, hb8⟩
  go_wp2
  go_ret
  exact ⟨rfl, below_trans (below_trans hbl5 hb6) hb8⟩
end Go.Proofs.Ytgfdiafeminofaa
