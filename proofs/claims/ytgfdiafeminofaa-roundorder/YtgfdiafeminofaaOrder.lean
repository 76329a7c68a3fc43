/- The walk of RoundOrder. -/
import Derived.Test.YtgfdiafeminofaaScalew
namespace Go.Proofs.Ytgfdiafeminofaa
open Go.RowKit
set_option linter.unusedVariables false

theorem mod62 (n : Int) : bits .and .i64 n 4611686018427387903 = n % 4611686018427387904 := i64_mask n 4611686018427387903 62 (by decide) (by decide)
theorem mod15 (n : Int) : bits .and .i64 n 32767 = n % 32768 := i64_mask n 32767 15 (by decide) (by decide)
theorem clamp_mono (x y l h : Int) (hlh : l ≤ h) (hxy : x ≤ y) : clampI x l h ≤ clampI y l h := by
  unfold clampI
  repeat' split
  all_goals omega
theorem scale_mono (x y t k : Int) (ht : 0 ≤ t) (h : x ≤ y) : scaleI x t k ≤ scaleI y t k := by
  unfold scaleI
  split
  · exact clamp_mono _ _ _ _ (by decide) (divI_mono _ _ _ (Int.mul_le_mul_of_nonneg_right h ht))
  · omega
theorem half_mono (x y k : Int) (h : x ≤ y) : halfI x k ≤ halfI y k := by
  unfold halfI
  split
  · exact divI_mono _ _ _ h
  · omega

theorem parts_order (x y m : Int) (hm : 1 ≤ m) (h : x ≤ y) : x / m < y / m ∨ (x / m = y / m ∧ x % m ≤ y % m) := by
  have h1 := Int.ediv_le_ediv (by omega : 0 < m) h
  have h2 := Int.mul_ediv_add_emod x m
  have h3 := Int.mul_ediv_add_emod y m
  rcases Int.lt_or_eq_of_le h1 with h4 | h4
  · exact .inl h4
  · rw [h4] at h2
    exact .inr ⟨h4, by omega⟩

set_option maxHeartbeats 8000000 in
theorem order_walk (a b n c d : Int) (w : World) (ha : In64 a) (hb : In64 b) :
    Calls Try.prog 5 #[.agg #[.int .i64 a, .int .i64 b], .int .i64 n, .agg #[.int .i64 c, .int .i64 d]] w fun e w' => e = .returned (.bool true) ∧ Below w.heap.size w w' := by
  obtain ⟨x, y, hxy, hx, hy, hcase⟩ : ∃ x y, x ≤ y ∧ In64 x ∧ In64 y ∧ ((a < b ∧ x = a ∧ y = b) ∨ (b < a ∧ x = b ∧ y = a) ∨ (a = b ∧ x = a ∧ b = y)) := by
    rcases Int.lt_trichotomy a b with h | h | h
    · exact ⟨a, b, by omega, ha, hb, .inl ⟨h, rfl, rfl⟩⟩
    · exact ⟨a, b, by omega, ha, hb, .inr (.inr ⟨h, rfl, rfl⟩)⟩
    · exact ⟨b, a, by omega, hb, ha, .inr (.inl ⟨h, rfl, rfl⟩)⟩
  obtain ⟨m, hm1, hm2, hmc⟩ : ∃ m, 1 ≤ m ∧ m ≤ 4611686018427387903 ∧ (((bits .and .i64 n 4611686018427387903 == 0) = true ∧ m = 1) ∨ ((bits .and .i64 n 4611686018427387903 == 0) = false ∧ m = bits .and .i64 n 4611686018427387903)) := by
    rw [mod62]
    by_cases h : n % 4611686018427387904 = 0
    · exact ⟨1, by decide, by decide, .inl ⟨by simp [h], rfl⟩⟩
    · exact ⟨n % 4611686018427387904, by omega, by omega, .inr ⟨by simp [h], rfl⟩⟩
  have hk := mod_bd c 31 (by decide) (by decide)
  have ht : 0 ≤ bits .and .i64 d 32767 := by rw [mod15]; omega
  have hpo := parts_order x y m hm1 hxy
  obtain ⟨r1, r2⟩ := rem_bd x m hm1
  obtain ⟨s1, s2⟩ := rem_bd y m hm1
  have hxe := Int.mul_ediv_add_emod x m
  rw [Int.mul_comm] at hxe
  have HD := hide (divI_mono x y m hxy)
  have HH := hide (fun k => half_mono x y k hxy)
  have HS := hide (fun t k (h : 0 ≤ t) => scale_mono x y t k h hxy)
  have H1 := hide (quoI_pos x m hm1)
  have H2 := hide (remI_pos x m hm1)
  have H3 := hide (quoI_pos y m hm1)
  have H4 := hide (remI_pos y m hm1)
  obtain ⟨X, hX⟩ : ∃ X, divI x m = X := ⟨_, rfl⟩
  obtain ⟨Y, hY⟩ : ∃ Y, divI y m = Y := ⟨_, rfl⟩
  have HX := hide hX
  have HY := hide hY
  have hXY : X ≤ Y := by rw [← hX, ← hY]; exact unhide HD
  clear hX hY HD
  have hwx : wrap64 (wrap64 (x / m * m) + x % m) = x := by
    have h3 := hx.1
    have h4 := hx.2
    generalize x / m * m = z at *
    generalize x % m = r at *
    unfold wrap64
    omega
  generalize x / m = q at *
  generalize y / m = p at *
  generalize x % m = r at *
  generalize y % m = s at *
  have hmI : In64 m := ⟨by omega, by omega⟩
  have hx' := hx
  have hy' := hy
  obtain ⟨hx1, hx2⟩ := hx'
  obtain ⟨hy1, hy2⟩ := hy'
  clear ha hb
  go_enter Try.func5, Try.ntmps5
  go_wp2_with fail
  refine (awake_any _).mono ?_
  rintro e w1 ⟨rfl, hb1⟩
  have k0 : w1.cell? ⟨w.heap.size, 0, none⟩ = some (.int .i64 a) := by
    rw [hb1.cell (p := ⟨w.heap.size, 0, none⟩) (by simp; omega), World.cell?_alloc_past _ _ _ (by simp), World.cell?_alloc_at _ _ _ _ rfl]; rfl
  have k1 : w1.cell? ⟨w.heap.size, 1, none⟩ = some (.int .i64 b) := by
    rw [hb1.cell (p := ⟨w.heap.size, 1, none⟩) (by simp; omega), World.cell?_alloc_past _ _ _ (by simp), World.cell?_alloc_at _ _ _ _ rfl]; rfl
  have k2 : w1.cell? ⟨w.heap.size + 1, 0, none⟩ = some (.int .i64 c) := by
    rw [hb1.cell (p := ⟨w.heap.size + 1, 0, none⟩) (by simp), World.cell?_alloc_at _ _ _ _ (by simp)]; rfl
  have k3 : w1.cell? ⟨w.heap.size + 1, 1, none⟩ = some (.int .i64 d) := by
    rw [hb1.cell (p := ⟨w.heap.size + 1, 1, none⟩) (by simp), World.cell?_alloc_at _ _ _ _ (by simp)]; rfl
  have hbl : Below w.heap.size w w1 := (((Below.refl _ w).alloc (Nat.le_refl _) _).alloc (by simp) _).trans (hb1.mono (by simp; omega))
  clear hb1
  rcases hcase with ⟨hc, rfl, rfl⟩ | ⟨hc, rfl, rfl⟩ | ⟨rfl, rfl, rfl⟩ <;> rcases hmc with ⟨hmc, rfl⟩ | ⟨hmc, rfl⟩
  all_goals
    go_wp2_with fail
    refine (parts_any _ _ _ hx hmI).mono ?_
    rintro e w2 ⟨rfl, hb2⟩
    rw [unhide H1, unhide H2]
    go_wp2_with fail
    refine (parts_any _ _ _ hy hmI).mono ?_
    rintro e w3 ⟨rfl, hb3⟩
    rw [unhide H3, unhide H4]
    generalize (wrap64 (c.tmod 31 + 31)).tmod 31 = k at *
    generalize bits .and .i64 d 32767 = t at *
    have hHk := (unhide HH) k
    have hSk := (unhide HS) t k ht
    clear k0 k1 k2 k3
    try have hne : (q + r != x) = false := by simp only [bne_eq_false_iff_eq]; omega
    rcases hpo with hpo | ⟨rfl, hpo⟩
    all_goals
      go_wp2_with fail
      refine (div_any _ _ _ hx hmI).mono ?_
      rintro e w4 ⟨rfl, hb4⟩
      rw [unhide HX]
      go_wp2_with fail
      refine (div_any _ _ _ hy hmI).mono ?_
      rintro e w5 ⟨rfl, hb5⟩
      rw [unhide HY]
      go_wp2_with fail
      refine (half_any _ _ _ hx).mono ?_
      rintro e w6 ⟨rfl, hb6⟩
      go_wp2_with fail
      refine (half_any _ _ _ hy).mono ?_
      rintro e w7 ⟨rfl, hb7⟩
      go_wp2_with fail
      refine (scale_any _ _ _ _ hx).mono ?_
      rintro e w8 ⟨rfl, hb8⟩
      go_wp2_with fail
      refine (scale_any _ _ _ _ hy).mono ?_
      rintro e w9 ⟨rfl, hb9⟩
      go_wp2
      go_ret
      exact ⟨by first | rfl | exact ret_bool (decide_eq_true (by omega)), below_trans (below_trans (below_trans (below_trans (below_trans (below_trans (below_trans (below_trans hbl hb2) hb3) hb4) hb5) hb6) hb7) hb8) hb9⟩
end Go.Proofs.Ytgfdiafeminofaa
