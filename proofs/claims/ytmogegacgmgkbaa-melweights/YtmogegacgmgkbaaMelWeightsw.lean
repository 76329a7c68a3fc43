/- MelWeights: the walk. -/
import Derived.Test.YtmogegacgmgkbaaMelWake
namespace Go.Proofs.Ytmogegacgmgkbaa
open Go.RowKit
set_option linter.unusedVariables false

theorem and18 (n : Int) : bits .and .i64 n 262143 = n % 262144 := i64_mask n 262143 18 (by decide) (by decide)
theorem and20 (n : Int) : bits .and .i64 n 1048575 = n % 1048576 := i64_mask n 1048575 20 (by decide) (by decide)
/-- Number j of the four that rise. -/
def riseI (qs : List Int) (j : Nat) : Int := sumF (fun i => qs.getD i 0 % 262144) (j + 1)
theorem rise_bd (qs : List Int) : ∀ j, 0 ≤ riseI qs j ∧ riseI qs j ≤ ((j : Int) + 1) * 262143
  | 0 => by show 0 ≤ 0 + qs.getD 0 0 % 262144 ∧ 0 + qs.getD 0 0 % 262144 ≤ _; omega
  | j + 1 => by
    have h := rise_bd qs j
    show 0 ≤ riseI qs j + qs.getD (j + 1) 0 % 262144 ∧ riseI qs j + qs.getD (j + 1) 0 % 262144 ≤ _
    omega
theorem rise_step (qs : List Int) (j : Nat) : riseI qs (j + 1) = riseI qs j + qs.getD (j + 1) 0 % 262144 := rfl
theorem rise_zero (qs : List Int) : riseI qs 0 = qs.getD 0 0 % 262144 := by show 0 + qs.getD 0 0 % 262144 = _; omega
theorem arr_new (w : World) (l : List Value) (t : TypeId) : Cells (w.alloc (.cells l.toArray t)) w.heap.size l := ⟨t, by show (w.heap.push _)[w.heap.size]? = _; simp⟩
def riseTo (qs : List Int) (k : Nat) : List Int := mkL 4 fun j => if j < k then riseI qs j else 0
theorem riseTo_len (qs : List Int) (k : Nat) : (riseTo qs k).length = 4 := mkL_len _ _
theorem riseTo_at (qs : List Int) (k j : Nat) (hj : j < 4) (h : j < k) : (riseTo qs k).getD j 0 = riseI qs j := by rw [riseTo, mkL_at _ _ _ hj, if_pos h]
theorem riseTo_step (qs : List Int) (k : Nat) (h : k < 4) : (riseTo qs k).set k (riseI qs k) = riseTo qs (k + 1) := by
  symm
  refine mkL_eq _ _ _ (by rw [List.length_set, riseTo_len]) fun i hi => ?_
  have hf : (if i < k + 1 then riseI qs i else 0) = if i = k then riseI qs k else if i < k then riseI qs i else 0 := by
    by_cases e : i = k
    · subst e; simp
    · rw [if_neg e]
      by_cases c : i < k
      · rw [if_pos c, if_pos (by omega)]
      · rw [if_neg c, if_neg (by omega)]
  rw [hf, getD_set, riseTo_len]
  by_cases e : i = k
  · subst e; rw [if_pos rfl, if_pos ⟨rfl, h⟩]
  · rw [if_neg e, if_neg (fun c : k = i ∧ _ => e c.1.symm), riseTo, mkL_at _ _ _ hi]

set_option maxRecDepth 100000 in
set_option maxHeartbeats 4000000 in
theorem melweights_walk (q0 q1 q2 q3 b : Int) (w : World) (h0 : In64 q0) (h1 : In64 q1) (h2 : In64 q2) (h3 : In64 q3) (hb : In64 b) :
    Calls Try.prog 6 #[.agg #[.int .i64 q0, .int .i64 q1, .int .i64 q2, .int .i64 q3], .int .i64 b] w fun e w' => e = .returned (.bool true) ∧ Below w.heap.size w w' := by
  obtain ⟨W0, hW0⟩ : ∃ W0, w.alloc (.cells #[.int .i64 q0, .int .i64 q1, .int .i64 q2, .int .i64 q3] 22) = W0 := ⟨_, rfl⟩
  obtain ⟨B, hB⟩ : ∃ B, w.heap.size = B := ⟨_, rfl⟩
  have HCS := hide (show Cells W0 B (ints [q0, q1, q2, q3]) by rw [← hW0, ← hB]; exact arr_new w (ints [q0, q1, q2, q3]) 22)
  have HBW := hide (show Below w.heap.size w W0 by rw [← hW0]; exact alloc_below w _)
  have hall := and20 b
  clear h0 h1 h2 h3 hb
  go_enter Try.func6, Try.ntmps6
  go_wp2_with fail
  have HB' := hide hB
  clear hW0 hB
  refine (mel_awake W0).mono ?_
  rintro e w0 ⟨rfl, hb⟩
  have HB0 := hide hb
  clear hb
  go_wp2_with fail
  obtain ⟨W1, hW1⟩ : ∃ W1, w0.alloc (.cells #[.int .i64 0, .int .i64 0, .int .i64 0, .int .i64 0] 22) = W1 := ⟨_, rfl⟩
  obtain ⟨C, hC⟩ : ∃ C, w0.heap.size = C := ⟨_, rfl⟩
  have HA := hide (show Cells W1 C (ints (riseTo [q0, q1, q2, q3] 0)) by rw [← hW1, ← hC]; exact arr_new w0 (ints [0, 0, 0, 0]) 22)
  have HQ := hide (show Cells W1 B (ints [q0, q1, q2, q3]) by rw [← hW1]; exact ((unhide HCS).below (unhide HB0)).alloc _)
  have HBC := hide (show Below w.heap.size w W1 by rw [← hW1]; exact below_trans (unhide HBW) ((unhide HB0).trans ((alloc_below w0 _).mono (unhide HB0).size)))
  have hwc : w.heap.size ≤ C := by rw [← hC]; exact (below_trans (unhide HBW) (unhide HB0)).size
  have hne : B < C := by have := (unhide HCS).lt; have := (unhide HB0).size; omega
  rw [hW1, hC]
  clear hW1 hC HB0 HBW HCS
  go_loopw [7] (fun i wr => ∃ k : Nat, k ≤ 4 ∧ i = .int .i64 (k : Int) ∧ Hid (Cells wr C (ints (riseTo [q0, q1, q2, q3] k))) ∧ Hid (Cells wr B (ints [q0, q1, q2, q3])) ∧ Hid (Below w.heap.size w wr)) (fun i _ => 4 - (intOf i).toNat)
  case atStart => exact ⟨0, by omega, rfl, HA, HQ, HBC⟩
  case round =>
    obtain ⟨k, hk, rfl, HAr, HQr, HBr⟩ := hrel
    by_cases hlt : k < 4
    · have cq := (unhide HQr).cell k _ (ints_at _ k (by simpa using hlt))
      obtain ⟨z, hz⟩ : ∃ z, [q0, q1, q2, q3].getD k 0 = z := ⟨_, rfl⟩
      rw [hz] at cq
      have ca := (unhide HAr).cell k _ (ints_at _ k (by rw [riseTo_len]; exact hlt))
      have fa := (unhide HAr).free k
      have az := and18 z
      by_cases k0 : k = 0
      · subst k0
        have HZ := hide (show riseI [q0, q1, q2, q3] 0 = z % 262144 by rw [rise_zero, hz])
        clear hz
        go_wp2_with fail
        go_roundw
        case rel =>
          refine ⟨1, by omega, rfl, ?_, (unhide HQr).only (Only.setHere _ _) (by omega), (unhide HBr).setCell hwc _⟩
          have h := (unhide HAr).set 0 (.int .i64 (z % 262144))
          rw [← unhide HZ, ints_set, riseTo_step _ 0 (by omega)] at h
          rw [← unhide HZ]
          exact h
        case measure => simp [intOf]
      · obtain ⟨j, hj⟩ : ∃ j, k = j + 1 := ⟨k - 1, by omega⟩
        obtain ⟨P, hP⟩ : ∃ P, riseI [q0, q1, q2, q3] j = P := ⟨_, rfl⟩
        have hPb := rise_bd [q0, q1, q2, q3] j
        rw [hP] at hPb
        obtain ⟨S, hS⟩ : ∃ S, z % 262144 + P = S := ⟨_, rfl⟩
        have HZ := hide (show riseI [q0, q1, q2, q3] k = S by rw [hj, rise_step, hP, ← hj, hz]; omega)
        have cp := (unhide HAr).cell j _ (ints_at _ j (by rw [riseTo_len]; omega))
        rw [riseTo_at _ _ _ (by omega) (by omega), hP] at cp
        have hS2 := (unhide HAr).set k (.int .i64 (z % 262144))
        rw [ints_set] at hS2
        have cA := hS2.cell k _ (ints_at _ k (by rw [List.length_set, riseTo_len]; exact hlt))
        rw [getD_set, if_pos ⟨rfl, by rw [riseTo_len]; exact hlt⟩] at cA
        have cB := hS2.cell j _ (ints_at _ j (by rw [List.length_set, riseTo_len]; omega))
        rw [getD_set, if_neg (by omega), riseTo_at _ _ _ (by omega) (by omega), hP] at cB
        have fA := hS2.free k
        have e1 : IntKind.i64.wrap ((k : Int) - 1) = (j : Int) := by rw [IntKind.wrap_i64]; omega
        have e2 : IntKind.i64.wrap (z % 262144 + P) = S := by rw [IntKind.wrap_i64]; omega
        have hk0 : (0 : Int) < (k : Int) := by omega
        have hk4 : (k : Int) < 4 := by omega
        have hj4 : (j : Int) < 4 := by omega
        have HS2 := hide hS2
        have HJ := hide hj
        clear hS2 hz hS hP k0 hj
        go_wp2_with fail
        go_region
        go_wp2
        go_roundw
        case rel =>
          refine ⟨k + 1, by omega, by go_num, ?_, ((unhide HQr).only ((Only.setHere _ _).trans (Only.setHere _ _)) (by omega)).drew, (((unhide HBr).setCell hwc _).setCell hwc _).drew⟩
          have h := (unhide HS2).set k (.int .i64 S)
          rw [ints_set, List.set_set, ← unhide HZ, riseTo_step _ k hlt] at h
          rw [← unhide HZ]
          exact h.drew
        case measure => simp [intOf]; omega
    · obtain rfl : k = 4 := by omega
      obtain ⟨E0, hE0⟩ : ∃ E, riseI [q0, q1, q2, q3] 0 = E := ⟨_, rfl⟩
      obtain ⟨E1, hE1⟩ : ∃ E, riseI [q0, q1, q2, q3] 1 = E := ⟨_, rfl⟩
      obtain ⟨E2, hE2⟩ : ∃ E, riseI [q0, q1, q2, q3] 2 = E := ⟨_, rfl⟩
      obtain ⟨E3, hE3⟩ : ∃ E, riseI [q0, q1, q2, q3] 3 = E := ⟨_, rfl⟩
      have b0 := rise_bd [q0, q1, q2, q3] 0
      have b3 := rise_bd [q0, q1, q2, q3] 3
      have s1 := rise_step [q0, q1, q2, q3] 0
      have s2 := rise_step [q0, q1, q2, q3] 1
      have s3 := rise_step [q0, q1, q2, q3] 2
      rw [hE0] at b0 s1
      rw [hE1] at s1 s2
      rw [hE2] at s2 s3
      rw [hE3] at s3 b3
      have l01 : E0 ≤ E1 := by omega
      have l12 : E1 ≤ E2 := by omega
      have l23 : E2 ≤ E3 := by omega
      have l0 : 0 ≤ E0 := b0.1
      have l3 : E3 ≤ 1048572 := by have := b3.2; omega
      have c0 := (unhide HAr).cell 0 _ (ints_at _ 0 (by rw [riseTo_len]; omega))
      have c1 := (unhide HAr).cell 1 _ (ints_at _ 1 (by rw [riseTo_len]; omega))
      have c2 := (unhide HAr).cell 2 _ (ints_at _ 2 (by rw [riseTo_len]; omega))
      have c3 := (unhide HAr).cell 3 _ (ints_at _ 3 (by rw [riseTo_len]; omega))
      rw [riseTo_at _ _ _ (by omega) (by omega), hE0] at c0
      rw [riseTo_at _ _ _ (by omega) (by omega), hE1] at c1
      rw [riseTo_at _ _ _ (by omega) (by omega), hE2] at c2
      rw [riseTo_at _ _ _ (by omega) (by omega), hE3] at c3
      obtain ⟨x, hx, hx0, hx1⟩ : ∃ x, b % 1048576 = x ∧ 0 ≤ x ∧ x ≤ 1048575 := ⟨_, rfl, by omega, by omega⟩
      obtain ⟨W2, rfl⟩ : ∃ W2, W2 = wr := ⟨_, rfl⟩
      have hCl := (unhide HAr).lt
      clear b0 b3 s1 s2 s3 hE0 hE1 hE2 hE3 HAr HQr
      obtain ⟨u, hu⟩ : ∃ u, weightI x E0 E1 E2 = u := ⟨_, rfl⟩
      obtain ⟨v, hv⟩ : ∃ v, weightI x E1 E2 E3 = v := ⟨_, rfl⟩
      have g1 := weight_bds x E0 E1 E2
      have g2 := weight_bds x E1 E2 E3
      have g3 := weight_out x E0 E1 E2 l01 l12
      have g4 : x = E1 → E1 < E2 → u = 256 := fun h h' => by rw [← hu, h]; exact weight_mid E1 E0 E2 (by unfold near30; omega) h'
      have g5 : E1 ≤ x → x < E2 → u + v = 256 ∨ u + v = 255 := fun h h' => by rw [← hu, ← hv]; exact weight_both x E0 E1 E2 E3 (by unfold near30; omega) h h'
      rw [hu] at g1 g3
      rw [hv] at g2
      have HU := hide hu
      have HV := hide hv
      clear hu hv
      go_wp2_with fail
      refine (weight_any x E0 E1 E2 W2 ⟨by omega, by omega⟩ ⟨by omega, by omega⟩ ⟨by omega, by omega⟩ ⟨by omega, by omega⟩).mono ?_
      rintro e W3 ⟨rfl, hb3⟩
      rw [unhide HU]
      have d0 : W3.cell? ⟨C, 0, none⟩ = some (.int .i64 E0) := (hb3.cell (p := ⟨C, 0, none⟩) hCl).trans c0
      have d1 : W3.cell? ⟨C, 1, none⟩ = some (.int .i64 E1) := (hb3.cell (p := ⟨C, 1, none⟩) hCl).trans c1
      have d2 : W3.cell? ⟨C, 2, none⟩ = some (.int .i64 E2) := (hb3.cell (p := ⟨C, 2, none⟩) hCl).trans c2
      have d3 : W3.cell? ⟨C, 3, none⟩ = some (.int .i64 E3) := (hb3.cell (p := ⟨C, 3, none⟩) hCl).trans c3
      have hCl3 : C < W3.heap.size := Nat.lt_of_lt_of_le hCl hb3.size
      have HB3 := hide (below_trans (unhide HBr) hb3)
      clear hb3 c0 c1 c2 c3 hCl
      go_wp2_with fail
      refine (weight_any x E1 E2 E3 W3 ⟨by omega, by omega⟩ ⟨by omega, by omega⟩ ⟨by omega, by omega⟩ ⟨by omega, by omega⟩).mono ?_
      rintro e W4 ⟨rfl, hb4⟩
      rw [unhide HV]
      have c0 : W4.cell? ⟨C, 0, none⟩ = some (.int .i64 E0) := (hb4.cell (p := ⟨C, 0, none⟩) hCl3).trans d0
      have c1 : W4.cell? ⟨C, 1, none⟩ = some (.int .i64 E1) := (hb4.cell (p := ⟨C, 1, none⟩) hCl3).trans d1
      have c2 : W4.cell? ⟨C, 2, none⟩ = some (.int .i64 E2) := (hb4.cell (p := ⟨C, 2, none⟩) hCl3).trans d2
      have HB6 := hide (below_trans (unhide HB3) hb4)
      clear hb4 d0 d1 d2 d3 hCl3 HB3 HBr
      by_cases k1 : x < E0
      · obtain rfl : u = 0 := g3 (.inl k1)
        clear g1 g2 g3 g4 g5
        go_wp2_with fail
        all_goals first | (exfalso; omega) | skip
        all_goals go_ret
        all_goals exact ⟨rfl, unhide HB6⟩
      · by_cases k2 : E2 ≤ x
        · obtain rfl : u = 0 := g3 (.inr k2)
          clear g1 g2 g3 g4 g5
          go_wp2_with fail
          all_goals first | (exfalso; omega) | skip
          all_goals go_ret
          all_goals exact ⟨rfl, unhide HB6⟩
        · by_cases k3 : x = E1
          · subst k3
            obtain rfl : u = 256 := g4 rfl (by omega)
            obtain rfl : v = 0 := by have := g5 (Int.le_refl _) (by omega); omega
            clear g1 g2 g3 g4 g5
            go_wp2_with fail
            all_goals first | (exfalso; omega) | skip
            all_goals go_ret
            all_goals exact ⟨rfl, unhide HB6⟩
          · have n1 : ¬ u = 256 := fun h => k3 (g1.2.2 h)
            have n2 : 0 ≤ u ∧ u ≤ 255 := by omega
            by_cases k4 : E1 < x
            · rcases g5 (by omega) (by omega) with g6 | g6
              all_goals clear g1 g2 g3 g4 g5 k3 n1
              all_goals (
                go_wp2_with fail
                all_goals first | (exfalso; omega) | skip
                all_goals go_ret
                all_goals exact ⟨rfl, unhide HB6⟩)
            · clear g1 g2 g3 g4 g5 n1
              go_wp2_with fail
              all_goals first | (exfalso; omega) | skip
              all_goals go_ret
              all_goals exact ⟨rfl, unhide HB6⟩
end Go.Proofs.Ytmogegacgmgkbaa
