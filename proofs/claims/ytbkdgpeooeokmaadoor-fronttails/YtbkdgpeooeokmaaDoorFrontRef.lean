/- The document's answers of fronts: what is within, what is right, how many frames are whole. -/
import Derived.Test.YtbkdgpeooeokmaaDoorBase
namespace Go.Proofs.YtbkdgpeooeokmaaDoor
open Go.RowKit
set_option linter.unusedVariables false

theorem rin_any (x l h : Int) (w : World) :
    Calls Tryd.prog 32 #[.int .i64 x, .int .i64 l, .int .i64 h] w fun e w' => e = .returned (.bool (decide (l ≤ x ∧ x ≤ h))) ∧ w' = w := by
  by_cases c : l ≤ x ∧ x ≤ h
  · rw [decide_eq_true c]
    obtain ⟨c1, c2⟩ := c
    go_enter Tryd.func32, Tryd.ntmps32
    go_wp2_with fail
    go_ret
    exact ⟨rfl, rfl⟩
  · rw [decide_eq_false c]
    by_cases c1 : l ≤ x
    · have c2 : ¬ x ≤ h := fun e => c ⟨c1, e⟩
      clear c
      go_enter Tryd.func32, Tryd.ntmps32
      go_wp2_with fail
      go_ret
      exact ⟨rfl, rfl⟩
    · clear c
      go_enter Tryd.func32, Tryd.ntmps32
      go_wp2_with fail
      go_ret
      exact ⟨rfl, rfl⟩

/-- Are all numbers within two? -/
def allIn (xs : List Int) (l h : Int) : Bool := xs.all fun x => decide (l ≤ x ∧ x ≤ h)
theorem allIn_iff (xs : List Int) (l h : Int) : allIn xs l h = true ↔ ∀ x ∈ xs, l ≤ x ∧ x ≤ h := by simp [allIn]
theorem allIn_at {xs : List Int} {l h : Int} (ha : allIn xs l h = true) (i : Nat) (hi : i < xs.length) : l ≤ xs.getD i 0 ∧ xs.getD i 0 ≤ h := by
  rw [allIn_iff] at ha
  apply ha
  rw [List.getD_eq_getElem?_getD, List.getElem?_eq_getElem hi]
  simp
theorem allIn_yes (xs : List Int) (l h : Int) (hh : ∀ i, i < xs.length → l ≤ xs.getD i 0 ∧ xs.getD i 0 ≤ h) : allIn xs l h = true := by
  rw [allIn_iff]
  intro x hx
  obtain ⟨i, hi, rfl⟩ := List.getElem_of_mem hx
  have := hh i hi
  rw [List.getD_eq_getElem?_getD, List.getElem?_eq_getElem hi] at this
  simpa using this
theorem allIn_no (xs : List Int) (l h : Int) (i : Nat) (hi : i < xs.length) (hx : ¬ (l ≤ xs.getD i 0 ∧ xs.getD i 0 ≤ h)) : allIn xs l h = false := by
  cases e : allIn xs l h with
  | false => rfl
  | true => exact absurd (allIn_at e i hi) hx

set_option maxRecDepth 100000 in
theorem rall_any (a : Option Addr) (cap n : Nat) (xs : List Int) (l h : Int) (w : World) (hl : Lies w a xs) (hn : xs.length = n) (hm : n ≤ 9223372036854775807) :
    Calls Tryd.prog 33 #[.slice a n cap, .int .i64 l, .int .i64 h] w fun e w' => e = .returned (.bool (allIn xs l h)) ∧ w' = w := by
  have HL := hide hl
  have HN := hide hn
  clear hl hn
  go_enter Tryd.func33, Tryd.ntmps33
  go_wp2
  go_loopw [7] (fun i wr => ∃ k : Nat, k ≤ n ∧ i = .int .i64 (k : Int) ∧ Hid (∀ j, j < k → l ≤ xs.getD j 0 ∧ xs.getD j 0 ≤ h) ∧ wr = w)
    (fun i _ => n - (intOf i).toNat)
  case atStart => exact ⟨0, by omega, rfl, fun j hj => absurd hj (Nat.not_lt_zero _), rfl⟩
  case round =>
    obtain ⟨k, hk, rfl, HK, rfl⟩ := hrel
    by_cases hlt : k < n
    · obtain ⟨ba, oa, rfl, hlta, hca⟩ := (unhide HL).some (by intro h; have := unhide HN; subst h; simp at this; omega)
      have cx := hca k (by rw [unhide HN]; exact hlt)
      obtain ⟨x, hx⟩ : ∃ x, xs.getD k 0 = x := ⟨_, rfl⟩
      rw [hx] at cx
      have HX := hide hx
      clear hca hx
      go_wp2_with fail
      refine (rin_any x l h _).mono ?_
      rintro e w2 ⟨rfl, rfl⟩
      by_cases c : l ≤ x ∧ x ≤ h
      · rw [decide_eq_true c]
        have HC := hide c
        clear c
        go_wp2
        go_roundw
        case rel =>
          refine ⟨k + 1, by omega, by simp, fun j hj => ?_, trivial⟩
          by_cases e : j = k
          · subst e; rw [unhide HX]; exact unhide HC
          · exact unhide HK j (by omega)
        case measure => simp [intOf]; omega
      · rw [decide_eq_false c]
        have HV := hide (allIn_no xs l h k (by rw [unhide HN]; exact hlt) (by rw [unhide HX]; exact c))
        clear c
        go_wp2
        go_ret
        exact ⟨by rw [unhide HV]; rfl, rfl⟩
    · obtain rfl : k = n := by omega
      have HV := hide (allIn_yes xs l h (by rw [unhide HN]; exact unhide HK))
      go_wp2
      go_ret
      exact ⟨by rw [unhide HV]; rfl, rfl⟩

set_option maxHeartbeats 4000000 in
theorem rright_any (s hop b c pre : Int) (w : World) :
    Calls Tryd.prog 21 #[.agg #[.int .i64 s, .int .i64 hop, .int .i64 b, .int .i64 c, .int .i64 pre]] w fun e w' => e = .returned (.bool (decide (rightF s hop b c pre))) ∧ Below w.heap.size w w' := by
  obtain ⟨W0, hW0⟩ : ∃ W0, w.alloc (.cells #[.int .i64 s, .int .i64 hop, .int .i64 b, .int .i64 c, .int .i64 pre] 27) = W0 := ⟨_, rfl⟩
  obtain ⟨B, hB⟩ : ∃ B, w.heap.size = B := ⟨_, rfl⟩
  have f0 : W0.cell? ⟨B, 0, none⟩ = some (.int .i64 s) := by rw [← hW0, ← hB, World.cell?_alloc_at _ _ _ _ rfl]; rfl
  have f1 : W0.cell? ⟨B, 1, none⟩ = some (.int .i64 hop) := by rw [← hW0, ← hB, World.cell?_alloc_at _ _ _ _ rfl]; rfl
  have f2 : W0.cell? ⟨B, 2, none⟩ = some (.int .i64 b) := by rw [← hW0, ← hB, World.cell?_alloc_at _ _ _ _ rfl]; rfl
  have f3 : W0.cell? ⟨B, 3, none⟩ = some (.int .i64 c) := by rw [← hW0, ← hB, World.cell?_alloc_at _ _ _ _ rfl]; rfl
  have f4 : W0.cell? ⟨B, 4, none⟩ = some (.int .i64 pre) := by rw [← hW0, ← hB, World.cell?_alloc_at _ _ _ _ rfl]; rfl
  have HBW := hide (show Below w.heap.size w W0 by rw [← hW0]; exact alloc_below w _)
  obtain ⟨v, hv⟩ : ∃ v, decide (rightF s hop b c pre) = v := ⟨_, rfl⟩
  rw [hv]
  have HV := hide hv
  clear hv
  go_enter Tryd.func21, Tryd.ntmps21
  go_wp2_with fail
  clear hW0 hB
  refine (dmay_any b W0).mono ?_
  rintro e w1 ⟨rfl, rfl⟩
  by_cases cb : b = 4 ∨ b = 8 ∨ b = 16
  · rw [decide_eq_true cb]
    by_cases cp : pre ≤ 32767
    all_goals go_wp2_with fail
    all_goals (
      have hv := unhide HV
      first
      | (have e : v = true := by rw [← hv]; exact decide_eq_true (by unfold rightF; omega)
         subst e; go_ret; exact ⟨rfl, unhide HBW⟩)
      | (have e : v = false := by rw [← hv]; exact decide_eq_false (by unfold rightF; omega)
         subst e; go_ret; exact ⟨by first | rfl | (rw [decide_eq_false (show ¬ pre ≤ 32767 by omega)]; rfl), unhide HBW⟩))
  · rw [decide_eq_false cb]
    go_wp2_with fail
    all_goals (
      have hv := unhide HV
      first
      | (have e : v = true := by rw [← hv]; exact decide_eq_true (by unfold rightF; omega)
         subst e; go_ret; exact ⟨rfl, unhide HBW⟩)
      | (have e : v = false := by rw [← hv]; exact decide_eq_false (by unfold rightF; omega)
         subst e; go_ret; exact ⟨by first | rfl | (rw [decide_eq_false (show ¬ pre ≤ 32767 by omega)]; rfl), unhide HBW⟩))

theorem rframes_any (s p : Nat) (b c pre : Int) (n : Nat) (w : World) (hs : s ≤ 64) (hp0 : 0 < p) (hn : n ≤ 4611686018427387904) :
    Calls Tryd.prog 19 #[.agg #[.int .i64 (s : Int), .int .i64 (p : Int), .int .i64 b, .int .i64 c, .int .i64 pre], .int .i64 (n : Int)] w fun e w' => e = .returned (.int .i64 (framesN s p n : Nat)) ∧ Below w.heap.size w w' := by
  obtain ⟨W0, hW0⟩ : ∃ W0, w.alloc (.cells #[.int .i64 (s : Int), .int .i64 (p : Int), .int .i64 b, .int .i64 c, .int .i64 pre] 27) = W0 := ⟨_, rfl⟩
  obtain ⟨B, hB⟩ : ∃ B, w.heap.size = B := ⟨_, rfl⟩
  have f0 : W0.cell? ⟨B, 0, none⟩ = some (.int .i64 (s : Int)) := by rw [← hW0, ← hB, World.cell?_alloc_at _ _ _ _ rfl]; rfl
  have f1 : W0.cell? ⟨B, 1, none⟩ = some (.int .i64 (p : Int)) := by rw [← hW0, ← hB, World.cell?_alloc_at _ _ _ _ rfl]; rfl
  have HBW := hide (show Below w.heap.size w W0 by rw [← hW0]; exact alloc_below w _)
  by_cases hns : n < s
  · rw [frames_less s p n hns]
    go_enter Tryd.func19, Tryd.ntmps19
    go_wp2_with fail
    go_ret
    exact ⟨rfl, unhide HBW⟩
  · obtain ⟨d, hd⟩ : ∃ d, n = s + d := ⟨n - s, by omega⟩
    subst hd
    have HV := hide (show framesN s p (s + d) = d / p + 1 by unfold framesN; rw [if_neg hns, Nat.add_sub_cancel_left])
    rw [unhide HV]
    have e1 : IntKind.i64.wrap (((s + d : Nat) : Int) - (s : Int)) = (d : Int) := by rw [IntKind.wrap_i64]; omega
    have hdp := Nat.div_le_self d p
    go_enter Tryd.func19, Tryd.ntmps19
    have e2 : wrap64 (((s : Int) + (d : Int) - (s : Int)) / (p : Int) + 1) = ((d / p + 1 : Nat) : Int) := by
      rw [show (s : Int) + (d : Int) - (s : Int) = (d : Int) by omega, show (d : Int) / (p : Int) = ((d / p : Nat) : Int) by rw [Int.natCast_ediv]]
      generalize d / p = q at hdp
      rw [w64_in ⟨by omega, by omega⟩]; omega
    have E2 := hide e2
    clear e2
    go_wp2_with fail
    go_ret
    exact ⟨by show Ending.returned (.int .i64 (wrap64 (((s : Int) + (d : Int) - (s : Int)) / (p : Int) + 1))) = _; rw [unhide E2], unhide HBW⟩
end Go.Proofs.YtbkdgpeooeokmaaDoor
