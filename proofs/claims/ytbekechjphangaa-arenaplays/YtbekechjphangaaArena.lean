/- Contracts of New, Words, Zero, Part, Set of an arena; Len, Err of a part. -/
import Derived.Test.YtbekechjphangaaBig
namespace Go.Proofs.Ytbekechjphangaa
open Go.RowKit
set_option linter.unusedVariables false

set_option maxHeartbeats 1000000 in
theorem new_any (n : Nat) (hn : n ≤ 4096) (w : World) : Calls Try.prog 9 #[.int .i64 (n : Int)] w fun r w' => ∃ c g, r = .returned (.pointer (some ⟨c, 0, none⟩)) ∧ w.heap.size ≤ c ∧ w.heap.size ≤ g ∧ Ar c g n w' (List.replicate n 0) 0 ∧ Below w.heap.size w w' := by
  obtain ⟨i0, hi, hz0, hz1, hz2⟩ := info_parts Try.info3
  go_enter Try.func9, Try.ntmps9
  go_wp2_with (at_make; refine wpList_make_full _ rfl _ _ 41 rfl w.heap.size 3 i0 (.int .i64 0) 1 Try.underlying41 hi hz0 hz1 _ _ _ _ n rfl rfl rfl rfl ?m1 ?m2 ?m3 ?_)
  case m1 => rw [hz2]; omega
  case m2 => unfold maxLen; omega
  case m3 => exact Nat.le_refl _
  intro w1 hown hgr
  rw [ints_zero] at hown
  have HO := hide (own_cells hown)
  have HB := hide ((Below.refl w.heap.size w).grown hgr (Nat.le_refl _) (fun _ h => by cases h))
  clear hown hgr
  go_wp2
  go_ret
  have hlt := (unhide HO).lt
  refine ⟨_, w.heap.size, rfl, (unhide HB).size, Nat.le_refl _, ⟨by simp, cells_new w1 [_, _] 56, (unhide HO).alloc _, by omega⟩, (unhide HB).alloc (unhide HB).size _⟩
set_option maxHeartbeats 1000000 in
theorem new_no (n : Int) (hn : n < 0 ∨ 4096 < n) (w : World) : Calls Try.prog 9 #[.int .i64 n] w fun r w' => r = .returned (.pointer none) ∧ w' = w := by
  by_cases h : n < 0
  · go_enter Try.func9, Try.ntmps9
    go_wp2
    go_ret
    exact ⟨rfl, rfl⟩
  · have h2 : 4096 < n := by omega
    go_enter Try.func9, Try.ntmps9
    go_wp2
    go_ret
    exact ⟨rfl, rfl⟩
set_option maxHeartbeats 1000000 in
theorem words_any (c g n : Nat) (L : List Int) (e : Int) (w : World) (h : Ar c g n w L e) (hn : n ≤ 4096) :
    Calls Try.prog 27 #[.pointer (some ⟨c, 0, none⟩)] w fun r w' => ∃ b, r = .returned (.slice (some ⟨b, 0, none⟩) n n) ∧ w.heap.size ≤ b ∧ Cells w' b (ints L) ∧ Below w.heap.size w w' := by
  obtain ⟨i0, hi, hz0, hz1, hz2⟩ := info_parts Try.info3
  have H := hide h
  clear h
  go_enter Try.func27, Try.ntmps27
  go_wp2_with fail
  refine (len_any c g n L e _ (unhide H)).mono ?_
  rintro e' w' ⟨rfl, rfl⟩
  go_wp2_with (at_make; refine wpList_make_full _ rfl _ _ 41 rfl w'.heap.size 3 i0 (.int .i64 0) 1 Try.underlying41 hi hz0 hz1 _ _ _ _ n rfl rfl rfl rfl ?m1 ?m2 ?m3 ?_)
  case m1 => rw [hz2]; omega
  case m2 => unfold maxLen; omega
  case m3 => exact Nat.le_refl _
  intro w1 hown hgr
  rw [ints_zero] at hown
  have HO := hide (own_cells hown)
  have HB := hide ((Below.refl w'.heap.size w').grown hgr (Nat.le_refl _) (fun _ h => by cases h))
  have H1 := hide ((unhide H).below (unhide HB))
  clear hown hgr
  go_wp2_with fail
  refine (row_any c g n L e _ (unhide H1)).mono ?_
  rintro e' w2 ⟨rfl, rfl⟩
  obtain ⟨w3, hrun, ho, hc⟩ := copy_run n n (unhide HO) (unhide H1).row.lies (unhide H1).len (by simp)
  have HO3 := hide ho
  have HC3 := hide hc
  clear ho hc
  go_wp2
  go_ret
  exact ⟨w'.heap.size, rfl, Nat.le_refl _, unhide HC3, (unhide HB).trans ((unhide HO3).below (Nat.le_refl _) (unhide HB).size)⟩
set_option maxHeartbeats 1000000 in
theorem words_nil (w : World) : Calls Try.prog 27 #[.pointer none] w fun r w' => ∃ b, r = .returned (.slice b 0 0) ∧ Below w.heap.size w w' := by
  obtain ⟨i0, hi, hz0, hz1, hz2⟩ := info_parts Try.info3
  go_enter Try.func27, Try.ntmps27
  go_wp2_with fail
  refine (len_nil _).mono ?_
  rintro e' w' ⟨rfl, rfl⟩
  go_wp2_with (at_make; refine wpList_make_full _ rfl _ _ 41 rfl w'.heap.size 3 i0 (.int .i64 0) 1 Try.underlying41 hi hz0 hz1 _ _ _ _ 0 rfl rfl rfl rfl ?m1 ?m2 ?m3 ?_)
  case m1 => rw [hz2]; omega
  case m2 => unfold maxLen; omega
  case m3 => exact Nat.le_refl _
  intro w1 hown hgr
  have HB := hide ((Below.refl w'.heap.size w').grown hgr (Nat.le_refl _) (fun _ h => by cases h))
  clear hown hgr
  go_wp2_with fail
  refine (row_nil _).mono ?_
  rintro e' w2 ⟨rfl, rfl⟩
  have hrun := copy_none w2 (some ⟨w'.heap.size, 0, none⟩) none 0 0 0
  go_wp2
  go_ret
  exact ⟨_, rfl, unhide HB⟩
set_option maxHeartbeats 1000000 in
theorem zero_any (c g n : Nat) (L : List Int) (e : Int) (w : World) (h : Ar c g n w L e) :
    Calls Try.prog 25 #[.pointer (some ⟨c, 0, none⟩)] w fun r w' => r = .returned (.tuple #[]) ∧ Two c g w w' ∧ Ar c g n w' (List.replicate n 0) e := by
  have H := hide h
  obtain ⟨w2, hrun, ho, hc⟩ := clear_run h.row h.len 0
  have HO := hide ho
  have HC := hide hc
  clear h ho hc
  go_enter Try.func25, Try.ntmps25
  go_wp2_with fail
  refine (row_any c g n L e _ (unhide H)).mono ?_
  rintro e' w' ⟨rfl, rfl⟩
  go_wp2
  go_end0
  exact ⟨rfl, Two.of_right (unhide HO), (unhide H).setRow (unhide HO) (unhide HC) (by simp)⟩
set_option maxHeartbeats 1000000 in
theorem zero_nil (w : World) : Calls Try.prog 25 #[.pointer none] w fun r w' => r = .returned (.tuple #[]) ∧ w' = w := by
  have hrun : (Builtin.clear_ #[41] 0 #[.slice none 0 0]).run Try.prog w = .ok (.tuple #[]) w := by simp [Builtin.clear_, run_underlying Try.underlying41, go_sem]
  go_enter Try.func25, Try.ntmps25
  go_wp2_with fail
  refine (row_nil _).mono ?_
  rintro e' w' ⟨rfl, rfl⟩
  go_wp2
  go_end0
  exact ⟨rfl, rfl⟩
set_option maxHeartbeats 1000000 in
theorem part_yes (c g n at_ m : Nat) (L : List Int) (e : Int) (w : World) (h : Ar c g n w L e) (hn : n ≤ 4096) (hm : at_ + m ≤ n) :
    Calls Try.prog 11 #[.pointer (some ⟨c, 0, none⟩), .int .i64 (at_ : Int), .int .i64 (m : Int)] w fun r w' => ∃ o, r = .returned (.pointer (some ⟨w.heap.size, 0, none⟩)) ∧ Pt w.heap.size c g o m w' ∧ o + m ≤ n ∧ (0 < m → o = at_) ∧ Below w.heap.size w w' := by
  have hc := h.slice
  have H := hide h
  clear h
  go_enter Try.func11, Try.ntmps11
  go_wp2_with fail
  refine (len_any c g n L e _ (unhide H)).mono ?_
  rintro e' w' ⟨rfl, rfl⟩
  go_wp2
  · go_ret
    exact ⟨rfl, 0, cells_new _ [_, _] 58, by omega, (Below.refl _ _).alloc (Nat.le_refl _) _⟩
  · go_ret
    exact ⟨rfl, at_, cells_new _ [_, _] 58, hm, fun _ => rfl, (Below.refl _ _).alloc (Nat.le_refl _) _⟩
set_option maxHeartbeats 1000000 in
theorem part_no (c g n : Nat) (at_ m : Int) (L : List Int) (e : Int) (w : World) (h : Ar c g n w L e) (hn : n ≤ 4096) (hat : In64 at_) (hm : In64 m) (hno : ¬ (0 ≤ at_ ∧ 0 ≤ m ∧ at_ + m ≤ n)) :
    Calls Try.prog 11 #[.pointer (some ⟨c, 0, none⟩), .int .i64 at_, .int .i64 m] w fun r w' => r = .returned (.pointer none) ∧ w' = w := by
  obtain ⟨hat1, hat2⟩ := hat
  obtain ⟨hm1, hm2⟩ := hm
  have H := hide h
  clear h
  by_cases h1 : at_ < 0
  · go_enter Try.func11, Try.ntmps11
    go_wp2
    go_ret
    exact ⟨rfl, rfl⟩
  · by_cases h2 : m < 0
    · go_enter Try.func11, Try.ntmps11
      go_wp2
      go_ret
      exact ⟨rfl, rfl⟩
    · have h3 : (n : Int) - m < at_ := by omega
      go_enter Try.func11, Try.ntmps11
      go_wp2_with fail
      refine (len_any c g n L e _ (unhide H)).mono ?_
      rintro e' w' ⟨rfl, rfl⟩
      go_wp2
      go_ret
      exact ⟨rfl, rfl⟩
set_option maxHeartbeats 1000000 in
theorem part_nil (at_ m : Int) (w : World) : Calls Try.prog 11 #[.pointer none, .int .i64 at_, .int .i64 m] w fun r w' => r = .returned (.pointer none) ∧ w' = w := by
  go_enter Try.func11, Try.ntmps11
  go_wp2
  go_ret
  exact ⟨rfl, rfl⟩
set_option maxHeartbeats 1000000 in
theorem plen_any (b c g o m : Nat) (w : World) (h : Pt b c g o m w) : Calls Try.prog 13 #[.pointer (some ⟨b, 0, none⟩)] w fun r w' => r = .returned (.int .i64 (m : Int)) ∧ w' = w := by
  have hc := h.cell 1 _ rfl
  go_enter Try.func13, Try.ntmps13
  go_wp2
  go_ret
  exact ⟨rfl, rfl⟩
set_option maxHeartbeats 1000000 in
theorem plen_nil (w : World) : Calls Try.prog 13 #[.pointer none] w fun r w' => r = .returned (.int .i64 0) ∧ w' = w := by
  go_enter Try.func13, Try.ntmps13
  go_wp2
  go_ret
  exact ⟨rfl, rfl⟩
set_option maxHeartbeats 1000000 in
theorem in_any (b c g o m : Nat) (w : World) (h : Pt b c g o m w) : Calls Try.prog 39 #[.pointer (some ⟨b, 0, none⟩)] w fun r w' => r = .returned (.pointer (some ⟨c, 0, none⟩)) ∧ w' = w := by
  have hc := h.cell 0 _ rfl
  go_enter Try.func39, Try.ntmps39
  go_wp2
  go_ret
  exact ⟨rfl, rfl⟩
set_option maxHeartbeats 1000000 in
theorem in_nil (w : World) : Calls Try.prog 39 #[.pointer none] w fun r w' => r = .returned (.pointer none) ∧ w' = w := by
  go_enter Try.func39, Try.ntmps39
  go_wp2
  go_ret
  exact ⟨rfl, rfl⟩
set_option maxHeartbeats 1000000 in
theorem perr_any (b c g o m n : Nat) (L : List Int) (e : Int) (w : World) (h : Pt b c g o m w) (ha : Ar c g n w L e) : Calls Try.prog 29 #[.pointer (some ⟨b, 0, none⟩)] w fun r w' => r = .returned (.int .i64 e) ∧ w' = w := by
  have H := hide h
  have HA := hide ha
  clear h ha
  go_enter Try.func29, Try.ntmps29
  go_wp2_with fail
  refine (in_any b c g o m _ (unhide H)).mono ?_
  rintro e' w' ⟨rfl, rfl⟩
  go_wp2_with fail
  refine (err_any c g n L e _ (unhide HA)).mono ?_
  rintro e' w' ⟨rfl, rfl⟩
  go_wp2
  go_ret
  exact ⟨rfl, rfl⟩
set_option maxHeartbeats 1000000 in
theorem perr_nil (w : World) : Calls Try.prog 29 #[.pointer none] w fun r w' => r = .returned (.int .i64 1) ∧ w' = w := by
  go_enter Try.func29, Try.ntmps29
  go_wp2_with fail
  refine (in_nil _).mono ?_
  rintro e' w' ⟨rfl, rfl⟩
  go_wp2_with fail
  refine (err_nil _).mono ?_
  rintro e' w' ⟨rfl, rfl⟩
  go_wp2
  go_ret
  exact ⟨rfl, rfl⟩
set_option maxHeartbeats 1000000 in
theorem pget_nil (i : Int) (w : World) : Calls Try.prog 21 #[.pointer none, .int .i64 i] w fun r w' => r = .returned (.int .i64 0) ∧ w' = w := by
  go_enter Try.func21, Try.ntmps21
  go_wp2
  go_ret
  exact ⟨rfl, rfl⟩
set_option maxHeartbeats 1000000 in
theorem pput_nil (i x : Int) (w : World) : Calls Try.prog 20 #[.pointer none, .int .i64 i, .int .i64 x] w fun r w' => r = .returned (.tuple #[]) ∧ w' = w := by
  go_enter Try.func20, Try.ntmps20
  go_wp2
  (try simp only [Exit.inBlock, Exit.then]); refine bodyPost_ret (results_none rfl _ _ _) rfl ?_
  exact ⟨rfl, rfl⟩
end Go.Proofs.Ytbekechjphangaa
