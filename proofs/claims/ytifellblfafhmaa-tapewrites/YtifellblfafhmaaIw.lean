/- The statements' items, written: to a writer that lies somewhere, and to none. -/
import Derived.Test.YtifellblfafhmaaItem
namespace Go.Proofs.Ytifellblfafhmaa
open Go.RowKit
set_option linter.unusedVariables false

/-- What an item's bytes are. -/
def itemL (k n : Int) (xs : List Int) : List UInt8 :=
  if k % 5 = 0 then leL 1 (u64N n) else if k % 5 = 1 then leL 2 (u64N n) else if k % 5 = 2 then leL 4 (u64N n) else if k % 5 = 3 then leL 8 (u64N n) else rowW xs
theorem rowW_len (xs : List Int) : (rowW xs).length = 2 + 4 * xs.length := by unfold rowW; rw [List.length_append, leL_len, words_len]
theorem itemL_len (k n : Int) (xs : List Int) (h : xs.length ≤ 9) : (itemL k n xs).length ≤ 38 := by
  unfold itemL
  have := rowW_len xs
  repeat' split
  all_goals first | (rw [leL_len]; omega) | omega

set_option maxRecDepth 100000 in
set_option maxHeartbeats 1000000 in
theorem write_any (k n : Int) (a : Option Addr) (len cap : Nat) (xs : List Int) (w : World) (hi : It w k n a len cap xs) (c : Nat) (L : List UInt8) (h : Wr c w L) (hne : xs ≠ [] → ∀ p, a = some p → p.block ≠ c) (hs : L.length ≤ 800000000) :
    Calls Try.prog 9 #[.agg #[.int .i64 k, .int .i64 n, .slice a len cap], .pointer (some ⟨c, 0, none⟩)] w fun e w' => e = .returned (.string (txt (itemL k n xs))) ∧ Only c w w' ∧ Wr c w' (L ++ itemL k n xs) := by
  have HI := hide hi
  have HK := hide hi.k64
  have HN := hide (u64N_wrap n)
  have H := hide h
  have HNE := hide hne
  have hclt := h.lt
  clear hi h hne
  obtain ⟨y, hy⟩ : ∃ y, k % 5 = y := ⟨_, rfl⟩
  have hy5 : y = 0 ∨ y = 1 ∨ y = 2 ∨ y = 3 ∨ y = 4 := by omega
  have HY := hide hy
  clear hy
  rcases hy5 with rfl | rfl | rfl | rfl | rfl
  · have HV := hide (show itemL k n xs = leL 1 (u64N n) by unfold itemL; rw [unhide HY]; rfl)
    rw [unhide HV]
    go_enter Try.func9, Try.ntmps9
    go_wp2_with fail
    refine (kind_any k n a len cap _ (unhide HK)).mono ?_
    rintro e w1 ⟨rfl, hb1⟩
    rw [unhide HY]
    have c1 : w1.cell? ⟨w.heap.size, 1, none⟩ = some (.int .i64 n) := by
      rw [hb1.cell (p := ⟨w.heap.size, 1, none⟩) (by simp)]
      exact (cells_new w [.int .i64 k, .int .i64 n, .slice a len cap] 33).cell 1 _ rfl
    have HB1 := hide (below_trans ((Below.refl _ w).alloc (Nat.le_refl _) _) hb1)
    have hlt1 : w.heap.size < w1.heap.size := by have := hb1.size; simp at this; omega
    clear hb1
    go_wp2_with fail
    refine (wbyte_any c n L _ ((unhide H).below (unhide HB1)) (by omega)).mono ?_
    rintro e w2 ⟨rfl, ho2, hw2⟩
    have c2 : w2.cell? ⟨w.heap.size, 1, none⟩ = some (.int .i64 n) := by
      rw [← c1]; exact World.cell?_of_block (ho2.block w.heap.size hlt1 (by omega))
    have HO2 := hide ho2
    have HW2 := hide hw2
    clear ho2 hw2 c1
    go_wp2_with fail
    rw [unhide HN]
    refine (bytes_any (u64N n) 1 _ (u64N_lt n) (by omega)).mono ?_
    rintro e w3 ⟨rfl, hb3⟩
    have HB3 := hide hb3
    clear hb3
    go_wp2
    go_ret
    exact ⟨rfl, ((Only.of_below (unhide HB1)).trans (unhide HO2)).trans (Only.of_below (unhide HB3)), (unhide HW2).below (unhide HB3)⟩
  · have HV := hide (show itemL k n xs = leL 2 (u64N n) by unfold itemL; rw [unhide HY]; rfl)
    rw [unhide HV]
    go_enter Try.func9, Try.ntmps9
    go_wp2_with fail
    refine (kind_any k n a len cap _ (unhide HK)).mono ?_
    rintro e w1 ⟨rfl, hb1⟩
    rw [unhide HY]
    have c1 : w1.cell? ⟨w.heap.size, 1, none⟩ = some (.int .i64 n) := by
      rw [hb1.cell (p := ⟨w.heap.size, 1, none⟩) (by simp)]
      exact (cells_new w [.int .i64 k, .int .i64 n, .slice a len cap] 33).cell 1 _ rfl
    have HB1 := hide (below_trans ((Below.refl _ w).alloc (Nat.le_refl _) _) hb1)
    have hlt1 : w.heap.size < w1.heap.size := by have := hb1.size; simp at this; omega
    clear hb1
    go_wp2_with fail
    refine (wshort_any c n L _ ((unhide H).below (unhide HB1)) (by omega)).mono ?_
    rintro e w2 ⟨rfl, ho2, hw2⟩
    have c2 : w2.cell? ⟨w.heap.size, 1, none⟩ = some (.int .i64 n) := by
      rw [← c1]; exact World.cell?_of_block (ho2.block w.heap.size hlt1 (by omega))
    have HO2 := hide ho2
    have HW2 := hide hw2
    clear ho2 hw2 c1
    go_wp2_with fail
    rw [unhide HN]
    refine (bytes_any (u64N n) 2 _ (u64N_lt n) (by omega)).mono ?_
    rintro e w3 ⟨rfl, hb3⟩
    have HB3 := hide hb3
    clear hb3
    go_wp2
    go_ret
    exact ⟨rfl, ((Only.of_below (unhide HB1)).trans (unhide HO2)).trans (Only.of_below (unhide HB3)), (unhide HW2).below (unhide HB3)⟩
  · have HV := hide (show itemL k n xs = leL 4 (u64N n) by unfold itemL; rw [unhide HY]; rfl)
    rw [unhide HV]
    go_enter Try.func9, Try.ntmps9
    go_wp2_with fail
    refine (kind_any k n a len cap _ (unhide HK)).mono ?_
    rintro e w1 ⟨rfl, hb1⟩
    rw [unhide HY]
    have c1 : w1.cell? ⟨w.heap.size, 1, none⟩ = some (.int .i64 n) := by
      rw [hb1.cell (p := ⟨w.heap.size, 1, none⟩) (by simp)]
      exact (cells_new w [.int .i64 k, .int .i64 n, .slice a len cap] 33).cell 1 _ rfl
    have HB1 := hide (below_trans ((Below.refl _ w).alloc (Nat.le_refl _) _) hb1)
    have hlt1 : w.heap.size < w1.heap.size := by have := hb1.size; simp at this; omega
    clear hb1
    go_wp2_with fail
    refine (wword_any c n L _ ((unhide H).below (unhide HB1)) (by omega)).mono ?_
    rintro e w2 ⟨rfl, ho2, hw2⟩
    have c2 : w2.cell? ⟨w.heap.size, 1, none⟩ = some (.int .i64 n) := by
      rw [← c1]; exact World.cell?_of_block (ho2.block w.heap.size hlt1 (by omega))
    have HO2 := hide ho2
    have HW2 := hide hw2
    clear ho2 hw2 c1
    go_wp2_with fail
    rw [unhide HN]
    refine (bytes_any (u64N n) 4 _ (u64N_lt n) (by omega)).mono ?_
    rintro e w3 ⟨rfl, hb3⟩
    have HB3 := hide hb3
    clear hb3
    go_wp2
    go_ret
    exact ⟨rfl, ((Only.of_below (unhide HB1)).trans (unhide HO2)).trans (Only.of_below (unhide HB3)), (unhide HW2).below (unhide HB3)⟩
  · have HV := hide (show itemL k n xs = leL 8 (u64N n) by unfold itemL; rw [unhide HY]; rfl)
    rw [unhide HV]
    go_enter Try.func9, Try.ntmps9
    go_wp2_with fail
    refine (kind_any k n a len cap _ (unhide HK)).mono ?_
    rintro e w1 ⟨rfl, hb1⟩
    rw [unhide HY]
    have c1 : w1.cell? ⟨w.heap.size, 1, none⟩ = some (.int .i64 n) := by
      rw [hb1.cell (p := ⟨w.heap.size, 1, none⟩) (by simp)]
      exact (cells_new w [.int .i64 k, .int .i64 n, .slice a len cap] 33).cell 1 _ rfl
    have HB1 := hide (below_trans ((Below.refl _ w).alloc (Nat.le_refl _) _) hb1)
    have hlt1 : w.heap.size < w1.heap.size := by have := hb1.size; simp at this; omega
    clear hb1
    go_wp2_with fail
    rw [unhide HN]
    refine (wlong_any c (u64N n) L _ (u64N_lt n) ((unhide H).below (unhide HB1)) (by omega)).mono ?_
    rintro e w2 ⟨rfl, ho2, hw2⟩
    have c2 : w2.cell? ⟨w.heap.size, 1, none⟩ = some (.int .i64 n) := by
      rw [← c1]; exact World.cell?_of_block (ho2.block w.heap.size hlt1 (by omega))
    have HO2 := hide ho2
    have HW2 := hide hw2
    clear ho2 hw2 c1
    go_wp2_with fail
    rw [unhide HN]
    refine (bytes_any (u64N n) 8 _ (u64N_lt n) (by omega)).mono ?_
    rintro e w3 ⟨rfl, hb3⟩
    have HB3 := hide hb3
    clear hb3
    go_wp2
    go_ret
    exact ⟨rfl, ((Only.of_below (unhide HB1)).trans (unhide HO2)).trans (Only.of_below (unhide HB3)), (unhide HW2).below (unhide HB3)⟩
  · have HV := hide (show itemL k n xs = rowW xs by unfold itemL; rw [unhide HY]; rfl)
    rw [unhide HV]
    go_enter Try.func9, Try.ntmps9
    go_wp2_with fail
    refine (kind_any k n a len cap _ (unhide HK)).mono ?_
    rintro e w1 ⟨rfl, hb1⟩
    rw [unhide HY]
    have b0 : Cells w1 w.heap.size [.int .i64 k, .int .i64 n, .slice a len cap] := (cells_new w [.int .i64 k, .int .i64 n, .slice a len cap] 33).below hb1
    have c0 := b0.cell 0 _ rfl
    have c1 := b0.cell 1 _ rfl
    have c2 := b0.cell 2 _ rfl
    have HB1 := hide (below_trans ((Below.refl _ w).alloc (Nat.le_refl _) _) hb1)
    have HB0 := hide b0
    clear hb1 b0
    go_wp2_with fail
    refine (xs_any k n a len cap _ (unhide HI).le (unhide HI).max (unhide HI).some).mono ?_
    rintro e w2 ⟨rfl, hb2⟩
    have HB2 := hide hb2
    clear hb2
    go_wp2_with fail
    refine (wrow_any c a cap (min len 9) xs (unhide HI).nine L _ (((unhide H).below (unhide HB1)).below (unhide HB2)) ((unhide HI).lies.below (below_trans (unhide HB1) (unhide HB2))) (unhide HNE) (by omega) (by omega)).mono ?_
    rintro e w3 ⟨rfl, ho3, hw3⟩
    have b3 : Cells w3 w.heap.size [.int .i64 k, .int .i64 n, .slice a len cap] := ((unhide HB0).below (unhide HB2)).only ho3 (by omega)
    have d0 := b3.cell 0 _ rfl
    have d1 := b3.cell 1 _ rfl
    have d2 := b3.cell 2 _ rfl
    have HO3 := hide ho3
    have HW3 := hide hw3
    clear ho3 hw3
    clear b3 c0 c1 c2
    go_wp2_with fail
    refine (xs_any k n a len cap _ (unhide HI).le (unhide HI).max (unhide HI).some).mono ?_
    rintro e w4 ⟨rfl, hb4⟩
    have HB4 := hide hb4
    clear hb4
    go_wp2_with fail
    refine (brow_any a cap (min len 9) xs (unhide HI).nine _ ((((unhide HI).lies.below (below_trans (unhide HB1) (unhide HB2))).only (unhide HO3) (unhide HNE)).below (unhide HB4)) (by omega)).mono ?_
    rintro e w5 ⟨rfl, hb5⟩
    have HB5 := hide hb5
    clear hb5
    go_wp2
    go_ret
    exact ⟨rfl, (((Only.of_below (below_trans (unhide HB1) (unhide HB2))).trans (unhide HO3)).trans (Only.of_below (unhide HB4))).trans (Only.of_below (unhide HB5)), ((unhide HW3).below (unhide HB4)).below (unhide HB5)⟩

set_option maxRecDepth 100000 in
set_option maxHeartbeats 1000000 in
theorem write_nil (k n : Int) (a : Option Addr) (len cap : Nat) (xs : List Int) (w : World) (hi : It w k n a len cap xs) :
    Calls Try.prog 9 #[.agg #[.int .i64 k, .int .i64 n, .slice a len cap], .pointer none] w fun e w' => e = .returned (.string (txt (itemL k n xs))) ∧ Below w.heap.size w w' := by
  have HI := hide hi
  have HK := hide hi.k64
  have HN := hide (u64N_wrap n)
  clear hi
  obtain ⟨y, hy⟩ : ∃ y, k % 5 = y := ⟨_, rfl⟩
  have hy5 : y = 0 ∨ y = 1 ∨ y = 2 ∨ y = 3 ∨ y = 4 := by omega
  have HY := hide hy
  clear hy
  rcases hy5 with rfl | rfl | rfl | rfl | rfl
  · have HV := hide (show itemL k n xs = leL 1 (u64N n) by unfold itemL; rw [unhide HY]; rfl)
    rw [unhide HV]
    go_enter Try.func9, Try.ntmps9
    go_wp2_with fail
    refine (kind_any k n a len cap _ (unhide HK)).mono ?_
    rintro e w1 ⟨rfl, hb1⟩
    rw [unhide HY]
    have c1 : w1.cell? ⟨w.heap.size, 1, none⟩ = some (.int .i64 n) := by
      rw [hb1.cell (p := ⟨w.heap.size, 1, none⟩) (by simp)]
      exact (cells_new w [.int .i64 k, .int .i64 n, .slice a len cap] 33).cell 1 _ rfl
    have HB1 := hide (below_trans ((Below.refl _ w).alloc (Nat.le_refl _) _) hb1)
    have hlt1 : w.heap.size < w1.heap.size := by have := hb1.size; simp at this; omega
    clear hb1
    go_wp2_with fail
    refine (wbyte_nil n _).mono ?_
    rintro e w2 ⟨rfl, hb2⟩
    have c2 : w2.cell? ⟨w.heap.size, 1, none⟩ = some (.int .i64 n) := by
      rw [← c1]; exact World.cell?_of_block (hb2.block w.heap.size hlt1)
    have HB2 := hide hb2
    clear hb2 c1
    go_wp2_with fail
    rw [unhide HN]
    refine (bytes_any (u64N n) 1 _ (u64N_lt n) (by omega)).mono ?_
    rintro e w3 ⟨rfl, hb3⟩
    have HB3 := hide hb3
    clear hb3
    go_wp2
    go_ret
    exact ⟨rfl, below_trans (below_trans (unhide HB1) (unhide HB2)) (unhide HB3)⟩
  · have HV := hide (show itemL k n xs = leL 2 (u64N n) by unfold itemL; rw [unhide HY]; rfl)
    rw [unhide HV]
    go_enter Try.func9, Try.ntmps9
    go_wp2_with fail
    refine (kind_any k n a len cap _ (unhide HK)).mono ?_
    rintro e w1 ⟨rfl, hb1⟩
    rw [unhide HY]
    have c1 : w1.cell? ⟨w.heap.size, 1, none⟩ = some (.int .i64 n) := by
      rw [hb1.cell (p := ⟨w.heap.size, 1, none⟩) (by simp)]
      exact (cells_new w [.int .i64 k, .int .i64 n, .slice a len cap] 33).cell 1 _ rfl
    have HB1 := hide (below_trans ((Below.refl _ w).alloc (Nat.le_refl _) _) hb1)
    have hlt1 : w.heap.size < w1.heap.size := by have := hb1.size; simp at this; omega
    clear hb1
    go_wp2_with fail
    refine (wshort_nil n _).mono ?_
    rintro e w2 ⟨rfl, hb2⟩
    have c2 : w2.cell? ⟨w.heap.size, 1, none⟩ = some (.int .i64 n) := by
      rw [← c1]; exact World.cell?_of_block (hb2.block w.heap.size hlt1)
    have HB2 := hide hb2
    clear hb2 c1
    go_wp2_with fail
    rw [unhide HN]
    refine (bytes_any (u64N n) 2 _ (u64N_lt n) (by omega)).mono ?_
    rintro e w3 ⟨rfl, hb3⟩
    have HB3 := hide hb3
    clear hb3
    go_wp2
    go_ret
    exact ⟨rfl, below_trans (below_trans (unhide HB1) (unhide HB2)) (unhide HB3)⟩
  · have HV := hide (show itemL k n xs = leL 4 (u64N n) by unfold itemL; rw [unhide HY]; rfl)
    rw [unhide HV]
    go_enter Try.func9, Try.ntmps9
    go_wp2_with fail
    refine (kind_any k n a len cap _ (unhide HK)).mono ?_
    rintro e w1 ⟨rfl, hb1⟩
    rw [unhide HY]
    have c1 : w1.cell? ⟨w.heap.size, 1, none⟩ = some (.int .i64 n) := by
      rw [hb1.cell (p := ⟨w.heap.size, 1, none⟩) (by simp)]
      exact (cells_new w [.int .i64 k, .int .i64 n, .slice a len cap] 33).cell 1 _ rfl
    have HB1 := hide (below_trans ((Below.refl _ w).alloc (Nat.le_refl _) _) hb1)
    have hlt1 : w.heap.size < w1.heap.size := by have := hb1.size; simp at this; omega
    clear hb1
    go_wp2_with fail
    refine (wword_nil n _).mono ?_
    rintro e w2 ⟨rfl, hb2⟩
    have c2 : w2.cell? ⟨w.heap.size, 1, none⟩ = some (.int .i64 n) := by
      rw [← c1]; exact World.cell?_of_block (hb2.block w.heap.size hlt1)
    have HB2 := hide hb2
    clear hb2 c1
    go_wp2_with fail
    rw [unhide HN]
    refine (bytes_any (u64N n) 4 _ (u64N_lt n) (by omega)).mono ?_
    rintro e w3 ⟨rfl, hb3⟩
    have HB3 := hide hb3
    clear hb3
    go_wp2
    go_ret
    exact ⟨rfl, below_trans (below_trans (unhide HB1) (unhide HB2)) (unhide HB3)⟩
  · have HV := hide (show itemL k n xs = leL 8 (u64N n) by unfold itemL; rw [unhide HY]; rfl)
    rw [unhide HV]
    go_enter Try.func9, Try.ntmps9
    go_wp2_with fail
    refine (kind_any k n a len cap _ (unhide HK)).mono ?_
    rintro e w1 ⟨rfl, hb1⟩
    rw [unhide HY]
    have c1 : w1.cell? ⟨w.heap.size, 1, none⟩ = some (.int .i64 n) := by
      rw [hb1.cell (p := ⟨w.heap.size, 1, none⟩) (by simp)]
      exact (cells_new w [.int .i64 k, .int .i64 n, .slice a len cap] 33).cell 1 _ rfl
    have HB1 := hide (below_trans ((Below.refl _ w).alloc (Nat.le_refl _) _) hb1)
    have hlt1 : w.heap.size < w1.heap.size := by have := hb1.size; simp at this; omega
    clear hb1
    go_wp2_with fail
    rw [unhide HN]
    refine (wlong_nil (u64N n) _ (u64N_lt n)).mono ?_
    rintro e w2 ⟨rfl, hb2⟩
    have c2 : w2.cell? ⟨w.heap.size, 1, none⟩ = some (.int .i64 n) := by
      rw [← c1]; exact World.cell?_of_block (hb2.block w.heap.size hlt1)
    have HB2 := hide hb2
    clear hb2 c1
    go_wp2_with fail
    rw [unhide HN]
    refine (bytes_any (u64N n) 8 _ (u64N_lt n) (by omega)).mono ?_
    rintro e w3 ⟨rfl, hb3⟩
    have HB3 := hide hb3
    clear hb3
    go_wp2
    go_ret
    exact ⟨rfl, below_trans (below_trans (unhide HB1) (unhide HB2)) (unhide HB3)⟩
  · have HV := hide (show itemL k n xs = rowW xs by unfold itemL; rw [unhide HY]; rfl)
    rw [unhide HV]
    go_enter Try.func9, Try.ntmps9
    go_wp2_with fail
    refine (kind_any k n a len cap _ (unhide HK)).mono ?_
    rintro e w1 ⟨rfl, hb1⟩
    rw [unhide HY]
    have b0 : Cells w1 w.heap.size [.int .i64 k, .int .i64 n, .slice a len cap] := (cells_new w [.int .i64 k, .int .i64 n, .slice a len cap] 33).below hb1
    have c0 := b0.cell 0 _ rfl
    have c1 := b0.cell 1 _ rfl
    have c2 := b0.cell 2 _ rfl
    have HB1 := hide (below_trans ((Below.refl _ w).alloc (Nat.le_refl _) _) hb1)
    have HB0 := hide b0
    clear hb1 b0
    go_wp2_with fail
    refine (xs_any k n a len cap _ (unhide HI).le (unhide HI).max (unhide HI).some).mono ?_
    rintro e w2 ⟨rfl, hb2⟩
    have HB2 := hide hb2
    clear hb2
    go_wp2_with fail
    refine (wrow_nil a cap (min len 9) xs (unhide HI).nine _ ((unhide HI).lies.below (below_trans (unhide HB1) (unhide HB2))) (by omega)).mono ?_
    rintro e w3 ⟨rfl, hb3⟩
    have b3 : Cells w3 w.heap.size [.int .i64 k, .int .i64 n, .slice a len cap] := ((unhide HB0).below (unhide HB2)).below hb3
    have d0 := b3.cell 0 _ rfl
    have d1 := b3.cell 1 _ rfl
    have d2 := b3.cell 2 _ rfl
    have HB3 := hide hb3
    clear hb3
    clear b3 c0 c1 c2
    go_wp2_with fail
    refine (xs_any k n a len cap _ (unhide HI).le (unhide HI).max (unhide HI).some).mono ?_
    rintro e w4 ⟨rfl, hb4⟩
    have HB4 := hide hb4
    clear hb4
    go_wp2_with fail
    refine (brow_any a cap (min len 9) xs (unhide HI).nine _ ((((unhide HI).lies.below (below_trans (unhide HB1) (unhide HB2))).below (unhide HB3)).below (unhide HB4)) (by omega)).mono ?_
    rintro e w5 ⟨rfl, hb5⟩
    have HB5 := hide hb5
    clear hb5
    go_wp2
    go_ret
    exact ⟨rfl, below_trans (below_trans (below_trans (below_trans (unhide HB1) (unhide HB2)) (unhide HB3)) (unhide HB4)) (unhide HB5)⟩
end Go.Proofs.Ytifellblfafhmaa
