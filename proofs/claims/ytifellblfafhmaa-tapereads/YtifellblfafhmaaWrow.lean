/- Contracts of a writer's Row, At. -/
import Derived.Test.YtifellblfafhmaaWrite
namespace Go.Proofs.Ytifellblfafhmaa
open Go.RowKit
set_option linter.unusedVariables false

theorem u64N_nat (n : Nat) (h : n < 18446744073709551616) : u64N (n : Int) = n := by unfold u64N; omega
def wordL (x : Int) : List UInt8 := leL 4 (u64N x)
def rowW (xs : List Int) : List UInt8 := leL 2 xs.length ++ xs.flatMap wordL
theorem words_len (xs : List Int) : (xs.flatMap wordL).length = 4 * xs.length := by
  induction xs with
  | nil => rfl
  | cons x r ih => simp [wordL, leL_len] at *; omega
theorem Lies.only {w w' : World} {c : Nat} {a : Option Addr} {xs : List Int} (h : Lies w a xs) (ho : Only c w w') (hne : xs ≠ [] → ∀ p, a = Option.some p → p.block ≠ c) : Lies w' a xs := by
  rcases h with h | ⟨b, off, rfl, hb, hc⟩
  · exact .inl h
  · refine .inr ⟨b, off, rfl, Nat.lt_of_lt_of_le hb ho.size, fun j hj => ?_⟩
    have : w'.cell? ⟨b, off + j, none⟩ = w.cell? ⟨b, off + j, none⟩ := World.cell?_of_block (ho.block b hb (hne (by rintro rfl; simp at hj) _ rfl))
    rw [this]
    exact hc j hj
theorem Lies.ne {w : World} {c : Nat} {a : Option Addr} {xs : List Int} (h : Lies w a xs) (hc : w.heap.size ≤ c) : xs ≠ [] → ∀ p, a = Option.some p → p.block ≠ c := by
  intro h0 p hp
  rcases h with h | ⟨b, off, rfl, hb, _⟩
  · exact absurd h h0
  · cases hp
    show b ≠ c
    omega
theorem words_succ (xs : List Int) (k : Nat) (h : k < xs.length) : (xs.take (k + 1)).flatMap wordL = (xs.take k).flatMap wordL ++ wordL (xs.getD k 0) := by
  rw [List.take_succ_eq_append_getElem h, List.flatMap_append, List.getD_eq_getElem?_getD, List.getElem?_eq_getElem h]
  simp

set_option maxRecDepth 100000 in
set_option maxHeartbeats 1000000 in
theorem wrow_any (c : Nat) (a : Option Addr) (cap n : Nat) (xs : List Int) (hn : xs.length = n) (L : List UInt8) (w : World) (h : Wr c w L) (hl : Lies w a xs) (hne : xs ≠ [] → ∀ p, a = some p → p.block ≠ c) (h6 : n ≤ 65535) (hs : L.length ≤ 800000000) :
    Calls Try.prog 30 #[.pointer (some ⟨c, 0, none⟩), .slice a n cap] w fun e w' => e = .returned (.tuple #[]) ∧ Only c w w' ∧ Wr c w' (L ++ rowW xs) := by
  have H := hide h
  have HL := hide hl
  have HNE := hide hne
  have HN := hide hn
  clear h hl hne hn
  go_enter Try.func30, Try.ntmps30
  go_wp2_with fail
  refine (wshort_any c (n : Int) L _ (unhide H) (by omega)).mono ?_
  rintro e w1 ⟨rfl, ho, hw⟩
  rw [u64N_nat n (by omega)] at hw
  have HO := hide ho
  have HW := hide hw
  clear ho hw
  go_wp2
  go_loopw [15, 5] (fun i _ wr => ∃ (k : Nat), k ≤ n ∧ i = .int .i64 (k : Int) ∧ Hid (Only c w wr) ∧ Hid (Wr c wr (L ++ leL 2 n ++ (xs.take k).flatMap wordL))) (fun i _ _ => n - (intOf i).toNat)
  case atStart => exact ⟨0, by omega, rfl, HO, by simpa using HW⟩
  case round =>
    obtain ⟨k, hk, rfl, HOr, HWr⟩ := hrel
    by_cases hlt : k < n
    · have hkl : k < xs.length := by rw [unhide HN]; exact hlt
      have hl1 := (unhide HL).only (unhide HOr) (unhide HNE)
      obtain ⟨b, off, rfl, hb, hc⟩ := hl1.some (by intro e; rw [e] at hkl; simp at hkl)
      have hck := hc k hkl
      have HLen : Hid ((L ++ leL 2 n ++ (xs.take k).flatMap wordL).length ≤ 900000000) := by
        show _ ≤ _
        rw [List.length_append, List.length_append, leL_len, words_len, List.length_take]
        omega
      have HSucc := hide (words_succ xs k hkl)
      generalize xs.getD k 0 = z at hck HSucc
      clear hc hl1 hkl hb
      go_wp2_with fail
      refine (wword_any c z _ _ (unhide HWr) (unhide HLen)).mono ?_
      rintro e w2 ⟨rfl, ho2, hw2⟩
      have HO2 := hide ho2
      have HW2 := hide hw2
      clear ho2 hw2
      go_wp2
      go_roundw
      case rel => exact ⟨k + 1, by omega, rfl, (unhide HOr).trans (unhide HO2), by
        have := unhide HW2
        rw [List.append_assoc (L ++ leL 2 n)] at this
        show Wr c _ _
        rw [unhide HSucc]
        exact this⟩
      case measure => simp [intOf]; omega
    · obtain rfl : k = n := by omega
      go_wp2
      go_end0
      refine ⟨rfl, unhide HOr, ?_⟩
      have := unhide HWr
      rw [List.take_of_length_le (by rw [unhide HN]; omega)] at this
      unfold rowW
      rw [unhide HN, ← List.append_assoc]
      exact this

set_option maxRecDepth 100000 in
set_option maxHeartbeats 1000000 in
theorem wrow_nil (a : Option Addr) (cap n : Nat) (xs : List Int) (hn : xs.length = n) (w : World) (hl : Lies w a xs) (h6 : n ≤ 65535) :
    Calls Try.prog 30 #[.pointer none, .slice a n cap] w fun e w' => e = .returned (.tuple #[]) ∧ Below w.heap.size w w' := by
  have HL := hide hl
  have HN := hide hn
  clear hl hn
  go_enter Try.func30, Try.ntmps30
  go_wp2_with fail
  refine (wshort_nil (n : Int) _).mono ?_
  rintro e w1 ⟨rfl, hb1⟩
  have HB1 := hide hb1
  clear hb1
  go_wp2
  go_loopw [15, 5] (fun i _ wr => ∃ (k : Nat), k ≤ n ∧ i = .int .i64 (k : Int) ∧ Hid (Below w.heap.size w wr)) (fun i _ _ => n - (intOf i).toNat)
  case atStart => exact ⟨0, by omega, rfl, HB1⟩
  case round =>
    obtain ⟨k, hk, rfl, HB⟩ := hrel
    by_cases hlt : k < n
    · have hkl : k < xs.length := by rw [unhide HN]; exact hlt
      have hl1 := (unhide HL).below (unhide HB)
      obtain ⟨b, off, rfl, hb, hc⟩ := hl1.some (by intro e; rw [e] at hkl; simp at hkl)
      have hck := hc k hkl
      generalize xs.getD k 0 = z at hck
      clear hc hl1 hkl hb
      go_wp2_with fail
      refine (wword_nil z _).mono ?_
      rintro e w2 ⟨rfl, hb2⟩
      have HB2 := hide hb2
      clear hb2
      go_wp2
      go_roundw
      case rel => exact ⟨k + 1, by omega, rfl, below_trans (unhide HB) (unhide HB2)⟩
      case measure => simp [intOf]; omega
    · obtain rfl : k = n := by omega
      go_wp2
      go_end0
      exact ⟨rfl, unhide HB⟩

theorem count_at (c : Nat) (n : Int) (w : World) (h : w.cell? ⟨c, 0, none⟩ = some (.int .i64 n)) : Calls Try.prog 37 #[.pointer (some ⟨c, 0, none⟩)] w fun e w' => e = .returned (.int .i64 n) ∧ w' = w := by
  go_enter Try.func37, Try.ntmps37
  go_wp2
  go_ret
  exact ⟨rfl, rfl⟩
theorem wat_any (c : Nat) (L : List UInt8) (w : World) (h : Wr c w L) : Calls Try.prog 10 #[.pointer (some ⟨c, 0, none⟩)] w fun e w' => e = .returned (.int .i64 (L.length : Int)) ∧ w' = w := by
  obtain ⟨q, ps, hc, hch, hcat⟩ := h
  have h0 := hc.cell 0 _ rfl
  clear hcat hch
  go_enter Try.func10, Try.ntmps10
  go_wp2_with fail
  refine (wown_any c _).mono ?_
  rintro e w1 ⟨rfl, rfl⟩
  go_wp2_with fail
  refine (count_at c _ _ h0).mono ?_
  rintro e w2 ⟨rfl, rfl⟩
  go_wp2
  go_ret
  exact ⟨rfl, rfl⟩
theorem wat_nil (w : World) : Calls Try.prog 10 #[.pointer none] w fun e w' => e = .returned (.int .i64 0) ∧ Below w.heap.size w w' := by
  have h0 := (cells_new w [.int .i64 0, .pointer none] 28).cell 0 _ rfl
  go_enter Try.func10, Try.ntmps10
  go_wp2_with fail
  refine (wown_nil _).mono ?_
  rintro e w1 ⟨rfl, rfl⟩
  go_wp2_with fail
  refine (count_at w.heap.size 0 _ h0).mono ?_
  rintro e w2 ⟨rfl, rfl⟩
  go_wp2
  go_ret
  exact ⟨rfl, (Below.refl _ _).alloc (Nat.le_refl _) _⟩
end Go.Proofs.Ytifellblfafhmaa
