/- Contracts of logs.Norm and of the document's Norm. -/
import Derived.Test.YtbommgfoahopfaaRoot
namespace Go.Proofs.Ytbommgfoahopfaa
open Go.RowKit
set_option linter.unusedVariables false

def absI (x : Int) : Int := x.natAbs
def nbI (x : Int) : Int := blI (absI x)
def normI (xs : List Int) : Int := normN xs
def normTo (xs : List Int) (k : Nat) : Int := normN (xs.take k)
theorem absI_u (x : Int) (h : In64 x) : U64 (absI x) := by obtain ⟨h1, h2⟩ := h; unfold absI; exact ⟨by omega, by omega⟩
theorem nbI_bd (x : Int) (h : In64 x) : 0 ≤ nbI x ∧ nbI x ≤ 64 := blI_64 _ (absI_u x h)
theorem nbI_eq (x : Int) : nbI x = bl x.natAbs := rfl
theorem normTo_succ (xs : List Int) (k : Nat) (h : k < xs.length) : normTo xs (k + 1) = max (normTo xs k) (nbI (xs.getD k 0)) := by
  unfold normTo
  rw [List.take_succ_eq_append_getElem h, normN_append, normN_one, List.getD_eq_getElem?_getD, List.getElem?_eq_getElem h, nbI_eq]
  simp only [Option.getD_some]
  omega
theorem normTo_all (xs : List Int) (n : Nat) (h : xs.length = n) : normTo xs n = normI xs := by
  unfold normTo normI; rw [← h, List.take_length]
theorem normTo_bd (xs : List Int) (h : Small xs) (k : Nat) (hk : k ≤ xs.length) : 0 ≤ normTo xs k ∧ normTo xs k ≤ 64 := by
  induction k with
  | zero => exact ⟨Int.le_refl 0, by show (0 : Int) ≤ 64; decide⟩
  | succ k ih =>
    have h1 := ih (by omega)
    have h2 := nbI_bd _ (h.at k (by omega))
    rw [normTo_succ xs k (by omega)]
    omega

set_option maxHeartbeats 400000 in
theorem lsize_any (x : Int) (w : World) (hx : In64 x) :
    Calls Try.prog 21 #[.int .i64 x] w fun e w' => e = .returned (.int .u64 (absI x)) ∧ w' = w := by
  obtain ⟨hx1, hx2⟩ := hx
  by_cases c : x < 0
  · go_enter Try.func21, Try.ntmps21
    go_wp2
    go_ret
    exact ⟨ret_int (by unfold absI; simp only [IntKind.wrap_u64]; omega), rfl⟩
  · go_enter Try.func21, Try.ntmps21
    go_wp2
    go_ret
    exact ⟨ret_int (by unfold absI; omega), rfl⟩
set_option maxHeartbeats 400000 in
theorem rsize_any (x : Int) (w : World) (hx : In64 x) :
    Calls Try.prog 22 #[.int .i64 x] w fun e w' => e = .returned (.int .u64 (absI x)) ∧ w' = w := by
  obtain ⟨hx1, hx2⟩ := hx
  by_cases c : x < 0
  · go_enter Try.func22, Try.ntmps22
    go_wp2
    go_ret
    exact ⟨ret_int (by unfold absI; omega), rfl⟩
  · go_enter Try.func22, Try.ntmps22
    go_wp2
    go_ret
    exact ⟨ret_int (by unfold absI; omega), rfl⟩

set_option maxHeartbeats 1000000 in
theorem norm_any (a : Option Addr) (cap : Nat) (xs : List Int) (n : Nat) (hN : xs.length = n) (w : World) (hl : Lies w a xs) (hs : Small xs) (hn : n ≤ 1000000) :
    Calls Try.prog 15 #[.slice a n cap] w fun e w' => e = .returned (.int .i64 (normI xs)) ∧ w' = w := by
  have HN := hide hN
  clear hN
  go_enter Try.func15, Try.ntmps15
  go_wp2
  go_loopw [3, 8] (fun m i wr => ∃ k : Nat, k ≤ n ∧ i = .int .i64 k ∧ m = .int .i64 (normTo xs k) ∧ wr = w) (fun _ i _ => n - (intOf i).toNat)
  case atStart => exact ⟨0, Nat.zero_le _, rfl, rfl, rfl⟩
  case round =>
    obtain ⟨k, hk, rfl, rfl, rfl⟩ := hrel
    by_cases hlt : k < n
    · obtain rfl | ⟨b, off, rfl, hblt, hcells⟩ := hl
      · have := unhide HN; simp at this; omega
      have hc : wr.cell? ⟨b, off + k, none⟩ = some (.int .i64 (xs.getD k 0)) := hcells k (by rw [unhide HN]; exact hlt)
      have hx := hs.at k (by rw [unhide HN]; exact hlt)
      have hsucc := normTo_succ xs k (by rw [unhide HN]; exact hlt)
      obtain ⟨b1, b2⟩ := normTo_bd xs hs k (by rw [unhide HN]; exact hk)
      obtain ⟨b3, b4⟩ := nbI_bd _ hx
      have hu := absI_u _ hx
      generalize xs.getD k 0 = x at *
      generalize hM : normTo xs k = M at *
      have HS := hide hsucc
      have HX := hide (show blI (absI x) = nbI x from rfl)
      clear hsucc hM hcells
      have hlt' : (k : Int) < (n : Int) := by omega
      go_wp2_with fail
      refine (lsize_any x _ hx).mono ?_
      rintro e w1 ⟨rfl, rfl⟩
      go_wp2_with fail
      refine (bits_any _ _ hu).mono ?_
      rintro e w2 ⟨rfl, rfl⟩
      rw [unhide HX]
      generalize hB : nbI x = B at *
      clear hB
      rcases Int.lt_trichotomy M B with c | c | c
      all_goals
        go_wp2
        go_roundw
        case rel => exact ⟨k + 1, by omega, by go_num, by rw [unhide HS] <;> congr 1 <;> omega, trivial⟩
        case measure => simp [intOf]; omega
    · have e : k = n := by omega
      subst e
      have HE := hide (normTo_all xs k (unhide HN))
      go_wp2
      go_ret
      exact ⟨ret_int (unhide HE), rfl⟩

set_option maxHeartbeats 1000000 in
theorem rnorm_any (a : Option Addr) (cap : Nat) (xs : List Int) (n : Nat) (hN : xs.length = n) (w : World) (hl : Lies w a xs) (hs : Small xs) (hn : n ≤ 1000000) :
    Calls Try.prog 16 #[.slice a n cap] w fun e w' => e = .returned (.int .i64 (normI xs)) ∧ w' = w := by
  have HN := hide hN
  clear hN
  go_enter Try.func16, Try.ntmps16
  go_wp2
  go_loopw [3, 4] (fun m i wr => ∃ k : Nat, k ≤ n ∧ i = .int .i64 k ∧ m = .int .i64 (normTo xs k) ∧ wr = w) (fun _ i _ => n - (intOf i).toNat)
  case atStart => exact ⟨0, Nat.zero_le _, rfl, rfl, rfl⟩
  case round =>
    obtain ⟨k, hk, rfl, rfl, rfl⟩ := hrel
    by_cases hlt : k < n
    · obtain rfl | ⟨b, off, rfl, hblt, hcells⟩ := hl
      · have := unhide HN; simp at this; omega
      have hc : wr.cell? ⟨b, off + k, none⟩ = some (.int .i64 (xs.getD k 0)) := hcells k (by rw [unhide HN]; exact hlt)
      have hx := hs.at k (by rw [unhide HN]; exact hlt)
      have hsucc := normTo_succ xs k (by rw [unhide HN]; exact hlt)
      obtain ⟨b1, b2⟩ := normTo_bd xs hs k (by rw [unhide HN]; exact hk)
      obtain ⟨b3, b4⟩ := nbI_bd _ hx
      have hu := absI_u _ hx
      generalize xs.getD k 0 = x at *
      generalize hM : normTo xs k = M at *
      have HS := hide hsucc
      have HX := hide (show blI (absI x) = nbI x from rfl)
      clear hsucc hM hcells
      have hlt' : (k : Int) < (n : Int) := by omega
      go_wp2_with fail
      refine (rsize_any x _ hx).mono ?_
      rintro e w1 ⟨rfl, rfl⟩
      go_wp2_with fail
      refine (rbits_any _ _ hu).mono ?_
      rintro e w2 ⟨rfl, rfl⟩
      rw [unhide HX]
      generalize hB : nbI x = B at *
      clear hB
      by_cases c : M < B
      all_goals
        go_wp2
        go_roundw
        case rel => exact ⟨k + 1, by omega, by go_num, by rw [unhide HS] <;> congr 1 <;> omega, trivial⟩
        case measure => simp [intOf]; omega
    · have e : k = n := by omega
      subst e
      have HE := hide (normTo_all xs k (unhide HN))
      go_wp2
      go_ret
      exact ⟨ret_int (unhide HE), rfl⟩
end Go.Proofs.Ytbommgfoahopfaa
