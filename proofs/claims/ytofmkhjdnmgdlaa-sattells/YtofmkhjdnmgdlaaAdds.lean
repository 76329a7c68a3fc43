/- The contract of sat.Add: what comes of adding in order, clamped each time; new blocks alone are laid. -/
import Derived.Test.YtofmkhjdnmgdlaaAdd
namespace Go.Proofs.Ytofmkhjdnmgdlaa
open Go.RowKit
set_option linter.unusedVariables false

def addL (b : Int) (xs : List Int) : Int := xs.foldl (fun n x => satI (n + x) b) 0
def addTo (b : Int) (xs : List Int) (k : Nat) : Int := addL b (xs.take k)
def add0 (b : Int) (xs : List Int) : Int := if 1 ≤ b ∧ b ≤ 64 then addL b xs else 0

theorem addL_snoc (b : Int) (xs : List Int) (x : Int) : addL b (xs ++ [x]) = satI (addL b xs + x) b := by
  unfold addL; rw [List.foldl_append]; rfl
theorem addTo_succ (b : Int) (xs : List Int) (k : Nat) (h : k < xs.length) : addTo b xs (k + 1) = satI (addTo b xs k + xs.getD k 0) b := by
  unfold addTo
  rw [List.take_succ_eq_append_getElem h, addL_snoc]
  simp [List.getD_eq_getElem?_getD, List.getElem?_eq_getElem h]
theorem addTo_all (b : Int) (xs : List Int) : addTo b xs xs.length = addL b xs := by unfold addTo; rw [List.take_length]

theorem clamp_plus (t x b : Int) (hb : b ≤ 64) : clampI (plusI t x) (-(pw b)) (pw b - 1) = satI (t + x) b := by
  have h1 := pw_pos b
  have h2 := pw_le b hb
  unfold satI plusI clampI
  split <;> split <;> (try split) <;> (try split) <;> omega
theorem satI_in (n b : Int) : -(pw b) ≤ satI n b ∧ satI n b ≤ pw b - 1 := by
  have h1 := pw_pos b
  unfold satI clampI
  split
  · omega
  · split <;> omega
theorem addF_in (b : Int) (xs : List Int) (n : Int) (hn : -(pw b) ≤ n ∧ n ≤ pw b - 1) : -(pw b) ≤ xs.foldl (fun n x => satI (n + x) b) n ∧ xs.foldl (fun n x => satI (n + x) b) n ≤ pw b - 1 := by
  induction xs generalizing n with
  | nil => exact hn
  | cons x xs ih => exact ih _ (satI_in _ _)
theorem addL_in (b : Int) (xs : List Int) : -(pw b) ≤ addL b xs ∧ addL b xs ≤ pw b - 1 :=
  addF_in b xs 0 (by have h1 := pw_pos b; omega)
theorem addTo_in64 (b : Int) (xs : List Int) (k : Nat) (hb : b ≤ 64) : In64 (addTo b xs k) := by
  have h2 := pw_le b hb
  have h3 := addL_in b (xs.take k)
  unfold addTo
  exact ⟨by omega, by omega⟩

theorem World.heap_drew (w : World) : w.drew.heap = w.heap := rfl

set_option maxHeartbeats 1000000 in
theorem add_no (a : Option Addr) (cap : Nat) (b : Int) (n : Nat) (w : World) (hb : b < 1 ∨ 64 < b) :
    Calls Try.prog 20 #[.int .i64 b, .slice a n cap] w fun e w' => e = .returned (.int .i64 0) ∧ Below w.heap.size w w' := by
  go_enter Try.func20, Try.ntmps20
  go_wp2_with fail
  refine (ends_no _ _ hb).mono ?_
  rintro e w' ⟨rfl, rfl⟩
  go_wp2
  go_ret
  exact ⟨rfl, ((Below.refl _ _).alloc (Nat.le_refl _) _).alloc (by simp) _⟩

set_option maxHeartbeats 1000000 in
theorem add_yes (a : Option Addr) (cap : Nat) (b : Int) (xs : List Int) (w : World) (hl : Lies w a xs) (hs : Small xs) (hn : xs.length ≤ 1000000) (h1 : 1 ≤ b) (h2 : b ≤ 64) :
    Calls Try.prog 20 #[.int .i64 b, .slice a xs.length cap] w fun e w' => e = .returned (.int .i64 (addL b xs)) ∧ Below w.heap.size w w' := by
  have hmf : ∀ (fn : Fn) (first cap : Array Value) (w : World), (Instr.makeFunc fn first cap).run Try.prog w = .ok (.func fn first cap) w := fun _ _ _ _ => rfl
  go_enter Try.func20, Try.ntmps20
  go_wp2_with fail
  refine (ends_yes _ _ h1 h2).mono ?_
  rintro e w' ⟨rfl, rfl⟩
  go_wp2
  go_loopw [23] (fun i wr => ∃ k : Nat, k ≤ xs.length ∧ i = .int .i64 k ∧ wr.heap[w'.heap.size]? = some (.cells #[.int .i64 (-(pw b))] 3 (0, 0)) ∧ wr.heap[w'.heap.size + 1]? = some (.cells #[.int .i64 (pw b - 1)] 3 (0, 0)) ∧ wr.heap[w'.heap.size + 2]? = some (.cells #[.int .i64 (addTo b xs k)] 3 (0, 0)) ∧ Below w'.heap.size w' wr)
    (fun i _ => xs.length - (intOf i).toNat)
  case atStart =>
    refine ⟨0, Nat.zero_le _, rfl, ?_, ?_, ?_, ?_⟩
    · rw [Below.heap_alloc _ _ _ (by simp; omega), Below.heap_alloc _ _ _ (by simp)]; exact heap_alloc_new _ _
    · rw [Below.heap_alloc _ _ _ (by simp)]
      have h := heap_alloc_new (w'.alloc (.cells #[.int .i64 (-(pw b))] 3)) (.cells #[.int .i64 (pw b - 1)] 3)
      rw [World.size_alloc] at h
      exact h
    · have h := heap_alloc_new ((w'.alloc (.cells #[.int .i64 (-(pw b))] 3)).alloc (.cells #[.int .i64 (pw b - 1)] 3)) (.cells #[.int .i64 0] 3)
      rw [World.size_alloc, World.size_alloc] at h
      exact h
    · exact (((Below.refl _ w').alloc (Nat.le_refl _) _).alloc (by simp) _).alloc (by simp; omega) _
  case round =>
    obtain ⟨k, hk, rfl, el, eh, et, hb⟩ := hrel
    by_cases hlt : k < xs.length
    · obtain rfl | ⟨ba, off, rfl, hblt, hcells⟩ := hl
      · simp at hlt
      have hc : wr.cell? ⟨ba, off + k, none⟩ = some (.int .i64 (xs.getD k 0)) := by rw [hb.cell (p := ⟨ba, off + k, none⟩) hblt]; exact hcells k hlt
      have hx := hs.at k hlt
      have ht := addTo_in64 b xs k h2
      have hsucc := addTo_succ b xs k hlt
      generalize xs.getD k 0 = x at *
      generalize hS : addTo b xs k = S at *
      generalize hS' : addTo b xs (k + 1) = S' at *
      have HS := hide hsucc
      have H1 := hide hS
      have H2 := hide hS'
      clear hsucc hS hS' hcells
      go_wp2_with fail
      refine (add1_any x S (-(pw b)) (pw b - 1) (w'.heap.size + 2) w'.heap.size (w'.heap.size + 1) wr hx ht (by omega) (by omega) et el eh).mono ?_
      rintro e w1 ⟨rfl, rfl⟩
      go_wp2
      go_roundw
      case rel =>
        have h3 := unhide HS
        have h4 := unhide H2
        refine ⟨k + 1, by omega, by go_num, ?_, ?_, ?_, ?_⟩
        · exact (Below.heap_setCell _ _ _ _ (by show w'.heap.size ≠ w'.heap.size + 2; omega)).trans el
        · exact (Below.heap_setCell _ _ _ _ (by show w'.heap.size + 1 ≠ w'.heap.size + 2; omega)).trans eh
        · rw [h4, h3, ← clamp_plus _ _ _ h2]
          exact one_setCell et
        · exact (hb.setCell (by show w'.heap.size ≤ w'.heap.size + 2; omega) _).drew
      case measure => simp [intOf]; omega
    · have e : k = xs.length := by omega
      subst e
      have ct := cell_of_one et
      go_wp2
      go_ret
      exact ⟨ret_int (addTo_all b xs), hb⟩

theorem add_any (a : Option Addr) (cap : Nat) (b : Int) (xs : List Int) (w : World) (hl : Lies w a xs) (hs : Small xs) (hn : xs.length ≤ 1000000) :
    Calls Try.prog 20 #[.int .i64 b, .slice a xs.length cap] w fun e w' => e = .returned (.int .i64 (add0 b xs)) ∧ Below w.heap.size w w' := by
  unfold add0
  by_cases hb : 1 ≤ b ∧ b ≤ 64
  · rw [if_pos hb]; exact add_yes a cap b xs w hl hs hn hb.1 hb.2
  · rw [if_neg hb]; exact add_no a cap b xs.length w (by omega)
end Go.Proofs.Ytofmkhjdnmgdlaa
