/- Contract of an arena's Set. -/
import Derived.Test.YtbekechjphangaaArena
namespace Go.Proofs.Ytbekechjphangaa
open Go.RowKit
set_option linter.unusedVariables false

/-- What Set of these answers, and the words then. -/
def setE (n : Nat) (xs : List Int) : Int := if xs.length = n then (if ∀ x ∈ xs, okW x then 0 else 16) else 22
def setL (n : Nat) (L xs : List Int) : List Int := if setE n xs = 0 then xs else L
theorem setE_size {n : Nat} {xs : List Int} (h : xs.length ≠ n) : setE n xs = 22 := by unfold setE; rw [if_neg h]
theorem setE_ok {n : Nat} {xs : List Int} (h : xs.length = n) (h2 : ∀ x ∈ xs, okW x) : setE n xs = 0 := by unfold setE; rw [if_pos h, if_pos h2]
theorem setE_bad {n : Nat} {xs : List Int} (h : xs.length = n) (h2 : ¬ ∀ x ∈ xs, okW x) : setE n xs = 16 := by unfold setE; rw [if_pos h, if_neg h2]
theorem all_of_getD {xs : List Int} {p : Int → Prop} (h : ∀ j, j < xs.length → p (xs.getD j 0)) : ∀ x ∈ xs, p x := by
  intro x hx
  obtain ⟨i, hi, rfl⟩ := List.mem_iff_getElem.1 hx
  have := h i hi
  rwa [List.getD_eq_getElem?_getD, List.getElem?_eq_getElem hi] at this
theorem getD_mem {xs : List Int} {j : Nat} (h : j < xs.length) : xs.getD j 0 ∈ xs := by
  rw [List.getD_eq_getElem?_getD, List.getElem?_eq_getElem h]
  exact List.getElem_mem h

set_option maxHeartbeats 1000000 in
theorem set_nil (a : Option Addr) (m cap : Nat) (w : World) : Calls Try.prog 22 #[.pointer none, .slice a m cap] w fun r w' => r = .returned (.int .i64 1) ∧ w' = w := by
  go_enter Try.func22, Try.ntmps22
  go_wp2
  go_ret
  exact ⟨rfl, rfl⟩
set_option maxHeartbeats 1000000 in
theorem set_any (c g n m cap : Nat) (a : Option Addr) (xs L : List Int) (e : Int) (w : World) (h : Ar c g n w L e) (hl : Lies w a xs) (hx : xs.length = m) (hn : n ≤ 4096) :
    Calls Try.prog 22 #[.pointer (some ⟨c, 0, none⟩), .slice a m cap] w fun r w' => r = .returned (.int .i64 (setE n xs)) ∧ Two c g w w' ∧ Ar c g n w' (setL n L xs) e := by
  have hcell := h.slice
  have H := hide h
  have HL := hide hl
  have HX := hide hx
  by_cases hmn : m = n
  · subst hmn
    clear h hl
    go_enter Try.func22, Try.ntmps22
    go_wp2_with fail
    refine (len_any c g m L e _ (unhide H)).mono ?_
    rintro e' w' ⟨rfl, rfl⟩
    clear hx
    go_wp2
    go_loopw [16, 6] (fun i _ wr => ∃ k : Nat, k ≤ m ∧ i = .int .i64 (k : Int) ∧ Hid (∀ j, j < k → okW (xs.getD j 0)) ∧ wr = w') (fun i _ _ => m - (intOf i).toNat)
    case atStart => exact ⟨0, by omega, rfl, fun j hj => by omega, rfl⟩
    case round =>
      obtain ⟨k, hk, rfl, HK, rfl⟩ := hrel
      by_cases hlt : k < m
      · have hkl : k < xs.length := by rw [unhide HX]; exact hlt
        obtain ⟨b, off, rfl, hb, hc⟩ := (unhide HL).some (by intro e; rw [e] at hkl; simp at hkl)
        have hck := hc k hkl
        have HZ := hide (show xs.getD k 0 ∈ xs from getD_mem hkl)
        obtain ⟨z, hz⟩ : ∃ z, xs.getD k 0 = z := ⟨_, rfl⟩
        rw [hz] at hck HZ
        have Hz := hide hz
        clear hc hkl hb hz
        go_wp2_with fail
        refine (isword_any z _).mono ?_
        by_cases ho : okW z
        · rw [decide_eq_true ho]
          have HOK := hide ho
          clear ho
          rintro e' w2 ⟨rfl, rfl⟩
          go_wp2
          go_roundw
          case rel =>
            refine ⟨k + 1, by omega, by simp, fun j hj => ?_, trivial⟩
            by_cases hjk : j = k
            · subst hjk; rw [unhide Hz]; exact unhide HOK
            · exact unhide HK j (by omega)
          case measure => simp [intOf]; omega
        · rw [decide_eq_false ho]
          have HOK := hide ho
          clear ho
          rintro e' w2 ⟨rfl, rfl⟩
          go_wp2
          go_ret
          have hE : setE m xs = 16 := setE_bad (unhide HX) (fun h => unhide HOK (h _ (unhide HZ)))
          refine ⟨by rw [hE]; rfl, Two.refl _ _ _, ?_⟩
          unfold setL
          rw [hE, if_neg (by decide)]
          exact unhide H
      · obtain rfl : k = m := by omega
        have HE : Hid (setE k xs = 0) := setE_ok (unhide HX) (all_of_getD (fun j hj => unhide HK j (by rw [← unhide HX]; exact hj)))
        obtain ⟨w3, hrun, ho, hc⟩ := copy_run cap k (unhide H).row (unhide HL) (unhide HX) (unhide H).len
        have HO := hide ho
        have HC := hide hc
        clear ho hc
        go_wp2
        go_ret
        refine ⟨by rw [unhide HE]; rfl, Two.of_right (unhide HO), ?_⟩
        unfold setL
        rw [unhide HE, if_pos rfl]
        exact (unhide H).setRow (unhide HO) (unhide HC) (unhide HX)
  · have hE : setE n xs = 22 := setE_size (by rw [hx]; exact hmn)
    unfold setL
    rw [hE, if_neg (by decide)]
    clear h hl hx
    have hmn' : (m : Int) ≠ (n : Int) := by omega
    go_enter Try.func22, Try.ntmps22
    go_wp2_with fail
    refine (len_any c g n L e _ (unhide H)).mono ?_
    rintro e' w' ⟨rfl, rfl⟩
    go_wp2
    go_ret
    exact ⟨rfl, Two.refl _ _ _, unhide H⟩
end Go.Proofs.Ytbekechjphangaa
