/- The chapter's example; the walk of TapeNil. -/
import Derived.Test.YtifellblfafhmaaIw
namespace Go.Proofs.Ytifellblfafhmaa
open Go.RowKit
set_option linter.unusedVariables false

theorem row_awake : rowW [-1, 5] = [2, 0, 255, 255, 255, 255, 5, 0, 0, 0] := by decide +kernel
theorem lies_new (w : World) (xs : List Int) : Lies (w.alloc (.cells (xs.map (Value.int .i64)).toArray 3)) (some ⟨w.heap.size, 0, none⟩) xs := by
  refine .inr ⟨w.heap.size, 0, rfl, by simp, fun j hj => ?_⟩
  rw [World.cell?_alloc_at _ _ _ _ rfl]
  simp [List.getD_eq_getElem?_getD, List.getElem?_eq_getElem hj]

set_option maxRecDepth 100000 in
theorem awake_any (w : World) : Calls Try.prog 8 #[] w fun e w' => e = .returned (.bool true) ∧ Below w.heap.size w w' := by
  have hx : ((txt (rowW [-1, 5])).toList == [2, 0, 255, 255, 255, 255, 5, 0, 0, 0]) = true := by rw [ByteArray.toList_eq, row_awake]; rfl
  obtain ⟨t, ht⟩ : ∃ t, txt (rowW [-1, 5]) = t := ⟨_, rfl⟩
  have HT : Hid ((⟨(([] : List UInt8) ++ rowW [-1, 5]).toArray⟩ : ByteArray) = t) := ht
  rw [ht] at hx
  clear ht
  go_enter Try.func8, Try.ntmps8
  go_wp2_with fail
  refine (wrow_any w.heap.size (some ⟨w.heap.size + 1, 0, none⟩) 2 2 [-1, 5] rfl [] _ ((wr_new w 30).below ((Below.refl _ _).alloc (Nat.le_refl _) _)) ?_ ?_ (by omega) (by simp)).mono ?_
  · have := lies_new (w.alloc (.cells #[.int .i64 0, .pointer none] 30)) [-1, 5]
    rwa [World.size_alloc] at this
  · intro _ p hp
    cases hp
    simp
  rintro e w1 ⟨rfl, ho, hw⟩
  have HO := hide ho
  have HW := hide hw
  clear ho hw
  go_wp2_with fail
  refine (wtext_any w.heap.size _ _ (unhide HW) (by rw [List.nil_append, row_awake]; simp)).mono ?_
  rw [unhide HT]
  rintro e w2 ⟨rfl, hb⟩
  have HB := hide hb
  clear hb
  go_wp2
  go_ret
  refine ⟨rfl, ?_⟩
  have h1 := (((Below.refl _ w).alloc (Nat.le_refl _) _).alloc (by simp) _).trans ((unhide HO).below (B := w.heap.size) (Nat.le_refl _) (by simp; omega))
  exact below_trans h1 (unhide HB)

set_option maxRecDepth 100000 in
set_option maxHeartbeats 1000000 in
theorem nil_walk (k n : Int) (a : Option Addr) (len cap : Nat) (xs : List Int) (w : World) (hi : It w k n a len cap xs) :
    Calls Try.prog 7 #[.agg #[.int .i64 k, .int .i64 n, .slice a len cap]] w fun e w' => e = .returned (.bool true) ∧ Below w.heap.size w w' := by
  have hi2 : It (w.alloc (.cells #[.int .i64 k, .int .i64 n, .slice a len cap] 33)) k n a len cap xs := ⟨hi.k64, hi.n64, hi.le, hi.max, hi.nine, hi.lies.below ((Below.refl _ w).alloc (Nat.le_refl _) _), hi.some, hi.small⟩
  have HI := hide hi2
  clear hi hi2
  go_enter Try.func7, Try.ntmps7
  go_wp2_with fail
  refine (write_nil k n a len cap xs _ (unhide HI)).mono ?_
  rintro e w1 ⟨rfl, hb⟩
  have HB := hide (below_trans ((Below.refl _ w).alloc (Nat.le_refl _) _) hb)
  clear hb HI
  go_wp2_with fail
  refine (awake_any _).mono ?_
  rintro e w2 ⟨rfl, hb⟩
  have HB2 := hide (below_trans (unhide HB) hb)
  clear hb HB
  go_wp2_with fail
  refine (wtext_nil _).mono ?_
  rintro e w3 ⟨rfl, hb⟩
  have HB3 := hide (below_trans (unhide HB2) hb)
  clear hb HB2
  go_wp2_with fail
  refine (wat_nil _).mono ?_
  rintro e w4 ⟨rfl, hb⟩
  have HB4 := hide (below_trans (unhide HB3) hb)
  clear hb HB3
  go_wp2_with fail
  refine (rbyte_nil _).mono ?_
  rintro e w5 ⟨rfl, hb⟩
  have HB5 := hide (below_trans (unhide HB4) hb)
  clear hb HB4
  go_wp2_with fail
  refine (rshort_nil _).mono ?_
  rintro e w6 ⟨rfl, hb⟩
  have HB6 := hide (below_trans (unhide HB5) hb)
  clear hb HB5
  go_wp2_with fail
  refine (rword_nil _).mono ?_
  rintro e w7 ⟨rfl, hb⟩
  have HB7 := hide (below_trans (unhide HB6) hb)
  clear hb HB6
  go_wp2_with fail
  refine (rlong_nil _).mono ?_
  rintro e w8 ⟨rfl, hb⟩
  have HB8 := hide (below_trans (unhide HB7) hb)
  clear hb HB7
  go_wp2_with fail
  refine (rrow_nil _).mono ?_
  rintro e w9 ⟨rfl, hb⟩
  have HB9 := hide (below_trans (unhide HB8) hb)
  clear hb HB8
  go_wp2_with fail
  refine (rleft_nil _).mono ?_
  rintro e w10 ⟨rfl, hb⟩
  have HB10 := hide (below_trans (unhide HB9) hb)
  clear hb HB9
  go_wp2_with fail
  refine (rat_nil _).mono ?_
  rintro e w11 ⟨rfl, hb⟩
  have HB11 := hide (below_trans (unhide HB10) hb)
  clear hb HB10
  go_wp2_with fail
  refine (rerr_nil _).mono ?_
  rintro e w12 ⟨rfl, hb⟩
  have HB12 := hide (below_trans (unhide HB11) hb)
  clear hb HB11
  go_wp2
  go_ret
  exact ⟨rfl, unhide HB12⟩
end Go.Proofs.Ytifellblfafhmaa
