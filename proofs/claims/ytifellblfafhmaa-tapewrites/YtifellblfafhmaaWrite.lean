/- Contracts of a writer's Byte, Short, Word, Long, of one that lies somewhere and of none. -/
import Derived.Test.YtifellblfafhmaaPut
namespace Go.Proofs.Ytifellblfafhmaa
open Go.RowKit
set_option linter.unusedVariables false

/-- A number's 64 bits. -/
def u64N (x : Int) : Nat := (x % 18446744073709551616).toNat
theorem u64N_wrap (x : Int) : IntKind.u64.wrap x = ((u64N x : Nat) : Int) := by
  have : IntKind.u64.wrap x = x % 18446744073709551616 := by simp [IntKind.wrap, IntKind.bits, IntKind.signed]
  rw [this]; unfold u64N; omega
theorem u64N_lt (x : Int) : u64N x < 18446744073709551616 := by unfold u64N; omega

theorem wown_any (c : Nat) (w : World) : Calls Try.prog 36 #[.pointer (some ⟨c, 0, none⟩)] w fun e w' => e = .returned (.pointer (some ⟨c, 0, none⟩)) ∧ w' = w := by
  go_enter Try.func36, Try.ntmps36
  go_wp2
  go_ret
  exact ⟨rfl, rfl⟩
theorem wown_nil (w : World) : Calls Try.prog 36 #[.pointer none] w fun e w' => e = .returned (.pointer (some ⟨w.heap.size, 0, none⟩)) ∧ w' = w.alloc (.cells #[.int .i64 0, .pointer none] 28) := by
  go_enter Try.func36, Try.ntmps36
  go_wp2
  go_ret
  exact ⟨rfl, rfl⟩

theorem wbyte_any (c : Nat) (x : Int) (L : List UInt8) (w : World) (h : Wr c w L) (hs : L.length ≤ 900000000) :
    Calls Try.prog 31 #[.pointer (some ⟨c, 0, none⟩), .int .i64 x] w fun e w' => e = .returned (.tuple #[]) ∧ Only c w w' ∧ Wr c w' (L ++ leL 1 (u64N x)) := by
  have H := hide h
  have HX := hide (u64N_wrap x)
  clear h
  go_enter Try.func31, Try.ntmps31
  go_wp2_with fail
  refine (wown_any c _).mono ?_
  rintro e w1 ⟨rfl, rfl⟩
  go_wp2_with fail
  rw [unhide HX]
  refine (put_any c 1 (u64N x) L _ (unhide H) (by omega) (by omega) (u64N_lt x) hs).mono ?_
  rintro e w2 ⟨rfl, ho, hw⟩
  go_wp2
  go_end0
  exact ⟨rfl, ho, hw⟩
theorem wbyte_nil (x : Int) (w : World) :
    Calls Try.prog 31 #[.pointer none, .int .i64 x] w fun e w' => e = .returned (.tuple #[]) ∧ Below w.heap.size w w' := by
  have HX := hide (u64N_wrap x)
  go_enter Try.func31, Try.ntmps31
  go_wp2_with fail
  refine (wown_nil _).mono ?_
  rintro e w1 ⟨rfl, rfl⟩
  go_wp2_with fail
  rw [unhide HX]
  refine (put_any w.heap.size 1 (u64N x) [] _ (wr_new w 28) (by omega) (by omega) (u64N_lt x) (by simp)).mono ?_
  rintro e w2 ⟨rfl, ho, hw⟩
  go_wp2
  go_end0
  exact ⟨rfl, ho.fresh⟩

theorem wshort_any (c : Nat) (x : Int) (L : List UInt8) (w : World) (h : Wr c w L) (hs : L.length ≤ 900000000) :
    Calls Try.prog 33 #[.pointer (some ⟨c, 0, none⟩), .int .i64 x] w fun e w' => e = .returned (.tuple #[]) ∧ Only c w w' ∧ Wr c w' (L ++ leL 2 (u64N x)) := by
  have H := hide h
  have HX := hide (u64N_wrap x)
  clear h
  go_enter Try.func33, Try.ntmps33
  go_wp2_with fail
  refine (wown_any c _).mono ?_
  rintro e w1 ⟨rfl, rfl⟩
  go_wp2_with fail
  rw [unhide HX]
  refine (put_any c 2 (u64N x) L _ (unhide H) (by omega) (by omega) (u64N_lt x) hs).mono ?_
  rintro e w2 ⟨rfl, ho, hw⟩
  go_wp2
  go_end0
  exact ⟨rfl, ho, hw⟩
theorem wshort_nil (x : Int) (w : World) :
    Calls Try.prog 33 #[.pointer none, .int .i64 x] w fun e w' => e = .returned (.tuple #[]) ∧ Below w.heap.size w w' := by
  have HX := hide (u64N_wrap x)
  go_enter Try.func33, Try.ntmps33
  go_wp2_with fail
  refine (wown_nil _).mono ?_
  rintro e w1 ⟨rfl, rfl⟩
  go_wp2_with fail
  rw [unhide HX]
  refine (put_any w.heap.size 2 (u64N x) [] _ (wr_new w 28) (by omega) (by omega) (u64N_lt x) (by simp)).mono ?_
  rintro e w2 ⟨rfl, ho, hw⟩
  go_wp2
  go_end0
  exact ⟨rfl, ho.fresh⟩

theorem wword_any (c : Nat) (x : Int) (L : List UInt8) (w : World) (h : Wr c w L) (hs : L.length ≤ 900000000) :
    Calls Try.prog 29 #[.pointer (some ⟨c, 0, none⟩), .int .i64 x] w fun e w' => e = .returned (.tuple #[]) ∧ Only c w w' ∧ Wr c w' (L ++ leL 4 (u64N x)) := by
  have H := hide h
  have HX := hide (u64N_wrap x)
  clear h
  go_enter Try.func29, Try.ntmps29
  go_wp2_with fail
  refine (wown_any c _).mono ?_
  rintro e w1 ⟨rfl, rfl⟩
  go_wp2_with fail
  rw [unhide HX]
  refine (put_any c 4 (u64N x) L _ (unhide H) (by omega) (by omega) (u64N_lt x) hs).mono ?_
  rintro e w2 ⟨rfl, ho, hw⟩
  go_wp2
  go_end0
  exact ⟨rfl, ho, hw⟩
theorem wword_nil (x : Int) (w : World) :
    Calls Try.prog 29 #[.pointer none, .int .i64 x] w fun e w' => e = .returned (.tuple #[]) ∧ Below w.heap.size w w' := by
  have HX := hide (u64N_wrap x)
  go_enter Try.func29, Try.ntmps29
  go_wp2_with fail
  refine (wown_nil _).mono ?_
  rintro e w1 ⟨rfl, rfl⟩
  go_wp2_with fail
  rw [unhide HX]
  refine (put_any w.heap.size 4 (u64N x) [] _ (wr_new w 28) (by omega) (by omega) (u64N_lt x) (by simp)).mono ?_
  rintro e w2 ⟨rfl, ho, hw⟩
  go_wp2
  go_end0
  exact ⟨rfl, ho.fresh⟩

theorem wlong_any (c : Nat) (x : Nat) (L : List UInt8) (w : World) (hx : x < 18446744073709551616) (h : Wr c w L) (hs : L.length ≤ 900000000) :
    Calls Try.prog 34 #[.pointer (some ⟨c, 0, none⟩), .int .u64 (x : Int)] w fun e w' => e = .returned (.tuple #[]) ∧ Only c w w' ∧ Wr c w' (L ++ leL 8 x) := by
  have H := hide h
  clear h
  go_enter Try.func34, Try.ntmps34
  go_wp2_with fail
  refine (wown_any c _).mono ?_
  rintro e w1 ⟨rfl, rfl⟩
  go_wp2_with fail
  refine (put_any c 8 x L _ (unhide H) (by omega) (by omega) hx hs).mono ?_
  rintro e w2 ⟨rfl, ho, hw⟩
  go_wp2
  go_end0
  exact ⟨rfl, ho, hw⟩
theorem wlong_nil (x : Nat) (w : World) (hx : x < 18446744073709551616) :
    Calls Try.prog 34 #[.pointer none, .int .u64 (x : Int)] w fun e w' => e = .returned (.tuple #[]) ∧ Below w.heap.size w w' := by
  go_enter Try.func34, Try.ntmps34
  go_wp2_with fail
  refine (wown_nil _).mono ?_
  rintro e w1 ⟨rfl, rfl⟩
  go_wp2_with fail
  refine (put_any w.heap.size 8 x [] _ (wr_new w 28) (by omega) (by omega) hx (by simp)).mono ?_
  rintro e w2 ⟨rfl, ho, hw⟩
  go_wp2
  go_end0
  exact ⟨rfl, ho.fresh⟩
end Go.Proofs.Ytifellblfafhmaa
