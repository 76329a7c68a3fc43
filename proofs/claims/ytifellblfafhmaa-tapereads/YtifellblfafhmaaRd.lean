/- Contracts of a reader's At, Left, Err, Byte, Short, Word, Long, of one that lies somewhere and of none; of Read. -/
import Derived.Test.YtifellblfafhmaaTake
namespace Go.Proofs.Ytifellblfafhmaa
open Go.RowKit
set_option linter.unusedVariables false

theorem takeV_lt (at_ : Nat) (s : ByteArray) (e : Int) (k : Nat) : takeV at_ s e k < 256 ^ k := by
  unfold takeV
  split
  · exact Nat.lt_of_lt_of_le (numL_lt _) (Nat.pow_le_pow_right (by omega) (by rw [List.length_take]; omega))
  · exact Nat.pow_pos (by omega)
/-- A number of 32 bits with its sign. -/
def wordI (n : Nat) : Int := wrap32 (n : Int)
theorem wordI_in (n : Nat) : -2147483648 ≤ wordI n ∧ wordI n ≤ 2147483647 := by
  unfold wordI wrap32
  omega
theorem wordI_64 (n : Nat) : wrap64 (wrap32 (n : Int)) = wordI n := by
  have := wordI_in n
  unfold wordI at *
  unfold wrap64
  omega
theorem takeA_le {at_ : Nat} {s : ByteArray} {e : Int} {k : Nat} (h : at_ ≤ s.size) : takeA at_ s e k ≤ s.size := by
  unfold takeA fits
  split
  · rename_i h; simp at h; exact h.2
  · exact h
theorem Rd.below {c : Nat} {w w' : World} {a : Nat} {s : ByteArray} {e : Int} (h : Rd c w a s e) (hb : Below w.heap.size w w') : Rd c w' a s e := Cells.below (l := [.int .i64 (a : Int), .string s, .int .i64 e]) h hb

theorem read_any (s : ByteArray) (w : World) : Calls Try.prog 12 #[.string s] w fun e w' => e = .returned (.pointer (some ⟨w.heap.size, 0, none⟩)) ∧ w' = w.alloc (.cells #[.int .i64 0, .string s, .int .i64 0] 65) := by
  go_enter Try.func12, Try.ntmps12
  go_wp2
  go_ret
  exact ⟨rfl, rfl⟩
theorem rd_new (w : World) (s : ByteArray) : Rd w.heap.size (w.alloc (.cells #[.int .i64 0, .string s, .int .i64 0] 65)) 0 s 0 := cells_new w [.int .i64 0, .string s, .int .i64 0] 65

theorem rat_any (c at_ : Nat) (s : ByteArray) (e : Int) (w : World) (h : Rd c w at_ s e) : Calls Try.prog 24 #[.pointer (some ⟨c, 0, none⟩)] w fun e w' => e = .returned (.int .i64 (at_ : Int)) ∧ w' = w := by
  have h0 := h.cell 0 _ rfl
  clear h
  go_enter Try.func24, Try.ntmps24
  go_wp2_with fail
  refine (rown_any c _).mono ?_
  rintro e w1 ⟨rfl, rfl⟩
  go_wp2_with fail
  refine (count_at c _ _ h0).mono ?_
  rintro e w2 ⟨rfl, rfl⟩
  go_wp2
  go_ret
  exact ⟨rfl, rfl⟩
theorem rat_nil (w : World) : Calls Try.prog 24 #[.pointer none] w fun e w' => e = .returned (.int .i64 0) ∧ Below w.heap.size w w' := by
  have h0 := (rd_nil w).cell 0 _ rfl
  go_enter Try.func24, Try.ntmps24
  go_wp2_with fail
  refine (rown_nil _).mono ?_
  rintro e w1 ⟨rfl, rfl⟩
  go_wp2_with fail
  refine (count_at w.heap.size 0 _ h0).mono ?_
  rintro e w2 ⟨rfl, rfl⟩
  go_wp2
  go_ret
  exact ⟨rfl, (Below.refl _ _).alloc (Nat.le_refl _) _⟩
theorem rerr_any (c at_ : Nat) (s : ByteArray) (e : Int) (w : World) (h : Rd c w at_ s e) : Calls Try.prog 27 #[.pointer (some ⟨c, 0, none⟩)] w fun e' w' => e' = .returned (.int .i64 e) ∧ w' = w := by
  have h2 := h.cell 2 _ rfl
  clear h
  go_enter Try.func27, Try.ntmps27
  go_wp2_with fail
  refine (rown_any c _).mono ?_
  rintro e w1 ⟨rfl, rfl⟩
  go_wp2
  go_ret
  exact ⟨rfl, rfl⟩
theorem rerr_nil (w : World) : Calls Try.prog 27 #[.pointer none] w fun e w' => e = .returned (.int .i64 1) ∧ Below w.heap.size w w' := by
  have h2 := (rd_nil w).cell 2 _ rfl
  go_enter Try.func27, Try.ntmps27
  go_wp2_with fail
  refine (rown_nil _).mono ?_
  rintro e w1 ⟨rfl, rfl⟩
  go_wp2
  go_ret
  exact ⟨rfl, (Below.refl _ _).alloc (Nat.le_refl _) _⟩
theorem rleft_any (c at_ : Nat) (s : ByteArray) (e : Int) (w : World) (h : Rd c w at_ s e) (ha : at_ ≤ s.size) (hs : s.size ≤ 1000000000) :
    Calls Try.prog 25 #[.pointer (some ⟨c, 0, none⟩)] w fun e w' => e = .returned (.int .i64 ((s.size : Int) - (at_ : Int))) ∧ ∃ n, w' = w.drewN n := by
  have H := hide h
  clear h
  go_enter Try.func25, Try.ntmps25
  go_wp2_with fail
  refine (rown_any c _).mono ?_
  rintro e w1 ⟨rfl, rfl⟩
  go_wp2_with fail
  refine (left_any c at_ s _ _ (unhide H) ha hs).mono ?_
  rintro e w2 ⟨rfl, n, rfl⟩
  go_wp2
  go_ret
  exact ⟨rfl, _, rfl⟩
theorem rleft_nil (w : World) : Calls Try.prog 25 #[.pointer none] w fun e w' => e = .returned (.int .i64 0) ∧ Below w.heap.size w w' := by
  go_enter Try.func25, Try.ntmps25
  go_wp2_with fail
  refine (rown_nil _).mono ?_
  rintro e w1 ⟨rfl, rfl⟩
  go_wp2_with fail
  refine (left_any w.heap.size 0 ⟨#[]⟩ 1 _ (rd_nil w) (Nat.zero_le _) (by simp [ByteArray.size])).mono ?_
  rintro e w2 ⟨rfl, n, rfl⟩
  go_wp2
  go_ret
  exact ⟨rfl, below_trans ((Below.refl _ _).alloc (Nat.le_refl _) _) (below_drewN _ _)⟩

theorem rbyte_any (c at_ : Nat) (s : ByteArray) (e : Int) (w : World) (h : Rd c w at_ s e) (ha : at_ ≤ s.size) (hs : s.size ≤ 1000000000) :
    Calls Try.prog 15 #[.pointer (some ⟨c, 0, none⟩)] w fun e' w' => e' = .returned (.int .i64 ((takeV at_ s e 1 : Nat) : Int)) ∧ Only c w w' ∧ Rd c w' (takeA at_ s e 1) s (takeE at_ s e 1) := by
  have H := hide h
  have HV := takeV_lt at_ s e 1
  generalize hv : takeV at_ s e 1 = v at HV ⊢
  have HVV := hide hv
  clear h hv
  go_enter Try.func15, Try.ntmps15
  go_wp2_with fail
  refine (rown_any c _).mono ?_
  rintro e' w1 ⟨rfl, rfl⟩
  go_wp2_with fail
  refine (take_any c at_ 1 s e _ (unhide H) ha hs (by omega)).mono ?_
  rw [unhide HVV]
  rintro e' w2 ⟨rfl, ho, hr⟩
  have HO := hide ho
  have HR := hide hr
  clear ho hr
  go_wp2
  go_ret
  exact ⟨rfl, unhide HO, unhide HR⟩
theorem rbyte_nil (w : World) : Calls Try.prog 15 #[.pointer none] w fun e w' => e = .returned (.int .i64 0) ∧ Below w.heap.size w w' := by
  have hv : takeV 0 ⟨#[]⟩ 1 1 = 0 := (take_no (by decide)).1
  have HV := hide hv
  clear hv
  go_enter Try.func15, Try.ntmps15
  go_wp2_with fail
  refine (rown_nil _).mono ?_
  rintro e' w1 ⟨rfl, rfl⟩
  go_wp2_with fail
  refine (take_any w.heap.size 0 1 ⟨#[]⟩ 1 _ (rd_nil w) (Nat.zero_le _) (by simp [ByteArray.size]) (by omega)).mono ?_
  rw [unhide HV]
  rintro e' w2 ⟨rfl, ho, hr⟩
  have HO := hide ho
  clear ho hr
  go_wp2
  go_ret
  exact ⟨rfl, (unhide HO).fresh⟩

theorem rshort_any (c at_ : Nat) (s : ByteArray) (e : Int) (w : World) (h : Rd c w at_ s e) (ha : at_ ≤ s.size) (hs : s.size ≤ 1000000000) :
    Calls Try.prog 17 #[.pointer (some ⟨c, 0, none⟩)] w fun e' w' => e' = .returned (.int .i64 ((takeV at_ s e 2 : Nat) : Int)) ∧ Only c w w' ∧ Rd c w' (takeA at_ s e 2) s (takeE at_ s e 2) := by
  have H := hide h
  have HV := takeV_lt at_ s e 2
  generalize hv : takeV at_ s e 2 = v at HV ⊢
  have HVV := hide hv
  clear h hv
  go_enter Try.func17, Try.ntmps17
  go_wp2_with fail
  refine (rown_any c _).mono ?_
  rintro e' w1 ⟨rfl, rfl⟩
  go_wp2_with fail
  refine (take_any c at_ 2 s e _ (unhide H) ha hs (by omega)).mono ?_
  rw [unhide HVV]
  rintro e' w2 ⟨rfl, ho, hr⟩
  have HO := hide ho
  have HR := hide hr
  clear ho hr
  go_wp2
  go_ret
  exact ⟨rfl, unhide HO, unhide HR⟩
theorem rshort_nil (w : World) : Calls Try.prog 17 #[.pointer none] w fun e w' => e = .returned (.int .i64 0) ∧ Below w.heap.size w w' := by
  have hv : takeV 0 ⟨#[]⟩ 1 2 = 0 := (take_no (by decide)).1
  have HV := hide hv
  clear hv
  go_enter Try.func17, Try.ntmps17
  go_wp2_with fail
  refine (rown_nil _).mono ?_
  rintro e' w1 ⟨rfl, rfl⟩
  go_wp2_with fail
  refine (take_any w.heap.size 0 2 ⟨#[]⟩ 1 _ (rd_nil w) (Nat.zero_le _) (by simp [ByteArray.size]) (by omega)).mono ?_
  rw [unhide HV]
  rintro e' w2 ⟨rfl, ho, hr⟩
  have HO := hide ho
  clear ho hr
  go_wp2
  go_ret
  exact ⟨rfl, (unhide HO).fresh⟩

theorem rword_any (c at_ : Nat) (s : ByteArray) (e : Int) (w : World) (h : Rd c w at_ s e) (ha : at_ ≤ s.size) (hs : s.size ≤ 1000000000) :
    Calls Try.prog 18 #[.pointer (some ⟨c, 0, none⟩)] w fun e' w' => e' = .returned (.int .i64 (wordI (takeV at_ s e 4))) ∧ Only c w w' ∧ Rd c w' (takeA at_ s e 4) s (takeE at_ s e 4) := by
  have H := hide h
  have HV := takeV_lt at_ s e 4
  generalize hv : takeV at_ s e 4 = v at HV ⊢
  have HVV := hide hv
  clear h hv
  go_enter Try.func18, Try.ntmps18
  go_wp2_with fail
  refine (rown_any c _).mono ?_
  rintro e' w1 ⟨rfl, rfl⟩
  go_wp2_with fail
  refine (take_any c at_ 4 s e _ (unhide H) ha hs (by omega)).mono ?_
  rw [unhide HVV]
  rintro e' w2 ⟨rfl, ho, hr⟩
  have HO := hide ho
  have HR := hide hr
  clear ho hr
  go_wp2
  go_ret
  exact ⟨ret_int (wordI_64 v), unhide HO, unhide HR⟩
theorem rword_nil (w : World) : Calls Try.prog 18 #[.pointer none] w fun e w' => e = .returned (.int .i64 0) ∧ Below w.heap.size w w' := by
  have hv : takeV 0 ⟨#[]⟩ 1 4 = 0 := (take_no (by decide)).1
  have HV := hide hv
  clear hv
  go_enter Try.func18, Try.ntmps18
  go_wp2_with fail
  refine (rown_nil _).mono ?_
  rintro e' w1 ⟨rfl, rfl⟩
  go_wp2_with fail
  refine (take_any w.heap.size 0 4 ⟨#[]⟩ 1 _ (rd_nil w) (Nat.zero_le _) (by simp [ByteArray.size]) (by omega)).mono ?_
  rw [unhide HV]
  rintro e' w2 ⟨rfl, ho, hr⟩
  have HO := hide ho
  clear ho hr
  go_wp2
  go_ret
  exact ⟨rfl, (unhide HO).fresh⟩

theorem rlong_any (c at_ : Nat) (s : ByteArray) (e : Int) (w : World) (h : Rd c w at_ s e) (ha : at_ ≤ s.size) (hs : s.size ≤ 1000000000) :
    Calls Try.prog 20 #[.pointer (some ⟨c, 0, none⟩)] w fun e' w' => e' = .returned (.int .u64 ((takeV at_ s e 8 : Nat) : Int)) ∧ Only c w w' ∧ Rd c w' (takeA at_ s e 8) s (takeE at_ s e 8) := by
  have H := hide h
  have HV := takeV_lt at_ s e 8
  generalize hv : takeV at_ s e 8 = v at HV ⊢
  have HVV := hide hv
  clear h hv
  go_enter Try.func20, Try.ntmps20
  go_wp2_with fail
  refine (rown_any c _).mono ?_
  rintro e' w1 ⟨rfl, rfl⟩
  go_wp2_with fail
  refine (take_any c at_ 8 s e _ (unhide H) ha hs (by omega)).mono ?_
  rw [unhide HVV]
  rintro e' w2 ⟨rfl, ho, hr⟩
  have HO := hide ho
  have HR := hide hr
  clear ho hr
  go_wp2
  go_ret
  exact ⟨rfl, unhide HO, unhide HR⟩
theorem rlong_nil (w : World) : Calls Try.prog 20 #[.pointer none] w fun e w' => e = .returned (.int .u64 0) ∧ Below w.heap.size w w' := by
  have hv : takeV 0 ⟨#[]⟩ 1 8 = 0 := (take_no (by decide)).1
  have HV := hide hv
  clear hv
  go_enter Try.func20, Try.ntmps20
  go_wp2_with fail
  refine (rown_nil _).mono ?_
  rintro e' w1 ⟨rfl, rfl⟩
  go_wp2_with fail
  refine (take_any w.heap.size 0 8 ⟨#[]⟩ 1 _ (rd_nil w) (Nat.zero_le _) (by simp [ByteArray.size]) (by omega)).mono ?_
  rw [unhide HV]
  rintro e' w2 ⟨rfl, ho, hr⟩
  have HO := hide ho
  clear ho hr
  go_wp2
  go_ret
  exact ⟨rfl, (unhide HO).fresh⟩
end Go.Proofs.Ytifellblfafhmaa
