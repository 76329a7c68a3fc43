/- Contract of a reader's take. -/
import Derived.Test.YtifellblfafhmaaRead
namespace Go.Proofs.Ytifellblfafhmaa
open Go.RowKit
set_option linter.unusedVariables false

theorem only_drewN (c : Nat) (w : World) (n : Nat) : Only c w (w.drewN n) := ⟨rfl, rfl, rfl, Nat.le_refl _, fun _ _ _ => rfl⟩
theorem below_drewN (w : World) (n : Nat) : Below w.heap.size w (w.drewN n) := ⟨rfl, rfl, rfl, Nat.le_refl _, fun _ _ => rfl⟩
theorem u64_or_add (a b k : Nat) (hb : b < 2 ^ k) (hs : 2 ^ k * a + b < 18446744073709551616) : bits .or .u64 ((2 ^ k * a : Nat) : Int) (b : Int) = ((2 ^ k * a + b : Nat) : Int) := by
  have key : (BitVec.ofInt 64 ((2 ^ k * a : Nat) : Int) ||| BitVec.ofInt 64 (b : Int)).toNat = 2 ^ k * a + b := by
    rw [BitVec.toNat_or, BitVec.toNat_ofInt, BitVec.toNat_ofInt, Nat.two_pow_add_eq_or_of_lt hb a]
    congr 1 <;> omega
  show IntKind.u64.wrap ((BitVec.ofInt 64 ((2 ^ k * a : Nat) : Int) ||| BitVec.ofInt 64 (b : Int)).toNat : Nat) = _
  rw [key, IntKind.wrap_u64]
  omega
theorem u64_or_comm (x y : Int) : bits .or .u64 x y = bits .or .u64 y x := by
  show IntKind.u64.wrap ((BitVec.ofInt 64 x ||| BitVec.ofInt 64 y).toNat : Nat) = IntKind.u64.wrap ((BitVec.ofInt 64 y ||| BitVec.ofInt 64 x).toNat : Nat)
  rw [BitVec.or_comm]

theorem or_step (l : List UInt8) (j t : Nat) (b : UInt8) (hl : l.length = j) (hj : j ≤ 7) (ht : t = 8 * j) : bits .or .u64 (numL l : Int) (IntKind.u64.wrap ((b.toNat : Int) * 2 ^ t)) = ((numL (l ++ [b]) : Nat) : Int) := by
  have hX := numL_lt l
  have hb := byte_lt b
  rw [numL_snoc, hl] at *
  have e : 256 ^ j = 2 ^ t := by rw [ht, Nat.pow_mul]
  rw [e] at hX ⊢
  have h64 : 2 ^ t * 256 ≤ 18446744073709551616 := by
    have : 2 ^ t ≤ 2 ^ 56 := Nat.pow_le_pow_right (by omega) (by omega)
    omega
  have h1 : 2 ^ t * b.toNat + numL l < 18446744073709551616 := by
    have : 2 ^ t * b.toNat ≤ 2 ^ t * 255 := Nat.mul_le_mul_left _ (by omega)
    omega
  have h2 : IntKind.u64.wrap ((b.toNat : Int) * 2 ^ t) = ((2 ^ t * b.toNat : Nat) : Int) := by
    rw [show (b.toNat : Int) * 2 ^ t = ((2 ^ t * b.toNat : Nat) : Int) by rw [Nat.mul_comm]; simp, IntKind.wrap_u64]
    omega
  rw [h2, u64_or_comm, u64_or_add b.toNat (numL l) t hX h1, Nat.add_comm]
theorem take_next (s : ByteArray) (a j p : Nat) (hp : p = a + j) (h : p < s.size) : ((B s).drop a).take (j + 1) = ((B s).drop a).take j ++ [s[p]'h] := by
  subst hp
  have hl : j < ((B s).drop a).length := by rw [List.length_drop, B_len]; omega
  rw [List.take_succ_eq_append_getElem hl, List.getElem_drop]
  rfl

set_option maxRecDepth 100000 in
set_option maxHeartbeats 1000000 in
theorem take_any (c at_ k : Nat) (s : ByteArray) (e : Int) (w : World) (h : Rd c w at_ s e) (ha : at_ ≤ s.size) (hs : s.size ≤ 1000000000) (hk : k ≤ 8) :
    Calls Try.prog 40 #[.pointer (some ⟨c, 0, none⟩), .int .i64 (k : Int)] w fun e' w' => e' = .returned (.int .u64 ((takeV at_ s e k : Nat) : Int)) ∧ Only c w w' ∧ Rd c w' (takeA at_ s e k) s (takeE at_ s e k) := by
  have h0 := h.cell 0 _ rfl
  have h1 := h.cell 1 _ rfl
  have h2 := h.cell 2 _ rfl
  have f0 := h.free 0
  have f2 := h.free 2
  have H := hide h
  clear h
  by_cases he : e = 0
  · subst he
    by_cases hf : at_ + k ≤ s.size
    · obtain ⟨T1, T2, T3⟩ := take_yes hf
      rw [T1, T2, T3]
      clear T1 T2 T3
      go_enter Try.func40, Try.ntmps40
      go_wp2_with fail
      refine (left_any c at_ s 0 _ (unhide H) ha hs).mono ?_
      rintro e w1 ⟨rfl, m, rfl⟩
      go_wp2
      go_loopw [20, 5, 6] (fun i x _ wr => ∃ (j X : Nat), j ≤ k ∧ i = .int .i64 (j : Int) ∧ x = .int .u64 (X : Int) ∧ Hid (X = numL (((B s).drop at_).take j)) ∧ Hid (Only c w wr) ∧ Hid (Rd c wr at_ s 0)) (fun i _ _ _ => k - (intOf i).toNat)
      case atStart => exact ⟨0, 0, by omega, rfl, rfl, by show _ = _; simp [numL], only_drewN _ _ _, unhide H⟩
      case round =>
        obtain ⟨j, X, hj, rfl, rfl, HX, HOr, HRr⟩ := hrel
        have g0 := (unhide HRr).cell 0 _ rfl
        have g1 := (unhide HRr).cell 1 _ rfl
        have g2 := (unhide HRr).cell 2 _ rfl
        have e0 := (unhide HRr).free 0
        clear h0 h1 h2 f0 f2
        by_cases hlt : j < k
        · obtain ⟨p, hp⟩ : ∃ p, p = at_ + j := ⟨_, rfl⟩
          obtain ⟨t, ht⟩ : ∃ t, t = 8 * j := ⟨_, rfl⟩
          have hw1 : IntKind.i64.wrap ((at_ : Int) + (j : Int)) = (p : Int) := by rw [IntKind.wrap_i64]; omega
          have hw2 : IntKind.i64.wrap (8 * (j : Int)) = (t : Int) := by rw [IntKind.wrap_i64]; omega
          have hpl : p < s.size := by omega
          have htl : t ≤ 56 := by omega
          have hcb' : (s[p]'hpl).toNat < 256 := byte_lt _
          have HP := hide hp
          have HT := hide ht
          clear hp ht
          go_wp2
          go_quiet ((go_at_call 37; exact Calls.quiet_of_same (count_at c at_ _ (by simpa using g0))))
          go_wp2
          go_roundw
          case rel => exact ⟨j + 1, numL (((B s).drop at_).take (j + 1)), by omega, rfl, by
              rw [take_next s at_ j p (unhide HP) hpl, unhide HX]
              exact congrArg _ (or_step _ j t _ (by rw [List.length_take, List.length_drop, B_len]; omega) (by omega) (unhide HT)), rfl, (unhide HOr).trans (only_drewN _ _ _), unhide HRr⟩
          case measure => simp [intOf]; omega
        · obtain rfl : j = k := by omega
          go_wp2
          go_ret
          refine ⟨ret_int (by rw [← unhide HX]), (unhide HOr).setCell rfl _, ?_⟩
          have := (unhide HRr).set 0 (.int .i64 ((at_ : Int) + (j : Int)))
          exact this
    · obtain ⟨T1, T2, T3⟩ := take_short hf
      rw [T1, T2, T3]
      clear T1 T2 T3
      go_enter Try.func40, Try.ntmps40
      go_wp2_with fail
      refine (left_any c at_ s 0 _ (unhide H) ha hs).mono ?_
      rintro e w1 ⟨rfl, m, rfl⟩
      have hlt : (s.size : Int) - (at_ : Int) < (k : Int) := by omega
      go_wp2
      go_ret
      exact ⟨rfl, (only_drewN c w m).setCell rfl _, Cells.set (l := [.int .i64 (at_ : Int), .string s, .int .i64 0]) (unhide H) 2 _⟩
  · obtain ⟨T1, T2, T3⟩ := take_no (at_ := at_) (s := s) (k := k) he
    rw [T1, T2, T3]
    clear T1 T2 T3
    have hne : (e != 0) = true := by simpa using he
    go_enter Try.func40, Try.ntmps40
    go_wp2
    go_ret
    exact ⟨rfl, Only.refl _ _, unhide H⟩
end Go.Proofs.Ytifellblfafhmaa
