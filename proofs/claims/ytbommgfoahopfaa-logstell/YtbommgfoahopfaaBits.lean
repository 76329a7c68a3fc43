/- Contracts of math/bits.Len64, LeadingZeros64 and logs.Bits, and of the document's Bits. -/
import Derived.Test.YtbommgfoahopfaaBase
import Derived.Lib.BitFns
import Derived.Lib.Small
import Derived.Lib.Walk
namespace Go.Proofs.Ytbommgfoahopfaa
open Go.RowKit
set_option linter.unusedVariables false

theorem below_trans {w w1 w2 : World} (h1 : Below w.heap.size w w1) (h2 : Below w1.heap.size w1 w2) : Below w.heap.size w w2 := h1.trans (h2.mono h1.size)
def U64 (x : Int) : Prop := 0 ≤ x ∧ x ≤ 18446744073709551615
def blI (x : Int) : Int := bl x.toNat

theorem bl_lib (x : Nat) (h : x < 2 ^ 64) : Lib.bitLen x = bl x := by
  induction x using Nat.strongRecOn with
  | _ x ih =>
    by_cases h0 : x = 0
    · rw [h0]; rfl
    · rw [Lib.bitLen_half x h0 h, bl_half x h0, ih (x / 2) (by omega) (by omega)]
      omega
theorem len8_bl (b : Int) (h0 : 0 ≤ b) (h1 : b ≤ 255) : Lib.len8 b = blI b := by
  rw [Lib.len8_of b h0 h1, bl_lib _ (by omega)]; rfl
theorem bl_up (k : Nat) : ∀ x : Nat, 2 ^ k ≤ x → bl x = bl (x / 2 ^ k) + k := by
  induction k with
  | zero => intro x _; simp
  | succ k ih =>
    intro x h
    have e : 2 ^ (k + 1) = 2 * 2 ^ k := by rw [Nat.pow_succ, Nat.mul_comm]
    have p := Nat.two_pow_pos k
    rw [bl_half x (by omega), ih (x / 2) (by omega), Nat.div_div_eq_div_mul, ← e]
    omega
theorem blI_up (k : Nat) (x : Int) (h : ((2 ^ k : Nat) : Int) ≤ x) : blI x = blI (x / ((2 ^ k : Nat) : Int)) + k := by
  obtain ⟨n, rfl⟩ : ∃ n : Nat, x = n := ⟨x.toNat, by have := Nat.two_pow_pos k; omega⟩
  unfold blI
  rw [← Int.natCast_ediv, Int.toNat_natCast, Int.toNat_natCast, bl_up k n (by omega)]
  omega
theorem blI_bd (x : Int) (k : Nat) (h0 : 0 ≤ x) (h : x < ((2 ^ k : Nat) : Int)) : 0 ≤ blI x ∧ blI x ≤ k := by
  unfold blI
  have := bl_le x.toNat k (by omega)
  omega

theorem tab_bl (d : Int) (h0 : 0 ≤ d) (h1 : d < 256) (hp : d.toNat < Lib.len8tab.size) : (((Lib.len8tab[d.toNat]'hp).toNat : Nat) : Int) = blI d := by
  rw [← len8_bl d h0 (by omega)]
  unfold Lib.len8
  rw [ByteArray.getElem?_lt' _ _ hp]
  rfl
theorem len_end (x d c : Int) (k : Nat) (hp : d.toNat < Lib.len8tab.size) (hc : c = k) (hd : d = x / ((2 ^ k : Nat) : Int)) (h0 : 0 ≤ d) (h1 : d < 256) (hk : k ≤ 56) (hx : ((2 ^ k : Nat) : Int) ≤ x) :
    wrap64 (c + wrap64 (((Lib.len8tab[d.toNat]'hp).toNat : Nat) : Int)) = blI x := by
  rw [tab_bl d h0 h1 hp]
  have h2 := blI_bd d 8 h0 h1
  rw [blI_up k x hx, ← hd]
  unfold wrap64
  omega
theorem len_end0 (x : Int) (hp : x.toNat < Lib.len8tab.size) (h0 : 0 ≤ x) (h1 : x < 256) :
    wrap64 (wrap64 (((Lib.len8tab[x.toNat]'hp).toNat : Nat) : Int)) = blI x := by
  rw [tab_bl x h0 h1 hp]
  have h2 := blI_bd x 8 h0 h1
  unfold wrap64
  omega

set_option maxHeartbeats 4000000 in
set_option maxRecDepth 100000 in
theorem len64_any (x : Int) (w : World) (hx : U64 x) :
    Calls Try.prog 17 #[.int .u64 x] w fun e w' => e = .returned (.int .i64 (blI x)) ∧ w' = w := by
  obtain ⟨h0, h1⟩ := hx
  have hsz : ((Lib.len8tab.size : Nat) : Int) = 256 := by rw [Lib.len8tab_size]; rfl
  go_enter Try.func17, Try.ntmps17
  go_wp2
  all_goals go_ret
  · exact ⟨ret_int (len_end x _ 56 56 _ rfl (by omega) (by omega) (by omega) (by decide) (by omega)), rfl⟩
  · exact ⟨ret_int (len_end x _ 48 48 _ rfl (by omega) (by omega) (by omega) (by decide) (by omega)), rfl⟩
  · exact ⟨ret_int (len_end x _ 40 40 _ rfl (by omega) (by omega) (by omega) (by decide) (by omega)), rfl⟩
  · exact ⟨ret_int (len_end x _ 32 32 _ rfl (by omega) (by omega) (by omega) (by decide) (by omega)), rfl⟩
  · exact ⟨ret_int (len_end x _ 24 24 _ rfl (by omega) (by omega) (by omega) (by decide) (by omega)), rfl⟩
  · exact ⟨ret_int (len_end x _ 16 16 _ rfl (by omega) (by omega) (by omega) (by decide) (by omega)), rfl⟩
  · exact ⟨ret_int (len_end x _ 8 8 _ rfl (by omega) (by omega) (by omega) (by decide) (by omega)), rfl⟩
  · exact ⟨ret_int (len_end0 x _ (by omega) (by omega)), rfl⟩

theorem blI_64 (x : Int) (hx : U64 x) : 0 ≤ blI x ∧ blI x ≤ 64 := blI_bd x 64 hx.1 (by have := hx.2; omega)

theorem zeros_any (x : Int) (w : World) (hx : U64 x) :
    Calls Try.prog 23 #[.int .u64 x] w fun e w' => e = .returned (.int .i64 (64 - blI x)) ∧ w' = w := by
  obtain ⟨b0, b1⟩ := blI_64 x hx
  go_enter Try.func23, Try.ntmps23
  go_wp2_with fail
  refine (len64_any x _ hx).mono ?_
  rintro e w' ⟨rfl, rfl⟩
  go_wp2
  go_ret
  exact ⟨rfl, rfl⟩

theorem bits_any (x : Int) (w : World) (hx : U64 x) :
    Calls Try.prog 9 #[.int .u64 x] w fun e w' => e = .returned (.int .i64 (blI x)) ∧ w' = w := by
  go_enter Try.func9, Try.ntmps9
  go_wp2_with fail
  refine (len64_any x _ hx).mono ?_
  rintro e w' ⟨rfl, rfl⟩
  go_wp2
  go_ret
  exact ⟨rfl, rfl⟩

theorem blI_half (x : Int) (h : 0 < x) : blI x = blI (x / 2) + 1 := by
  unfold blI
  rw [bl_half x.toNat (by omega), show (x / 2).toNat = x.toNat / 2 by omega]
  omega
theorem blI_zero : blI 0 = 0 := rfl

set_option maxHeartbeats 1000000 in
theorem rbits_any (x : Int) (w : World) (hx : U64 x) :
    Calls Try.prog 10 #[.int .u64 x] w fun e w' => e = .returned (.int .i64 (blI x)) ∧ w' = w := by
  obtain ⟨h0, h1⟩ := hx
  obtain ⟨b0, b1⟩ := blI_64 x ⟨h0, h1⟩
  go_enter Try.func10, Try.ntmps10
  go_wp2
  go_loopw [0, 3] (fun y n wr => ∃ Y n0 : Int, 0 ≤ Y ∧ Y ≤ 18446744073709551615 ∧ y = .int .u64 Y ∧ n = .int .i64 n0 ∧ 0 ≤ n0 ∧ n0 + blI Y = blI x ∧ wr = w) (fun y _ _ => (intOf y).toNat)
  case atStart => exact ⟨x, 0, h0, h1, rfl, rfl, by omega, by omega, rfl⟩
  case round =>
    obtain ⟨Y, n0, hY0, hY1, rfl, rfl, hn0, hsum, rfl⟩ := hrel
    by_cases hlt : 0 < Y
    · have hs := blI_half Y hlt
      have hb := blI_64 (Y / 2) ⟨by omega, by omega⟩
      have hq : 0 ≤ Y / 2 ∧ Y / 2 < Y ∧ Y / 2 ≤ 18446744073709551615 := by omega
      have hn : n0 + 1 + blI (Y / 2) = blI x := by omega
      have hn2 : n0 + 1 ≤ 64 := by omega
      have HN := hide hn
      have HQ := hide hq
      clear hs hb hsum hn hq
      go_wp2
      go_roundw
      case rel => exact ⟨_, _, (unhide HQ).1, (unhide HQ).2.2, rfl, rfl, by omega, unhide HN, trivial⟩
      case measure => have := unhide HQ; simp [intOf]; omega
    · have e : Y = 0 := by omega
      subst e
      rw [blI_zero] at hsum
      have e : blI x = n0 := by omega
      rw [e]
      go_wp2
      go_ret
      exact ⟨rfl, rfl⟩
end Go.Proofs.Ytbommgfoahopfaa
