/- Contracts of crc.Sum's closure, of crc.Sum and of the document's Sum. -/
import Derived.Test.YtaplpknjgonolaaBase
import Derived.Test.YtaplpknjgonolaaMath
namespace Go.Proofs.Ytaplpknjgonolaa
open Go.RowKit
set_option linter.unusedVariables false

theorem u32_odd (R : Nat) (h : R < 4294967296) : bits .and .u32 (R : Int) 1 = ((R % 2 : Nat) : Int) := by
  have := u32_and_nat R 1 h (by decide)
  rw [nat_mask1] at this
  exact this

set_option maxRecDepth 100000 in
theorem through_any (w : World) (r : Nat) (b : UInt8) (hr : r < 4294967296) :
    Calls Try.prog 16 #[.int .u8 (b.toNat : Int), .pointer (some ⟨w.heap.size, 0, none⟩)] (w.alloc (.cells #[.int .u32 (r : Int)] 26)) fun e w' =>
      e = .returned (.tuple #[]) ∧ w' = w.alloc (.cells #[.int .u32 ((goN 8 (r ^^^ b.toNat) : Nat) : Int)] 26) := by
  have hb := byte_lt b
  have hx : r ^^^ b.toNat < 4294967296 := Nat.xor_lt_two_pow (n := 32) hr (by omega)
  have hx1 : bits .xor .u32 (r : Int) (b.toNat : Int) = ((r ^^^ b.toNat : Nat) : Int) := u32_xor_nat r b.toNat hr (by omega)
  have HX := hide hx
  obtain ⟨z, hz⟩ : ∃ z, goN 8 (r ^^^ b.toNat) = z := ⟨_, rfl⟩
  rw [hz]
  go_enter Try.func16, Try.ntmps16
  go_wp2
  go_loopw [8] (fun i wr => ∃ (k R : Nat), k ≤ 8 ∧ i = .int .i64 (k : Int) ∧ wr = w.alloc (.cells #[.int .u32 (R : Int)] 26) ∧ R < 4294967296 ∧ goN (8 - k) R = z) (fun i _ => 8 - (intOf i).toNat)
  case atStart => exact ⟨0, _, by omega, rfl, rfl, unhide HX, hz⟩
  case round =>
    obtain ⟨k, R, hk, rfl, rfl, hR, hg⟩ := hrel
    clear hz hx1 hx HX
    by_cases hlt : k < 8
    · have hlt' : (k : Int) < 8 := by omega
      have hg' : goN (8 - (k + 1)) (stepN R) = z := by
        rw [show 8 - k = (8 - (k + 1)) + 1 by omega] at hg
        exact hg
      have HG := hide hg'
      have HL := hide (step_lt R hR)
      clear hg hg'
      have ho := u32_odd R hR
      by_cases hodd : R % 2 = 1
      · have hs : stepN R = (R / 2 ^^^ 3988292384) := by unfold stepN; rw [if_pos hodd]
        have HS := hide hs
        rw [hodd] at ho
        clear hs
        have hxx : bits .xor .u32 ((R : Int) / 2) 3988292384 = ((stepN R : Nat) : Int) := by
          rw [unhide HS]
          exact u32_xor_nat (R / 2) 3988292384 (by omega) (by decide)
        go_wp2
        go_roundw
        case rel => exact ⟨k + 1, stepN R, by omega, rfl, rfl, unhide HL, unhide HG⟩
        case measure => simp [intOf]; omega
      · have hs : stepN R = R / 2 := by unfold stepN; rw [if_neg hodd]
        have HS := hide hs
        rw [show R % 2 = 0 by omega] at ho
        clear hs
        go_wp2
        go_roundw
        case rel => exact ⟨k + 1, stepN R, by omega, rfl, by rw [unhide HS]; rfl, unhide HL, unhide HG⟩
        case measure => simp [intOf]; omega
    · have e : k = 8 := by omega
      subst e
      go_wp2
      go_end0
      exact ⟨rfl, by rw [← hg]; rfl⟩

/-- The bytes of a text. -/
def B (s : ByteArray) : List UInt8 := s.data.toList
theorem B_len (s : ByteArray) : (B s).length = s.size := by unfold B; rw [Array.length_toList]; rfl
/-- A slice of texts lies in memory. -/
def LiesS (w : World) (a : Option Addr) (ss : List ByteArray) : Prop :=
  ss = [] ∨ ∃ b off, a = some ⟨b, off, none⟩ ∧ b < w.heap.size ∧ ∀ j, (h : j < ss.length) → w.cell? ⟨b, off + j, none⟩ = some (.string ss[j])
def cat (ss : List ByteArray) : List UInt8 := ss.flatMap B

set_option maxRecDepth 100000 in
set_option maxHeartbeats 1000000 in
theorem sum_any (a : Option Addr) (cap : Nat) (ss : List ByteArray) (n : Nat) (hn : ss.length = n) (w : World) (hl : LiesS w a ss) (hs : ∀ s ∈ ss, s.size ≤ 1000000) (h4 : n ≤ 1000000) :
    Calls Try.prog 11 #[.slice a n cap] w fun e w' => e = .returned (.int .u32 ((sumN (cat ss) : Nat) : Int)) ∧ Below w.heap.size w w' := by
  have hmf : ∀ (fn : Fn) (first cap : Array Value) (w : World), (Instr.makeFunc fn first cap).run Try.prog w = .ok (.func fn first cap) w := fun _ _ _ _ => rfl
  obtain ⟨z, hz⟩ : ∃ z, feedN 4294967295 (cat ss) = z := ⟨_, rfl⟩
  have HZ := hide hz
  have HN := hide hn
  clear hz hn
  go_enter Try.func11, Try.ntmps11
  go_wp2
  go_loopw [11] (fun i wr => ∃ (k R : Nat), k ≤ n ∧ i = .int .i64 (k : Int) ∧ wr = w.alloc (.cells #[.int .u32 (R : Int)] 26) ∧ R < 4294967296 ∧ Hid (feedN R (cat (ss.drop k)) = z)) (fun i _ => n - (intOf i).toNat)
  case atStart => exact ⟨0, 4294967295, by omega, rfl, rfl, by omega, HZ⟩
  case round =>
    obtain ⟨k, R, hk, rfl, rfl, hR, HG⟩ := hrel
    by_cases hlt : k < n
    · have hkl : k < ss.length := by rw [unhide HN]; exact hlt
      obtain ⟨s, hsk⟩ : ∃ s, ss[k] = s := ⟨_, rfl⟩
      have hss := hs s (by rw [← hsk]; exact List.getElem_mem hkl)
      have hdrop : cat (ss.drop k) = B s ++ cat (ss.drop (k + 1)) := by
        rw [List.drop_eq_getElem_cons hkl, hsk]; rfl
      have HG' : Hid (feedN (feedN R (B s)) (cat (ss.drop (k + 1))) = z) := by
        have := unhide HG
        rw [hdrop, feed_append] at this
        exact this
      obtain ⟨y, hy⟩ : ∃ y, feedN R (B s) = y := ⟨_, rfl⟩
      have HY : Hid (feedN R (B s) = y) := hy
      have HYL := hide (show y < 4294967296 by rw [← hy]; exact feed_lt _ _ hR)
      rw [hy] at HG'
      rcases hl with h0 | ⟨b, off, rfl, hb, hc⟩
      · rw [h0] at hkl; simp at hkl
      have hck := hc k hkl
      rw [hsk] at hck
      have hcell : ∀ o, (w.alloc o).cell? ⟨b, off + k, none⟩ = some (.string s) := fun o => by
        rw [World.cell?_alloc_past _ _ _ hb]; exact hck
      have HB := hide hb
      clear hck hc hsk hdrop HG hy hkl
      go_wp2
      go_loopw [17] (fun i wr => ∃ (j R' : Nat), j ≤ s.size ∧ i = .int .i64 (j : Int) ∧ wr = w.alloc (.cells #[.int .u32 (R' : Int)] 26) ∧ R' < 4294967296 ∧ Hid (feedN R' ((B s).drop j) = y)) (fun i _ => s.size - (intOf i).toNat)
      case atStart => exact ⟨0, R, by omega, rfl, rfl, hR, HY⟩
      case round =>
        obtain ⟨j, R', hj, rfl, rfl, hR', HF⟩ := hrel
        by_cases hlt' : j < s.size
        · obtain ⟨c, hc⟩ : ∃ c, s[j]'hlt' = c := ⟨_, rfl⟩
          have hdrop : (B s).drop j = c :: (B s).drop (j + 1) := by
            have hj' : j < (B s).length := by rw [B_len]; exact hlt'
            rw [List.drop_eq_getElem_cons hj', ← hc]
            rfl
          have HF' : Hid (feedN (goN 8 (R' ^^^ c.toNat)) ((B s).drop (j + 1)) = y) := by
            have := unhide HF
            rw [hdrop, feed_cons] at this
            exact this
          have HL := hide (go_lt 8 (R' ^^^ c.toNat) (Nat.xor_lt_two_pow (n := 32) hR' (by have := byte_lt c; omega)))
          clear HF hdrop hcell
          have HC := hide hc
          clear hc
          go_wp2_with fail
          rw [unhide HC]
          refine (through_any w R' c hR').mono ?_
          rintro e w' ⟨rfl, rfl⟩
          go_wp2
          go_roundw
          case rel => exact ⟨j + 1, _, by omega, rfl, rfl, unhide HL, HF'⟩
          case measure => simp [intOf]; omega
        · have e : j = s.size := by omega
          have HE : Hid (R' = y) := by
            have := unhide HF
            rw [List.drop_of_length_le (by rw [B_len]; omega)] at this
            exact this
          clear HF HY
          subst e
          go_wp2
          go_roundw
          case rel => exact ⟨k + 1, y, by omega, rfl, by rw [unhide HE], unhide HYL, HG'⟩
          case measure => simp [intOf]; omega
    · have e : k = n := by omega
      subst e
      have HE : Hid (R = z) := by
        have := unhide HG
        rw [List.drop_of_length_le (by rw [unhide HN]; omega)] at this
        exact this
      go_wp2
      go_ret
      refine ⟨ret_int ?_, (Below.refl _ w).alloc (Nat.le_refl _) _⟩
      rw [← unhide HZ] at HE
      show bits .xor .u32 4294967295 (R : Int) = _
      have := u32_xor_nat 4294967295 R (by decide) hR
      rw [Nat.xor_comm] at this
      unfold sumN
      rw [← unhide HE]
      exact this
end Go.Proofs.Ytaplpknjgonolaa
