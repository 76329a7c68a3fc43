/- The document's Bytes, Row: what they answer; a Row of no reader. -/
import Derived.Test.YtifellblfafhmaaRrow
namespace Go.Proofs.Ytifellblfafhmaa
open Go.RowKit
set_option linter.unusedVariables false

set_option maxRecDepth 100000 in
theorem rrow_nil (w : World) : Calls Try.prog 22 #[.pointer none] w fun e w' => e = .returned (.slice none 0 0) ∧ Below w.heap.size w w' := by
  go_enter Try.func22, Try.ntmps22
  go_wp2_with fail
  refine (rshort_nil _).mono ?_
  rintro e' w1 ⟨rfl, hb⟩
  go_wp2
  go_loopw [7, 3, 4] (fun i v _ wr => i = .int .i64 0 ∧ v = .slice none 0 0 ∧ wr = w1) (fun i _ _ _ => 0)
  case atStart => exact ⟨rfl, rfl, rfl⟩
  case round =>
    obtain ⟨rfl, rfl, rfl⟩ := hrel
    go_wp2
    go_ret
    exact ⟨rfl, hb⟩

/-- A text of given bytes. -/
def txt (l : List UInt8) : ByteArray := ⟨l.toArray⟩
theorem B_txt (l : List UInt8) : B (txt l) = l := rfl
theorem txt_size (l : List UInt8) : (txt l).size = l.length := by rw [← B_len, B_txt]
theorem txt_append (l m : List UInt8) : txt l ++ txt m = txt (l ++ m) := B_inj (by rw [B_append, B_txt, B_txt, B_txt])
theorem one_text (u : UInt8) (w : World) : (convert 69 9 (.slice (some ⟨w.heap.size, 0, none⟩) 1 1)).run Try.prog (w.alloc (.cells #[.int .u8 (u.toNat : Int)] 5)) = .ok (.string (txt [u])) (w.alloc (.cells #[.int .u8 (u.toNat : Int)] 5)) :=
  text_cells (l := [u]) (m := []) (cells_new w [.int .u8 (u.toNat : Int)] 5) 1 1 rfl

set_option maxRecDepth 100000 in
theorem bytes_any (x n : Nat) (w : World) (hx : x < 18446744073709551616) (hn : n ≤ 1000) :
    Calls Try.prog 32 #[.int .u64 (x : Int), .int .i64 (n : Int)] w fun e w' => e = .returned (.string (txt (leL n x))) ∧ Below w.heap.size w w' := by
  go_enter Try.func32, Try.ntmps32
  go_wp2
  go_loopw [5, 6, 0] (fun t i y wr => ∃ (j y' : Nat) (t' : ByteArray), j ≤ n ∧ t = .string t' ∧ i = .int .i64 (j : Int) ∧ y = .int .u64 (y' : Int) ∧ y' < 18446744073709551616 ∧ t'.size = j ∧ Hid (t' = txt (leL j x)) ∧ Hid (y' = x / 256 ^ j) ∧ Hid (Below w.heap.size w wr)) (fun _ i _ _ => n - (intOf i).toNat)
  case atStart => exact ⟨0, x, ⟨#[]⟩, by omega, rfl, rfl, rfl, hx, rfl, rfl, by show x = x / 256 ^ 0; simp, Below.refl _ _⟩
  case round =>
    obtain ⟨j, y, t', hj, rfl, rfl, rfl, hy, hsz, HT, HY, HB⟩ := hrel
    by_cases hlt : j < n
    · obtain ⟨u, hu⟩ : ∃ u : UInt8, UInt8.ofNat (x / 256 ^ j) = u := ⟨_, rfl⟩
      have hub : (y : Int) % 256 = (u.toNat : Int) := by
        rw [← hu, UInt8.toNat_ofNat', unhide HY]
        show _ = ((x / 256 ^ j % 256 : Nat) : Int)
        omega
      have hot := one_text u
      have hcat : ¬ 9223372036854775807 < t'.size + (txt [u]).size := by rw [txt_size, hsz]; simp; omega
      have HU := hide hu
      have HSZ := hide hsz
      clear hu hsz
      go_wp2
      go_roundw
      case rel => exact ⟨j + 1, y / 256, t' ++ txt [u], by omega, rfl, rfl, rfl, by omega, by rw [ByteArray.size_append, txt_size, unhide HSZ]; rfl, by
          show _ = _
          rw [unhide HT, txt_append, leL_succ, unhide HU], by
          show _ = _
          rw [unhide HY, Nat.pow_succ, Nat.div_div_eq_div_mul], (unhide HB).alloc (unhide HB).size _⟩
      case measure => simp [intOf]; omega
    · obtain rfl : j = n := by omega
      clear hsz
      go_wp2
      go_ret
      exact ⟨by rw [unhide HT]; rfl, unhide HB⟩

set_option maxRecDepth 100000 in
set_option maxHeartbeats 1000000 in
theorem brow_any (a : Option Addr) (cap n : Nat) (xs : List Int) (hn : xs.length = n) (w : World) (hl : Lies w a xs) (h6 : n ≤ 65535) :
    Calls Try.prog 35 #[.slice a n cap] w fun e w' => e = .returned (.string (txt (rowW xs))) ∧ Below w.heap.size w w' := by
  have HL := hide hl
  have HN := hide hn
  clear hl hn
  go_enter Try.func35, Try.ntmps35
  go_wp2_with fail
  refine (bytes_any n 2 _ (by omega) (by omega)).mono ?_
  rintro e w1 ⟨rfl, hb1⟩
  have HB1 := hide hb1
  clear hb1
  go_wp2
  go_loopw [3, 4] (fun t i wr => ∃ (k : Nat) (t' : ByteArray), k ≤ n ∧ t = .string t' ∧ i = .int .i64 (k : Int) ∧ Hid (t' = txt (leL 2 n ++ (xs.take k).flatMap wordL)) ∧ Hid (Below w.heap.size w wr)) (fun _ i _ => n - (intOf i).toNat)
  case atStart => exact ⟨0, _, by omega, rfl, rfl, by show _ = _; simp, HB1⟩
  case round =>
    obtain ⟨k, t', hk, rfl, rfl, HT, HB⟩ := hrel
    by_cases hlt : k < n
    · have hkl : k < xs.length := by rw [unhide HN]; exact hlt
      have hl1 := (unhide HL).below (unhide HB)
      obtain ⟨b, off, rfl, hb, hc⟩ := hl1.some (by intro e; rw [e] at hkl; simp at hkl)
      have hck := hc k hkl
      have HSucc := hide (words_succ xs k hkl)
      generalize xs.getD k 0 = z at hck HSucc
      have HZ := hide (u64N_wrap z)
      have hcat : ¬ 9223372036854775807 < t'.size + (txt (leL 4 (u64N z))).size := by
        rw [txt_size, leL_len, unhide HT, txt_size, List.length_append, leL_len, words_len, List.length_take]
        omega
      clear hc hl1 hkl hb
      go_wp2_with fail
      rw [unhide HZ]
      refine (bytes_any (u64N z) 4 _ (u64N_lt z) (by omega)).mono ?_
      rintro e w2 ⟨rfl, hb2⟩
      have HB2 := hide hb2
      clear hb2
      go_wp2
      go_roundw
      case rel => exact ⟨k + 1, _, by omega, rfl, rfl, by
          show _ = _
          rw [unhide HT, txt_append, unhide HSucc, List.append_assoc]
          rfl, below_trans (unhide HB) (unhide HB2)⟩
      case measure => simp [intOf]; omega
    · obtain rfl : k = n := by omega
      go_wp2
      go_ret
      refine ⟨?_, unhide HB⟩
      have := unhide HT
      rw [List.take_of_length_le (by rw [unhide HN]; omega)] at this
      unfold rowW
      rw [unhide HN, ← this]
      rfl
end Go.Proofs.Ytifellblfafhmaa
