/- Contract of a writer's put: the lowest bytes of a number. -/
import Derived.Test.YtifellblfafhmaaPush
namespace Go.Proofs.Ytifellblfafhmaa
open Go.RowKit
set_option linter.unusedVariables false

/-- The lowest k bytes of a number, the lowest one first. -/
def leL (k x : Nat) : List UInt8 := (List.range k).map fun i => UInt8.ofNat (x / 256 ^ i)
theorem leL_len (k x : Nat) : (leL k x).length = k := by simp [leL]
theorem leL_succ (k x : Nat) : leL (k + 1) x = leL k x ++ [UInt8.ofNat (x / 256 ^ k)] := by simp [leL, List.range_succ]
def cellsB (l : List UInt8) : List Value := l.map fun b => .int .u8 (b.toNat : Int)
/-- Eight bytes, of which the first j are laid. -/
def rowJ (j x : Nat) : List UInt8 := leL j x ++ List.replicate (8 - j) 0
theorem rowJ_zero (x : Nat) : cellsB (rowJ 0 x) = [.int .u8 0, .int .u8 0, .int .u8 0, .int .u8 0, .int .u8 0, .int .u8 0, .int .u8 0, .int .u8 0] := rfl
theorem rowJ_set (j x : Nat) (h : j < 8) : (cellsB (rowJ j x)).set j (.int .u8 ((UInt8.ofNat (x / 256 ^ j)).toNat : Int)) = cellsB (rowJ (j + 1) x) := by
  unfold rowJ cellsB
  rw [List.map_append, List.map_append, List.set_append, if_neg (by simp [leL]), leL_succ, List.map_append]
  rw [show (List.map (fun b : UInt8 => Value.int .u8 (b.toNat : Int)) (leL j x)).length = j by simp [leL], Nat.sub_self]
  rw [show 8 - j = (8 - (j + 1)) + 1 by omega, List.replicate_succ]
  simp
theorem rowJ_at (j x i : Nat) (h : j < 8) (hi : i < 8) : ∃ b : UInt8, (cellsB (rowJ j x))[i]? = some (.int .u8 (b.toNat : Int)) := by
  have hl : i < (rowJ j x).length := by simp [rowJ, leL]; omega
  refine ⟨(rowJ j x)[i], ?_⟩
  unfold cellsB
  rw [List.getElem?_map, List.getElem?_eq_getElem hl]
  rfl
theorem byte_at (x j : Nat) : ((UInt8.ofNat (x / 256 ^ j)).toNat : Int) = (x : Int) / 2 ^ (8 * j) % 256 := by
  rw [UInt8.toNat_ofNat', Int.pow_mul]
  show ((x / 256 ^ j % 256 : Nat) : Int) = _
  simp

/-- 'string(b)' of bytes that lie in a block of their own. -/
theorem text_cells {W : World} {g : Nat} {l : List UInt8} {m : List Value} (h : Cells W g (cellsB l ++ m)) (n cap : Nat) (hn : l.length = n) : (convert 69 9 (.slice (some ⟨g, 0, none⟩) n cap)).run Try.prog W = .ok (.string ⟨l.toArray⟩) W := by
  subst hn
  exact run_convert_bytes_back (P := Try.prog) W 69 9 5 ⟨g, 0, none⟩ cap l Try.underlying69 Try.underlying5 Try.underlying9 (fun j hj => by
    rw [Addr.add_lit, Nat.zero_add]
    refine h.cell j _ ?_
    rw [List.getElem?_append_left (by simpa [cellsB] using hj)]
    unfold cellsB
    rw [List.getElem?_map, List.getElem?_eq_getElem hj]
    rfl)
theorem rowJ_parts (j x : Nat) : cellsB (rowJ j x) = cellsB (leL j x) ++ cellsB (List.replicate (8 - j) 0) := by simp [rowJ, cellsB]
theorem slice_eight (g j : Nat) (h : j ≤ 8) (w : World) : (Instr.sliceAt 73 (.pointer (some ⟨g, 0, none⟩)) none (some (.int .i64 (j : Int))) none).run Try.prog w = .ok (.slice (some ⟨g, 0, none⟩) j 8) w := by
  have ha : Try.prog.arrayLen 73 = 8 := by kernel_rfl
  have hs : (sizeOf (Try.prog.elem 73)).run Try.prog w = .ok 1 w := by kernel_rfl
  rw [run_sliceAt_array_h (P := Try.prog) w 73 ⟨g, 0, none⟩ (by kernel_rfl) .i64 (j : Int) (by omega) (by rw [ha]; omega), hs, ha]
  simp [slicedAt, Addr.add]

set_option maxRecDepth 100000 in
set_option maxHeartbeats 1000000 in
theorem put_any (c k x : Nat) (L : List UInt8) (w : World) (h : Wr c w L) (hk : k ≤ 8) (hk1 : 1 ≤ k) (hx : x < 18446744073709551616) (hs : L.length ≤ 900000000) :
    Calls Try.prog 42 #[.pointer (some ⟨c, 0, none⟩), .int .u64 (x : Int), .int .i64 (k : Int)] w fun e w' => e = .returned (.tuple #[]) ∧ Only c w w' ∧ Wr c w' (L ++ leL k x) := by
  have H := hide h
  clear h
  go_enter Try.func42, Try.ntmps42
  go_wp2
  go_loopw [9, 7] (fun i i2 wr => ∃ (j : Nat), j ≤ k ∧ i = .int .i64 (j : Int) ∧ Hid (Below w.heap.size w wr) ∧ Hid (Cells wr w.heap.size (cellsB (rowJ j x)))) (fun i _ _ => k - (intOf i).toNat)
  case atStart => exact ⟨0, by omega, rfl, (Below.refl _ _).alloc (Nat.le_refl _) _, by rw [rowJ_zero]; exact cells_new _ _ _⟩
  case round =>
    obtain ⟨j, hj, rfl, HB, HR⟩ := hrel
    by_cases hlt : j < k
    · have f0 := (unhide HR).free j
      obtain ⟨b, hb⟩ := rowJ_at j x j (by omega) (by omega)
      have c0 := (unhide HR).cell j _ hb
      clear hb
      go_wp2
      go_roundw
      case rel => exact ⟨j + 1, by omega, rfl, (unhide HB).setCell (Nat.le_refl _) _, by
        have := (unhide HR).set j (.int .u8 ((UInt8.ofNat (x / 256 ^ j)).toNat : Int))
        rw [rowJ_set j x (by omega), byte_at] at this
        exact this⟩
      case measure => simp [intOf]; omega
    · obtain rfl : j = k := by omega
      have hsl := slice_eight w.heap.size j hk
      have htx := text_cells (show Cells wr w.heap.size (cellsB (leL j x) ++ cellsB (List.replicate (8 - j) 0)) by rw [← rowJ_parts]; exact unhide HR) j 8 (leL_len j x)
      obtain ⟨t, ht⟩ : ∃ t, (⟨(leL j x).toArray⟩ : ByteArray) = t := ⟨_, rfl⟩
      have HT : Hid (B t = leL j x) := by show B t = leL j x; rw [← ht]; unfold B; simp
      rw [ht] at htx
      clear ht
      obtain ⟨q, ps, hc, hch, hcat⟩ := (unhide H).below (unhide HB)
      have HS : Hid ((catR ps).length + t.size ≤ 1000000000) := by
        show (catR ps).length + t.size ≤ 1000000000
        rw [hcat, ← B_len, unhide HT, leL_len]
        omega
      have HCat := hide hcat
      have HC := hide hc
      have HCh := hide hch
      clear hc hch hcat
      go_wp2_with fail
      refine (push_any c L.length q ps t _ (unhide HC) (unhide HCh) (unhide HS) (by rw [← B_len, unhide HT, leL_len]; omega)).mono ?_
      rintro e w1 ⟨rfl, ho, q', ps', h1, h2, h3⟩
      have c0 := h1.cell 0 _ rfl
      have f0 := h1.free 0
      have H1 := hide h1
      have H2 := hide h2
      have H3 := hide h3
      have HO := hide ho
      clear h1 h2 h3 ho
      go_wp2
      go_end0
      refine ⟨rfl, ((Only.of_below (unhide HB)).trans (unhide HO)).setCell rfl _, q', ps', ?_, (unhide H2).only ((Only.refl c w1).setCell (p := ⟨c, 0, none⟩) rfl _), ?_⟩
      · have := (unhide H1).set 0 (.int .i64 ((L.length : Int) + (j : Int)))
        rw [List.length_append, leL_len]
        exact this
      · rw [unhide H3, unhide HCat, unhide HT]
end Go.Proofs.Ytifellblfafhmaa
