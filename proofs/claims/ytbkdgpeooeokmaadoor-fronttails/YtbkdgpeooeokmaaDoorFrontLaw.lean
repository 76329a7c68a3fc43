/- What the statements of fronts make: a right front of plain numbers; sound of 16 bits. -/
import Derived.Test.YtbkdgpeooeokmaaDoorFrontRflat
namespace Go.Proofs.YtbkdgpeooeokmaaDoor
open Go.RowKit
set_option linter.unusedVariables false

theorem and_pow (k : Int) (N : Nat) (h : N = 4 ∨ N = 8 ∨ N = 16 ∨ N = 32) : ∃ i : Nat, i < N ∧ bits .and .i64 k ((N : Int) - 1) = (i : Int) := by
  have key : ∀ m : Int, 0 < m → ∃ i : Nat, (i : Int) < m ∧ k % m = (i : Int) := fun m hm => ⟨(k % m).toNat, by have := Int.emod_lt_of_pos k hm; have := Int.emod_nonneg k (show m ≠ 0 by omega); omega, by have := Int.emod_nonneg k (show m ≠ 0 by omega); omega⟩
  rcases h with rfl | rfl | rfl | rfl
  · obtain ⟨i, h1, h2⟩ := key 4 (by decide); exact ⟨i, by omega, (i64_mask k 3 2 (by decide) (by decide)).trans h2⟩
  · obtain ⟨i, h1, h2⟩ := key 8 (by decide); exact ⟨i, by omega, (i64_mask k 7 3 (by decide) (by decide)).trans h2⟩
  · obtain ⟨i, h1, h2⟩ := key 16 (by decide); exact ⟨i, by omega, (i64_mask k 15 4 (by decide) (by decide)).trans h2⟩
  · obtain ⟨i, h1, h2⟩ := key 32 (by decide); exact ⟨i, by omega, (i64_mask k 31 5 (by decide) (by decide)).trans h2⟩
/-- A right front of plain numbers: 16 samples, or 32; 4 or 8 bands. -/
structure Spc (n p B C : Nat) (pre : Int) : Prop where
  sz : n = 16 ∨ n = 32
  hp0 : 1 ≤ p
  hp : p ≤ n
  bd : B = 4 ∨ B = 8
  cf0 : 1 ≤ C
  cf : C ≤ B
  r0 : 0 ≤ pre
  r1 : pre ≤ 32767
theorem Spc.right {n p B C : Nat} {pre : Int} (h : Spc n p B C pre) : rightF (n : Int) (p : Int) (B : Int) (C : Int) pre := by
  obtain ⟨h1, h2, h3, h4, h5, h6, h7, h8⟩ := h; unfold rightF; omega

/-- Sound of 16 bits: the first ninety numbers, each by its lowest sixteen. -/
def soundL (xs : List Int) : List Int := (xs.take 90).map fun x => IntKind.i16.wrap x
theorem i16_smp (x : Int) : Smp (IntKind.i16.wrap x) := by
  have e : IntKind.i16.wrap x = (x + 32768) % 65536 - 32768 := by simp [IntKind.wrap, IntKind.signed, IntKind.bits]; omega
  unfold Smp; omega
theorem sound_smp (xs : List Int) : ∀ x ∈ soundL xs, Smp x := by
  intro x hx
  obtain ⟨y, _, rfl⟩ := List.mem_map.1 hx
  exact i16_smp y
theorem sound_len (xs : List Int) : (soundL xs).length ≤ 90 := by unfold soundL; simp; omega
theorem sound_step (xs : List Int) (t : Nat) (x : Int) (h : t < xs.length) (hx : xs.getD t 0 = x) : ints ((xs.take (t + 1)).map fun x => IntKind.i16.wrap x) = ints ((xs.take t).map fun x => IntKind.i16.wrap x) ++ [.int .i64 (IntKind.i16.wrap x)] := by
  rw [take_more xs t x h hx]; simp [ints]

set_option maxRecDepth 100000 in
theorem sound_any (a : Option Addr) (n cap : Nat) (xs : List Int) (w : World) (hl : Lies w a xs) (hn : xs.length = n) :
    Calls Tryd.prog 9 #[.slice a n cap] w (ToldC (soundL xs) w) := by
  obtain ⟨i0, hi, hz0, hz1, hz2⟩ := info_parts Tryd.info3
  have HI : Hid (Tryd.prog.info? 3 = some i0 ∧ i0.zero = some (.int .i64 0) ∧ i0.size = 1 ∧ i0.bytes = 8) := ⟨hi, hz0, hz1, hz2⟩
  have HL := hide hl
  have HN := hide hn
  clear hl hn hi hz0 hz1 hz2
  go_enter Tryd.func9, Tryd.ntmps9
  go_wp2
  go_loopw [4, 3] (fun i v wr => ∃ t : Nat, t ≤ n ∧ t ≤ 90 ∧ i = .int .i64 (t : Int) ∧ Hid (wr.ownsRow w.heap.size 3 1 v t (ints ((xs.take t).map fun x => IntKind.i16.wrap x))) ∧ Hid (Below w.heap.size w wr))
    (fun i _ _ => 90 - (intOf i).toNat)
  case atStart => exact ⟨0, by omega, by omega, rfl, World.ownsRow_nil _ _ _ _, Below.refl _ _⟩
  case round =>
    obtain ⟨t, ht, ht90, rfl, HOr, HBr⟩ := hrel
    by_cases hlt : t < n ∧ t < 90
    · obtain ⟨hlt, hlt2⟩ := hlt
      obtain ⟨ba, oa, rfl, hlta, hca⟩ := (unhide HL).some (by intro h; have := unhide HN; subst h; simp at this; omega)
      obtain ⟨x, hx⟩ : ∃ x, xs.getD t 0 = x := ⟨_, rfl⟩
      have cx : wr.cell? ⟨ba, oa + t, none⟩ = some (.int .i64 x) := by rw [(unhide HBr).cell (p := ⟨ba, _, none⟩) hlta, ← hx]; exact hca t (by rw [unhide HN]; exact hlt)
      obtain ⟨z, hz⟩ : ∃ z, IntKind.i16.wrap x = z := ⟨_, rfl⟩
      have hzs := i16_smp x
      rw [hz] at hzs
      unfold Smp at hzs
      have hzw : IntKind.i64.wrap z = z := by rw [IntKind.wrap_i64]; omega
      have HX := hide (sound_step xs t x (by rw [unhide HN]; exact hlt) hx)
      rw [hz] at HX
      obtain ⟨LL, hLL⟩ : ∃ LL, ints ((xs.take t).map fun x => IntKind.i16.wrap x) = LL := ⟨_, rfl⟩
      rw [hLL] at HOr HX
      have hown := unhide HOr
      have htn : (t : Int) < (n : Int) := by omega
      have ht90i : (t : Int) < 90 := by omega
      clear hca hx hLL HOr
      go_wp2_with (at_builtin; refine wpList_append_own _ rfl _ _ 24 rfl w.heap.size 3 i0 (.int .i64 0) 1 8 Tryd.underlying24 (unhide HI).1 (unhide HI).2.1 (unhide HI).2.2.1 (unhide HI).2.2.2 rfl (by decide) _ _ _ rfl (hown.alloc _) ⟨wr.heap.size, 0, none⟩ 1 1 [.int .i64 z] rfl rfl ?d1 ?d2 ?d3 ?d4 ?d5 ?_)
      case d1 => exact cell_one_new _ _ _
      case d2 => exact ints_one [z]
      case d3 => unfold maxLen; omega
      case d4 => omega
      case d5 => have := (unhide HBr).size; simp; omega
      intro v4 w4 hown4 hg4 _
      have hgr : ∀ q, Value.ownBlock _ = some q → w.heap.size ≤ q := fun q hq => (hown.lt q hq).1
      have HB4 := hide (((unhide HBr).alloc (unhide HBr).size _).grown hg4 (by have := (unhide HBr).size; simp; omega) hgr)
      rw [← unhide HX] at hown4
      have HOwn4 := hide hown4
      clear hown4 hg4 hgr hown
      go_wp2
      go_roundw
      case rel => exact ⟨t + 1, by omega, by omega, by simp, HOwn4, HB4⟩
      case measure => simp [intOf]; omega
    · have hfin := unhide HOr
      have htk : xs.take t = xs.take 90 := by
        by_cases c : t = 90
        · rw [c]
        · rw [List.take_of_length_le (by rw [unhide HN]; omega), List.take_of_length_le (by rw [unhide HN]; omega)]
      rw [htk] at hfin
      obtain ⟨a5, c5, rfl, hlen5, hc1, hc2, hl5, hs5, hq5⟩ := owned_slot hfin
      have HL5 := hide hl5
      have HLN := hide hlen5
      have HS5 := hide (And.intro hs5 hq5)
      clear hfin hl5 hlen5 HOr htk hs5 hq5
      by_cases c : t < n
      · have c2 : t = 90 := by omega
        subst c2
        go_wp2
        go_ret
        exact ⟨_, _, _, rfl, unhide HLN, hc1, hc2, unhide HL5, (unhide HS5).1, (unhide HS5).2, unhide HBr⟩
      · have hge : ¬ (t : Int) < (n : Int) := by omega
        go_wp2
        go_ret
        exact ⟨_, _, _, rfl, unhide HLN, hc1, hc2, unhide HL5, (unhide HS5).1, (unhide HS5).2, unhide HBr⟩
end Go.Proofs.YtbkdgpeooeokmaaDoor
