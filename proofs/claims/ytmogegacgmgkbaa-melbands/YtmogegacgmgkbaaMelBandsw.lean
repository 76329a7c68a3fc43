/- MelBands: the walk. -/
import Derived.Test.YtmogegacgmgkbaaMelWake
namespace Go.Proofs.Ytmogegacgmgkbaa
open Go.RowKit
set_option linter.unusedVariables false

set_option maxRecDepth 100000 in
theorem melbands_walk (a : Option Addr) (len cap : Nat) (zs : List Int) (a2 : Option Addr) (len2 cap2 : Nat) (zs2 : List Int) (w : World) (h1 : IsRow .i64 w a len cap zs) (h2 : IsRow .i64 w a2 len2 cap2 zs2) :
    Calls Try.prog 4 #[.slice a len cap, .slice a2 len2 cap2] w fun e w' => e = .returned (.bool true) ∧ Below w.heap.size w w' := by
  obtain ⟨i0, hi, hz0, hz1, hz2⟩ := info_parts Try.info3
  have HI : Hid (Try.prog.info? 3 = some i0 ∧ i0.zero = some (.int .i64 0) ∧ i0.size = 1 ∧ i0.bytes = 8) := ⟨hi, hz0, hz1, hz2⟩
  obtain ⟨xs, n, hxn, hn, hlx, hsx, hfew⟩ := few66_came a len cap zs w h1
  obtain ⟨ys, m, hym, hm, hlen, hlen63, hly⟩ := cut12_came a2 len2 cap2 zs2 w h2
  have HX := hide (And.intro hxn (And.intro hlx hsx))
  have HF := hide hfew
  have HY := hide hly
  have HYM := hide hym
  have hml : m ≤ len2 := by rcases hlen with h | h <;> omega
  have HLEN := hide hlen
  clear h1 h2 hi hz0 hz1 hz2 hxn hlx hsx hfew hly hym hlen
  go_enter Try.func4, Try.ntmps4
  go_wp2_with fail
  refine (mel_awake w).mono ?_
  rintro e w1 ⟨rfl, hb⟩
  have HB := hide hb
  clear hb
  go_wp2_with fail
  go_loopw [7, 6] (fun i v wr => ∃ j : Nat, j ≤ m ∧ i = .int .i64 (j : Int) ∧ Hid (wr.ownsRow w1.heap.size 3 1 v j (ints (lowL ys j))) ∧ Hid (Below w1.heap.size w1 wr)) (fun i _ _ => m - (intOf i).toNat)
  case atStart => exact ⟨0, by omega, rfl, World.ownsRow_nil _ _ _ _, Below.refl _ _⟩
  case round =>
    obtain ⟨j, hj, rfl, HOwn, HBr⟩ := hrel
    by_cases hlt : j < m
    · obtain ⟨b, off, rfl, hb, hc⟩ := (unhide HY).some (by intro e; have := unhide HYM; rw [e] at this; simp at this; omega)
      have hck := hc j (by rw [unhide HYM]; exact hlt)
      obtain ⟨z, hz⟩ : ∃ z, ys.getD j 0 = z := ⟨_, rfl⟩
      rw [hz] at hck
      have hck : wr.cell? ⟨b, off + j, none⟩ = some (.int .i64 z) := by rw [(below_trans (unhide HB) (unhide HBr)).cell (p := ⟨b, _, none⟩) hb]; exact hck
      have HZ := hide hz
      have hj1 : (j : Int) < len2 := by omega
      have hj2 : (j : Int) < 12 := by omega
      have ha := and63 z
      clear hc hb hz
      go_wp2_with (at_builtin; refine wpList_append_own _ rfl _ _ 25 rfl w1.heap.size 3 i0 (.int .i64 0) 1 8 Try.underlying25 (unhide HI).1 (unhide HI).2.1 (unhide HI).2.2.1 (unhide HI).2.2.2 rfl (by decide) _ _ _ rfl ((unhide HOwn).alloc _) ⟨wr.heap.size, 0, none⟩ 1 1 [.int .i64 (z % 64)] rfl rfl ?d1 ?d2 ?d3 ?d4 ?d5 ?_)
      case d1 => exact cell_one_new _ _ _
      case d2 => exact ints_one [(z % 64 : Int)]
      case d3 => unfold maxLen; omega
      case d4 => omega
      case d5 => have := (unhide HBr).size; simp; omega
      intro v4 w4 hown4 hg4 _
      have hgr : ∀ q, Value.ownBlock _ = some q → w1.heap.size ≤ q := fun q hq => ((unhide HOwn).lt q hq).1
      have HB4 := hide (((unhide HBr).alloc (unhide HBr).size _).grown hg4 (by have := (unhide HBr).size; simp; omega) hgr)
      have HOwn4 := hide (show w4.ownsRow w1.heap.size 3 1 v4 (j + 1) (ints (lowL ys (j + 1))) by rw [lowL_step ys j z (unhide HZ)]; exact hown4)
      clear hown4 hg4 hgr
      go_wp2
      go_roundw
      case rel => exact ⟨j + 1, by omega, rfl, HOwn4, HB4⟩
      case measure => simp [intOf]; omega
    · obtain rfl : j = m := by omega
      obtain ⟨a5, c5, rfl, hl5, hlen5⟩ := owned_lies (unhide HOwn)
      rw [lowL_len]
      have HL5 := hide hl5
      have HB5 := hide (below_trans (unhide HB) (unhide HBr))
      obtain ⟨w2, rfl⟩ : ∃ w2, w2 = wr := ⟨_, rfl⟩
      clear hl5 hlen5 HOwn HBr HB
      have hfin : ¬ ((j : Int) < len2 ∧ (j : Int) < 12) := by have := unhide HLEN; omega
      go_wp2_with fail
      all_goals first | (exfalso; omega) | skip
      all_goals (
        refine (unhide HF w2).mono ?_
        rintro e w3 ⟨rfl, rfl⟩
        go_wp2_with fail
        refine (bands_any a cap n xs a5 c5 j (lowL ys j) _ ((unhide HX).2.1.below (unhide HB5)) (unhide HX).2.2 (unhide HX).1 (by omega) (unhide HL5) (lowL_small ys j) (lowL_len ys j) (by omega)).mono ?_
        rintro e w4 ⟨a6, l6, c6, rfl, hl6, hlies6, hb6⟩
        have HL6 := hide hl6
        have HLI6 := hide hlies6
        have HB6 := hide hb6
        clear hl6 hlies6 hb6
        go_wp2_with fail
        refine (rbands_any a cap n xs a5 c5 j (lowL ys j) _ ((unhide HX).2.1.below (below_trans (unhide HB5) (unhide HB6))) (unhide HX).2.2 (unhide HX).1 (by omega) ((unhide HL5).below (unhide HB6)) (lowL_small ys j) (lowL_len ys j) (by omega)).mono ?_
        rintro e w5 ⟨a7, l7, c7, rfl, hl7, hlies7, hb7⟩
        obtain rfl : l6 = l7 := by rw [← unhide HL6, ← hl7]
        have HLI7 := hide hlies7
        have HB7 := hide hb7
        clear hl7 hlies7 hb7
        go_wp2_with fail
        refine (same_any a6 a7 c6 c7 (bandsL xs (lowL ys j)) l6 (unhide HL6) (by have := unhide HL6; rw [bands_len, lowL_len] at this; omega) _ ((unhide HLI6).below (unhide HB7)) (unhide HLI7)).mono ?_
        rintro e w6 ⟨rfl, hb8⟩
        have HB8 := hide (below_trans (below_trans (below_trans (unhide HB5) (unhide HB6)) (unhide HB7)) hb8)
        clear hb8
        go_wp2_with fail
        go_ret
        exact ⟨rfl, unhide HB8⟩)
end Go.Proofs.Ytmogegacgmgkbaa
