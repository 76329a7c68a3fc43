/- Logarithms: the code's row of them, and the document's. -/
import Derived.Test.YtednmdammpkoeaaDoorBase
import Derived.Test.YtednmdammpkoeaaDoorProg
namespace Go.Proofs.YtednmdammpkoeaaDoor
open Go.RowKit
set_option linter.unusedVariables false

theorem Tryd.info3 : (Tryd.prog.info? 3).map (fun i => (i.zero, i.size, i.bytes)) = some (some (.int .i64 0), 1, 8) := by kernel_rfl

/-! ### A made row that is filled, place by place -/
def fillL (n : Nat) (f : Nat → Int) (j : Nat) : List Int := mkL n fun i => if i < j then f i else 0
theorem fill_len (n : Nat) (f : Nat → Int) (j : Nat) : (fillL n f j).length = n := mkL_len _ _
theorem fill_zero (n : Nat) (f : Nat → Int) : List.replicate n (0 : Int) = fillL n f 0 := by
  symm; exact mkL_eq _ _ _ (by simp) (fun i hi => by simp [List.getD_eq_getElem?_getD, hi])
theorem fill_all (n : Nat) (f : Nat → Int) : fillL n f n = mkL n f := mkL_congr _ _ _ fun i hi => by rw [if_pos hi]
theorem fill_set (n : Nat) (f : Nat → Int) (j : Nat) (z : Int) (h : j < n) (hz : f j = z) : (fillL n f j).set j z = fillL n f (j + 1) := by
  symm
  refine mkL_eq _ _ _ (by rw [List.length_set, fill_len]) fun i hi => ?_
  rw [getD_set, fill_len]
  by_cases e : i = j
  · subst e; rw [if_pos (Nat.lt_succ_self i), if_pos ⟨rfl, h⟩, hz]
  · rw [if_neg (fun c : j = i ∧ _ => e c.1.symm), fillL, mkL_at _ _ _ hi]
    by_cases c : i < j
    · rw [if_pos c, if_pos (by omega)]
    · rw [if_neg c, if_neg (by omega)]
/-- A row that grows. -/
theorem mk_step (f : Nat → Int) (k : Nat) (z : Int) (hz : f k = z) : ints (mkL (k + 1) f) = ints (mkL k f) ++ [.int .i64 z] := by
  rw [← hz]; simp [ints, mkL, List.range_succ]

theorem owns_under {w w' : World} {base n : Nat} {v : Value} {xs : List Value} (h : w.ownsRow base 3 1 v n xs) (hb : Below w.heap.size w w') : w'.ownsRow base 3 1 v n xs := by
  refine ⟨h.1, ?_⟩
  rcases h.2 with h' | ⟨g, cap, cur, h1, h2, h3, h4⟩
  · exact .inl h'
  · exact .inr ⟨g, cap, cur, h1, h2, by rw [hb.block g (by have := Array.getElem?_eq_some_iff.1 h3; exact this.1)]; exact h3, h4⟩

theorem max_more (x : Int) (h : In64 x) : IntKind.u64.wrap (IntKind.u64.wrap (max x 0) + 1) = moreI x := by
  rw [IntKind.wrap_u64, IntKind.wrap_u64]; unfold In64 at h; unfold moreI; split <;> omega

set_option maxRecDepth 100000 in
theorem logs_any (a : Option Addr) (cap n : Nat) (xs : List Int) (w : World) (hl : Lies w a xs) (hs : Small xs) (hn : xs.length = n) (hm : n ≤ 1000000) :
    Calls Tryd.prog 11 #[.slice a n cap] w (Told (logsL xs) w) := by
  obtain ⟨i0, hi, hz0, hz1, hz2⟩ := info_parts Tryd.info3
  have HL := hide hl
  have HN := hide hn
  have HS := hide hs
  clear hl hn hs
  go_enter Tryd.func11, Tryd.ntmps11
  go_wp2_with (at_make; refine wpList_make_full _ rfl _ _ 22 rfl w.heap.size 3 i0 (.int .i64 0) 1 Tryd.underlying22 hi hz0 hz1 _ _ _ _ n rfl rfl rfl rfl ?m1 ?m2 ?m3 ?_)
  case m1 => rw [hz2]; omega
  case m2 => unfold maxLen; omega
  case m3 => exact Nat.le_refl _
  intro w1 hown hgr
  rw [ints_zero, fill_zero n fun i => logI (moreI (xs.getD i 0))] at hown
  have HO := hide (own_cells hown)
  have HB := hide ((Below.refl w.heap.size w).grown hgr (Nat.le_refl _) (fun _ h => by cases h))
  clear hown hgr
  go_wp2
  go_loopw [11] (fun i wr => ∃ j : Nat, j ≤ n ∧ i = .int .i64 (j : Int) ∧ Hid (Cells wr w.heap.size (ints (fillL n (fun i => logI (moreI (xs.getD i 0))) j))) ∧ Hid (Below w.heap.size w wr))
    (fun i _ => n - (intOf i).toNat)
  case atStart => exact ⟨0, by omega, rfl, HO, HB⟩
  case round =>
    obtain ⟨j, hj, rfl, HOr, HBr⟩ := hrel
    by_cases hlt : j < n
    · obtain ⟨ba, oa, rfl, hlta, hca⟩ := (unhide HL).some (by intro h; have := unhide HN; subst h; simp at this; omega)
      have cx : wr.cell? ⟨ba, oa + j, none⟩ = some (.int .i64 (xs.getD j 0)) := by rw [(unhide HBr).cell (p := ⟨ba, _, none⟩) hlta]; exact hca j (by rw [unhide HN]; exact hlt)
      have hx := (unhide HS).all j
      obtain ⟨x, hxx⟩ : ∃ x, xs.getD j 0 = x := ⟨_, rfl⟩
      rw [hxx] at cx hx
      obtain ⟨z, hz⟩ : ∃ z, logI (moreI x) = z := ⟨_, rfl⟩
      have HX := hide (fill_set n (fun i => logI (moreI (xs.getD i 0))) j z hlt (by rw [hxx]; exact hz))
      have hmx := max_more x hx
      have HC : Hid (∀ w0, Calls Tryd.prog 16 #[.int .u64 (moreI x)] w0 fun e w' => e = .returned (.int .i64 z) ∧ w' = w0) := fun w0 => by rw [← hz]; exact log_any _ w0 (more_u x hx)
      have hcell := (unhide HOr).cell j _ (ints_at _ j (by rw [fill_len]; exact hlt))
      have hfree := (unhide HOr).free j
      clear hca hxx hz HO HB
      go_wp2_with fail
      refine (unhide HC _).mono ?_
      rintro e w2 ⟨rfl, rfl⟩
      go_wp2
      go_roundw
      case rel =>
        refine ⟨j + 1, by omega, by simp, ?_, (unhide HBr).setCell (Nat.le_refl _) _⟩
        have := (unhide HOr).set j (.int .i64 z)
        rw [ints_set, unhide HX] at this
        exact this
      case measure => simp [intOf]; omega
    · obtain rfl : j = n := by omega
      rw [fill_all] at HOr
      have HL5 := hide (unhide HOr).lies
      clear HOr HO
      go_wp2
      go_ret
      exact ⟨_, _, _, rfl, by rw [logs_len]; exact unhide HN, by rw [logsL, unhide HN]; exact unhide HL5, unhide HBr⟩

set_option maxRecDepth 100000 in
theorem rlogs_any (a : Option Addr) (cap n : Nat) (xs : List Int) (w : World) (hl : Lies w a xs) (hs : Small xs) (hn : xs.length = n) (hm : n ≤ 1000000) :
    Calls Tryd.prog 12 #[.slice a n cap] w (Told (logsL xs) w) := by
  obtain ⟨i0, hi, hz0, hz1, hz2⟩ := info_parts Tryd.info3
  have HI : Hid (Tryd.prog.info? 3 = some i0 ∧ i0.zero = some (.int .i64 0) ∧ i0.size = 1 ∧ i0.bytes = 8) := ⟨hi, hz0, hz1, hz2⟩
  have HL := hide hl
  have HN := hide hn
  have HS := hide hs
  clear hl hn hs hi hz0 hz1 hz2
  go_enter Tryd.func12, Tryd.ntmps12
  go_wp2
  go_loopw [4, 3] (fun i v wr => ∃ k : Nat, k ≤ n ∧ i = .int .i64 (k : Int) ∧ Hid (wr.ownsRow w.heap.size 3 1 v k (ints (mkL k fun i => logI (moreI (xs.getD i 0))))) ∧ Hid (Below w.heap.size w wr))
    (fun i _ _ => n - (intOf i).toNat)
  case atStart => exact ⟨0, by omega, rfl, World.ownsRow_nil _ _ _ _, Below.refl _ _⟩
  case round =>
    obtain ⟨k, hk, rfl, HOr, HBr⟩ := hrel
    by_cases hlt : k < n
    · obtain ⟨ba, oa, rfl, hlta, hca⟩ := (unhide HL).some (by intro h; have := unhide HN; subst h; simp at this; omega)
      have cx : wr.cell? ⟨ba, oa + k, none⟩ = some (.int .i64 (xs.getD k 0)) := by rw [(unhide HBr).cell (p := ⟨ba, _, none⟩) hlta]; exact hca k (by rw [unhide HN]; exact hlt)
      have hx := (unhide HS).all k
      obtain ⟨x, hxx⟩ : ∃ x, xs.getD k 0 = x := ⟨_, rfl⟩
      rw [hxx] at cx hx
      obtain ⟨z, hz⟩ : ∃ z, logI (moreI x) = z := ⟨_, rfl⟩
      have HX := hide (mk_step (fun i => logI (moreI (xs.getD i 0))) k z (by show logI (moreI (xs.getD k 0)) = z; rw [hxx]; exact hz))
      have HC : Hid (∀ y w0, y = moreI x → Calls Tryd.prog 17 #[.int .u64 y] w0 fun e w' => e = .returned (.int .i64 z) ∧ w' = w0) := fun y w0 hy => by rw [hy, ← hz]; exact rlog_any _ w0 (more_u x hx)
      obtain ⟨k1, hk1⟩ : ∃ k1, k + 1 = k1 := ⟨_, rfl⟩
      have HK1 := hide hk1
      rw [hk1] at HX
      obtain ⟨LL, hLL⟩ : ∃ LL, ints (mkL k fun i => logI (moreI (xs.getD i 0))) = LL := ⟨_, rfl⟩
      rw [hLL] at HOr HX
      have hown0 := unhide HOr
      clear hLL
      have HX2 := hide hx
      clear hca hxx hz hk1
      go_wp2_with fail
      all_goals refine (unhide HC _ _ (by have := unhide HX2; unfold In64 at this; unfold moreI; (try simp only [IntKind.wrap_u64]); first | (rw [if_pos (by omega)]; omega) | (rw [if_neg (by omega)]))).mono ?_
      all_goals rintro e w2 ⟨rfl, rfl⟩
      all_goals (
        go_wp2_with (at_builtin; refine wpList_append_own _ rfl _ _ 22 rfl w.heap.size 3 i0 (.int .i64 0) 1 8 Tryd.underlying22 (unhide HI).1 (unhide HI).2.1 (unhide HI).2.2.1 (unhide HI).2.2.2 rfl (by decide) _ _ _ rfl (hown0.alloc _) ⟨w2.heap.size, 0, none⟩ 1 1 [.int .i64 z] rfl rfl ?d1 ?d2 ?d3 ?d4 ?d5 ?_)
        case d1 => exact cell_one_new _ _ _
        case d2 => exact ints_one [z]
        case d3 => unfold maxLen; omega
        case d4 => omega
        case d5 => have := (unhide HBr).size; simp; omega
        intro v4 w5 hown4 hg4 _
        have hgr : ∀ q, Value.ownBlock _ = some q → w.heap.size ≤ q := fun q hq => (hown0.lt q hq).1
        have HB4 := hide (((unhide HBr).alloc (unhide HBr).size _).grown hg4 (by have := (unhide HBr).size; simp; omega) hgr)
        rw [unhide HK1, ← unhide HX] at hown4
        have HOwn4 := hide hown4
        clear hown4 hg4 hgr hown0
        go_wp2
        go_roundw
        case rel => exact ⟨k1, by have := unhide HK1; omega, by have := unhide HK1; simp; omega, HOwn4, HB4⟩
        case measure => have := unhide HK1; simp [intOf]; omega)
    · obtain rfl : k = n := by omega
      obtain ⟨a5, c5, rfl, hl5, hlen5⟩ := owned_lies (unhide HOr)
      have HL5 := hide hl5
      clear hl5 hlen5 HOr
      go_wp2
      go_ret
      exact ⟨_, _, _, rfl, by rw [logs_len, mkL_len]; exact unhide HN, by rw [logsL]; rw [show xs.length = k from unhide HN]; exact unhide HL5, unhide HBr⟩
end Go.Proofs.YtednmdammpkoeaaDoor
