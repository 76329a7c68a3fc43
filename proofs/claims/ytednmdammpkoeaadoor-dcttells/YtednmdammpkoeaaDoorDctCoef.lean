/- Coefficients: the closure, the code's row of them, and the document's. -/
import Derived.Test.YtednmdammpkoeaaDoorDctRow
namespace Go.Proofs.YtednmdammpkoeaaDoor
open Go.RowKit
set_option linter.unusedVariables false

theorem dct_cell_one {w : World} {b : Nat} {v : Value} {t : TypeId} (h : w.heap[b]? = some (.cells #[v] t (0, 0))) : w.cell? ⟨b, 0, none⟩ = some v := by
  simp [World.cell?, h]
theorem dct_new_one (w : World) (v : Value) (t : TypeId) : (w.alloc (.cells #[v] t)).heap[w.heap.size]? = some (.cells #[v] t (0, 0)) := by
  show (w.heap.push _)[w.heap.size]? = _
  simp
/-- What the closure holds. -/
structure EnvD (w : World) (bn bx : Nat) (a : Option Addr) (n cap : Nat) : Prop where
  hn : w.heap[bn]? = some (.cells #[.int .i64 (n : Int)] 3 (0, 0))
  hx : w.heap[bx]? = some (.cells #[.slice a n cap] 22 (0, 0))
theorem EnvD.below {w w' : World} {bn bx : Nat} {a : Option Addr} {n cap : Nat} (h : EnvD w bn bx a n cap) (hb : Below w.heap.size w w') : EnvD w' bn bx a n cap :=
  ⟨by rw [hb.block _ (Array.getElem?_eq_some_iff.1 h.hn).1]; exact h.hn, by rw [hb.block _ (Array.getElem?_eq_some_iff.1 h.hx).1]; exact h.hx⟩

theorem coef_step (xs : List Int) (n k m : Nat) (s x c : Int) (hs : wrap64 (sumF (fun m => xs.getD m 0 * rowAt n k m) m) = s) (hx : xs.getD m 0 = x) (hc : rowAt n k m = c) :
    wrap64 (sumF (fun m => xs.getD m 0 * rowAt n k m) (m + 1)) = wrap64 (s + wrap64 (x * c)) := by
  rw [← wrap_step _ (x * c) s _ hs rfl, ← hx, ← hc]; rfl
theorem coef_end (xs : List Int) (n k : Nat) (s : Int) (hn : xs.length = n) (hs : wrap64 (sumF (fun m => xs.getD m 0 * rowAt n k m) n) = s) : halfI s 14 = coefI k xs := by
  unfold coefI coefS; rw [hn, hs]

set_option maxRecDepth 100000 in
theorem coef_any (bn bx : Nat) (a : Option Addr) (cap n k : Nat) (xs : List Int) (w : World) (hn : xs.length = n) (hm : mayD n) (hk : k < n) (he : EnvD w bn bx a n cap) (hl : Lies w a xs) (hs : Small xs) (hq : Quar w) :
    Calls Tryd.prog 22 #[.int .i64 (k : Int), .pointer (some ⟨bn, 0, none⟩), .pointer (some ⟨bx, 0, none⟩)] w fun e w' => e = .returned (.int .i64 (coefI k xs)) ∧ Below w.heap.size w w' := by
  have h16 := (mayD_le hm).2
  have HL := hide hl
  have HN := hide hn
  have HS := hide hs
  have HM := hide hm
  have HE := hide he
  have HQ := hide hq
  have c1 := dct_cell_one he.hn
  clear hl hn hs hm he hq
  go_enter Tryd.func22, Tryd.ntmps22
  go_wp2_with fail
  refine (row_yes n k w (unhide HM) hk (unhide HQ)).mono ?_
  rintro e w1 ⟨a1, l1, cap1, rfl, hl1, hlies, hb⟩
  obtain rfl : n = l1 := by rw [← hl1, cosRow_len]
  have HR := hide hlies
  have HB := hide hb
  have c2 := dct_cell_one ((unhide HE).below hb).hx
  clear hlies hb hl1 c1
  go_wp2
  go_loopw [12, 5] (fun i v wr => ∃ m : Nat, m ≤ n ∧ i = .int .i64 (m : Int) ∧ Hid (v = .int .i64 (wrap64 (sumF (fun m => xs.getD m 0 * rowAt n k m) m))) ∧ wr = w1)
    (fun i _ _ => n - (intOf i).toNat)
  case atStart => exact ⟨0, by omega, rfl, by show _ = _; rw [show wrap64 (sumF (fun m => xs.getD m 0 * rowAt n k m) 0) = 0 by show wrap64 0 = 0; decide +kernel], rfl⟩
  case round =>
    obtain ⟨m, hm, rfl, HV, rfl⟩ := hrel
    obtain ⟨s, hs⟩ : ∃ s, wrap64 (sumF (fun m => xs.getD m 0 * rowAt n k m) m) = s := ⟨_, rfl⟩
    rw [hs] at HV
    have hsb : In64 s := by rw [← hs]; exact wrap_in _
    have hv := unhide HV
    subst hv
    have HSS := hide hs
    clear HV hs
    by_cases hlt : m < n
    · obtain ⟨ba, oa, rfl, hlta, hca⟩ := (unhide HL).some (by intro h; have := unhide HN; subst h; simp at this; omega)
      have cx : wr.cell? ⟨ba, oa + m, none⟩ = some (.int .i64 (xs.getD m 0)) := by rw [(unhide HB).cell (p := ⟨ba, _, none⟩) hlta]; exact hca m (by rw [unhide HN]; exact hlt)
      obtain ⟨b1, o1, rfl, hlt1, hc1⟩ := (unhide HR).some (by intro h; have := cosRow_len n k; rw [h] at this; simp at this; omega)
      have cy : wr.cell? ⟨b1, o1 + m, none⟩ = some (.int .i64 (rowAt n k m)) := by rw [hc1 m (by rw [cosRow_len]; exact hlt), cosRow, mkL_at _ _ _ hlt]
      obtain ⟨x, hx⟩ : ∃ x, xs.getD m 0 = x := ⟨_, rfl⟩
      obtain ⟨c, hc⟩ : ∃ c, rowAt n k m = c := ⟨_, rfl⟩
      rw [hx] at cx
      rw [hc] at cy
      have HX := hide (coef_step xs n k m s x c (unhide HSS) hx hc)
      clear hca hc1 hx hc
      go_wp2_with fail
      go_roundw
      case rel => exact ⟨m + 1, by omega, by simp, by show _ = _; rw [unhide HX], trivial⟩
      case measure => simp [intOf]; omega
    · obtain rfl : m = n := by omega
      have HE2 := hide (coef_end xs m k s (unhide HN) (unhide HSS))
      have HSB := hide hsb
      clear hsb
      go_wp2_with fail
      refine (half_any s 14 _ (unhide HSB)).mono ?_
      rintro e w3 ⟨rfl, hb3⟩
      rw [unhide HE2]
      have HB3 := hide (below_trans (unhide HB) hb3)
      clear hb3
      go_wp2_with fail
      go_ret
      exact ⟨rfl, unhide HB3⟩
/-- Dct(coefs, xs..), of any numbers. -/
def dctI (c : Int) (xs : List Int) : List Int := if mayD xs.length ∧ 1 ≤ c ∧ c ≤ (xs.length : Int) then dctL c.toNat xs else []
theorem dctI_yes (c n : Nat) (xs : List Int) (hn : xs.length = n) (h : mayD n) (h1 : 1 ≤ c) (h2 : c ≤ n) : dctI (c : Int) xs = dctL c xs := by
  unfold dctI; rw [hn, if_pos ⟨h, by omega, by omega⟩]; simp
theorem dctI_no (c : Int) (n : Nat) (xs : List Int) (hn : xs.length = n) (h : ¬ (mayD n ∧ 1 ≤ c ∧ c ≤ (n : Int))) : dctI c xs = [] := by unfold dctI; rw [hn, if_neg h]
theorem mayD_dec (n : Nat) : decide ((n : Int) = 4 ∨ (n : Int) = 8 ∨ (n : Int) = 16) = decide (mayD n) := by
  apply decide_eq_decide.2; unfold mayD; omega

set_option maxRecDepth 100000 in
theorem dct_yes (a : Option Addr) (cap n c : Nat) (xs : List Int) (w : World) (hn : xs.length = n) (hm : mayD n) (h1 : 1 ≤ c) (h2 : c ≤ n) (hl : Lies w a xs) (hs : Small xs) (hq : Quar w) :
    Calls Tryd.prog 15 #[.int .i64 (c : Int), .slice a n cap] w fun e w' => ∃ g, e = .returned (.slice (some ⟨g, 0, none⟩) c c) ∧ Lies w' (some ⟨g, 0, none⟩) (dctL c xs) ∧ Below w.heap.size w w' := by
  obtain ⟨i0, hi, hz0, hz1, hz2⟩ := info_parts Tryd.info3
  have h16 := (mayD_le hm).2
  have HD := hide (show decide ((n : Int) = 4 ∨ (n : Int) = 8 ∨ (n : Int) = 16) = true by rw [mayD_dec]; exact decide_eq_true hm)
  have HL := hide hl
  have HN := hide hn
  have HS := hide hs
  have HM := hide hm
  have HQ := hide hq
  have g1 : ¬ (c : Int) < 1 := by omega
  have g2 : ¬ (n : Int) < (c : Int) := by omega
  clear hl hn hs hm hq
  go_enter Tryd.func15, Tryd.ntmps15
  go_wp2_with fail
  obtain ⟨W0, hW0⟩ : ∃ W0, (w.alloc (.cells #[.slice a n cap] 22)).alloc (.cells #[.int .i64 (n : Int)] 3) = W0 := ⟨_, rfl⟩
  have HE := hide (show EnvD W0 (w.heap.size + 1) w.heap.size a n cap by
    rw [← hW0]
    refine ⟨?_, ?_⟩
    · have := dct_new_one (w.alloc (.cells #[.slice a n cap] 22)) (.int .i64 (n : Int)) 3
      simpa using this
    · have := dct_new_one w (.slice a n cap) 22
      rw [← this]
      exact Below.heap_alloc _ _ _ (by simp))
  have HBW := hide (show Below w.heap.size w W0 by rw [← hW0]; exact (alloc_below w _).alloc (by simp) _)
  have HSZ := hide (show W0.heap.size = w.heap.size + 2 by rw [← hW0]; simp)
  rw [hW0]
  clear hW0
  refine (maybe_any (n : Int) W0).mono ?_
  rintro e w0 ⟨rfl, rfl⟩
  rw [unhide HD]
  have cbn := dct_cell_one (unhide HE).hn
  go_wp2_with (at_make; refine wpList_make_full _ rfl _ _ 22 rfl w0.heap.size 3 i0 (.int .i64 0) 1 Tryd.underlying22 hi hz0 hz1 _ _ _ _ c rfl rfl rfl rfl ?m1 ?m2 ?m3 ?_)
  case m1 => rw [hz2]; omega
  case m2 => unfold maxLen; omega
  case m3 => exact Nat.le_refl _
  intro w1 hown hgr
  rw [ints_zero, fill_zero c fun k => coefI k xs] at hown
  have HO := hide (own_cells hown)
  have HB := hide ((Below.refl w0.heap.size w0).grown hgr (Nat.le_refl _) (fun _ h => by cases h))
  clear hown hgr
  go_wp2
  have HB0 := hide (below_trans (unhide HBW) (unhide HB))
  generalize decide ((c : Int) < 1) = dd
  go_loopw [28] (fun i wr => ∃ k : Nat, k ≤ c ∧ i = .int .i64 (k : Int) ∧ Hid (Cells wr w0.heap.size (ints (fillL c (fun k => coefI k xs) k))) ∧ Hid (Below w0.heap.size w0 wr))
    (fun i _ => c - (intOf i).toNat)
  case atStart => exact ⟨0, by omega, rfl, HO, HB⟩
  case round =>
    obtain ⟨k, hk, rfl, HOr, HBr⟩ := hrel
    by_cases hlt : k < c
    · obtain ⟨z, hz⟩ : ∃ z, coefI k xs = z := ⟨_, rfl⟩
      have HX := hide (fill_set c (fun k => coefI k xs) k z hlt hz)
      have hbw := below_trans (unhide HBW) (unhide HBr)
      have HC : Hid (Calls Tryd.prog 22 #[.int .i64 (k : Int), .pointer (some ⟨w.heap.size + 1, 0, none⟩), .pointer (some ⟨w.heap.size, 0, none⟩)] wr fun e w' => e = .returned (.int .i64 z) ∧ Below wr.heap.size wr w') := by
        rw [← hz]
        exact coef_any (w.heap.size + 1) w.heap.size a cap n k xs wr (unhide HN) (unhide HM) (by omega) ((unhide HE).below (unhide HBr)) ((unhide HL).below hbw) (unhide HS) ((unhide HQ).below hbw)
      clear hz hbw HO HB cbn
      go_wp2_with fail
      refine (unhide HC).mono ?_
      rintro e w2 ⟨rfl, hb2⟩
      have HB2 := hide ((unhide HBr).trans (hb2.mono (unhide HBr).size))
      have HO2 := hide ((unhide HOr).below hb2)
      have hcell := (unhide HO2).cell k _ (ints_at _ k (by rw [fill_len]; exact hlt))
      have hfree := (unhide HO2).free k
      clear hb2 HOr HBr HC
      go_wp2
      go_roundw
      case rel =>
        refine ⟨k + 1, by omega, by simp, ?_, (unhide HB2).setCell (Nat.le_refl _) _⟩
        have := (unhide HO2).set k (.int .i64 z)
        rw [ints_set, unhide HX] at this
        exact this
      case measure => simp [intOf]; omega
    · obtain rfl : k = c := by omega
      rw [fill_all] at HOr
      have HL5 := hide (unhide HOr).lies
      have HB5 := hide (below_trans (unhide HBW) (unhide HBr))
      clear HOr HO
      go_wp2
      go_ret
      exact ⟨_, rfl, unhide HL5, unhide HB5⟩

theorem dct_no (c : Int) (a : Option Addr) (cap n : Nat) (w : World) (hn63 : n ≤ 9223372036854775807) (h : ¬ (mayD n ∧ 1 ≤ c ∧ c ≤ (n : Int))) :
    Calls Tryd.prog 15 #[.int .i64 c, .slice a n cap] w (Told [] w) := by
  obtain ⟨W0, hW0⟩ : ∃ W0, (w.alloc (.cells #[.slice a n cap] 22)).alloc (.cells #[.int .i64 (n : Int)] 3) = W0 := ⟨_, rfl⟩
  have cbn : W0.cell? ⟨w.heap.size + 1, 0, none⟩ = some (.int .i64 (n : Int)) := by
    rw [← hW0]
    refine dct_cell_one (t := 3) ?_
    have := dct_new_one (w.alloc (.cells #[.slice a n cap] 22)) (.int .i64 (n : Int)) 3
    simpa using this
  have HBW := hide (show Below w.heap.size w W0 by rw [← hW0]; exact (alloc_below w _).alloc (by simp) _)
  obtain ⟨d, hd⟩ : ∃ d, decide ((n : Int) = 4 ∨ (n : Int) = 8 ∨ (n : Int) = 16) = d := ⟨_, rfl⟩
  have HD := hide hd
  go_enter Tryd.func15, Tryd.ntmps15
  go_wp2_with fail
  clear hW0
  refine (maybe_any (n : Int) W0).mono ?_
  rintro e w0 ⟨rfl, rfl⟩
  rw [unhide HD]
  cases d
  · clear h hd
    go_wp2
    go_ret
    exact ⟨none, 0, 0, rfl, rfl, .inl rfl, unhide HBW⟩
  · rw [mayD_dec] at hd
    have hm : mayD n := of_decide_eq_true hd
    clear hd
    by_cases c1 : c < 1
    · clear h
      go_wp2
      go_ret
      exact ⟨none, 0, 0, rfl, rfl, .inl rfl, unhide HBW⟩
    · have c2 : (n : Int) < c := by
        by_cases e : (n : Int) < c
        · exact e
        · exact absurd ⟨hm, by omega, by omega⟩ h
      clear h hm
      go_wp2
      go_ret
      exact ⟨none, 0, 0, rfl, rfl, .inl rfl, unhide HBW⟩
theorem dct_any (c : Int) (a : Option Addr) (cap n : Nat) (xs : List Int) (w : World) (hn : xs.length = n) (hn63 : n ≤ 9223372036854775807) (hl : Lies w a xs) (hs : Small xs) (hq : Quar w) :
    Calls Tryd.prog 15 #[.int .i64 c, .slice a n cap] w (Told (dctI c xs) w) := by
  by_cases h : mayD n ∧ 1 ≤ c ∧ c ≤ (n : Int)
  · obtain ⟨c', rfl⟩ : ∃ c' : Nat, c = (c' : Int) := ⟨c.toNat, by omega⟩
    rw [dctI_yes c' n xs hn h.1 (by omega) (by omega)]
    refine (dct_yes a cap n c' xs w hn h.1 (by omega) (by omega) hl hs hq).mono ?_
    rintro e w' ⟨g, rfl, hl', hb⟩
    exact ⟨_, _, _, rfl, dct_len c' xs, hl', hb⟩
  · rw [dctI_no c n xs hn h]
    exact dct_no c a cap n w hn63 h

set_option maxRecDepth 100000 in
theorem rdct_yes (a : Option Addr) (cap n c : Nat) (xs : List Int) (w : World) (hn : xs.length = n) (hm : mayD n) (h1 : 1 ≤ c) (h2 : c ≤ n) (hl : Lies w a xs) (hs : Small xs) :
    Calls Tryd.prog 19 #[.int .i64 (c : Int), .slice a n cap] w (Told (dctL c xs) w) := by
  obtain ⟨i0, hi, hz0, hz1, hz2⟩ := info_parts Tryd.info3
  have HI : Hid (Tryd.prog.info? 3 = some i0 ∧ i0.zero = some (.int .i64 0) ∧ i0.size = 1 ∧ i0.bytes = 8) := ⟨hi, hz0, hz1, hz2⟩
  have h16 := (mayD_le hm).2
  have HD := hide (show decide ((n : Int) = 4 ∨ (n : Int) = 8 ∨ (n : Int) = 16) = true by rw [mayD_dec]; exact decide_eq_true hm)
  have HL := hide hl
  have HN := hide hn
  have HS := hide hs
  have HM := hide hm
  have g1 : ¬ (c : Int) < 1 := by omega
  have g2 : ¬ (n : Int) < (c : Int) := by omega
  clear hl hn hs hm hi hz0 hz1 hz2
  go_enter Tryd.func19, Tryd.ntmps19
  go_wp2_with fail
  refine (may_any (n : Int) w).mono ?_
  rintro e w0 ⟨rfl, rfl⟩
  rw [unhide HD]
  go_wp2
  generalize decide ((c : Int) < 1) = dd
  generalize decide (n < c) = dd2
  go_loopw [7, 6] (fun i v wr => ∃ k : Nat, k ≤ c ∧ i = .int .i64 (k : Int) ∧ Hid (wr.ownsRow w0.heap.size 3 1 v k (ints (mkL k fun k => coefI k xs))) ∧ Hid (Below w0.heap.size w0 wr))
    (fun i _ _ => c - (intOf i).toNat)
  case atStart => exact ⟨0, by omega, rfl, World.ownsRow_nil _ _ _ _, Below.refl _ _⟩
  case round =>
    obtain ⟨k, hk, rfl, HOr, HBr⟩ := hrel
    by_cases hlt : k < c
    · obtain ⟨z, hz⟩ : ∃ z, coefI k xs = z := ⟨_, rfl⟩
      have HZ := hide hz
      have HX := hide (mk_step (fun k => coefI k xs) k z hz)
      obtain ⟨k1, hk1⟩ : ∃ k1, k + 1 = k1 := ⟨_, rfl⟩
      have HK1 := hide hk1
      rw [hk1] at HX
      obtain ⟨LL, hLL⟩ : ∃ LL, ints (mkL k fun k => coefI k xs) = LL := ⟨_, rfl⟩
      rw [hLL] at HOr HX
      clear hLL hk1 hz
      go_wp2_with fail
      refine (rrow_yes n k _ (unhide HM) (by omega)).mono ?_
      rintro e w1 ⟨a1, l1, cap1, rfl, hl1, hlies, hb⟩
      obtain rfl : n = l1 := by rw [← hl1, cosRow_len]
      have hown1 := owns_under (unhide HOr) hb
      have HO1 := hide hown1
      have HR := hide hlies
      have HB1 := hide ((unhide HBr).trans (hb.mono (unhide HBr).size))
      have HL1 := hide ((unhide HL).below (unhide HB1))
      clear hlies hb hl1 hown1 HOr HBr
      go_wp2
      go_loopw [10, 9] (fun i v wr2 => ∃ m : Nat, m ≤ n ∧ i = .int .i64 (m : Int) ∧ Hid (v = .int .i64 (wrap64 (sumF (fun m => xs.getD m 0 * rowAt n k m) m))) ∧ Hid (∃ d, wr2 = w1.drewN d))
        (fun i _ _ => n - (intOf i).toNat)
      case atStart => exact ⟨0, by omega, rfl, by show _ = _; rw [show wrap64 (sumF (fun m => xs.getD m 0 * rowAt n k m) 0) = 0 by show wrap64 0 = 0; decide +kernel], 0, rfl⟩
      case round =>
        obtain ⟨m, hm, rfl, HV, HD2⟩ := hrel
        obtain ⟨wr2, rfl⟩ : ∃ x, x = wr := ⟨_, rfl⟩
        obtain ⟨s, hs⟩ : ∃ s, wrap64 (sumF (fun m => xs.getD m 0 * rowAt n k m) m) = s := ⟨_, rfl⟩
        rw [hs] at HV
        have hsb : In64 s := by rw [← hs]; exact wrap_in _
        have hv := unhide HV
        subst hv
        have HSS := hide hs
        clear HV hs
        by_cases hlt2 : m < n
        · obtain ⟨ba, oa, rfl, hlta, hca⟩ := (unhide HL1).some (by intro h; have := unhide HN; subst h; simp at this; omega)
          obtain ⟨x, hx⟩ : ∃ x, xs.getD m 0 = x := ⟨_, rfl⟩
          obtain ⟨y, hc⟩ : ∃ y, rowAt n k m = y := ⟨_, rfl⟩
          have cx : wr2.cell? ⟨ba, oa + m, none⟩ = some (.int .i64 x) := by
            obtain ⟨d, rfl⟩ := unhide HD2
            rw [← hx]; exact hca m (by rw [unhide HN]; exact hlt2)
          obtain ⟨b1, o1, rfl, hlt1, hc1⟩ := (unhide HR).some (by intro h; have := cosRow_len n k; rw [h] at this; simp at this; omega)
          have cy : wr2.cell? ⟨b1, o1 + m, none⟩ = some (.int .i64 y) := by
            obtain ⟨d, rfl⟩ := unhide HD2
            show w1.cell? ⟨b1, o1 + m, none⟩ = _
            rw [hc1 m (by rw [cosRow_len]; exact hlt2), cosRow, mkL_at _ _ _ hlt2, hc]
          have HX2 := hide (coef_step xs n k m s x y (unhide HSS) hx hc)
          have hmn : (m : Int) < (n : Int) := by omega
          clear hca hc1 hx hc
          go_wp2_with fail
          go_quiet (fail)
          go_wp2
          go_roundw
          case rel =>
            refine ⟨m + 1, by omega, by simp, by show _ = _; rw [unhide HX2], ?_⟩
            obtain ⟨d, hd⟩ := unhide HD2
            exact ⟨d + nq, by rw [hd, World.drewN_drewN]⟩
          case measure => simp [intOf]; omega
        · obtain rfl : m = n := by omega
          have HE2 := hide ((coef_end xs m k s (unhide HN) (unhide HSS)).trans (unhide HZ))
          have HSB := hide hsb
          have hbd : Below w1.heap.size w1 wr2 := by obtain ⟨d, rfl⟩ := unhide HD2; exact below_drewN w1 d
          have hown2 := owns_under (unhide HO1) hbd
          have HB2 := hide ((unhide HB1).trans (hbd.mono (unhide HB1).size))
          clear hsb hbd
          go_wp2_with fail
          refine (rhalf_any s 14 _ (unhide HSB)).mono ?_
          rintro e w3 ⟨rfl, rfl⟩
          rw [unhide HE2]
          go_wp2_with (at_builtin; refine wpList_append_own _ rfl _ _ 22 rfl w0.heap.size 3 i0 (.int .i64 0) 1 8 Tryd.underlying22 (unhide HI).1 (unhide HI).2.1 (unhide HI).2.2.1 (unhide HI).2.2.2 rfl (by decide) _ _ _ rfl (hown2.alloc _) ⟨w3.heap.size, 0, none⟩ 1 1 [.int .i64 z] rfl rfl ?d1 ?d2 ?d3 ?d4 ?d5 ?_)
          case d1 => exact cell_one_new _ _ _
          case d2 => exact ints_one [z]
          case d3 => unfold maxLen; omega
          case d4 => omega
          case d5 => have := (unhide HB2).size; simp; omega
          intro v4 w5 hown4 hg4 _
          have hgr : ∀ q, Value.ownBlock _ = some q → w0.heap.size ≤ q := fun q hq => (hown2.lt q hq).1
          have HB4 := hide (((unhide HB2).alloc (unhide HB2).size _).grown hg4 (by have := (unhide HB2).size; simp; omega) hgr)
          rw [unhide HK1, ← unhide HX] at hown4
          have HOwn4 := hide hown4
          clear hown4 hg4 hgr hown2
          go_wp2
          go_roundw
          case rel => exact ⟨k1, by have := unhide HK1; omega, by have := unhide HK1; simp; omega, HOwn4, HB4⟩
          case measure => have := unhide HK1; simp [intOf]; omega
    · obtain rfl : k = c := by omega
      obtain ⟨a5, c5, rfl, hl5, hlen5⟩ := owned_lies (unhide HOr)
      have HL5 := hide hl5
      clear hl5 hlen5 HOr
      go_wp2
      go_ret
      exact ⟨_, _, _, rfl, by rw [dct_len, mkL_len], unhide HL5, unhide HBr⟩
theorem rdct_no (c : Int) (a : Option Addr) (cap n : Nat) (w : World) (hn63 : n ≤ 9223372036854775807) (h : ¬ (mayD n ∧ 1 ≤ c ∧ c ≤ (n : Int))) :
    Calls Tryd.prog 19 #[.int .i64 c, .slice a n cap] w (Told [] w) := by
  obtain ⟨d, hd⟩ : ∃ d, decide ((n : Int) = 4 ∨ (n : Int) = 8 ∨ (n : Int) = 16) = d := ⟨_, rfl⟩
  have HD := hide hd
  go_enter Tryd.func19, Tryd.ntmps19
  go_wp2_with fail
  refine (may_any (n : Int) w).mono ?_
  rintro e w0 ⟨rfl, rfl⟩
  rw [unhide HD]
  cases d
  · clear h hd
    go_wp2
    go_ret
    exact ⟨none, 0, 0, rfl, rfl, .inl rfl, Below.refl _ _⟩
  · rw [mayD_dec] at hd
    have hm : mayD n := of_decide_eq_true hd
    clear hd
    by_cases c1 : c < 1
    · clear h
      go_wp2
      go_ret
      exact ⟨none, 0, 0, rfl, rfl, .inl rfl, Below.refl _ _⟩
    · have c2 : (n : Int) < c := by
        by_cases e : (n : Int) < c
        · exact e
        · exact absurd ⟨hm, by omega, by omega⟩ h
      clear h hm
      go_wp2
      go_ret
      exact ⟨none, 0, 0, rfl, rfl, .inl rfl, Below.refl _ _⟩
theorem rdct_any (c : Int) (a : Option Addr) (cap n : Nat) (xs : List Int) (w : World) (hn : xs.length = n) (hn63 : n ≤ 9223372036854775807) (hl : Lies w a xs) (hs : Small xs) :
    Calls Tryd.prog 19 #[.int .i64 c, .slice a n cap] w (Told (dctI c xs) w) := by
  by_cases h : mayD n ∧ 1 ≤ c ∧ c ≤ (n : Int)
  · obtain ⟨c', rfl⟩ : ∃ c' : Nat, c = (c' : Int) := ⟨c.toNat, by omega⟩
    rw [dctI_yes c' n xs hn h.1 (by omega) (by omega)]
    exact rdct_yes a cap n c' xs w hn h.1 (by omega) (by omega) hl hs
  · rw [dctI_no c n xs hn h]
    exact rdct_no c a cap n w hn63 h
end Go.Proofs.YtednmdammpkoeaaDoor
