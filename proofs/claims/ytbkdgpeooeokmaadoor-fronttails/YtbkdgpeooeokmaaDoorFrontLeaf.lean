/- Package front: what is within; samples flattened; rows of their own; two rows as one. -/
import Derived.Test.YtbkdgpeooeokmaaDoorFrontRflat
import Derived.Test.YtbkdgpeooeokmaaDoorFrontOwn
import Derived.Laws.AppendOwnNone
import Derived.Lib.AppendZeros
namespace Go.Proofs.YtbkdgpeooeokmaaDoor
open Go.RowKit
set_option linter.unusedVariables false

set_option maxRecDepth 100000 in
theorem within_any (a : Option Addr) (cap n : Nat) (xs : List Int) (l h : Int) (w : World) (hl : Lies w a xs) (hn : xs.length = n) (hm : n ≤ 9223372036854775807) :
    Calls Tryd.prog 24 #[.int .i64 l, .int .i64 h, .slice a n cap] w fun e w' => e = .returned (.bool (allIn xs l h)) ∧ w' = w := by
  have HL := hide hl
  have HN := hide hn
  clear hl hn
  go_enter Tryd.func24, Tryd.ntmps24
  go_wp2
  go_loopw [11] (fun i wr => ∃ k : Nat, k ≤ n ∧ i = .int .i64 (k : Int) ∧ Hid (∀ j, j < k → l ≤ xs.getD j 0 ∧ xs.getD j 0 ≤ h) ∧ wr = w)
    (fun i _ => n - (intOf i).toNat)
  case atStart => exact ⟨0, by omega, rfl, fun j hj => absurd hj (Nat.not_lt_zero _), rfl⟩
  case round =>
    obtain ⟨k, hk, rfl, HK, rfl⟩ := hrel
    by_cases hlt : k < n
    · obtain ⟨ba, oa, rfl, hlta, hca⟩ := (unhide HL).some (by intro h; have := unhide HN; subst h; simp at this; omega)
      have cx := hca k (by rw [unhide HN]; exact hlt)
      obtain ⟨x, hx⟩ : ∃ x, xs.getD k 0 = x := ⟨_, rfl⟩
      rw [hx] at cx
      have HX := hide hx
      clear hca hx
      by_cases c1 : x < l
      · have HV := hide (allIn_no xs l h k (by rw [unhide HN]; exact hlt) (by rw [unhide HX]; omega))
        go_wp2
        go_ret
        exact ⟨by rw [unhide HV]; rfl, rfl⟩
      · by_cases c2 : h < x
        · have HV := hide (allIn_no xs l h k (by rw [unhide HN]; exact hlt) (by rw [unhide HX]; omega))
          go_wp2
          go_ret
          exact ⟨by rw [unhide HV]; rfl, rfl⟩
        · go_wp2
          go_roundw
          case rel =>
            refine ⟨k + 1, by omega, by simp, fun j hj => ?_, trivial⟩
            by_cases e : j = k
            · subst e; rw [unhide HX]; omega
            · exact unhide HK j (by omega)
          case measure => simp [intOf]; omega
    · obtain rfl : k = n := by omega
      have HV := hide (allIn_yes xs l h (by rw [unhide HN]; exact unhide HK))
      go_wp2
      go_ret
      exact ⟨by rw [unhide HV]; rfl, rfl⟩
theorem within_one (x l h : Int) (b c : Nat) (w : World) (hl : Lies w (some ⟨b, 0, none⟩) [x]) :
    Calls Tryd.prog 24 #[.int .i64 l, .int .i64 h, .slice (some ⟨b, 0, none⟩) 1 c] w fun e w' => e = .returned (.bool (decide (l ≤ x ∧ x ≤ h))) ∧ w' = w := by
  have h1 := within_any (some ⟨b, 0, none⟩) c 1 [x] l h w hl rfl (by decide)
  rwa [show allIn [x] l h = decide (l ≤ x ∧ x ≤ h) by simp [allIn]] at h1

theorem flat_at (pre : Int) : ∀ (L : Int) (xs : List Int) (t : Nat), t < xs.length → (flatFrom pre L xs).getD t 0 = xs.getD t 0 - halfI (pre * lastOf L (xs.take t)) 15
  | _, [], _, h => absurd h (Nat.not_lt_zero _)
  | L, x :: xs, 0, _ => rfl
  | L, x :: xs, t + 1, h => by
    have := flat_at pre x xs t (by simpa using h)
    simpa [flatFrom, lastOf] using this

set_option maxRecDepth 100000 in
theorem flattened_any (s hop b c pre L : Int) (a : Option Addr) (n cap : Nat) (xs : List Int) (w : World) (hl : Lies w a xs) (hn : xs.length = n) (hn63 : n ≤ 1000000) (hs : ∀ x ∈ xs, Smp x) (hL : Smp L) (h0 : 0 ≤ pre) (h1 : pre ≤ 32767) :
    Calls Tryd.prog 27 #[.agg #[.int .i64 s, .int .i64 hop, .int .i64 b, .int .i64 c, .int .i64 pre], .int .i64 L, .slice a n cap] w fun e w' => ∃ g, e = .returned (.slice (some ⟨g, 0, none⟩) n n) ∧ w.heap.size ≤ g ∧ Cells w' g (ints (flatFrom pre L xs)) ∧ Below w.heap.size w w' := by
  obtain ⟨i0, hi, hz0, hz1, hz2⟩ := info_parts Tryd.info3
  obtain ⟨W0, hW0⟩ : ∃ W0, w.alloc (.cells #[.int .i64 s, .int .i64 hop, .int .i64 b, .int .i64 c, .int .i64 pre] 54) = W0 := ⟨_, rfl⟩
  obtain ⟨F, hF⟩ : ∃ F, w.heap.size = F := ⟨_, rfl⟩
  have f4 : W0.cell? ⟨F, 4, none⟩ = some (.int .i64 pre) := by rw [← hW0, ← hF, World.cell?_alloc_at _ _ _ _ rfl]; rfl
  have HBW := hide (show Below w.heap.size w W0 by rw [← hW0]; exact alloc_below w _)
  have HL := hide (hl.below (unhide HBW))
  have HN := hide hn
  have HS := hide hs
  have HSZ := hide (show w.heap.size ≤ W0.heap.size by rw [← hW0]; simp)
  clear hl hn hs
  go_enter Tryd.func27, Tryd.ntmps27
  go_wp2_with (at_make; refine wpList_make_full _ rfl _ _ 24 rfl W0.heap.size 3 i0 (.int .i64 0) 1 Tryd.underlying24 hi hz0 hz1 _ _ _ _ n rfl rfl rfl rfl ?m1 ?m2 ?m3 ?_)
  case m1 => rw [hz2]; omega
  case m2 => unfold maxLen; omega
  case m3 => exact Nat.le_refl _
  intro w1 hown hgr
  rw [ints_zero, dfill_zero n fun i => (flatFrom pre L xs).getD i 0] at hown
  have HO := hide (own_cells hown)
  have HB := hide ((Below.refl W0.heap.size W0).grown hgr (Nat.le_refl _) (fun _ h => by cases h))
  clear hown hgr hW0 hF
  go_wp2
  go_loopw [15, 1] (fun i l wr => ∃ t : Nat, t ≤ n ∧ i = .int .i64 (t : Int) ∧ Hid (l = .int .i64 (lastOf L (xs.take t))) ∧ Hid (Cells wr W0.heap.size (ints (dfillL n (fun i => (flatFrom pre L xs).getD i 0) t))) ∧ Hid (Below W0.heap.size W0 wr))
    (fun i _ _ => n - (intOf i).toNat)
  case atStart => exact ⟨0, by omega, rfl, rfl, HO, HB⟩
  case round =>
    obtain ⟨t, ht, rfl, HV, HOr, HBr⟩ := hrel
    obtain ⟨l, hl⟩ : ∃ l, lastOf L (xs.take t) = l := ⟨_, rfl⟩
    have hLs : Smp l := by rw [← hl]; exact last_smp _ _ hL fun y hy => unhide HS y (List.mem_of_mem_take hy)
    rw [hl] at HV
    have hv := unhide HV
    subst hv
    have HLL := hide hl
    clear hl HV
    by_cases hlt : t < n
    · obtain ⟨ba, oa, rfl, hlta, hca⟩ := (unhide HL).some (by intro h; have := unhide HN; subst h; simp at this; omega)
      obtain ⟨x, hx⟩ : ∃ x, xs.getD t 0 = x := ⟨_, rfl⟩
      have cx : wr.cell? ⟨ba, oa + t, none⟩ = some (.int .i64 x) := by rw [(unhide HBr).cell (p := ⟨ba, _, none⟩) hlta, ← hx]; exact hca t (by rw [unhide HN]; exact hlt)
      have cp : wr.cell? ⟨F, 4, none⟩ = some (.int .i64 pre) := ((unhide HBr).cell (p := ⟨F, 4, none⟩) (lt_of_cell f4)).trans f4
      have hxs : Smp x := by
        apply unhide HS
        rw [← hx, List.getD_eq_getElem?_getD, List.getElem?_eq_getElem (by rw [unhide HN]; exact hlt)]
        simp
      obtain ⟨P, hP⟩ : ∃ P, pre * l = P := ⟨_, rfl⟩
      have hPb := pre_bd pre l h0 h1 hLs
      rw [hP] at hPb
      obtain ⟨q, hq⟩ : ∃ q, halfI P 15 = q := ⟨_, rfl⟩
      obtain ⟨z, hz⟩ : ∃ z, x - q = z := ⟨_, rfl⟩
      have hzb := flat_one pre l x h0 h1 hLs hxs
      rw [hP, hq, hz] at hzb
      have HX := hide (dfill_set n (fun i => (flatFrom pre L xs).getD i 0) t z hlt (by rw [flat_at pre L xs t (by rw [unhide HN]; exact hlt), hx, unhide HLL, hP, hq, hz]))
      have HLN := hide (show lastOf L (xs.take (t + 1)) = x by rw [take_more xs t x (by rw [unhide HN]; exact hlt) hx, last_snoc])
      have hPw : IntKind.i64.wrap P = P := by rw [IntKind.wrap_i64]; omega
      have hzw : IntKind.i64.wrap z = z := by rw [IntKind.wrap_i64]; omega
      have HPI := hide (show In64 P from ⟨by omega, by omega⟩)
      have HQ := hide hq
      have htn : (t : Int) < (n : Int) := by omega
      clear hca hx hxs hLs HO HB hq
      go_wp2_with fail
      refine (half_any P 15 wr (unhide HPI)).mono ?_
      rintro e w2 ⟨rfl, hb2⟩
      rw [unhide HQ]
      have HB2 := hide ((unhide HBr).trans (hb2.mono (unhide HBr).size))
      have HO2 := hide ((unhide HOr).below hb2)
      have hcell := (unhide HO2).cell t _ (ints_at _ t (by rw [dfill_len]; exact hlt))
      have hfree := (unhide HO2).free t
      clear hb2 HOr HBr cx cp
      go_wp2
      go_roundw
      case rel =>
        refine ⟨t + 1, by omega, by simp, by show _ = _; rw [unhide HLN], ?_, (unhide HB2).setCell (Nat.le_refl _) _⟩
        have := (unhide HO2).set t (.int .i64 z)
        rw [ints_set, unhide HX] at this
        exact this
      case measure => simp [intOf]; omega
    · obtain rfl : t = n := by omega
      rw [dfill_all] at HOr
      have HE := hide (show mkL t (fun i => (flatFrom pre L xs).getD i 0) = flatFrom pre L xs from (mkL_eq (flatFrom pre L xs) t (fun i => (flatFrom pre L xs).getD i 0) (by rw [flat_len]; exact unhide HN) fun _ _ => rfl))
      rw [unhide HE] at HOr
      clear HO f4
      go_wp2
      go_ret
      exact ⟨_, rfl, unhide HSZ, unhide HOr, below_trans (unhide HBW) (unhide HBr)⟩

theorem front_news {w : World} {ad : Addr} {xs : List Int} (h : Lies w (some ad) xs) : ∀ j u, (xs.map (Value.int .i64))[j]? = some u → w.cell? (ad.add j) = some u := by
  intro j u hu
  rcases h with rfl | ⟨b, off, ha, _, hc⟩
  · simp at hu
  · cases ha
    rw [Addr.add_lit]
    simp at hu
    obtain ⟨z, hz, rfl⟩ := hu
    have hj : j < xs.length := (List.getElem?_eq_some_iff.1 hz).1
    rw [hc j hj, List.getD_eq_getElem?_getD, hz]; rfl

/-- A row of its own: the numbers of another one. -/
def OwnC (xs : List Int) (w : World) (e : Ending) (w' : World) : Prop := ∃ v, e = .returned v ∧ w'.ownsRow w.heap.size 3 1 v xs.length (ints xs) ∧ Below w.heap.size w w'
set_option maxRecDepth 100000 in
theorem owned_any (a : Option Addr) (n cap : Nat) (xs : List Int) (w : World) (hl : Lies w a xs) (hn : xs.length = n) (hn63 : n ≤ 1000000) (hk : Slot a n cap) :
    Calls Tryd.prog 28 #[.slice a n cap] w (OwnC xs w) := by
  obtain ⟨i0, hi, hz0, hz1, hz2⟩ := info_parts Tryd.info3
  subst hn
  rcases hk with ⟨rfl, h0, rfl⟩ | ⟨ad, rfl⟩
  · obtain rfl : xs = [] := List.length_eq_zero_iff.1 h0
    go_enter Tryd.func28, Tryd.ntmps28
    go_wp2_with (at_builtin; refine wpList_append_own_none rfl _ _ 24 rfl w.heap.size 3 i0 1 Tryd.underlying24 hi _ _ _ rfl (World.ownsRow_nil _ _ _ _) rfl ?_)
    go_wp2
    go_ret
    exact ⟨_, rfl, World.ownsRow_nil _ _ _ _, Below.refl _ _⟩
  · have HL := hide hl
    clear hl
    go_enter Tryd.func28, Tryd.ntmps28
    go_wp2_with (at_builtin; go_loud (refine wpList_append_own _ rfl _ _ 24 rfl w.heap.size 3 i0 (.int .i64 0) 1 8 Tryd.underlying24 hi hz0 hz1 hz2 rfl (by decide) _ _ _ rfl (World.ownsRow_nil _ _ _ _) ad xs.length cap (ints xs) rfl ?d0 (front_news (unhide HL)) ?d2 ?d3 ?d4 (Nat.le_refl _) ?_))
    case d0 => simp [ints]
    case d2 => intro u hu; obtain ⟨z, _, rfl⟩ := List.mem_map.1 hu; rfl
    case d3 => unfold maxLen; omega
    case d4 => omega
    intro v1 w1 hown hg _
    have HB := hide ((Below.refl w.heap.size w).grown hg (Nat.le_refl _) (fun _ h => by cases h))
    have HO := hide hown
    clear hown hg
    go_wp2
    go_ret
    exact ⟨_, rfl, unhide HO, unhide HB⟩
end Go.Proofs.YtbkdgpeooeokmaaDoor
