/- fft.each over rows, and over numbers; fft.Power: what they answer. -/
import Derived.Test.YtafbdkebokhnlaaDoorJoin
namespace Go.Proofs.YtafbdkebokhnlaaDoor
open Go.RowKit
set_option linter.unusedVariables false

def sizedL (xs : List Int) (h : Nat) : List Int := mkL h fun i => xs.getD i 0
theorem sized_len (xs : List Int) (h : Nat) : (sizedL xs h).length = h := mkL_len _ _
theorem sized_small (xs : List Int) (h : Nat) (hs : Small xs) : Small (sizedL xs h) := small_mk _ _ fun i _ => hs.all i
def sizTo (xs : List Int) (h j : Nat) : List Int := mkL h fun i => if i < j then xs.getD i 0 else 0
theorem sizTo_len (xs : List Int) (h j : Nat) : (sizTo xs h j).length = h := mkL_len _ _
theorem sizTo_zero (xs : List Int) (h : Nat) : sizTo xs h 0 = List.replicate h 0 := mkL_eq _ _ _ (by simp) fun i hi => by rw [if_neg (by omega), zero_at]
theorem sizTo_set (xs : List Int) (h j : Nat) (hj : j < h) : (sizTo xs h j).set j (xs.getD j 0) = sizTo xs h (j + 1) := by
  refine list_same (by rw [List.length_set, sizTo_len, sizTo_len]) fun i hi => ?_
  rw [List.length_set, sizTo_len] at hi
  rw [getD_set, sizTo_len]
  by_cases c : j = i
  · subst c; rw [if_pos ⟨rfl, hj⟩]; unfold sizTo; rw [mkL_at _ _ _ hj, if_pos (by omega)]
  · rw [if_neg (fun h => c h.1)]; unfold sizTo; rw [mkL_at _ _ _ hi, mkL_at _ _ _ hi]
    by_cases d : i < j
    · rw [if_pos d, if_pos (by omega)]
    · rw [if_neg d, if_neg (by omega)]
theorem sizTo_all (xs : List Int) (h j : Nat) (hj : h ≤ j ∨ xs.length ≤ j) : sizTo xs h j = sizedL xs h := by
  unfold sizTo sizedL
  refine mkL_congr _ _ _ fun i hi => ?_
  by_cases c : i < j
  · rw [if_pos c]
  · rw [if_neg c, getD_over xs i (by omega)]
theorem sized_same (xs : List Int) (h : Nat) (hn : xs.length = h) : sizedL xs h = xs := mkL_eq _ _ _ hn fun _ _ => rfl

/-- The first m rows at block b are as f tells. -/
def RAt (w : World) (b m : Nat) (f : Nat → List Int) : Prop := b < w.heap.size ∧ ∀ j, j < m → ∃ p c, w.cell? ⟨b, j, none⟩ = some (.slice p (f j).length c) ∧ Lies w p (f j)
theorem RAt.below {w w' : World} {b m : Nat} {f : Nat → List Int} (h : RAt w b m f) (hb : Below w.heap.size w w') : RAt w' b m f :=
  ⟨Nat.lt_of_lt_of_le h.1 hb.size, fun j hj => by obtain ⟨p, c, h1, h2⟩ := h.2 j hj; exact ⟨p, c, by rw [hb.cell (p := ⟨b, j, none⟩) h.1]; exact h1, h2.below hb⟩⟩
theorem RAt.less {w : World} {b m k : Nat} {f : Nat → List Int} (h : RAt w b m f) (hk : k ≤ m) : RAt w b k f := ⟨h.1, fun j hj => h.2 j (by omega)⟩
theorem Rws.rat {w : World} {a : Option Addr} {m : Nat} {f : Nat → List Int} (h : Rws w a m f) : ∃ b, a = some ⟨b, 0, none⟩ ∧ RAt w b m f := by
  obtain ⟨b, h1, h2, h3⟩ := h.at
  exact ⟨b, h1, h2, h3⟩

/-- What is called on a row, and tells a number of it. -/
def Tells (fn : Nat) (val : List Int → Int) : Prop := ∀ (a : Option Addr) (cap n : Nat) (xs : List Int) (w : World), Lies w a xs → Small xs → xs.length = n → Quar w →
    Calls Tryd.prog fn #[.slice a n cap] w fun e w' => e = .returned (.int .i64 (val xs)) ∧ Below w.heap.size w w'

theorem real_tells : Tells 19 (partI cosC) := fun a cap n xs w hl hs hn hq => real_any a cap n xs w hl hs hn hq
theorem imag_tells : Tells 20 (partI sinC) := fun a cap n xs w hl hs hn hq => imag_any a cap n xs w hl hs hn hq

set_option maxRecDepth 100000 in
theorem each_real (b m h cap : Nat) (f : Nat → List Int) (w : World) (hr : RAt w b m f) (hq : Quar w) (hf : ∀ j, j < m → (f j).length = h ∧ Small (f j)) (hm : m ≤ 1000) (hh : h ≤ 1000) :
    Calls Tryd.prog 36 #[.slice (some ⟨b, 0, none⟩) m cap, .func (.func 19) #[] #[]] w fun e w' => ∃ g, e = .returned (.slice (some ⟨g, 0, none⟩) m m) ∧ w.heap.size ≤ g ∧ Cells w' g (ints (mkL m fun j => partI cosC (f j))) ∧ Below w.heap.size w w' := by
  obtain ⟨i0, hi, hz0, hz1, hz2⟩ := info_parts Tryd.info3
  have HR := hide hr
  have HQ := hide hq
  have HF := hide hf
  have HV := hide real_tells
  clear hr hq hf
  go_enter Tryd.func36, Tryd.ntmps36
  go_wp2_with (at_make; refine wpList_make_full _ rfl _ _ 22 rfl w.heap.size 3 i0 (.int .i64 0) 1 Tryd.underlying22 hi hz0 hz1 _ _ _ _ m rfl rfl rfl rfl ?m1 ?m2 ?m3 ?_)
  case m1 => rw [hz2]; omega
  case m2 => unfold maxLen; omega
  case m3 => exact Nat.le_refl _
  intro w2 hown hgr
  rw [ints_zero] at hown
  have HO := hide (own_cells hown)
  have HB2 := hide ((Below.refl w.heap.size w).grown hgr (Nat.le_refl _) (fun _ h => by cases h))
  clear hown hgr
  obtain ⟨L, hL⟩ : ∃ L, (mkL m fun j => partI cosC (f j)) = L := ⟨_, rfl⟩
  rw [← sizTo_zero L m] at HO
  have HLen := hide (show L.length = m by rw [← hL, mkL_len])
  have HLat := hide (show ∀ j, j < m → L.getD j 0 = partI cosC (f j) from fun j hj => by rw [← hL, mkL_at _ _ _ hj])
  have HLE := hide hL
  clear hL
  go_wp2
  go_loopw [13] (fun i wr => ∃ j : Nat, j ≤ m ∧ i = .int .i64 (j : Int) ∧ Hid (Cells wr w.heap.size (ints (sizTo L m j))) ∧ Hid (Below w.heap.size w wr))
    (fun i _ => m - (intOf i).toNat)
  case atStart => exact ⟨0, by omega, rfl, HO, HB2⟩
  case round =>
    obtain ⟨j, hj, rfl, HOr, HBr⟩ := hrel
    by_cases c1 : j < m
    · obtain ⟨p, q, e1, L1⟩ := ((unhide HR).below (unhide HBr)).2 j c1
      obtain ⟨F1, F2⟩ := unhide HF j c1
      rw [F1] at e1
      have HL1 := hide L1
      have HF1 := hide F1
      have HF2 := hide F2
      have HVJ := hide (unhide HLat j c1)
      clear L1 F1 F2 HO HB2
      go_wp2_with fail
      refine (unhide HV p q h (f j) _ (unhide HL1) (unhide HF2) (unhide HF1) ((unhide HQ).below (unhide HBr))).mono ?_
      rintro e w3 ⟨rfl, hb⟩
      have HB3 := hide ((unhide HBr).trans (hb.mono (unhide HBr).size))
      have HO3 := hide ((unhide HOr).below hb)
      have hcell := (unhide HO3).cell j _ (ints_at _ j (by rw [sizTo_len]; exact c1))
      have hfree := (unhide HO3).free j
      have HSet := hide (sizTo_set L m j c1)
      rw [unhide HVJ] at HSet
      generalize partI cosC (f j) = y at HSet ⊢
      generalize (sizTo L m j).getD j 0 = z at hcell
      clear hb HBr HOr e1
      go_wp2
      go_roundw
      case rel =>
        refine ⟨j + 1, by omega, by simp, ?_, (unhide HB3).setCell (Nat.le_refl _) _⟩
        have := (unhide HO3).set j (.int .i64 y)
        rw [ints_set, unhide HSet] at this
        exact this
      case measure => simp [intOf]; omega
    · obtain rfl : j = m := by omega
      rw [sizTo_all L j j (.inl (Nat.le_refl _)), sized_same L j (unhide HLen)] at HOr
      go_wp2
      go_ret
      exact ⟨_, rfl, Nat.le_refl _, by rw [unhide HLE]; exact unhide HOr, unhide HBr⟩

set_option maxRecDepth 100000 in
theorem each_imag (b m h cap : Nat) (f : Nat → List Int) (w : World) (hr : RAt w b m f) (hq : Quar w) (hf : ∀ j, j < m → (f j).length = h ∧ Small (f j)) (hm : m ≤ 1000) (hh : h ≤ 1000) :
    Calls Tryd.prog 36 #[.slice (some ⟨b, 0, none⟩) m cap, .func (.func 20) #[] #[]] w fun e w' => ∃ g, e = .returned (.slice (some ⟨g, 0, none⟩) m m) ∧ w.heap.size ≤ g ∧ Cells w' g (ints (mkL m fun j => partI sinC (f j))) ∧ Below w.heap.size w w' := by
  obtain ⟨i0, hi, hz0, hz1, hz2⟩ := info_parts Tryd.info3
  have HR := hide hr
  have HQ := hide hq
  have HF := hide hf
  have HV := hide imag_tells
  clear hr hq hf
  go_enter Tryd.func36, Tryd.ntmps36
  go_wp2_with (at_make; refine wpList_make_full _ rfl _ _ 22 rfl w.heap.size 3 i0 (.int .i64 0) 1 Tryd.underlying22 hi hz0 hz1 _ _ _ _ m rfl rfl rfl rfl ?m1 ?m2 ?m3 ?_)
  case m1 => rw [hz2]; omega
  case m2 => unfold maxLen; omega
  case m3 => exact Nat.le_refl _
  intro w2 hown hgr
  rw [ints_zero] at hown
  have HO := hide (own_cells hown)
  have HB2 := hide ((Below.refl w.heap.size w).grown hgr (Nat.le_refl _) (fun _ h => by cases h))
  clear hown hgr
  obtain ⟨L, hL⟩ : ∃ L, (mkL m fun j => partI sinC (f j)) = L := ⟨_, rfl⟩
  rw [← sizTo_zero L m] at HO
  have HLen := hide (show L.length = m by rw [← hL, mkL_len])
  have HLat := hide (show ∀ j, j < m → L.getD j 0 = partI sinC (f j) from fun j hj => by rw [← hL, mkL_at _ _ _ hj])
  have HLE := hide hL
  clear hL
  go_wp2
  go_loopw [13] (fun i wr => ∃ j : Nat, j ≤ m ∧ i = .int .i64 (j : Int) ∧ Hid (Cells wr w.heap.size (ints (sizTo L m j))) ∧ Hid (Below w.heap.size w wr))
    (fun i _ => m - (intOf i).toNat)
  case atStart => exact ⟨0, by omega, rfl, HO, HB2⟩
  case round =>
    obtain ⟨j, hj, rfl, HOr, HBr⟩ := hrel
    by_cases c1 : j < m
    · obtain ⟨p, q, e1, L1⟩ := ((unhide HR).below (unhide HBr)).2 j c1
      obtain ⟨F1, F2⟩ := unhide HF j c1
      rw [F1] at e1
      have HL1 := hide L1
      have HF1 := hide F1
      have HF2 := hide F2
      have HVJ := hide (unhide HLat j c1)
      clear L1 F1 F2 HO HB2
      go_wp2_with fail
      refine (unhide HV p q h (f j) _ (unhide HL1) (unhide HF2) (unhide HF1) ((unhide HQ).below (unhide HBr))).mono ?_
      rintro e w3 ⟨rfl, hb⟩
      have HB3 := hide ((unhide HBr).trans (hb.mono (unhide HBr).size))
      have HO3 := hide ((unhide HOr).below hb)
      have hcell := (unhide HO3).cell j _ (ints_at _ j (by rw [sizTo_len]; exact c1))
      have hfree := (unhide HO3).free j
      have HSet := hide (sizTo_set L m j c1)
      rw [unhide HVJ] at HSet
      generalize partI sinC (f j) = y at HSet ⊢
      generalize (sizTo L m j).getD j 0 = z at hcell
      clear hb HBr HOr e1
      go_wp2
      go_roundw
      case rel =>
        refine ⟨j + 1, by omega, by simp, ?_, (unhide HB3).setCell (Nat.le_refl _) _⟩
        have := (unhide HO3).set j (.int .i64 y)
        rw [ints_set, unhide HSet] at this
        exact this
      case measure => simp [intOf]; omega
    · obtain rfl : j = m := by omega
      rw [sizTo_all L j j (.inl (Nat.le_refl _)), sized_same L j (unhide HLen)] at HOr
      go_wp2
      go_ret
      exact ⟨_, rfl, Nat.le_refl _, by rw [unhide HLE]; exact unhide HOr, unhide HBr⟩

def downL (s : Int) (xs : List Int) : List Int := xs.map fun x => halfI x s
/-- The closure that moves down. -/
theorem down_any (x s : Int) (bs : Nat) (w : World) (hb : w.heap[bs]? = some (.cells #[.int .i64 s] 3 (0, 0))) (hx : In64 x) :
    Calls Tryd.prog 37 #[.int .i64 x, .pointer (some ⟨bs, 0, none⟩)] w fun e w' => e = .returned (.int .i64 (halfI x s)) ∧ Below w.heap.size w w' := by
  have c1 := cell_of_one hb
  clear hb
  go_enter Tryd.func37, Tryd.ntmps37
  go_wp2_with fail
  refine (half_any x s _ hx).mono ?_
  rintro e w1 ⟨rfl, hb⟩
  go_wp2
  go_ret
  exact ⟨rfl, hb⟩
set_option maxRecDepth 100000 in
theorem each_down (bs : Nat) (s : Int) (a : Option Addr) (m cap : Nat) (xs : List Int) (w : World) (hl : Lies w a xs) (hs : Small xs) (hn : xs.length = m) (hp : w.heap[bs]? = some (.cells #[.int .i64 s] 3 (0, 0))) (hm : m ≤ 1000) :
    Calls Tryd.prog 39 #[.slice a m cap, .func (.func 37) #[] #[.pointer (some ⟨bs, 0, none⟩)]] w fun e w' => ∃ g, e = .returned (.slice (some ⟨g, 0, none⟩) m m) ∧ w.heap.size ≤ g ∧ Cells w' g (ints (downL s xs)) ∧ Below w.heap.size w w' := by
  obtain ⟨i0, hi, hz0, hz1, hz2⟩ := info_parts Tryd.info3
  have HLi := hide hl
  have HS := hide hs
  have HN := hide hn
  have HPW := hide hp
  clear hl hs hn hp
  go_enter Tryd.func39, Tryd.ntmps39
  go_wp2_with (at_make; refine wpList_make_full _ rfl _ _ 22 rfl w.heap.size 3 i0 (.int .i64 0) 1 Tryd.underlying22 hi hz0 hz1 _ _ _ _ m rfl rfl rfl rfl ?m1 ?m2 ?m3 ?_)
  case m1 => rw [hz2]; omega
  case m2 => unfold maxLen; omega
  case m3 => exact Nat.le_refl _
  intro w2 hown hgr
  rw [ints_zero] at hown
  have HO := hide (own_cells hown)
  have HB2 := hide ((Below.refl w.heap.size w).grown hgr (Nat.le_refl _) (fun _ h => by cases h))
  clear hown hgr
  obtain ⟨L, hL⟩ : ∃ L, downL s xs = L := ⟨_, rfl⟩
  rw [← sizTo_zero L m] at HO
  have HLen := hide (show L.length = m by rw [← hL]; unfold downL; rw [List.length_map, unhide HN])
  have HLat := hide (show ∀ j, j < m → L.getD j 0 = halfI (xs.getD j 0) s from fun j hj => by
    have hk : j < xs.length := by rw [unhide HN]; exact hj
    rw [← hL]; unfold downL; simp [List.getD_eq_getElem?_getD, List.getElem?_eq_getElem hk])
  have HLE := hide hL
  clear hL
  go_wp2
  go_loopw [13] (fun i wr => ∃ j : Nat, j ≤ m ∧ i = .int .i64 (j : Int) ∧ Hid (Cells wr w.heap.size (ints (sizTo L m j))) ∧ Hid (Below w.heap.size w wr))
    (fun i _ => m - (intOf i).toNat)
  case atStart => exact ⟨0, by omega, rfl, HO, HB2⟩
  case round =>
    obtain ⟨j, hj, rfl, HOr, HBr⟩ := hrel
    by_cases c1 : j < m
    · obtain ⟨ba, oa, rfl, hlta, hca⟩ := (unhide HLi).some (by intro h; have := unhide HN; subst h; simp at this; omega)
      have cx : wr.cell? ⟨ba, oa + j, none⟩ = some (.int .i64 (xs.getD j 0)) := by rw [(unhide HBr).cell (p := ⟨ba, _, none⟩) hlta]; exact hca j (by rw [unhide HN]; exact c1)
      have hxin : In64 (xs.getD j 0) := (unhide HS).all j
      have HVJ := hide (unhide HLat j c1)
      generalize xs.getD j 0 = x at cx hxin HVJ
      clear hca HO HB2
      go_wp2_with fail
      refine (down_any x s bs _ (by rw [(unhide HBr).block _ (Array.getElem?_eq_some_iff.1 (unhide HPW)).1]; exact unhide HPW) hxin).mono ?_
      rintro e w3 ⟨rfl, hb⟩
      have HB3 := hide ((unhide HBr).trans (hb.mono (unhide HBr).size))
      have HO3 := hide ((unhide HOr).below hb)
      have hcell := (unhide HO3).cell j _ (ints_at _ j (by rw [sizTo_len]; exact c1))
      have hfree := (unhide HO3).free j
      have HSet := hide (sizTo_set L m j c1)
      rw [unhide HVJ] at HSet
      generalize halfI x s = y at HSet ⊢
      generalize (sizTo L m j).getD j 0 = z at hcell
      clear hb HBr HOr cx
      go_wp2
      go_roundw
      case rel =>
        refine ⟨j + 1, by omega, by simp, ?_, (unhide HB3).setCell (Nat.le_refl _) _⟩
        have := (unhide HO3).set j (.int .i64 y)
        rw [ints_set, unhide HSet] at this
        exact this
      case measure => simp [intOf]; omega
    · obtain rfl : j = m := by omega
      rw [sizTo_all L j j (.inl (Nat.le_refl _)), sized_same L j (unhide HLen)] at HOr
      go_wp2
      go_ret
      exact ⟨_, rfl, Nat.le_refl _, by rw [unhide HLE]; exact unhide HOr, unhide HBr⟩


/-- The squares of both parts together, where there are both. -/
def powL (re im : List Int) : List Int := mkL (min re.length im.length) fun b => wrap64 (re.getD b 0 * re.getD b 0 + im.getD b 0 * im.getD b 0)
theorem powL_len (re im : List Int) : (powL re im).length = min re.length im.length := mkL_len _ _

set_option maxRecDepth 100000 in
theorem power_any (a1 a2 : Option Addr) (m1 m2 c1 c2 : Nat) (xs ys : List Int) (w : World) (hx : Lies w a1 xs) (hy : Lies w a2 ys) (sx : Small xs) (sy : Small ys) (h1 : xs.length = m1) (h2 : ys.length = m2) (hm1 : m1 ≤ 1000) (hm2 : m2 ≤ 1000) :
    Calls Tryd.prog 31 #[.slice a1 m1 c1, .slice a2 m2 c2] w (Told (powL xs ys) w) := by
  obtain ⟨i0, hi, hz0, hz1, hz2⟩ := info_parts Tryd.info3
  obtain ⟨m, hm⟩ : ∃ m, min m1 m2 = m := ⟨_, rfl⟩
  have HMN := hide (show min (m1 : Int) (m2 : Int) = (m : Int) by omega)
  have HX := hide hx
  have HY := hide hy
  have S1 := hide sx
  have S2 := hide sy
  have H1 := hide h1
  have H2 := hide h2
  have HM := hide hm
  have hle1 : m ≤ m1 := by omega
  have hle2 : m ≤ m2 := by omega
  clear hx hy sx sy h1 h2 hm
  go_enter Tryd.func31, Tryd.ntmps31
  go_wp2_with (at_make; rw [unhide HMN]; refine wpList_make_full _ rfl _ _ 22 rfl w.heap.size 3 i0 (.int .i64 0) 1 Tryd.underlying22 hi hz0 hz1 _ _ _ _ m rfl rfl rfl rfl ?m1 ?m2 ?m3 ?_)
  case m1 => rw [hz2]; omega
  case m2 => unfold maxLen; omega
  case m3 => exact Nat.le_refl _
  intro w2 hown hgr
  rw [ints_zero] at hown
  have HO := hide (own_cells hown)
  have HB2 := hide ((Below.refl w.heap.size w).grown hgr (Nat.le_refl _) (fun _ h => by cases h))
  clear hown hgr
  obtain ⟨L, hL⟩ : ∃ L, powL xs ys = L := ⟨_, rfl⟩
  rw [← sizTo_zero L m] at HO
  have HLen := hide (show L.length = m by rw [← hL, powL_len, unhide H1, unhide H2, unhide HM])
  have HLat := hide (show ∀ j, j < m → L.getD j 0 = wrap64 (xs.getD j 0 * xs.getD j 0 + ys.getD j 0 * ys.getD j 0) from fun j hj => by rw [← hL]; unfold powL; rw [mkL_at _ _ _ (by rw [unhide H1, unhide H2, unhide HM]; exact hj)])
  have HLE := hide hL
  clear hL
  go_wp2
  go_loopw [15] (fun i wr => ∃ j : Nat, j ≤ m ∧ i = .int .i64 (j : Int) ∧ Hid (Cells wr w.heap.size (ints (sizTo L m j))) ∧ Hid (Below w.heap.size w wr))
    (fun i _ => m - (intOf i).toNat)
  case atStart => exact ⟨0, by omega, rfl, HO, HB2⟩
  case round =>
    obtain ⟨j, hj, rfl, HOr, HBr⟩ := hrel
    by_cases c1 : j < m
    · obtain ⟨ba, oa, rfl, hlta, hca⟩ := (unhide HX).some (by intro h; have := unhide H1; subst h; simp at this; omega)
      obtain ⟨bb, ob, rfl, hltb, hcb⟩ := (unhide HY).some (by intro h; have := unhide H2; subst h; simp at this; omega)
      have cx : wr.cell? ⟨ba, oa + j, none⟩ = some (.int .i64 (xs.getD j 0)) := by rw [(unhide HBr).cell (p := ⟨ba, _, none⟩) hlta]; exact hca j (by rw [unhide H1]; omega)
      have cy : wr.cell? ⟨bb, ob + j, none⟩ = some (.int .i64 (ys.getD j 0)) := by rw [(unhide HBr).cell (p := ⟨bb, _, none⟩) hltb]; exact hcb j (by rw [unhide H2]; omega)
      have HVJ := hide (unhide HLat j c1)
      generalize xs.getD j 0 = x at cx HVJ
      generalize ys.getD j 0 = y at cy HVJ
      have hcell := (unhide HOr).cell j _ (ints_at _ j (by rw [sizTo_len]; exact c1))
      have hfree := (unhide HOr).free j
      have HSet := hide (sizTo_set L m j c1)
      rw [unhide HVJ] at HSet
      generalize (sizTo L m j).getD j 0 = z at hcell
      obtain ⟨P, hP⟩ : ∃ P, x * x = P := ⟨_, rfl⟩
      obtain ⟨Q, hQ⟩ : ∃ Q, y * y = Q := ⟨_, rfl⟩
      have HV := hide (show wrap64 (wrap64 P + wrap64 Q) = wrap64 (P + Q) by unfold wrap64; omega)
      rw [hP, hQ] at HSet
      have HP := hide hP
      have HQ := hide hQ
      have hjm1 : (j : Int) < (m1 : Int) := by omega
      have hjm2 : (j : Int) < (m2 : Int) := by omega
      clear hca hcb hP hQ HO HB2
      go_wp2
      go_region
      rw [unhide HP, unhide HQ, unhide HV]
      go_wp2
      go_roundw
      case rel =>
        refine ⟨j + 1, by omega, by simp, ?_, ?_⟩
        · have := (unhide HOr).set j (.int .i64 (wrap64 (P + Q)))
          rw [ints_set, unhide HSet] at this
          exact this.drew
        · exact ((unhide HBr).setCell (Nat.le_refl _) _).drew
      case measure => simp [intOf]; omega
    · obtain rfl : j = m := by omega
      rw [sizTo_all L j j (.inl (Nat.le_refl _)), sized_same L j (unhide HLen)] at HOr
      go_wp2
      go_ret
      exact ⟨_, j, j, rfl, by rw [unhide HLE]; exact unhide HLen, by rw [unhide HLE]; exact (unhide HOr).lies, unhide HBr⟩
end Go.Proofs.YtafbdkebokhnlaaDoor
