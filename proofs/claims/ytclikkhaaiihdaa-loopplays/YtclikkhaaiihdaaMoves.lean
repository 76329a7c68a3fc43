/- The walk of LoopMoves. -/
import Derived.Test.YtclikkhaaiihdaaKeeps
namespace Go.Proofs.Ytclikkhaaiihdaa
open Go.RowKit
set_option linter.unusedVariables false

theorem mod_thirty1 (x : Int) : ∃ n : Nat, (wrap64 (x.tmod 31 + 31)).tmod 31 = (n : Int) ∧ n ≤ 30 := by
  obtain ⟨p, hp, hp2⟩ := mod_at x 31 (by decide) (by decide)
  exact ⟨p, hp, by omega⟩

theorem Own.but {X : Nat → Prop} {B l b c g o m n d R : Nat} {cnt : Int} {w w' : World} {L : List Int} (h : Own B l b c g o m n d R cnt w L) (hb : But X w w') (h1 : ¬ X l) (h2 : ¬ X b) (h3 : ¬ X c) (h4 : ¬ X g) : Own B l b c g o m n d R cnt w' L :=
  ⟨h.lo.but hb h1 h2, h.ar.but hb h3 h4, h.hm, h.lb, h.lc, h.lg, h.bg, h.ge, h.c0⟩
/-- The blocks of the second loop are not those that the first one writes to. -/
def Far (l g l' b' c' g' : Nat) : Prop := (l' ≠ l ∧ l' ≠ g) ∧ (b' ≠ l ∧ b' ≠ g) ∧ (c' ≠ l ∧ c' ≠ g) ∧ (g' ≠ l ∧ g' ≠ g)
theorem Own.far {B l g l' b' c' g' o m n d R : Nat} {cnt : Int} {w w' : World} {L : List Int} (h : Own B l' b' c' g' o m n d R cnt w L) (hb : But (fun k => k = l ∨ k = g) w w') (hf : Far l g l' b' c' g') : Own B l' b' c' g' o m n d R cnt w' L := by
  obtain ⟨⟨a1, a2⟩, ⟨b1, b2⟩, ⟨c1, c2⟩, ⟨d1, d2⟩⟩ := hf
  exact h.but hb (by rintro (h | h) <;> contradiction) (by rintro (h | h) <;> contradiction) (by rintro (h | h) <;> contradiction) (by rintro (h | h) <;> contradiction)
def OkL (L : List Int) : Prop := ∀ j, okW (L.getD j 0)
theorem okW_zero : okW 0 := ⟨by decide, by decide⟩
theorem ok_zero (n : Nat) : OkL (List.replicate n 0) := by
  intro j
  simp only [List.getD_eq_getElem?_getD, List.getElem?_replicate]
  split <;> exact okW_zero
theorem ok_set {L : List Int} (h : OkL L) (i : Nat) {x : Int} (hx : okW x) : OkL (L.set i x) := by
  intro j
  rw [getD_set]
  split
  · exact hx
  · exact h j
theorem ok_push {L xs : List Int} (h : OkL L) (hx : OkL xs) (o R d : Nat) (cnt : Int) : OkL (pushL L o R d cnt xs) := by
  intro j
  unfold pushL
  rw [layTo_getD]
  split
  · exact hx _
  · exact h j
theorem ok_all {L : List Int} (h : OkL L) : ∀ x ∈ L, okW x := by
  intro x hx
  obtain ⟨i, hi, rfl⟩ := List.mem_iff_getElem.1 hx
  have := h i
  rwa [List.getD_eq_getElem?_getD, List.getElem?_eq_getElem hi] at this
/-- A frame in a block of its own. -/
def Fr (q d : Nat) (w : World) (F : List Int) : Prop := Cells w q (ints F) ∧ F.length = d ∧ OkL F
theorem Fr.set {q d : Nat} {w : World} {F : List Int} (h : Fr q d w F) (i : Nat) {x : Int} (hx : okW x) : Fr q d (w.setCell ⟨q, i, none⟩ (.int .i64 x)) (F.set i x) := by
  refine ⟨?_, by rw [List.length_set]; exact h.2.1, ok_set h.2.2 i hx⟩
  rw [← ints_set]
  exact h.1.set i _
theorem Fr.but {X : Nat → Prop} {q d : Nat} {w w' : World} {F : List Int} (h : Fr q d w F) (hb : But X w w') (hq : ¬ X q) : Fr q d w' F := ⟨h.1.but hb hq, h.2⟩
theorem Fr.below {q d : Nat} {w w' : World} {F : List Int} (h : Fr q d w F) (hb : Below w.heap.size w w') : Fr q d w' F := ⟨h.1.below hb, h.2⟩
theorem Own.pushF {B l b c g o m n d R cap q : Nat} {cnt : Int} {w : World} {L F : List Int} (h : Own B l b c g o m n d R cnt w L) (h1 : cnt ≤ 9223372036854775000) (hF : Fr q d w F) (hq : q ≠ g) :
    Calls Try.prog 19 #[.pointer (some ⟨l, 0, none⟩), .slice (some ⟨q, 0, none⟩) d cap] w fun r w' => r = .returned (.int .i64 0) ∧ Own B l b c g o m n d R (cnt + 1) w' (pushL L o R d cnt F) ∧ But (fun k => k = l ∨ k = g) w w' :=
  h.push h1 hF.1.lies hF.2.1 (fun j _ => hF.2.2 j) (fun _ p hp => by cases hp; exact hq)

theorem Own.seek {B l b c g o m n d R : Nat} {cnt k : Int} {w : World} {L : List Int} (h : Own B l b c g o m n d R cnt w L) (h0 : 0 ≤ k) (h1 : k ≤ 9223372036854775807) :
    Calls Try.prog 16 #[.pointer (some ⟨l, 0, none⟩), .int .i64 k] w fun r w' => r = .returned (.bool true) ∧ Own B l b c g o m n d R k w' L ∧ But (fun k => k = l ∨ k = g) w w' :=
  (lseek_yes l b c g o m R d cnt k w h.lo h.lb h0 h1).mono (fun r w' ⟨q1, q2, q3⟩ => ⟨q1, ⟨q2, h.ar.but (X := fun k => k = l) (But.of_only q3 rfl) (fun e => h.lc e.symm) (fun e => h.lg e.symm), h.hm, h.lb, h.lc, h.lg, h.bg, h.ge, h0⟩, But.of_only q3 (Or.inl rfl)⟩)

set_option maxRecDepth 100000 in
set_option maxHeartbeats 8000000 in
theorem moves_any (width room m0 m1 : Int) (w : World) : Calls Try.prog 5 #[.int .i64 width, .int .i64 room, .agg #[.int .i64 m0, .int .i64 m1]] w fun r w' => r = .returned (.bool true) ∧ Below w.heap.size w w' := by
  obtain ⟨i0, hi, hz0, hz1, hz2⟩ := info_parts Try.info3
  have HI : Hid (Try.prog.info? 3 = some i0 ∧ i0.zero = some (.int .i64 0) ∧ i0.size = 1 ∧ i0.bytes = 8) := ⟨hi, hz0, hz1, hz2⟩
  clear hi hz0 hz1 hz2
  obtain ⟨d, hd0, hd1, hd2⟩ := mod_five width
  obtain ⟨ah, hah, hah2⟩ := mod_thirty1 m0
  obtain ⟨bh, hbh, hbh2⟩ := mod_thirty1 m1
  obtain ⟨R, hR0, hR1, hR2⟩ := and_eight room
  have h1d : (1 : Int) + ((d : Int) - 1) = (d : Int) := by omega
  have h1R : (1 : Int) + ((R : Int) - 1) = (R : Int) := by omega
  obtain ⟨M, hP0, hP, hP2, hP3⟩ := prod_bd d R hd2 hR2 hR1
  have HR : Hid (roomN M (d : Int) = R ∧ R * d ≤ M) := by
    show _ ∧ _
    unfold roomN
    rw [if_neg (by omega), Int.toNat_natCast, hP0]
    exact ⟨Nat.mul_div_cancel_left R (by omega), by rw [Nat.mul_comm]; omega⟩
  have HP0 := hide hP0
  clear hP0
  obtain ⟨w0, hw0⟩ : ∃ w0, w0 = w.alloc (.cells #[.int .i64 m0, .int .i64 m1] 53) := ⟨_, rfl⟩
  have HB0 : Hid (Below w.heap.size w w0) := by rw [hw0]; exact (Below.refl _ _).alloc (Nat.le_refl _) _
  have HM0 : Hid (Cells w0 w.heap.size [.int .i64 m0, .int .i64 m1]) := by rw [hw0]; exact cells_new w [_, _] _
  go_enter Try.func5, Try.ntmps5
  go_wp2_with fail
  rw [← hw0]
  refine (wake_any _).mono ?_
  rintro e' w1 ⟨rfl, hb⟩
  have HM1 := hide ((unhide HM0).below hb)
  have HB1 := hide (below_trans (unhide HB0) hb)
  clear hb hw0 HM0 HB0
  go_wp2_with fail
  refine (new_any M (by omega) _).mono ?_
  rintro e' w2 ⟨ca, ga, rfl, hc, hg, har, hb⟩
  have HM2 := hide ((unhide HM1).below hb)
  have HA2 := hide har
  have HB2 := hide (below_trans (unhide HB1) hb)
  have HS1 := hide (And.intro (And.intro (Nat.le_trans (unhide HB1).size hc) (Nat.le_trans (unhide HB1).size hg)) (And.intro har.me.lt har.row.lt))
  clear hb hc hg har HM1 HB1
  go_wp2_with fail
  refine (new_any M (by omega) _).mono ?_
  rintro e' w3 ⟨cb, gb, rfl, hc, hg, har, hb⟩
  have HM3 := hide ((unhide HM2).below hb)
  have HA3 := hide ((unhide HA2).below hb)
  have HC3 := hide har
  have HB3 := hide (below_trans (unhide HB2) hb)
  have HS3 := hide (And.intro (And.intro hc hg) (And.intro har.me.lt har.row.lt))
  clear hb hc hg har HM2 HB2 HA2
  go_wp2_with fail
  refine (part_yes ca ga M 0 M _ 0 _ (unhide HA3) (by omega) (by omega)).mono ?_
  rintro e' w4 ⟨o, rfl, hpt, hom, ho, hb⟩
  obtain rfl : o = 0 := ho (by omega)
  have HM4 := hide ((unhide HM3).below hb)
  have HA4 := hide ((unhide HA3).below hb)
  have HC4 := hide ((unhide HC3).below hb)
  have HP4 := hide hpt
  have HB4 := hide (below_trans (unhide HB3) hb)
  have HS4 := hide (Nat.lt_of_lt_of_le (Cells.lt hpt) (Nat.le_refl _))
  clear hb hpt hom ho HM3 HB3 HA3 HC3
  go_wp2_with fail
  refine (lnew_yes _ ca ga 0 M d R _ (unhide HP4) (by omega) (by omega) (by omega) (unhide HR).1 (by omega)).mono ?_
  rintro e' w5 ⟨rfl, hlo, hb⟩
  have HX5 := hide (own_made (B := w.heap.size) (w1 := w) hlo (unhide HA4) hb (unhide HP4) (by omega) (by have := unhide HS1; have := unhide HS3; omega) (by have := unhide HS1; have := unhide HS3; omega) (unhide HB4).size)
  have HM5 := hide ((unhide HM4).below hb)
  have HC5 := hide ((unhide HC4).below hb)
  have HB5 := hide (below_trans (unhide HB4) hb)
  have HS5 := hide hlo.me.lt
  clear hb hlo HM4 HB4 HA4 HC4 HP4
  go_wp2_with fail
  refine (part_yes cb gb M 0 M _ 0 _ (unhide HC5) (by omega) (by omega)).mono ?_
  rintro e' w6 ⟨o, rfl, hpt, hom, ho, hb⟩
  obtain rfl : o = 0 := ho (by omega)
  have HM6 := hide ((unhide HM5).below hb)
  have HX6 := hide ((unhide HX5).below hb)
  have HC6 := hide ((unhide HC5).below hb)
  have HP6 := hide hpt
  have HB6 := hide (below_trans (unhide HB5) hb)
  have HS6 := hide (Nat.lt_of_lt_of_le (Cells.lt hpt) (Nat.le_refl _))
  clear hb hpt hom ho HM5 HB5 HC5 HX5
  go_wp2_with fail
  refine (lnew_yes _ cb gb 0 M d R _ (unhide HP6) (by omega) (by omega) (by omega) (unhide HR).1 (by omega)).mono ?_
  rintro e' w7 ⟨rfl, hlo, hb⟩
  have HS : Hid (w.heap.size ≤ ca ∧ w.heap.size ≤ ga ∧ ca < w2.heap.size ∧ ga < w2.heap.size ∧ w2.heap.size ≤ cb ∧ w2.heap.size ≤ gb ∧ cb < w3.heap.size ∧ gb < w3.heap.size ∧ w3.heap.size < w4.heap.size ∧ w4.heap.size < w5.heap.size ∧ w5.heap.size < w6.heap.size ∧ w6.heap.size < w7.heap.size) := by
    have h1 := unhide HS1; have h3 := unhide HS3; have h4 := unhide HS4; have h5 := unhide HS5; have h6 := unhide HS6; have h7 : w6.heap.size < w7.heap.size := hlo.me.lt
    show _ ∧ _
    omega
  have HY7 := hide (own_made (B := w.heap.size) (w1 := w) hlo (unhide HC6) hb (unhide HP6) (by omega) (by have := unhide HS; omega) (by have := unhide HS; omega) (unhide HB6).size)
  have HM7 := hide ((unhide HM6).below hb)
  have HX7 := hide ((unhide HX6).below hb)
  have HB7 := hide (below_trans (unhide HB6) hb)
  clear hb hlo HM6 HB6 HC6 HP6 HX6 HS1 HS3 HS4 HS5 HS6
  have m70 := (unhide HM7).cell 0 _ rfl
  have m71 := (unhide HM7).cell 1 _ rfl
  generalize w3.heap.size = bx at *
  generalize w4.heap.size = lx at *
  generalize w5.heap.size = by_ at *
  generalize w6.heap.size = ly at *
  go_wp2_with (at_make; refine wpList_make_full _ rfl _ _ 34 rfl w7.heap.size 3 i0 (.int .i64 0) 1 Try.underlying34 (unhide HI).1 (unhide HI).2.1 (unhide HI).2.2.1 _ _ _ _ d rfl rfl rfl rfl ?m1 ?m2 ?m3 ?_)
  case m1 => rw [(unhide HI).2.2.2]; omega
  case m2 => unfold maxLen; omega
  case m3 => exact Nat.le_refl _
  intro w8 hown hgr
  rw [ints_zero] at hown
  have hb : Below w7.heap.size w7 w8 := (Below.refl w7.heap.size w7).grown hgr (Nat.le_refl _) (fun _ h => by cases h)
  have HF8 : Hid (Fr w7.heap.size d w8 (List.replicate d 0)) := ⟨own_cells hown, by simp, ok_zero d⟩
  have HX8 := hide ((unhide HX7).below hb)
  have HY8 := hide ((unhide HY7).below hb)
  have HB8 := hide (below_trans (unhide HB7) hb)
  have HF1 : Hid (Far lx ga ly by_ cb gb) := by
    have := unhide HS
    unfold Far
    show _ ∧ _
    omega
  have HF2 : Hid (Far ly gb lx bx ca ga) := by
    have := unhide HS
    unfold Far
    show _ ∧ _
    omega
  have HQ := hide (show w.heap.size ≤ w7.heap.size from (unhide HB7).size)
  clear hown hgr hb HX7 HY7 HB7 HM7 m70 m71 hah hbh hd0 hR0 h1d h1R hP
  generalize w7.heap.size = q at *
  obtain ⟨d1, hdd⟩ : ∃ d1 : Nat, (d : Int) - 1 = (d1 : Int) := ⟨d - 1, by omega⟩
  rw [hdd]
  go_wp2
  go_loopw [17] (fun iv wr => ∃ (k : Nat) (F L : List Int), k ≤ ah ∧ iv = .int .i64 (k : Int) ∧ Hid (Own w.heap.size lx bx ca ga 0 M M d R (k : Int) wr L) ∧ Hid (OkL L) ∧ Hid (Own w.heap.size ly by_ cb gb 0 M M d R 0 wr (List.replicate M 0)) ∧ Hid (Fr q d wr F) ∧ Hid (Below w.heap.size w wr)) (fun iv _ => ah - (intOf iv).toNat)
  case atStart => exact ⟨0, List.replicate d 0, List.replicate M 0, by omega, rfl, HX8, ok_zero M, HY8, HF8, HB8⟩
  case round =>
    obtain ⟨k, F, L, hk, rfl, HXr, HOr, HYr, HFr, HBr⟩ := hrel
    obtain ⟨w9, hw9⟩ : ∃ w9, w9 = wr := ⟨_, rfl⟩
    subst hw9
    clear HX8 HY8 HB8 HF8
    by_cases hlt : k < ah
    · have hcell := (unhide HFr).1.cell 0 _ (ints_at F 0 (by rw [(unhide HFr).2.1]; omega))
      have hfree := (unhide HFr).1.free 0
      obtain ⟨z, hz⟩ : ∃ z, F.getD 0 0 = z := ⟨_, rfl⟩
      rw [hz] at hcell
      clear hz
      go_wp2_with fail
      obtain ⟨w10, hw10⟩ : ∃ w10, w10 = w9.setCell ⟨q, 0, none⟩ (.int .i64 (k : Int)) := ⟨_, rfl⟩
      rw [← hw10]
      have hbt : But (fun j => j = q) w9 w10 := by rw [hw10]; exact But.of_only (Only.setHere 0 _) rfl
      have HF10 : Hid (Fr q d w10 (F.set 0 (k : Int))) := by rw [hw10]; exact (unhide HFr).set 0 ⟨by omega, by omega⟩
      have HX10 := hide ((unhide HXr).but hbt (by have := unhide HS; omega) (by have := unhide HS; omega) (by have := unhide HS; omega) (by have := unhide HS; omega))
      have HY10 := hide ((unhide HYr).but hbt (by have := unhide HS; omega) (by have := unhide HS; omega) (by have := unhide HS; omega) (by have := unhide HS; omega))
      have HB10 := hide ((unhide HBr).trans (hbt.below (fun j hj => by rw [hj]; exact unhide HQ) (unhide HBr).size))
      clear hw10 hbt hcell hfree HXr HYr HFr HBr
      refine ((unhide HX10).pushF (by omega) (unhide HF10) (by have := unhide HS; omega)).mono ?_
      rintro e' w11 ⟨rfl, ho, hbt⟩
      have HX11 := hide ho
      have HY11 := hide ((unhide HY10).far hbt (unhide HF1))
      have HF11 := hide ((unhide HF10).but hbt (by have := unhide HS; omega))
      have HO11 := hide (ok_push (unhide HOr) (unhide HF10).2.2 0 R d (k : Int))
      have HB11 := hide ((unhide HB10).trans (hbt.lg_below (unhide HX10).ge.1 (unhide HX10).ge.2.2.2 (unhide HB10).size))
      clear ho hbt HX10 HY10 HF10 HB10
      go_wp2
      go_roundw
      case rel => exact ⟨k + 1, _, _, by omega, by simp, HX11, HO11, HY11, HF11, HB11⟩
      case measure => simp [intOf]; omega
    · obtain rfl : k = ah := by omega
      go_wp2_with fail
      refine (words_any ca ga M L 0 _ (unhide HXr).ar (by omega)).mono ?_
      rintro e' w10 ⟨r, rfl, hr, hcr, hb⟩
      have HC10 := hide hcr
      have HX10 := hide ((unhide HXr).below hb)
      have HY10 := hide ((unhide HYr).below hb)
      have HF10 := hide ((unhide HFr).below hb)
      have HB10 := hide (below_trans (unhide HBr) hb)
      have HRr := hide (Nat.lt_of_lt_of_le (unhide HYr).ar.row.lt hr)
      clear hr hcr hb HXr HYr HFr HBr
      go_wp2_with fail
      refine (set_any cb gb M M M _ L _ 0 _ (unhide HY10).ar (unhide HC10).lies (unhide HX10).ar.len (by omega)).mono ?_
      have hE : setE M L = 0 := setE_ok (unhide HX10).ar.len (ok_all (unhide HOr))
      rw [show setL M (List.replicate M 0) L = L by unfold setL; rw [if_pos hE], hE]
      clear hE
      rintro e' w11 ⟨rfl, ht, har⟩
      have hbt : But (fun j => j = cb ∨ j = gb) w10 w11 := But.of_two ht (Or.inl rfl) (Or.inr rfl)
      have hD := unhide HS
      have HX11 := hide ((unhide HX10).but hbt (by omega) (by omega) (by omega) (by omega))
      have h10 := unhide HY10
      have HY11 : Hid (Own w.heap.size ly by_ cb gb 0 M M d R 0 w11 L) := ⟨h10.lo.but hbt (by omega) (by omega), har, h10.hm, h10.lb, h10.lc, h10.lg, h10.bg, h10.ge, h10.c0⟩
      have HF11 := hide ((unhide HF10).but hbt (by omega))
      have HB11 := hide ((unhide HB10).trans (hbt.below (fun j hj => by have := h10.ge; rcases hj with rfl | rfl <;> omega) (unhide HB10).size))
      clear ht har hbt hD h10 HX10 HY10 HF10 HB10 HC10 HRr
      go_wp2_with fail
      refine (lcount_any lx bx ca ga 0 M R d _ _ (unhide HX11).lo (by omega) (by omega)).mono ?_
      rintro e' w12 ⟨rfl, rfl⟩
      go_wp2_with fail
      refine ((unhide HY11).seek (k := (k : Int)) (by omega) (by omega)).mono ?_
      rintro e' w12 ⟨rfl, ho, hbt⟩
      have HX12 := hide ((unhide HX11).far hbt (unhide HF2))
      have HY12 := hide ho
      have HF12 := hide ((unhide HF11).but hbt (by have := unhide HS; omega))
      have HB12 := hide ((unhide HB11).trans (hbt.lg_below (unhide HY11).ge.1 (unhide HY11).ge.2.2.2 (unhide HB11).size))
      clear ho hbt HX11 HY11 HF11 HB11 HOr
      go_wp2
      go_loopw [18, 19, 20, 21, 22, 23, 24] (fun iv _ _ _ _ _ _ wr => ∃ (i : Nat) (F L : List Int), i ≤ bh + 1 ∧ iv = .int .i64 (i : Int) ∧ Hid (Own w.heap.size lx bx ca ga 0 M M d R ((k : Int) + (i : Int)) wr L) ∧ Hid (Own w.heap.size ly by_ cb gb 0 M M d R ((k : Int) + (i : Int)) wr L) ∧ Hid (Fr q d wr F) ∧ Hid (Below w.heap.size w wr)) (fun iv _ _ _ _ _ _ _ => bh + 1 - (intOf iv).toNat)
      case atStart => exact ⟨0, F, L, by omega, rfl, by simpa using HX12, by simpa using HY12, HF12, HB12⟩
      case round =>
        obtain ⟨i, F', L', hi, rfl, HXi, HYi, HFi, HBi⟩ := hrel
        obtain ⟨w13, hw13⟩ : ∃ w13, w13 = wr := ⟨_, rfl⟩
        subst hw13
        obtain ⟨n, hn⟩ : ∃ n : Int, (k : Int) + (i : Int) = n := ⟨_, rfl⟩
        have hn0 : 0 ≤ n := by omega
        have hn1 : n ≤ 61 := by omega
        rw [hn] at HXi HYi
        have HN := hide hn
        clear HX12 HY12 HB12 HF12 hn
        by_cases hle : i ≤ bh
        · go_wp2_with fail
          refine (loldest_any lx bx ca ga 0 M R d n _ (unhide HXi).lo hn0 (by omega)).mono ?_
          rintro e' w14 ⟨rfl, n14, rfl⟩
          have HX14 := hide ((unhide HXi).below (below_drewN w13 n14))
          have HY14 := hide ((unhide HYi).below (below_drewN w13 n14))
          have HF14 := hide ((unhide HFi).below (below_drewN w13 n14))
          have HB14 := hide (below_trans (unhide HBi) (below_drewN w13 n14))
          obtain ⟨ho1, ho2⟩ := old_bd n R hn0
          obtain ⟨z, hz⟩ : ∃ z, oldI n R = z := ⟨_, rfl⟩
          rw [hz] at ho1 ho2 ⊢
          have HZ := hide hz
          clear HXi HYi HFi HBi hz
          go_wp2
          go_loopw [19, 20, 21, 22, 23, 24] (fun tv _ _ _ _ _ wr => ∃ t : Int, z ≤ t ∧ t ≤ n ∧ tv = .int .i64 t ∧ Hid (Own w.heap.size lx bx ca ga 0 M M d R n wr L') ∧ Hid (Own w.heap.size ly by_ cb gb 0 M M d R n wr L') ∧ Hid (Fr q d wr F') ∧ Hid (Below w.heap.size w wr)) (fun tv _ _ _ _ _ _ => (n - intOf tv).toNat)
          case atStart => exact ⟨z, by omega, by omega, rfl, HX14, HY14, HF14, HB14⟩
          case round =>
            obtain ⟨t, ht1, ht2, rfl, HXt, HYt, HFt, HBt⟩ := hrel
            obtain ⟨w15, hw15⟩ : ∃ w15, w15 = wr := ⟨_, rfl⟩
            subst hw15
            clear HX14 HY14 HB14 HF14
            go_wp2_with fail
            refine (lcount_any lx bx ca ga 0 M R d n _ (unhide HXt).lo hn0 (by omega)).mono ?_
            rintro e' w16 ⟨rfl, rfl⟩
            by_cases hlt2 : t < n
            · have HH : Hid (hasI n R t) := ⟨by rw [unhide HZ]; exact ht1, hlt2⟩
              go_wp2_with fail
              refine (lget_yes lx bx ca ga 0 M M R d n t L' _ (unhide HXt).lo (unhide HXt).ar (unhide HXt).hm hn0 (by omega) (unhide HH)).mono ?_
              rw [Int.toNat_natCast]
              rintro e' w17 ⟨r1, rfl, _, hc1, hb⟩
              have HC1 := hide hc1
              have HX17 := hide ((unhide HXt).below hb)
              have HY17 := hide ((unhide HYt).below hb)
              have HF17 := hide ((unhide HFt).below hb)
              have HB17 := hide (below_trans (unhide HBt) hb)
              clear hc1 hb HXt HYt HFt HBt
              go_wp2_with fail
              refine (lget_yes ly by_ cb gb 0 M M R d n t L' _ (unhide HY17).lo (unhide HY17).ar (unhide HY17).hm hn0 (by omega) (unhide HH)).mono ?_
              rw [Int.toNat_natCast]
              rintro e' w18 ⟨r2, rfl, _, hc2, hb⟩
              have HC2 := hide hc2
              have HC18 := hide ((unhide HC1).below hb)
              have HX18 := hide ((unhide HX17).below hb)
              have HY18 := hide ((unhide HY17).below hb)
              have HF18 := hide ((unhide HF17).below hb)
              have HB18 := hide (below_trans (unhide HB17) hb)
              clear hc2 hb HX17 HY17 HF17 HB17 HC1
              go_wp2_with fail
              refine (same_any _ _ d d _ d (row_len _ _ _) (by omega) _ (unhide HC18).lies (unhide HC2).lies).mono ?_
              rintro e' w19 ⟨rfl, hb⟩
              have HX19 := hide ((unhide HX18).below hb)
              have HY19 := hide ((unhide HY18).below hb)
              have HF19 := hide ((unhide HF18).below hb)
              have HB19 := hide (below_trans (unhide HB18) hb)
              clear hb HX18 HY18 HF18 HB18 HC18 HC2
              go_wp2
              go_roundw
              case rel => exact ⟨t + 1, by omega, by omega, rfl, HX19, HY19, HF19, HB19⟩
              case measure => simp [intOf]; omega
            · obtain rfl : t = n := by omega
              have hcell := (unhide HFt).1.cell d1 _ (ints_at F' d1 (by rw [(unhide HFt).2.1]; omega))
              have hfree := (unhide HFt).1.free d1
              obtain ⟨y, hy⟩ : ∃ y, F'.getD d1 0 = y := ⟨_, rfl⟩
              rw [hy] at hcell
              clear hy
              go_wp2_with fail
              obtain ⟨w17, hw17⟩ : ∃ w17, w17 = w16.setCell ⟨q, d1, none⟩ (.int .i64 (50 + (i : Int))) := ⟨_, rfl⟩
              rw [← hw17]
              have hbt : But (fun j => j = q) w16 w17 := by rw [hw17]; exact But.of_only (Only.setHere _ _) rfl
              have HF17 : Hid (Fr q d w17 (F'.set d1 (50 + (i : Int)))) := by rw [hw17]; exact (unhide HFt).set d1 ⟨by omega, by omega⟩
              have HX17 := hide ((unhide HXt).but hbt (by have := unhide HS; omega) (by have := unhide HS; omega) (by have := unhide HS; omega) (by have := unhide HS; omega))
              have HY17 := hide ((unhide HYt).but hbt (by have := unhide HS; omega) (by have := unhide HS; omega) (by have := unhide HS; omega) (by have := unhide HS; omega))
              have HB17 := hide ((unhide HBt).trans (hbt.below (fun j hj => by rw [hj]; exact unhide HQ) (unhide HBt).size))
              clear hw17 hbt hcell hfree HXt HYt HFt HBt
              refine ((unhide HX17).pushF (by omega) (unhide HF17) (by have := unhide HS; omega)).mono ?_
              rintro e' w18 ⟨rfl, ho, hbt⟩
              have HX18 := hide ho
              have HY18 := hide ((unhide HY17).far hbt (unhide HF1))
              have HF18 := hide ((unhide HF17).but hbt (by have := unhide HS; omega))
              have HB18 := hide ((unhide HB17).trans (hbt.lg_below (unhide HX17).ge.1 (unhide HX17).ge.2.2.2 (unhide HB17).size))
              clear ho hbt HX17 HY17 HF17 HB17
              go_wp2_with fail
              refine ((unhide HY18).pushF (by omega) (unhide HF18) (by have := unhide HS; omega)).mono ?_
              rintro e' w19 ⟨rfl, ho, hbt⟩
              have HY19 := hide ho
              have HX19 := hide ((unhide HX18).far hbt (unhide HF2))
              have HF19 := hide ((unhide HF18).but hbt (by have := unhide HS; omega))
              have HB19 := hide ((unhide HB18).trans (hbt.lg_below (unhide HY18).ge.1 (unhide HY18).ge.2.2.2 (unhide HB18).size))
              clear ho hbt HX18 HY18 HF18 HB18
              go_wp2_with fail
              refine (lcount_any lx bx ca ga 0 M R d _ _ (unhide HX19).lo (by omega) (by omega)).mono ?_
              rintro e' w20 ⟨rfl, rfl⟩
              go_wp2_with fail
              refine (lcount_any ly by_ cb gb 0 M R d _ _ (unhide HY19).lo (by omega) (by omega)).mono ?_
              rintro e' w20 ⟨rfl, rfl⟩
              go_wp2
              go_roundw
              case rel =>
                have he : t + 1 = (k : Int) + ((i + 1 : Nat) : Int) := by have := unhide HN; omega
                rw [he] at HX19 HY19
                exact ⟨i + 1, _, _, by omega, by simp, HX19, HY19, HF19, HB19⟩
              case measure => simp [intOf]; omega
        · obtain rfl : i = bh + 1 := by omega
          go_wp2_with fail
          refine (lcount_any lx bx ca ga 0 M R d _ _ (unhide HXi).lo hn0 (by omega)).mono ?_
          rintro e' w14 ⟨rfl, rfl⟩
          have hnn : n = (k : Int) + (bh : Int) + 1 := by have := unhide HN; omega
          go_wp2_with fail
          refine (lseek_no lx bx ca ga 0 M R d _ (-1) _ (unhide HXi).lo (by decide)).mono ?_
          rintro e' w15 ⟨rfl, n15, rfl⟩
          go_wp2_with fail
          refine (lcount_any lx bx ca ga 0 M R d _ _ ((unhide HXi).lo.below (below_drewN _ _)) hn0 (by omega)).mono ?_
          rintro e' w16 ⟨rfl, rfl⟩
          go_wp2
          go_ret
          exact ⟨by simp, below_trans (unhide HBi) (below_drewN _ _)⟩
end Go.Proofs.Ytclikkhaaiihdaa
