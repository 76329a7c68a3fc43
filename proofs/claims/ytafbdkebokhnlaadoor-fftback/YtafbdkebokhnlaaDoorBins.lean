/- fft.Bins: what it answers. -/
import Derived.Test.YtafbdkebokhnlaaDoorSpins
import Derived.Test.YtafbdkebokhnlaaDoorEach
namespace Go.Proofs.YtafbdkebokhnlaaDoor
open Go.RowKit
set_option linter.unusedVariables false

/-- The parts of the spins up to half a circle. -/
def partsL (c : Nat → Int) (h : Nat) (xs : List Int) : List Int := mkL (h + 1) fun k => partI c (spinS h (k : Int) xs)
theorem parts_len (c : Nat → Int) (h : Nat) (xs : List Int) : (partsL c h xs).length = h + 1 := mkL_len _ _
theorem parts_small (c : Nat → Int) (h : Nat) (xs : List Int) : Small (partsL c h xs) := small_mk _ _ fun k _ => by
  unfold partI; split
  · exact in_w64 _
  · constructor <;> decide
/-- How much they are moved down. -/
def movS (h : Nat) (xs : List Int) : Int := shiftI (partsL cosC h xs ++ partsL sinC h xs)
theorem mov_max (h : Nat) (xs : List Int) : movS h xs = max (max (normI (partsL cosC h xs)) (normI (partsL sinC h xs))) 15 - 15 := by
  unfold movS shiftI normI
  rw [normN_append]
  split <;> omega
theorem norm_bd (xs : List Int) (hs : Small xs) : 0 ≤ normI xs ∧ normI xs ≤ 64 := by
  unfold normI
  rcases normN_met xs with e | ⟨x, hx, e⟩
  · omega
  · have := bl_le x.natAbs 64 (by obtain ⟨h1, h2⟩ := hs x hx; omega)
    omega
theorem down_len (s : Int) (xs : List Int) : (downL s xs).length = xs.length := List.length_map ..
theorem down_at (s : Int) (xs : List Int) (j : Nat) (h : j < xs.length) : (downL s xs).getD j 0 = halfI (xs.getD j 0) s := by
  unfold downL; simp [List.getD_eq_getElem?_getD, List.getElem?_eq_getElem h]

set_option maxRecDepth 100000 in
theorem bins_yes (a : Option Addr) (cap n h : Nat) (xs : List Int) (w : World) (hl : Lies w a xs) (hs : Small xs) (hn : xs.length = n) (hh : n = 2 * h) (hm : mayN h) (hq : Quar w) :
    Calls Tryd.prog 17 #[.slice a n cap] w fun e w' => ∃ g1 g2, e = .returned (.tuple #[.slice (some ⟨g1, 0, none⟩) (h + 1) (h + 1), .slice (some ⟨g2, 0, none⟩) (h + 1) (h + 1), .int .i64 (movS h xs)]) ∧
      Cells w' g1 (ints (downL (movS h xs) (partsL cosC h xs))) ∧ Cells w' g2 (ints (downL (movS h xs) (partsL sinC h xs))) ∧ Below w.heap.size w w' := by
  obtain ⟨hp0, hp1⟩ := mayN_pos hm
  have HL := hide hl
  have HN := hide hn
  have HS := hide hs
  have HH := hide hh
  have HM := hide hm
  have HQ := hide hq
  have hn0 : ((n : Int) == 0) = false := by simp; omega
  have hhalf : (n : Int) / 2 = (h : Int) := by omega
  have hhn : h + 1 ≤ n := by omega
  have hn64 : n ≤ 64 := by omega
  clear hl hn hs hh hm hq
  go_enter Tryd.func17, Tryd.ntmps17
  go_wp2_with fail
  refine (spins_yes a cap n h xs _ ((unhide HL).below (alloc_below _ _)) (unhide HS) (unhide HN) (unhide HH) (unhide HM)).mono ?_
  rintro e w1 ⟨p, rfl, hr, hb⟩
  obtain ⟨b, rfl, hra⟩ := hr.rat
  have HR := hide hra
  have HSH := hide (show w1.heap[w.heap.size]? = some (.cells #[.int .i64 0] 3 (0, 0)) by rw [hb.block _ (by simp)]; exact new_one _ _ _)
  have HB1 := hide ((alloc_below w (.cells #[.int .i64 0] 3)).trans (hb.mono (by simp)))
  clear hr hb hra
  obtain ⟨m, hm⟩ : ∃ m, h + 1 = m := ⟨_, rfl⟩
  have hmi : (h : Int) + 1 = (m : Int) := by omega
  have HMM := hide hm
  have hm64 : m ≤ 64 := by omega
  have hmn : m ≤ n := by omega
  have HF := hide (show ∀ j, j < m → (spinS h (j : Int) xs).length = h ∧ Small (spinS h (j : Int) xs) from fun j _ => ⟨spinS_len _ _ _, spinS_small _ _ _⟩)
  rw [hm] at hhn
  go_wp2_with fail
  try rw [hm]
  refine (each_real b m h n (fun j => spinS h (j : Int) xs) _ ((unhide HR).less hmn) ((unhide HQ).below (unhide HB1)) (unhide HF) (by omega) (by omega)).mono ?_
  rintro e w2 ⟨g1, rfl, hg1, hc1, hb2⟩
  have HB2 := hide ((unhide HB1).trans (hb2.mono (unhide HB1).size))
  have HR2 := hide ((unhide HR).below hb2)
  have HC1 := hide hc1
  have HSH2 := hide (show w2.heap[w.heap.size]? = some (.cells #[.int .i64 0] 3 (0, 0)) by rw [hb2.block _ (Array.getElem?_eq_some_iff.1 (unhide HSH)).1]; exact unhide HSH)
  clear hg1 hc1 hb2 HB1 HR HSH
  go_wp2_with fail
  refine (each_imag b m h n (fun j => spinS h (j : Int) xs) _ ((unhide HR2).less hmn) ((unhide HQ).below (unhide HB2)) (unhide HF) (by omega) (by omega)).mono ?_
  rintro e w3 ⟨g2, rfl, hg2, hc2, hb3⟩
  have HB3 := hide ((unhide HB2).trans (hb3.mono (unhide HB2).size))
  have HC2 := hide hc2
  have HC1' := hide ((unhide HC1).below hb3)
  have HSH3 := hide (show w3.heap[w.heap.size]? = some (.cells #[.int .i64 0] 3 (0, 0)) by rw [hb3.block _ (Array.getElem?_eq_some_iff.1 (unhide HSH2)).1]; exact unhide HSH2)
  clear hg2 hc2 hb3 HB2 HR2 HSH2 HC1
  obtain ⟨re, hre⟩ : ∃ re, partsL cosC h xs = re := ⟨_, rfl⟩
  obtain ⟨im, him⟩ : ∃ im, partsL sinC h xs = im := ⟨_, rfl⟩
  have hre2 : (mkL m fun j => partI cosC (spinS h (j : Int) xs)) = re := by rw [← hre, ← hm]; rfl
  have him2 : (mkL m fun j => partI sinC (spinS h (j : Int) xs)) = im := by rw [← him, ← hm]; rfl
  rw [hre2] at HC1'
  rw [him2] at HC2
  have HRL := hide (show re.length = m by rw [← hre, parts_len, hm])
  have HIL := hide (show im.length = m by rw [← him, parts_len, hm])
  have HRS := hide (show Small re by rw [← hre]; exact parts_small _ _ _)
  have HIS := hide (show Small im by rw [← him]; exact parts_small _ _ _)
  have HMV := hide (mov_max h xs)
  rw [hre, him] at HMV
  have HRE := hide hre
  have HIM := hide him
  clear hre him hre2 him2 hm
  go_wp2_with fail
  refine (norm_any _ m re m (unhide HRL) _ (unhide HC1').lies (unhide HRS) (by omega)).mono ?_
  rintro e w4 ⟨rfl, rfl⟩
  go_wp2_with fail
  refine (norm_any _ m im m (unhide HIL) _ (unhide HC2).lies (unhide HIS) (by omega)).mono ?_
  rintro e w5 ⟨rfl, rfl⟩
  obtain ⟨r0, r1⟩ := norm_bd re (unhide HRS)
  obtain ⟨i0, i1⟩ := norm_bd im (unhide HIS)
  generalize normI re = nr at HMV r0 r1 ⊢
  generalize normI im = ni at HMV i0 i1 ⊢
  obtain ⟨mx, hmx⟩ : ∃ mx, (if nr < ni then ni else nr) = mx := ⟨_, rfl⟩
  obtain ⟨my, hmy⟩ : ∃ my, (if mx < 15 then 15 else mx) = my := ⟨_, rfl⟩
  have hmyb : 15 ≤ my ∧ my ≤ 64 := by
    rw [← hmy, ← hmx]
    repeat' split
    all_goals omega
  obtain ⟨my0, my1⟩ := hmyb
  obtain ⟨s, hs⟩ : ∃ s, movS h xs = s := ⟨_, rfl⟩
  have hms : my - 15 = s := by
    rw [← hs, unhide HMV, ← hmy, ← hmx]
    repeat' split
    all_goals omega
  have HSE := hide hs
  have hs0 : 0 ≤ s := by omega
  have hs1 : s ≤ 49 := by omega
  clear HMV hs
  obtain ⟨bs, hbs⟩ : ∃ b, w.heap.size = b := ⟨_, rfl⟩
  have HBS := hide hbs
  rw [hbs] at HSH3
  rw [hbs]
  have hsc : Cells w5 bs [.int .i64 0] := ⟨3, unhide HSH3⟩
  have hcell := hsc.cell 0 _ rfl
  have hfree := hsc.free 0
  have HB6 := hide ((unhide HB3).setCell (p := ⟨bs, 0, none⟩) (by show w.heap.size ≤ bs; omega) (.int .i64 s))
  have HSH6 := hide (show (w5.setCell ⟨bs, 0, none⟩ (.int .i64 s)).heap[bs]? = some (.cells #[.int .i64 s] 3 (0, 0)) by simp [World.setCell, Array.getElem?_modify, unhide HSH3])
  clear hsc
  go_wp2_with fail
  obtain ⟨w6, hw6⟩ : ∃ w6, w5.setCell ⟨bs, 0, none⟩ (.int .i64 s) = w6 := ⟨_, rfl⟩
  have hsc : Cells w5 bs [.int .i64 0] := ⟨3, unhide HSH3⟩
  have ho : Only bs w5 w6 := by rw [← hw6]; exact (Only.refl bs w5).setCell rfl _
  have hne1 : g1 ≠ bs := by
    rintro rfl
    have := congrArg List.length ((unhide HC1').inj hsc)
    have hl := unhide HRL
    simp [ints] at this
    omega
  have hne2 : g2 ≠ bs := by
    rintro rfl
    have := congrArg List.length ((unhide HC2).inj hsc)
    have hl := unhide HIL
    simp [ints] at this
    omega
  have C1 := hide ((unhide HC1').only ho hne1)
  have C2 := hide ((unhide HC2).only ho hne2)
  rw [hw6] at HB6 HSH6 ⊢
  have cs := cell_of_one (unhide HSH6)
  have hbw : bs < w6.heap.size := lt_of_cell cs
  have hbd : Below w6.heap.size w6 w6.drew := ⟨rfl, rfl, rfl, Nat.le_refl _, fun _ _ => rfl⟩
  clear hcell hfree hsc ho hw6 hne1 hne2 HC1' HC2 HSH3 HB3 hbs
  have keep : ∀ {w' : World}, Below w6.heap.size w6 w' → w'.cell? ⟨bs, 0, none⟩ = some (.int .i64 s) ∧ w'.frozen? ⟨bs, 0, none⟩ = false ∧ w'.heap[bs]? = some (.cells #[.int .i64 s] 3 (0, 0)) := fun hb => by
    have H := (hb.block _ hbw).trans (unhide HSH6)
    exact ⟨cell_of_one H, Cells.free (l := [.int .i64 s]) ⟨3, H⟩ 0, H⟩
  have keepset : ∀ (w' : World), Below w6.heap.size w6 w' → (w'.setCell ⟨bs, 0, none⟩ (.int .i64 s)).cell? ⟨bs, 0, none⟩ = some (.int .i64 s) ∧ (w'.setCell ⟨bs, 0, none⟩ (.int .i64 s)).frozen? ⟨bs, 0, none⟩ = false ∧ (w'.setCell ⟨bs, 0, none⟩ (.int .i64 s)).heap[bs]? = some (.cells #[.int .i64 s] 3 (0, 0)) := by
    intro w' hb
    have H := (hb.block _ hbw).trans (unhide HSH6)
    have H2 : (w'.setCell ⟨bs, 0, none⟩ (.int .i64 s)).heap[bs]? = some (.cells #[.int .i64 s] 3 (0, 0)) := by simp [World.setCell, Array.getElem?_modify, H]
    exact ⟨cell_of_one H2, Cells.free (l := [.int .i64 s]) ⟨3, H2⟩ 0, H2⟩
  have HD6 := hide (show w6.drew.heap[bs]? = some (.cells #[.int .i64 s] 3 (0, 0)) from unhide HSH6)
  go_region_held3 (fun w' => w'.cell? ⟨bs, 0, none⟩ = some (.int .i64 s) ∧ w'.frozen? ⟨bs, 0, none⟩ = false ∧ w'.heap[bs]? = some (.cells #[.int .i64 s] 3 (0, 0))) (first | exact keepset _ hb8' | exact keep hb8' | exact keep hb7' | exact keep hbd | exact keep (Below.refl _ _) | assumption)
    (first
      | (go_at_call 39; (with_reducible refine (each_down bs s (some ⟨g2, 0, none⟩) m m im w7 ((unhide C2).lies.below hb7') (unhide HIS) (unhide HIL) ((hb7'.block _ hbw).trans (unhide HSH6)) (by omega)).mono ?_); rintro t w8 ⟨g8, rfl, hg8, hc8, hb8⟩; have hb8' := below_trans hb7' hb8; have hc7' := hc7.below hb8)
      | (go_at_call 39; (with_reducible refine (each_down bs s (some ⟨g1, 0, none⟩) m m re w6.drew ((unhide C1).lies.below hbd) (unhide HRS) (unhide HRL) (unhide HD6) (by omega)).mono ?_); rintro t w7 ⟨g7, rfl, hg7, hc7, hb7⟩; have hb7' := spin_undrew hb7))
  obtain ⟨w9, hw9⟩ : ∃ w9, w8.setCell ⟨bs, 0, none⟩ (.int .i64 s) = w9 := ⟨_, rfl⟩
  have c9 : w9.cell? ⟨bs, 0, none⟩ = some (.int .i64 s) := by rw [← hw9]; exact (keepset _ hb8').1
  have HB9 := hide (show Below w.heap.size w w9 by rw [← hw9]; exact ((unhide HB6).trans (hb8'.mono (unhide HB6).size)).setCell (by show w.heap.size ≤ bs; rw [unhide HBS]; exact Nat.le_refl _) _)
  have hne7 : g7 ≠ bs := by intro e; subst e; simp at hg7; omega
  have hne8 : g8 ≠ bs := by intro e; subst e; have := hb7'.size; omega
  have ho : Only bs w8 w9 := by rw [← hw9]; exact (Only.refl bs w8).setCell rfl _
  have C7 := hide (hc7'.only ho hne7)
  have C8 := hide (hc8.only ho hne8)
  rw [hw9]
  clear hw9 ho hne7 hne8 keepset keep hc7' hc8 hb8' hb8 hg8 hc7 hb7 hb7' hg7 cs hbw hbd HD6
  go_wp2
  (try simp only [Exit.inBlock, Exit.then])
  refine bodyPost_ret (v := .tuple #[.slice (some ⟨g7, 0, none⟩) m m, .slice (some ⟨g8, 0, none⟩) m m, .int .i64 s]) (by simp [results, Tryd.results17, go_sem, c9]) rfl ?_
  refine ⟨g7, g8, ?_, ?_, ?_, unhide HB9⟩
  · rw [unhide HMM, unhide HSE]
  · rw [unhide HSE, unhide HRE]; exact unhide C7
  · rw [unhide HSE, unhide HIM]; exact unhide C8

theorem bins_no (a : Option Addr) (cap n : Nat) (w : World) (hM : ¬ mayF n) :
    Calls Tryd.prog 17 #[.slice a n cap] w fun e w' => e = .returned (.tuple #[.slice none 0 0, .slice none 0 0, .int .i64 0]) ∧ Below w.heap.size w w' := by
  have HM := hide hM
  clear hM
  go_enter Tryd.func17, Tryd.ntmps17
  go_wp2_with fail
  refine (spins_no a cap n _ (unhide HM)).mono ?_
  rintro e w1 ⟨rfl, hb⟩
  obtain ⟨bs, hbs⟩ : ∃ b, w.heap.size = b := ⟨_, rfl⟩
  have H1 : w1.heap[bs]? = some (.cells #[.int .i64 0] 3 (0, 0)) := by rw [← hbs, hb.block _ (by simp)]; exact new_one _ _ _
  have hB := hide ((alloc_below w (.cells #[.int .i64 0] 3)).trans (hb.mono (by simp)))
  have hcell := cell_of_one H1
  have hfree := Cells.free (l := [.int .i64 0]) ⟨3, H1⟩ 0
  have HH1 := hide H1
  rw [hbs]
  have HBS := hide hbs
  clear hb H1 hbs
  go_wp2
  have H2 : (w1.setCell ⟨bs, 0, none⟩ (.int .i64 0)).heap[bs]? = some (.cells #[.int .i64 0] 3 (0, 0)) := by simp [World.setCell, Array.getElem?_modify, unhide HH1]
  have c9 := cell_of_one H2
  refine bodyPost_ret (v := .tuple #[.slice none 0 0, .slice none 0 0, .int .i64 0]) (by simp [results, Tryd.results17, go_sem, c9]) rfl ?_
  exact ⟨rfl, (unhide hB).setCell (by show w.heap.size ≤ bs; rw [unhide HBS]; exact Nat.le_refl _) _⟩
end Go.Proofs.YtafbdkebokhnlaaDoor
