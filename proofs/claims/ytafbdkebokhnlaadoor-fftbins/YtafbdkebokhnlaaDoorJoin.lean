/- fft.joined, and the closure that calls itself: what they answer. -/
import Derived.Test.YtafbdkebokhnlaaDoorRows2
namespace Go.Proofs.YtafbdkebokhnlaaDoor
open Go.RowKit
set_option linter.unusedVariables false

/-- A row of rows somewhere: in a world, the rows of f. -/
def Rws (w : World) (a : Option Addr) (m : Nat) (f : Nat → List Int) : Prop := ∃ b rs, a = some ⟨b, 0, none⟩ ∧ RowsAt w b rs ∧ rs.length = m ∧ ∀ j, j < m → (rs.getD j nilR).2.2 = f j
theorem Rws.below {w w' : World} {a : Option Addr} {m : Nat} {f : Nat → List Int} (h : Rws w a m f) (hb : Below w.heap.size w w') : Rws w' a m f := by
  obtain ⟨b, rs, h1, h2, h3⟩ := h
  exact ⟨b, rs, h1, h2.below hb, h3⟩
theorem Rws.congr {w : World} {a : Option Addr} {m : Nat} {f g : Nat → List Int} (h : Rws w a m f) (e : ∀ j, j < m → f j = g j) : Rws w a m g := by
  obtain ⟨b, rs, h1, h2, h3, h4⟩ := h
  exact ⟨b, rs, h1, h2, h3, fun j hj => by rw [h4 j hj, e j hj]⟩
theorem Rws.at {w : World} {a : Option Addr} {m : Nat} {f : Nat → List Int} (h : Rws w a m f) : ∃ b, a = some ⟨b, 0, none⟩ ∧ b < w.heap.size ∧ ∀ j, j < m → ∃ p c, w.cell? ⟨b, j, none⟩ = some (.slice p (f j).length c) ∧ Lies w p (f j) := by
  obtain ⟨b, rs, h1, h2, h3, h4⟩ := h
  refine ⟨b, h1, h2.1.lt, fun j hj => ⟨(rs.getD j nilR).1, (rs.getD j nilR).2.1, ?_, ?_⟩⟩
  · rw [h2.cell j (by omega)]; unfold rowV; rw [h4 j hj]
  · have := h2.lies j (by omega); rw [h4 j hj] at this; exact this

/-- The spins of both halves, joined. -/
def joinF (f g : Nat → List Int) (m : Nat) (s : Nat) (j : Nat) : List Int :=
  if j < m then add2 (f j) (turnL (g j) ((j : Int) * (s : Int))) else lessL (f (j - m)) (turnL (g (j - m)) (((j - m : Nat) : Int) * (s : Int)))

set_option maxRecDepth 100000 in
theorem joined_any (a1 a2 : Option Addr) (c1 c2 m h s : Nat) (f g : Nat → List Int) (w : World) (h1 : Rws w a1 m f) (h2 : Rws w a2 m g) (hf : ∀ j, j < m → (f j).length = h ∧ Small (f j)) (hg : ∀ j, j < m → (g j).length = h ∧ Small (g j)) (hm : m ≤ 64) (hh : h ≤ 64) (hs : s ≤ 64) :
    Calls Tryd.prog 24 #[.int .i64 (s : Int), .slice a1 m c1, .slice a2 m c2] w fun e w' => ∃ a, e = .returned (.slice a (2 * m) (2 * m)) ∧ Rws w' a (2 * m) (joinF f g m s) ∧ Below w.heap.size w w' := by
  obtain ⟨i0, hi, hz0, hz1, hz2⟩ := info_parts Tryd.info22
  have HA := hide h1
  have HC := hide h2
  have HF := hide hf
  have HG := hide hg
  clear h1 h2 hf hg
  go_enter Tryd.func24, Tryd.ntmps24
  go_wp2_with (at_make; refine wpList_make_full _ rfl _ _ 25 rfl w.heap.size 22 i0 (.slice none 0 0) 1 Tryd.underlying25 hi hz0 hz1 _ _ _ _ (2 * m) rfl rfl (by first | rfl | omega | simp) (by first | rfl | omega | simp) ?m1 ?m2 ?m3 ?_)
  case m1 => rw [hz2]; omega
  case m2 => unfold maxLen; omega
  case m3 => exact Nat.le_refl _
  intro w2 hown hgr
  rw [rows_zero] at hown
  have HO := hide (rows_made hown)
  have HB2 := hide ((Below.refl w.heap.size w).grown hgr (Nat.le_refl _) (fun _ h => by cases h))
  obtain ⟨b, hb⟩ : ∃ b, w.heap.size = b := ⟨_, rfl⟩
  have HBB := hide (show w.heap.size ≤ b by omega)
  rw [hb] at HO ⊢
  clear hown hgr hb
  go_wp2
  go_loopw [17] (fun i wr => ∃ (j : Nat) (rs : List Rr), j ≤ m ∧ i = .int .i64 (j : Int) ∧ Hid (RowsAt wr b rs) ∧ Hid (rs.length = 2 * m ∧ ∀ i, i < j → (rs.getD i nilR).2.2 = joinF f g m s i ∧ (rs.getD (i + m) nilR).2.2 = joinF f g m s (i + m)) ∧ Hid (Below w.heap.size w wr))
    (fun i _ => m - (intOf i).toNat)
  case atStart => exact ⟨0, _, by omega, rfl, HO, ⟨by simp, fun j h => absurd h (Nat.not_lt_zero _)⟩, HB2⟩
  case round =>
    obtain ⟨j, rs, hj, rfl, HOr, HRs, HBr⟩ := hrel
    by_cases hlt : j < m
    · obtain ⟨b1, rfl, hb1, H1⟩ := (unhide HA).at
      obtain ⟨b2, rfl, hb2, H2⟩ := (unhide HC).at
      obtain ⟨p1, q1, e1, L1⟩ := H1 j hlt
      obtain ⟨p2, q2, e2, L2⟩ := H2 j hlt
      obtain ⟨F1, F2⟩ := unhide HF j hlt
      obtain ⟨G1, G2⟩ := unhide HG j hlt
      rw [F1] at e1
      rw [G1] at e2
      have x1 : wr.cell? ⟨b1, j, none⟩ = some (.slice p1 h q1) := by rw [(unhide HBr).cell (p := ⟨b1, _, none⟩) hb1]; exact e1
      have x2 : wr.cell? ⟨b2, j, none⟩ = some (.slice p2 h q2) := by rw [(unhide HBr).cell (p := ⟨b2, _, none⟩) hb2]; exact e2
      obtain ⟨P, hP, hP0, hP1⟩ : ∃ P : Int, (j : Int) * (s : Int) = P ∧ 0 ≤ P ∧ P ≤ 4096 := by
        refine ⟨_, rfl, ?_⟩
        have := Nat.mul_le_mul (show j ≤ 64 by omega) (show s ≤ 64 by omega)
        have e : ((j * s : Nat) : Int) = (j : Int) * (s : Int) := by simp
        omega
      have HP := hide hP
      have HL1 := hide (L1.below (unhide HBr))
      have HL2 := hide (L2.below (unhide HBr))
      have HF1 := hide F1
      have HF2 := hide F2
      have HG1 := hide G1
      have HG2 := hide G2
      have X1 := hide x1
      have hbr1 : b1 < wr.heap.size := Nat.lt_of_lt_of_le hb1 (unhide HBr).size
      clear H1 H2 e1 e2 L1 L2 HO HB2 F1 F2 G1 G2
      go_wp2_with fail
      refine (turn_told p2 q2 (g j) h P _ (unhide HL2) (unhide HG2) (unhide HG1) (by omega) (by unfold In64; omega)).mono ?_
      rintro e w4 ⟨a4, l4, c4, rfl, h1, h2, h3⟩
      obtain rfl : l4 = h := by rw [← h1, turn_len, unhide HG1]
      have HB4 := hide ((unhide HBr).trans (h3.mono (unhide HBr).size))
      have HR4 := hide ((unhide HOr).below h3)
      have HL4 := hide h2
      have HLa := hide ((unhide HL1).below h3)
      have HLen := hide h1
      have x1b : w4.cell? ⟨b1, j, none⟩ = some (.slice p1 l4 q1) := by rw [h3.cell (p := ⟨b1, _, none⟩) hbr1]; exact unhide X1
      clear h1 h2 h3 HOr HBr x1 x2 X1
      go_wp2_with fail
      refine (add_two p1 a4 l4 l4 q1 c4 (f j) (turnL (g j) P) w4 w4 (Below.refl _ _) (unhide HLa) (unhide HL4) (unhide HF2) (unhide HF1) (unhide HLen) (by omega)).mono ?_
      rintro e w5 ⟨a5, l5, c5, rfl, h1, h2, h3⟩
      have es : sum2 (f j) (turnL (g j) P) = add2 (f j) (turnL (g j) P) := by unfold sum2; rw [if_pos (by rw [unhide HLen, unhide HF1])]
      rw [es] at h1 h2
      obtain rfl : l5 = l4 := by rw [← h1, add2_len, unhide HF1]
      have HB5 := hide ((unhide HB4).trans (h3.mono (unhide HB4).size))
      have HR5 := hide ((unhide HR4).below h3)
      have HL5 := hide h2
      have HLb := hide ((unhide HLa).below h3)
      have HLf := hide ((unhide HL4).below h3)
      have hbr4 : b1 < w4.heap.size := Nat.lt_of_lt_of_le hb1 (unhide HB4).size
      have x1c : w5.cell? ⟨b1, j, none⟩ = some (.slice p1 l5 q1) := by rw [h3.cell (p := ⟨b1, _, none⟩) hbr4]; exact x1b
      have hcell := (unhide HR5).cell j (by rw [(unhide HRs).1]; omega)
      have hfree := (unhide HR5).1.free j
      have hbb : b1 ≠ b := by have := unhide HBB; omega
      have e5 : rowV (a5, c5, add2 (f j) (turnL (g j) P)) = .slice a5 l5 c5 := by unfold rowV; rw [h1]
      have HR6 := hide ((unhide HR5).set j (a5, c5, add2 (f j) (turnL (g j) P)) (unhide HL5))
      rw [e5] at HR6
      have HLb6 := hide ((unhide HR5).other (unhide HLb) j (.slice a5 l5 c5))
      have HLf6 := hide ((unhide HR5).other (unhide HLf) j (.slice a5 l5 c5))
      have HB6 := hide ((unhide HB5).setCell (p := ⟨b, j, none⟩) (unhide HBB) (.slice a5 l5 c5))
      have x1d : (w5.setCell ⟨b, j, none⟩ (.slice a5 l5 c5)).cell? ⟨b1, j, none⟩ = some (.slice p1 l5 q1) := by
        rw [((Below.refl b w5).setCell (p := ⟨b, j, none⟩) (Nat.le_refl _) (.slice a5 l5 c5)).cell (p := ⟨b1, j, none⟩) (by have := unhide HBB; show b1 < b; omega)]; exact x1c
      generalize rowV (rs.getD j nilR) = z at hcell
      clear h1 h2 h3 e5 es x1b HR4 HL4 HLa HB4 HB5 HL5 HLb HLf HR5
      go_wp2_with fail
      refine (less_any p1 a4 l5 l5 q1 c4 (f j) (turnL (g j) P) _ (unhide HLb6) (unhide HLf6) (unhide HF2) (turn_small _ _ (unhide HG2)) (unhide HF1) (unhide HLen) (by omega) (by omega)).mono ?_
      rintro e w7 ⟨a7, l7, c7, rfl, h1, h2, h3⟩
      have es : less2 (f j) (turnL (g j) P) = lessL (f j) (turnL (g j) P) := by unfold less2; rw [if_pos (by rw [unhide HLen, unhide HF1])]
      rw [es] at h1 h2
      obtain rfl : l7 = l5 := by rw [← h1]; unfold lessL; rw [add2_len, unhide HF1]
      have HB7 := hide ((unhide HB6).trans (h3.mono (unhide HB6).size))
      have HR7 := hide ((unhide HR6).below h3)
      have HL7 := hide h2
      have hcell7 := (unhide HR7).cell (j + m) (by rw [List.length_set, (unhide HRs).1]; omega)
      have hfree7 := (unhide HR7).1.free (j + m)
      have e7 : rowV (a7, c7, lessL (f j) (turnL (g j) P)) = .slice a7 l7 c7 := by unfold rowV; rw [h1]
      have HR8 := hide ((unhide HR7).set (j + m) (a7, c7, lessL (f j) (turnL (g j) P)) (unhide HL7))
      rw [e7] at HR8
      generalize rowV ((rs.set j (a5, c5, add2 (f j) (turnL (g j) P))).getD (j + m) nilR) = z7 at hcell7
      clear h1 h2 h3 e7 es x1c x1d hcell hfree HR6 HR7 HLb6 HLf6 HB6 HL7
      go_wp2
      go_roundw
      case rel =>
        refine ⟨j + 1, _, by omega, by simp, HR8, ?_, (unhide HB7).setCell (unhide HBB) _⟩
        refine ⟨by rw [List.length_set, List.length_set]; exact (unhide HRs).1, fun i hi => ?_⟩
        rw [getDR_set, getDR_set, getDR_set, getDR_set, List.length_set, (unhide HRs).1]
        by_cases c : j = i
        · subst c
          rw [if_neg (by omega), if_pos ⟨rfl, by omega⟩, if_pos ⟨rfl, by omega⟩]
          refine ⟨?_, ?_⟩
          · unfold joinF; rw [if_pos hlt, unhide HP]
          · unfold joinF; rw [if_neg (by omega), Nat.add_sub_cancel, unhide HP]
        · rw [if_neg (by omega), if_neg (fun h => c h.1), if_neg (by omega), if_neg (by omega)]
          exact (unhide HRs).2 i (by omega)
      case measure => simp [intOf]; omega
    · obtain rfl : j = m := by omega
      go_wp2
      go_ret
      refine ⟨_, rfl, ⟨b, rs, rfl, unhide HOr, (unhide HRs).1, fun i hi => ?_⟩, unhide HBr⟩
      by_cases c : i < j
      · exact ((unhide HRs).2 i c).1
      · have := ((unhide HRs).2 (i - j) (by omega)).2
        rwa [Nat.sub_add_cancel (by omega)] at this
end Go.Proofs.YtafbdkebokhnlaaDoor
