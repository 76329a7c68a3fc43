/- Rows of frames: where they lie; that two are the same. -/
import Derived.Test.YtbkdgpeooeokmaaDoorFrontSpec
namespace Go.Proofs.YtbkdgpeooeokmaaDoor
open Go.RowKit
set_option linter.unusedVariables false

theorem Tryd.infoRow : (Tryd.prog.info? 24).map (fun i => (i.zero, i.size, i.bytes)) = some (some (.slice none 0 0), 1, 24) := by kernel_rfl

/-- A row of rows lies somewhere, from some place of a block on. -/
def LiesRR (w : World) (a : Option Addr) (rs : List Rr) : Prop := rs = [] ∨ ∃ b off, a = some ⟨b, off, none⟩ ∧ b < w.heap.size ∧ ∀ j, j < rs.length → w.cell? ⟨b, off + j, none⟩ = some (rowV (rs.getD j nilR)) ∧ Lies w (rs.getD j nilR).1 (rs.getD j nilR).2.2
theorem LiesRR.below {w w' : World} {a : Option Addr} {rs : List Rr} (h : LiesRR w a rs) (hb : Below w.heap.size w w') : LiesRR w' a rs := by
  rcases h with h | ⟨b, off, h1, h2, h3⟩
  · exact .inl h
  · exact .inr ⟨b, off, h1, Nat.lt_of_lt_of_le h2 hb.size, fun j hj => ⟨by rw [hb.cell (p := ⟨b, off + j, none⟩) h2]; exact (h3 j hj).1, (h3 j hj).2.below hb⟩⟩
theorem LiesRR.some {w : World} {a : Option Addr} {rs : List Rr} (h : LiesRR w a rs) (h0 : rs ≠ []) : ∃ b off, a = Option.some ⟨b, off, none⟩ ∧ b < w.heap.size ∧ ∀ j, j < rs.length → w.cell? ⟨b, off + j, none⟩ = Option.some (rowV (rs.getD j nilR)) ∧ Lies w (rs.getD j nilR).1 (rs.getD j nilR).2.2 := by
  rcases h with h | h
  · exact absurd h h0
  · exact h
/-- A part of it. -/
theorem LiesRR.part {w : World} {b off : Nat} {rs : List Rr} (h : LiesRR w (Option.some ⟨b, off, none⟩) rs) (p m : Nat) (hm : p + m ≤ rs.length) : LiesRR w (Option.some ⟨b, off + p, none⟩) ((rs.drop p).take m) := by
  by_cases h0 : rs = []
  · subst h0; left; simp
  · obtain ⟨b', off', hb, hlt, hc⟩ := h.some h0
    cases hb
    refine .inr ⟨b, off + p, rfl, hlt, fun j hj => ?_⟩
    have hjm : j < m := by have := hj; rw [List.length_take] at this; omega
    have e : ((rs.drop p).take m).getD j nilR = rs.getD (p + j) nilR := by
      simp [List.getD_eq_getElem?_getD, List.getElem?_drop, hjm]
    rw [e, show off + p + j = off + (p + j) by omega]
    exact hc (p + j) (by omega)

set_option maxRecDepth 100000 in
theorem rows_same (a a' : Option Addr) (ca ca' n : Nat) (rs rt : List Rr) (w : World) (h : LiesRR w a rs) (k : LiesRR w a' rt) (hn : rs.length = n) (hm : rt.length = n) (hn63 : n ≤ 1000000)
    (he : ∀ j, j < n → (rs.getD j nilR).2.2 = (rt.getD j nilR).2.2 ∧ (rs.getD j nilR).2.2.length ≤ 1000000) :
    Calls Tryd.prog 14 #[.slice a n ca, .slice a' n ca'] w fun e w' => e = .returned (.bool true) ∧ Below w.heap.size w w' := by
  have H := hide h
  have K := hide k
  have HE := hide he
  have HN := hide hn
  have HM := hide hm
  clear h k he hn hm
  go_enter Tryd.func14, Tryd.ntmps14
  go_wp2
  go_loopw [5] (fun i wr => ∃ j : Nat, j ≤ n ∧ i = .int .i64 (j : Int) ∧ Hid (Below w.heap.size w wr))
    (fun i _ => n - (intOf i).toNat)
  case atStart => exact ⟨0, by omega, rfl, Below.refl _ _⟩
  case round =>
    obtain ⟨j, hj, rfl, HBr⟩ := hrel
    by_cases hlt : j < n
    · obtain ⟨b1, o1, rfl, hl1, hc1⟩ := (unhide H).some (by intro h; have := unhide HN; subst h; simp at this; omega)
      obtain ⟨b2, o2, rfl, hl2, hc2⟩ := (unhide K).some (by intro h; have := unhide HM; subst h; simp at this; omega)
      obtain ⟨c1, L1⟩ := hc1 j (by rw [unhide HN]; exact hlt)
      obtain ⟨c2, L2⟩ := hc2 j (by rw [unhide HM]; exact hlt)
      obtain ⟨e1, e2⟩ := unhide HE j hlt
      obtain ⟨⟨p1, q1, X⟩, hr1⟩ : ∃ r : Rr, rs.getD j nilR = r := ⟨_, rfl⟩
      obtain ⟨⟨p2, q2, Y⟩, hr2⟩ : ∃ r : Rr, rt.getD j nilR = r := ⟨_, rfl⟩
      rw [hr1] at c1 L1 e1 e2
      rw [hr2] at c2 L2 e1
      have e1 : X = Y := e1
      subst e1
      obtain ⟨l, hXl⟩ : ∃ l, X.length = l := ⟨_, rfl⟩
      have d1 : wr.cell? ⟨b1, o1 + j, none⟩ = some (.slice p1 l q1) := by rw [(unhide HBr).cell (p := ⟨b1, _, none⟩) hl1, c1, ← hXl]; rfl
      have d2 : wr.cell? ⟨b2, o2 + j, none⟩ = some (.slice p2 l q2) := by rw [(unhide HBr).cell (p := ⟨b2, _, none⟩) hl2, c2, ← hXl]; rfl
      have HX := hide (And.intro hXl (And.intro (L1.below (unhide HBr)) (L2.below (unhide HBr))))
      have hle : l ≤ 1000000 := by rw [← hXl]; exact e2
      have hjn : (j : Int) < (n : Int) := by omega
      clear hc1 hc2 c1 c2 L1 L2 e2 hr1 hr2 hXl
      have D1 := (unhide HX).2.1.below (show Below wr.heap.size wr wr.drew from ⟨rfl, rfl, rfl, Nat.le_refl _, fun _ _ => rfl⟩)
      have D2 := (unhide HX).2.2.below (show Below wr.heap.size wr wr.drew from ⟨rfl, rfl, rfl, Nat.le_refl _, fun _ _ => rfl⟩)
      have hXl := (unhide HX).1
      have keep : ∀ {w' : World}, Below wr.heap.size wr w' → w'.cell? ⟨b1, o1 + j, none⟩ = some (.slice p1 l q1) ∧ w'.cell? ⟨b2, o2 + j, none⟩ = some (.slice p2 l q2) := fun hb =>
        ⟨(hb.cell (p := ⟨b1, _, none⟩) (lt_of_cell d1)).trans d1, (hb.cell (p := ⟨b2, _, none⟩) (lt_of_cell d2)).trans d2⟩
      go_wp2_with fail
      go_region_held3 (fun w' => w'.cell? ⟨b1, o1 + j, none⟩ = some (.slice p1 l q1) ∧ w'.cell? ⟨b2, o2 + j, none⟩ = some (.slice p2 l q2)) (first | exact ⟨d1, d2⟩ | exact keep (spin_undrew hb3)) ((go_at_call 17; go_must (with_reducible refine (same_any p1 p2 q1 q2 X l hXl hle wr.drew D1 D2).mono ?_); rintro e w3 ⟨rfl, hb3⟩))
      have HB3 := hide ((unhide HBr).trans ((spin_undrew hb3).mono (unhide HBr).size))
      clear keep hb3 D1 D2 d1 d2 hXl
      go_wp2
      go_roundw
      case rel => exact ⟨j + 1, by omega, by simp, HB3⟩
      case measure => simp [intOf]; omega
    · have hge : ¬ (j : Int) < (n : Int) := by omega
      go_wp2
      go_ret
      exact ⟨rfl, unhide HBr⟩
end Go.Proofs.YtbkdgpeooeokmaaDoor
