/- FrontNil: the walk. -/
import Derived.Test.YtbkdgpeooeokmaaDoorFrontWake
import Derived.Test.YtbkdgpeooeokmaaDoorFrontSets
namespace Go.Proofs.YtbkdgpeooeokmaaDoor
open Go.RowKit
set_option linter.unusedVariables false

theorem nil_spc : Spc 16 3 4 1 9 := ⟨by decide, by decide, by decide, by decide, by decide, by decide, by decide, by decide⟩
theorem tail_rest (w : World) (x y : Int) (a : Option Addr) (n c : Nat) : (Instr.field 40 (.agg #[.int .i64 x, .int .i64 y, .slice a n c]) 2).run Tryd.prog w = .ok (.slice a n c) w := by kernel_rfl
/-- New of any front: a stream, if it is right. -/
theorem new_any (s hop b c pre : Int) (w : World) :
    Calls Tryd.prog 10 #[.agg #[.int .i64 s, .int .i64 hop, .int .i64 b, .int .i64 c, .int .i64 pre]] w fun e w' => ∃ q, e = .returned (.pointer q) ∧ (rightF s hop b c pre → ∃ g, q = some ⟨g, 0, none⟩) ∧ (¬ rightF s hop b c pre → q = none) ∧ Below w.heap.size w w' := by
  by_cases h : rightF s hop b c pre
  · refine (new_made s hop b c pre h w).mono ?_
    rintro e w' ⟨g, rfl, _, _, hb⟩
    exact ⟨_, rfl, fun _ => ⟨g, rfl⟩, fun h' => absurd h h', hb⟩
  · refine (new_no s hop b c pre h w).mono ?_
    rintro e w' ⟨rfl, hb⟩
    exact ⟨_, rfl, fun h' => absurd h' h, fun _ => rfl, hb⟩

set_option maxRecDepth 100000 in
set_option maxHeartbeats 3200000 in
theorem nil_walk (s hop b c pre x : Int) (w : World) (hq : Quar w) :
    Calls Tryd.prog 6 #[.agg #[.int .i64 s, .int .i64 hop, .int .i64 b, .int .i64 c, .int .i64 pre], .int .i64 x] w fun e w' => e = .returned (.bool true) ∧ Below w.heap.size w w' := by
  obtain ⟨F, hF⟩ : ∃ F, w.heap.size = F := ⟨_, rfl⟩
  obtain ⟨W0, hW0⟩ : ∃ W0, w.alloc (.cells #[.int .i64 s, .int .i64 hop, .int .i64 b, .int .i64 c, .int .i64 pre] 27) = W0 := ⟨_, rfl⟩
  have HF := hide (show Cells W0 F [.int .i64 s, .int .i64 hop, .int .i64 b, .int .i64 c, .int .i64 pre] by rw [← hW0, ← hF]; exact cells_new w [.int .i64 s, .int .i64 hop, .int .i64 b, .int .i64 c, .int .i64 pre] _)
  have HB := hide (show Below w.heap.size w W0 by rw [← hW0]; exact alloc_below w _)
  have HQ := hide (hq.below (unhide HB))
  have hfd := tail_count
  have hfd2 := tail_rest
  have hud : ∀ b : Bool, (some undef = some (Value.bool b)) = False := by intro b; simp [undef]
  obtain ⟨r, hr⟩ : ∃ r, decide (rightF s hop b c pre) = r := ⟨_, rfl⟩
  have HR := hide hr
  have HX := hide (show (-32768 ≤ x ∧ x ≤ 32767) ∨ (x < -32768 ∨ (-32768 ≤ x ∧ 32767 < x)) by omega)
  clear hq hr
  go_enter Tryd.func6, Tryd.ntmps6
  go_wp2_with fail
  clear hW0 hF
  refine (push_nil _ _ _ _).mono ?_
  rintro e w1 ⟨rfl, rfl⟩
  go_wp2_with fail
  refine (reset_nil _).mono ?_
  rintro e w1 ⟨rfl, rfl⟩
  go_wp2_with fail
  obtain ⟨w1, hw1⟩ : ∃ w1, W0.alloc (.cells #[.int .i64 x] 3) = w1 := ⟨_, rfl⟩
  rw [hw1]
  have HB1 := hide (show Below w.heap.size w w1 by rw [← hw1]; exact (unhide HB).alloc (unhide HB).size _)
  have HF1 := hide (show Cells w1 F [.int .i64 s, .int .i64 hop, .int .i64 b, .int .i64 c, .int .i64 pre] by rw [← hw1]; exact (unhide HF).alloc _)
  have HQ1 := hide (show Quar w1 by rw [← hw1]; exact (unhide HQ).below (alloc_below W0 _))
  clear hw1
  refine (new_yes 16 3 4 1 9 nil_spc w1).mono ?_
  rintro e w2 ⟨k, rfl, hk, hst, hb⟩
  have HS2 := hide hst
  have HB2 := hide hb
  have HF2 := hide ((unhide HF1).below hb)
  have HQ2 := hide ((unhide HQ1).below hb)
  have hk2 := hst.lt
  have hFk : F < k := by have := (unhide HF1).lt; omega
  clear hst hb
  go_wp2_with fail
  have HLA := hide (lies_new w2 [1, 2] w2.heap.size rfl)
  obtain ⟨w3, hw3⟩ : ∃ w3, w2.alloc (.cells #[.int .i64 1, .int .i64 2] 3) = w3 := ⟨_, rfl⟩
  rw [hw3]
  have HB3 := hide (show Below w2.heap.size w2 w3 by rw [← hw3]; exact alloc_below w2 _)
  have HL3 := hide (show Lies w3 (some ⟨w2.heap.size, 0, none⟩) [1, 2] by rw [← hw3]; exact unhide HLA)
  clear hw3 HLA
  refine (push_any k 16 3 4 1 9 nil_spc stNone (stOk_none 16 (by decide)) _ 2 2 [1, 2] w3 ((unhide HS2).below (unhide HB3)) (unhide HL3) rfl (by decide) (fun y hy => by simp at hy; rcases hy with rfl | rfl <;> (unfold Smp; decide)) (fun _ q hq => by cases hq; show w2.heap.size ≠ k; omega) (by decide) ((unhide HQ2).below (unhide HB3))).mono ?_
  rintro e w4 ⟨v4, rs4, rfl, _, _, _, hs4, hon4⟩
  obtain ⟨t1, ht1⟩ : ∃ t, stPush 16 3 9 stNone [1, 2] = t := ⟨_, rfl⟩
  have HOK := hide (show StOk 16 t1 by rw [← ht1]; exact stOk_push nil_spc (stOk_none 16 (by decide)) _ (fun y hy => by simp at hy; rcases hy with rfl | rfl <;> (unfold Smp; decide)))
  have HN1 := hide (show t1.n = 2 by rw [← ht1]; rfl)
  rw [ht1] at hs4
  have HS4 := hide hs4
  have HO4 := hide ((Only.of_below (c := k) (unhide HB3)).trans hon4)
  have HF4 := hide ((unhide HF2).only (unhide HO4) (by omega))
  have HQ4 := hide (show Quar w4 from ⟨by have := (unhide HQ2).1; have := (unhide HO4).size; omega, fun i hi => (World.cell?_of_block ((unhide HO4).block 0 (unhide HQ2).1 (by omega))).trans ((unhide HQ2).2 i hi)⟩)
  have HB4 := hide (show Below w.heap.size w w4 from (below_trans (unhide HB1) (unhide HB2)).trans ((unhide HO4).below (by have := (unhide HB1).size; omega) (by have := (unhide HB1).size; have := (unhide HB2).size; omega)))
  clear hs4 hon4 ht1
  go_wp2_with fail
  have HLA := hide (lies_new w4 [3, x] w4.heap.size rfl)
  obtain ⟨w5, hw5⟩ : ∃ w5, w4.alloc (.cells #[.int .i64 3, .int .i64 x] 3) = w5 := ⟨_, rfl⟩
  rw [hw5]
  have HB5 := hide (show Below w4.heap.size w4 w5 by rw [← hw5]; exact alloc_below w4 _)
  have HL5 := hide (show Lies w5 (some ⟨w4.heap.size, 0, none⟩) [3, x] by rw [← hw5]; exact unhide HLA)
  have hk4 := (unhide HS4).lt
  clear hw5 HLA
  rcases unhide HX with hx | hx
  case' inl =>
    refine (push_any k 16 3 4 1 9 nil_spc t1 (unhide HOK) _ 2 2 [3, x] w5 ((unhide HS4).below (unhide HB5)) (unhide HL5) rfl (by decide) (fun y hy => by simp at hy; rcases hy with rfl | rfl <;> (unfold Smp; omega)) (fun _ q hq => by cases hq; show w4.heap.size ≠ k; omega) (by rw [unhide HN1]; decide) ((unhide HQ4).below (unhide HB5))).mono ?_
    rintro e w6 ⟨v6, rs6, rfl, _, _, _, hs6, hon6⟩
    have HE := hide (show ((stPush 16 3 9 t1 [3, x]).n : Int) = 4 by show ((t1.n + 2 : Nat) : Int) = 4; rw [unhide HN1]; rfl)
    have HOK6 := hide (stOk_push nil_spc (unhide HOK) [3, x] (fun y hy => by simp at hy; rcases hy with rfl | rfl <;> (unfold Smp; omega)))
    obtain ⟨t2, ht2⟩ : ∃ t, stPush 16 3 9 t1 [3, x] = t := ⟨_, rfl⟩
    rw [ht2] at HE HOK6 hs6
    have hx1 : -32768 ≤ x := hx.1
    have hx2 : x ≤ 32767 := hx.2
    clear ht2 hx
  case' inr =>
    refine (push_range k 16 3 4 1 9 nil_spc t1 _ 2 2 [3, x] w5 ((unhide HS4).below (unhide HB5)) (unhide HL5) rfl (by decide) (allIn_no [3, x] _ _ 1 (by show 1 < 2; decide) (by show ¬ (-32768 ≤ x ∧ x ≤ 32767); omega))).mono ?_
    rintro e w6 ⟨rfl, hb6⟩
    have hs6 := ((unhide HS4).below (unhide HB5)).below hb6
    have hon6 : Only k w5 w6 := Only.of_below hb6
    have HE := hide (show (t1.n : Int) = 2 by rw [unhide HN1]; rfl)
    have HOK6 := HOK
    obtain ⟨t2, rfl⟩ : ∃ t, t = t1 := ⟨_, rfl⟩
    clear hb6
  all_goals (
    have HS6 := hide hs6
    have HO6 := hide ((Only.of_below (c := k) (unhide HB5)).trans hon6)
    have HF6 := hide ((unhide HF4).only (unhide HO6) (by omega))
    have HQ6 := hide (show Quar w6 from ⟨by have := (unhide HQ4).1; have := (unhide HO6).size; omega, fun i hi => (World.cell?_of_block ((unhide HO6).block 0 (unhide HQ4).1 (by omega))).trans ((unhide HQ4).2 i hi)⟩)
    have HB6 := hide (show Below w.heap.size w w6 from (unhide HB4).trans ((unhide HO6).below (by have := (unhide HB1).size; omega) (unhide HB4).size))
    clear hs6 hon6)
  case' inr => rcases hx with hx | ⟨hx, hx'⟩
  all_goals (
    have f0 := (unhide HF6).cell 0 _ rfl
    have f1 := (unhide HF6).cell 1 _ rfl
    have f2 := (unhide HF6).cell 2 _ rfl
    have f3 := (unhide HF6).cell 3 _ rfl
    have f4 := (unhide HF6).cell 4 _ rfl
    go_wp2_with fail
    refine (rright_any s hop b c pre w6).mono ?_
    rintro e w7 ⟨rfl, hb7⟩
    rw [unhide HR]
    have HB7 := hide hb7
    clear hb7 f0 f1 f2 f3 f4
    go_wp2_with fail
    refine (awake_any w7 ((unhide HQ6).below (unhide HB7))).mono ?_
    rintro e w8 ⟨rfl, hb8⟩
    have HB8 := hide (below_trans (unhide HB7) hb8)
    clear hb8
    go_wp2_with fail
    refine (count_nil w8).mono ?_
    rintro e w9 ⟨rfl, hb9⟩
    have HB9 := hide (below_trans (unhide HB8) hb9)
    clear hb9
    go_wp2_with fail
    refine (tail_nil w9).mono ?_
    rintro e w10 ⟨rfl, hb10⟩
    have HB10 := hide (below_trans (unhide HB9) hb10)
    clear hb10
    go_wp2_with fail
    refine (tail_nil w10).mono ?_
    rintro e w11 ⟨rfl, hb11⟩
    have HB11 := hide (below_trans (unhide HB10) hb11)
    clear hb11
    go_wp2_with fail
    refine (set_nil 0 0 w11).mono ?_
    rintro e w12 ⟨rfl, hb12⟩
    have HB12 := hide (below_trans (unhide HB11) hb12)
    clear hb12
    have f0 := ((unhide HF6).below (unhide HB12)).cell 0 _ rfl
    have f1 := ((unhide HF6).below (unhide HB12)).cell 1 _ rfl
    have f2 := ((unhide HF6).below (unhide HB12)).cell 2 _ rfl
    have f3 := ((unhide HF6).below (unhide HB12)).cell 3 _ rfl
    have f4 := ((unhide HF6).below (unhide HB12)).cell 4 _ rfl
    go_wp2_with fail
    refine (new_any s hop b c pre w12).mono ?_
    rintro e w13 ⟨q, rfl, hy, hno, hb13⟩
    have HB13 := hide (below_trans (unhide HB12) hb13)
    have HQQ := hide (show (r = true → ∃ g, q = some ⟨g, 0, none⟩) ∧ (r = false → q = none) from ⟨fun e => hy (of_decide_eq_true ((unhide HR).trans e)), fun e => hno (of_decide_eq_false ((unhide HR).trans e))⟩)
    clear hb13 hy hno f0 f1 f2 f3 f4
    have hll : t2.rest.length ≤ 1000000 := by have := (unhide HOK6).few; omega
    have HLL := hide hll
    clear hll
    cases r
    case' false =>
      obtain rfl := (unhide HQQ).2 rfl
    case' true =>
      obtain ⟨g, rfl⟩ := (unhide HQQ).1 rfl
    all_goals (
      go_wp2_with fail
      refine (count_any k 16 3 4 1 9 t2 w13 ((unhide HS6).below (unhide HB13)) (unhide HLL)).mono ?_
      rintro e w14 ⟨rfl, hb14⟩
      rw [unhide HE]
      have HB14 := hide (below_trans (below_trans (unhide HB6) (unhide HB13)) hb14)
      clear hb14
      go_wp2
      go_ret
      exact ⟨rfl, unhide HB14⟩))
end Go.Proofs.YtbkdgpeooeokmaaDoor
