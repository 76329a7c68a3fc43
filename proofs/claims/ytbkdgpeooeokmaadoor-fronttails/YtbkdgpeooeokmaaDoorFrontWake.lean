/- Rows of frames that were told; the chapter's example. -/
import Derived.Test.YtbkdgpeooeokmaaDoorFrontTailc
namespace Go.Proofs.YtbkdgpeooeokmaaDoor
open Go.RowKit
set_option linter.unusedVariables false

/-- A row of frames that was told: where it lies, and how many. -/
theorem told_form {w : World} {base lo : Nat} {v : Value} {rs : List Rr} {L : List (List Int)} (h : w.ownsRow base 24 1 v rs.length (rs.map rowV)) (hf : ∀ r ∈ rs, FRow lo w r) (hm : rs.map (fun r => r.2.2) = L) :
    ∃ a c, v = .slice a L.length c ∧ rs.length = L.length ∧ L.length ≤ c ∧ LiesRR w a rs := by
  have hlen : rs.length = L.length := by rw [← hm, List.length_map]
  rcases h.2 with ⟨h', h''⟩ | ⟨g, cap, cur, h1, h2, h3, h4, _⟩
  · subst h'
    exact ⟨none, 0, by rw [← hlen, h''], hlen, by omega, .inl (List.length_eq_zero_iff.1 h'')⟩
  · refine ⟨_, _, by rw [h1, hlen], hlen, by omega, .inr ⟨g, 0, rfl, (Array.getElem?_eq_some_iff.1 h3).1, fun j hj => ?_⟩⟩
    have hc := (by rw [h1] at h; exact h : w.ownsRow base 24 1 (.slice (some ⟨g, 0, none⟩) rs.length cap) rs.length (rs.map rowV)).cellAt j (by simpa using hj)
    have e : rs.getD j nilR = rs[j] := by simp [List.getD_eq_getElem?_getD, List.getElem?_eq_getElem hj]
    obtain ⟨b, _, _, _, hl⟩ := hf _ (List.getElem_mem hj)
    rw [Nat.zero_add, hc, e]
    exact ⟨by simp [List.getElem?_eq_getElem hj], hl⟩
theorem told_get {rs : List Rr} {L : List (List Int)} (hm : rs.map (fun r => r.2.2) = L) (j : Nat) : (rs.getD j nilR).2.2 = L.getD j [] := by
  rw [← hm]
  simp only [List.getD_eq_getElem?_getD, List.getElem?_map]
  cases rs[j]? <;> rfl
theorem stTold_len {β : Type} (g : List Int → β) (s p : Nat) (pre : Int) (t : StD) (ys : List Int) : (stTold g s p pre t ys).length = framesN s p (t.rest.length + ys.length) := by
  unfold stTold; rw [told_count, List.length_append, flat_len]
theorem stPush_rest (s p : Nat) (pre : Int) (t : StD) (ys : List Int) : (stPush s p pre t ys).rest.length = t.rest.length + ys.length - framesN s p (t.rest.length + ys.length) * p := by
  show (restF s p _).length = _
  rw [rest_len, List.length_append, flat_len]
theorem stTold_mem (n B C s p : Nat) (pre : Int) (t : StD) (ys : List Int) (j : Nat) (h : j < framesN s p (t.rest.length + ys.length)) : ((stTold (frameI n B C) s p pre t ys).getD j []).length = C := by
  have hl := stTold_len (frameI n B C) s p pre t ys
  unfold stTold toldF at hl ⊢
  have hj : j < ((List.range (framesN s p (t.rest ++ flatFrom pre t.last ys).length)).map fun i => frameI n B C (cutF s p (t.rest ++ flatFrom pre t.last ys) i)).length := by rw [hl]; exact h
  simp only [List.getD_eq_getElem?_getD, List.getElem?_eq_getElem hj, Option.getD_some, List.getElem_map]
  exact frame_len _ _ _ _

theorem wake_spc : Spc 16 8 4 2 0 := ⟨by decide, by decide, by decide, by decide, by decide, by decide, by decide, by decide⟩

set_option maxRecDepth 100000 in
set_option maxHeartbeats 1600000 in
theorem awake_any (w : World) (hq : Quar w) : Calls Tryd.prog 7 #[] w fun e w' => e = .returned (.bool true) ∧ Below w.heap.size w w' := by
  obtain ⟨i0, hi, hz0, hz1, hz2⟩ := info_parts Tryd.info3
  have HQ := hide hq
  clear hq
  go_enter Tryd.func7, Tryd.ntmps7
  go_wp2_with fail
  refine (new_yes 16 8 4 2 0 wake_spc w).mono ?_
  rintro e w1 ⟨c, rfl, hcw, hst, hb⟩
  have HS1 := hide hst
  have HB1 := hide hb
  have hc1 := hst.lt
  clear hst hb
  go_wp2_with (at_make; refine wpList_make_full _ rfl _ _ 24 rfl w1.heap.size 3 i0 (.int .i64 0) 1 Tryd.underlying24 hi hz0 hz1 _ _ _ _ 31 rfl rfl rfl rfl ?m1 ?m2 ?m3 ?_)
  case m1 => rw [hz2]; decide
  case m2 => decide
  case m3 => exact Nat.le_refl _
  intro w2 hown hgr
  rw [ints_zero] at hown
  have hL2 := (own_cells hown).lies
  have HB12 := hide ((Below.refl w1.heap.size w1).grown hgr (Nat.le_refl _) (fun _ h => by cases h))
  have HL2 := hide hL2
  clear hL2 hown hgr
  go_wp2_with fail
  refine (push_any c 16 8 4 2 0 wake_spc stNone (stOk_none 16 (by decide)) _ 31 31 (List.replicate 31 0) w2 ((unhide HS1).below (unhide HB12)) (unhide HL2) (by simp) (by decide) (fun y hy => by obtain rfl := List.eq_of_mem_replicate hy; unfold Smp; decide) (fun _ q hq => by cases hq; show w1.heap.size ≠ c; omega) (by decide) ((unhide HQ).below (below_trans (unhide HB1) (unhide HB12)))).mono ?_
  rintro e w3 ⟨v3, rs3, rfl, ho3, hf3, hm3, hs3, hon3⟩
  obtain ⟨a3, c3, rfl, _, _, _⟩ := told_form ho3 hf3 hm3
  rw [show (stTold (frameI 16 4 2) 16 8 0 stNone (List.replicate 31 0)).length = 2 by rw [stTold_len]; decide]
  obtain ⟨t1, ht1⟩ : ∃ t, stPush 16 8 0 stNone (List.replicate 31 0) = t := ⟨_, rfl⟩
  have hok1 : StOk 16 t1 := by rw [← ht1]; exact stOk_push wake_spc (stOk_none 16 (by decide)) _ (fun y hy => by obtain rfl := List.eq_of_mem_replicate hy; unfold Smp; decide)
  have hn1 : t1.n = 31 := by rw [← ht1]; rfl
  have hr1 : t1.rest.length = 15 := by rw [← ht1, stPush_rest]; decide
  rw [ht1] at hs3
  have HS3 := hide hs3
  have HOK := hide hok1
  have HN1 := hide hn1
  have HR1 := hide hr1
  have HB3 := hide (show Below w.heap.size w w3 from (below_trans (unhide HB1) (unhide HB12)).trans (hon3.below hcw (below_trans (unhide HB1) (unhide HB12)).size))
  clear ho3 hf3 hm3 hs3 hon3 ht1 hok1 hn1 hr1
  go_wp2_with fail
  have hc3 := (unhide HS3).lt
  refine (push_any c 16 8 4 2 0 wake_spc t1 (unhide HOK) _ 1 1 [5] _ ((unhide HS3).below (alloc_below w3 _)) (lies_new w3 [5] _ rfl) rfl (by decide) (fun y hy => by simp at hy; subst hy; unfold Smp; decide) (fun _ q hq => by cases hq; show w3.heap.size ≠ c; omega) (by rw [unhide HN1]; decide) (((unhide HQ).below (unhide HB3)).below (alloc_below w3 _))).mono ?_
  rintro e w5 ⟨v5, rs5, rfl, ho5, hf5, hm5, hs5, hon5⟩
  have hll : (stTold (frameI 16 4 2) 16 8 0 t1 [5]).length = 1 := by rw [stTold_len, unhide HR1]; decide
  obtain ⟨a5, c5, rfl, hl5, _, hR5⟩ := told_form ho5 hf5 hm5
  have hmem := stTold_mem 16 4 2 16 8 0 t1 [5] 0 (by rw [unhide HR1]; decide)
  rw [hll] at hl5 ⊢
  obtain ⟨bb, ob, rfl, hbb, hcb⟩ := hR5.some (by intro e; subst e; simp at hl5)
  have cb : w5.cell? ⟨bb, ob, none⟩ = some (.slice (rs5.getD 0 nilR).1 2 (rs5.getD 0 nilR).2.1) := by
    have := (hcb 0 (by omega)).1
    rw [Nat.add_zero] at this
    rw [this]
    unfold rowV
    rw [told_get hm5 0, hmem]
  generalize (rs5.getD 0 nilR).1 = pa at cb
  generalize (rs5.getD 0 nilR).2.1 = pc at cb
  have hn2 : ((stPush 16 8 0 t1 [5]).n : Int) = 32 := by show ((t1.n + 1 : Nat) : Int) = 32; rw [unhide HN1]; rfl
  have hr2 : (stPush 16 8 0 t1 [5]).rest.length ≤ 1000000 := by rw [stPush_rest, unhide HR1]; decide
  have HS5 := hide hs5
  have HN2 := hide hn2
  have HR2 := hide hr2
  have HB5 := hide (show Below w.heap.size w w5 from ((unhide HB3).alloc (unhide HB3).size _).trans (hon5.below hcw (by have := (unhide HB3).size; simp; omega)))
  clear hmem hll hl5 hR5 hcb ho5 hf5 hm5 hs5 hon5 hn2 hr2
  go_wp2_with fail
  refine (count_any c 16 8 4 2 0 _ w5 (unhide HS5) (unhide HR2)).mono ?_
  rintro e w6 ⟨rfl, hb6⟩
  rw [unhide HN2]
  have HB6 := hide (below_trans (unhide HB5) hb6)
  clear hb6
  go_wp2
  go_ret
  exact ⟨rfl, unhide HB6⟩
end Go.Proofs.YtbkdgpeooeokmaaDoor
