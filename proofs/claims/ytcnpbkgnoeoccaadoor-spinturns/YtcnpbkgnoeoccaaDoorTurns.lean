/- SpinTurns returns true. -/
import Derived.Test.YtcnpbkgnoeoccaaDoorTells
namespace Go.Proofs.YtcnpbkgnoeoccaaDoor
open Go.RowKit
set_option linter.unusedVariables false

theorem putAll_zero (ops : Array Oper) (vals : Nat → Value) (a : Act) : putAll ops vals 0 a = a := rfl
def G59 (ad : Option Addr) (n cap : Nat) (fx : List Int) : Nat → Value → World → Prop
  | 0, v, w => v = .slice ad n cap
  | 1, v, w => v = .int .i64 (n : Int)
  | 2, v, w => ∃ a c, v = .slice a n c ∧ Lies w a (turnL fx (n : Int))
  | 3, v, w => v = .slice ad n cap
  | 4, v, w => ∃ b a c, v = .slice (some ⟨b, 0, none⟩) 2 2 ∧ LiesR w b [(a, c, turnL fx (n : Int)), (ad, cap, fx)]
  | 5, v, w => ∃ a c, v = .slice a n c ∧ Lies w a (List.replicate n 0)
  | 6, v, w => v = .int .i64 (n : Int)
  | 7, v, w => ∃ a c, v = .slice a n c ∧ Lies w a (List.replicate n 0)
  | 8, v, w => v = .bool true
  | 9, v, w => v = .bool true
  | _, _, _ => True
theorem G59.mono (ad : Option Addr) (n cap : Nat) (fx : List Int) {W W' : World} (hb : Below W.heap.size W W') : ∀ j u, G59 ad n cap fx j u W → G59 ad n cap fx j u W'
  | 0, u, h => h
  | 1, u, h => h
  | 2, u, h => let ⟨a, c, e, hl⟩ := h; ⟨a, c, e, hl.below hb⟩
  | 3, u, h => h
  | 4, u, h => let ⟨b, a, c, e, hl⟩ := h; ⟨b, a, c, e, hl.below hb⟩
  | 5, u, h => let ⟨a, c, e, hl⟩ := h; ⟨a, c, e, hl.below hb⟩
  | 6, u, h => h
  | 7, u, h => let ⟨a, c, e, hl⟩ := h; ⟨a, c, e, hl.below hb⟩
  | 8, u, h => h
  | 9, u, h => h
  | _ + 10, _, _ => trivial

set_option maxRecDepth 100000 in
set_option maxHeartbeats 3200000 in
theorem turns_walk (ad : Option Addr) (len cap : Nat) (zx : List Int) (q0 q1 : Int) (w : World) (hx : IsRow .i64 w ad len cap zx) (h0 : In64 q0) (h1 : In64 q1) (hq : Quar w) :
    Calls Tryd.prog 4 #[.slice ad len cap, .agg #[.int .i64 q0, .int .i64 q1]] w fun e w' => e = .returned (.bool true) ∧ Below w.heap.size w w' := by
  obtain ⟨i0, hi, hz0, hz1, hz2⟩ := info_parts Tryd.info3
  obtain ⟨fx, hf40, hfc, hfm, hfl, hfs, hfn, hfew⟩ := few_came ad len cap zx w hx
  obtain ⟨n, hn⟩ : ∃ n, fx.length = n := ⟨_, rfl⟩
  rw [hn] at hfew hf40
  obtain ⟨x, hxx⟩ : ∃ x, q0 / 8 = x := ⟨_, rfl⟩
  obtain ⟨y, hyy⟩ : ∃ y, q1 / 8 = y := ⟨_, rfl⟩
  have hx1 : -1152921504606846976 ≤ x := by unfold In64 at h0; omega
  have hx2 : x ≤ 1152921504606846975 := by unfold In64 at h0; omega
  have hy1 : -1152921504606846976 ≤ y := by unfold In64 at h1; omega
  have hy2 : y ≤ 1152921504606846975 := by unfold In64 at h1; omega
  have HV := hide hfl
  have HQ := hide hq
  have HF := hide hfew
  have HN := hide hn
  have HA := hide hxx
  have HBB := hide hyy
  have HX64 := hide (show In64 x by unfold In64; omega)
  have HY64 := hide (show In64 y by unfold In64; omega)
  have HXY := hide (show In64 (x + y) by unfold In64; omega)
  have HM64 := hide (show In64 (-x) by unfold In64; omega)
  have HZ := hide (show sum2 (turnL fx (n : Int)) fx = List.replicate n 0 by unfold sum2; rw [turn_len, if_pos rfl]; exact add_signs fx n hn hfs)
  clear hx hfl hq hfew hn h0 h1 hxx hyy hfc hfm hfn
  go_enter Tryd.func4, Tryd.ntmps4
  have HB0 := hide (alloc_below w (.cells #[.int .i64 q0, .int .i64 q1] 23))
  have HV0 := hide ((unhide HV).below (unhide HB0))
  have HQ0 := hide ((unhide HQ).below (unhide HB0))
  have HC0 := hide (cells_new w [.int .i64 q0, .int .i64 q1] 23)
  clear HV HQ
  go_wp2_with fail
  refine (awake_any _ (unhide HQ0)).mono ?_
  rintro e w1 ⟨rfl, hb⟩
  have HV1 := hide ((unhide HV0).below hb)
  have HQ1 := hide ((unhide HQ0).below hb)
  have HB1 := hide (below_trans (unhide HB0) hb)
  have HC1 := hide ((unhide HC0).below hb)
  clear hb HV0 HQ0 HB0 HC0
  clear HQ1
  go_wp2_with fail
  refine (unhide HF _).mono ?_
  rintro e w2 ⟨rfl, rfl⟩
  have k0 := (unhide HC1).cell 0 _ rfl
  have k1 := (unhide HC1).cell 1 _ rfl
  go_wp2_with fail
  clear k0 k1
  rw [unhide HA, unhide HBB]
  refine (turn_told ad cap fx n x _ (unhide HV1) hfs (unhide HN) (by omega) (unhide HX64)).mono ?_
  rintro e w3 ht
  obtain ⟨a3, c3, rfl, hl, hb⟩ := told_len ht (show (turnL fx x).length = n by rw [turn_len]; exact unhide HN)
  have HV3 := hide ((unhide HV1).below hb)
  have HB3 := hide (below_trans (unhide HB1) hb)
  have HC3 := hide ((unhide HC1).below hb)
  have HX3 := hide hl
  clear ht hl hb HV1 HB1 HC1
  go_wp2_with fail
  refine (turn_told a3 c3 (turnL fx x) n y _ (unhide HX3) (turn_small _ _ hfs) (by rw [turn_len]; exact unhide HN) (by omega) (unhide HY64)).mono ?_
  rintro e w4 ht
  obtain ⟨a4, c4, rfl, hl, hb⟩ := told_len ht (show (turnL (turnL fx x) y).length = n by rw [turn_len, turn_len]; exact unhide HN)
  have HV4 := hide ((unhide HV3).below hb)
  have HB4 := hide (below_trans (unhide HB3) hb)
  have HC4 := hide ((unhide HC3).below hb)
  have HX4 := hide ((unhide HX3).below hb)
  have HE4 := hide hl
  clear ht hl hb HV3 HB3 HC3 HX3
  rw [turn_turn fx x y hfs] at HE4
  go_wp2_with fail
  refine (turn_told ad cap fx n (x + y) _ (unhide HV4) hfs (unhide HN) (by omega) (unhide HXY)).mono ?_
  rintro e w5 ht
  obtain ⟨a5, c5, rfl, hl, hb⟩ := told_len ht (show (turnL fx (x + y)).length = n by rw [turn_len]; exact unhide HN)
  have HV5 := hide ((unhide HV4).below hb)
  have HB5 := hide (below_trans (unhide HB4) hb)
  have HC5 := hide ((unhide HC4).below hb)
  have HX5 := hide ((unhide HX4).below hb)
  have HE5 := hide ((unhide HE4).below hb)
  have HG5 := hide hl
  clear ht hl hb HV4 HB4 HC4 HX4 HE4
  go_wp2_with fail
  refine (same_any a4 a5 c4 c5 (turnL fx (x + y)) n (by rw [turn_len]; exact unhide HN) (by omega) _ (unhide HE5) (unhide HG5)).mono ?_
  rintro e w6 ⟨rfl, hb⟩
  have HV6 := hide ((unhide HV5).below hb)
  have HB6 := hide (below_trans (unhide HB5) hb)
  have HC6 := hide ((unhide HC5).below hb)
  have HX6 := hide ((unhide HX5).below hb)
  have HE6 := hide ((unhide HE5).below hb)
  have HG6 := hide ((unhide HG5).below hb)
  clear hb HV5 HB5 HC5 HX5 HE5 HG5
  clear HX6 HE6 HG6
  go_wp2_with fail
  refine (turn_told ad cap fx n (2 * (n : Int)) _ (unhide HV6) hfs (unhide HN) (by omega) (by unfold In64; omega)).mono ?_
  rintro e w7 ht
  obtain ⟨a7, c7, rfl, hl, hb⟩ := told_len ht (show (turnL fx (2 * (n : Int))).length = n by rw [turn_len]; exact unhide HN)
  have HV7 := hide ((unhide HV6).below hb)
  have HB7 := hide (below_trans (unhide HB6) hb)
  have HC7 := hide ((unhide HC6).below hb)
  have HX7 := hide hl
  clear ht hl hb HV6 HB6 HC6
  rw [turn_two fx n (unhide HN)] at HX7
  go_wp2_with fail
  refine (same_any a7 ad c7 cap fx n (unhide HN) (by omega) _ (unhide HX7) (unhide HV7)).mono ?_
  rintro e w8 ⟨rfl, hb⟩
  have HV8 := hide ((unhide HV7).below hb)
  have HB8 := hide (below_trans (unhide HB7) hb)
  have HC8 := hide ((unhide HC7).below hb)
  have HX8 := hide ((unhide HX7).below hb)
  clear hb HV7 HB7 HC7 HX7
  clear HX8
  go_wp2
  refine region_ssa2 (fun _ W => Below w8.heap.size w8 W) (G59 ad n cap fx) (by kernel_rfl) (by kernel_rfl) ?_ ?_ ?_
  · intro fq hf
    exact (Below.refl _ _).drew
  · intro iq op ho fq AQ W hf hdep hS hK hG
    have hlt : iq < 10 := (Array.getElem?_eq_some_iff.1 ho).1
    match iq, hlt with
    | 0, _ =>
      obtain rfl := (Option.some.inj ho).symm
      have d6 : AQ.tmps.getD 6 undef = .slice ad n cap := hK.2.2 6 (by kernel_rfl)
      exact wpOp_val (v := (.slice ad n cap)) (w' := W) rfl (wanted_none rfl) (by simp [execOp, Act.eval, d6, go_sem]) ⟨_, rfl, hS, fun _ _ h => h, rfl⟩
    | 1, _ =>
      obtain rfl := (Option.some.inj ho).symm
      have d7 : AQ.tmps.getD 7 undef = .int .i64 (n : Int) := hK.2.2 7 (by kernel_rfl)
      exact wpOp_val (v := (.int .i64 (n : Int))) (w' := W) rfl (wanted_none rfl) (by simp [execOp, Act.eval, d7, go_sem]) ⟨_, rfl, hS, fun _ _ h => h, rfl⟩
    | 2, _ =>
      obtain rfl := (Option.some.inj ho).symm
      have d42 : G59 ad n cap fx 0 (AQ.tmps.getD 42 undef) W := (hG ⟨0, .data⟩ (by simp) rfl).2 42 rfl
      replace d42 : AQ.tmps.getD 42 undef = .slice ad n cap := d42
      have d43 : G59 ad n cap fx 1 (AQ.tmps.getD 43 undef) W := (hG ⟨1, .data⟩ (by simp) rfl).2 43 rfl
      replace d43 : AQ.tmps.getD 43 undef = .int .i64 (n : Int) := d43
      refine wpOp_call (f := 13) (args := #[.slice ad n cap, .int .i64 (n : Int)]) (w' := W) rfl (wanted_none rfl) (by simp [execOp, Act.eval, d42, d43, go_sem]) ?_
      refine (turn_told ad cap fx n (n : Int) W ((unhide HV8).below hS) hfs (unhide HN) (by omega) (by unfold In64; omega)).mono ?_
      rintro e w' ht
      obtain ⟨a, c, rfl, hl, hb⟩ := told_len ht (show (turnL fx (n : Int)).length = n by rw [turn_len]; exact unhide HN)
      exact ⟨_, rfl, _, rfl, below_trans hS hb, fun j u h => G59.mono ad n cap fx hb j u h, ⟨a, c, rfl, hl⟩⟩
    | 3, _ =>
      obtain rfl := (Option.some.inj ho).symm
      have d6 : AQ.tmps.getD 6 undef = .slice ad n cap := hK.2.2 6 (by kernel_rfl)
      exact wpOp_val (v := (.slice ad n cap)) (w' := W) rfl (wanted_none rfl) (by simp [execOp, Act.eval, d6, go_sem]) ⟨_, rfl, hS, fun _ _ h => h, rfl⟩
    | 4, _ =>
      obtain rfl := (Option.some.inj ho).symm
      have d44 : G59 ad n cap fx 2 (AQ.tmps.getD 44 undef) W := (hG ⟨2, .data⟩ (by simp) rfl).2 44 rfl
      obtain ⟨p44, q44, d44, h44⟩ := d44
      have d45 : G59 ad n cap fx 3 (AQ.tmps.getD 45 undef) W := (hG ⟨3, .data⟩ (by simp) rfl).2 45 rfl
      replace d45 : AQ.tmps.getD 45 undef = .slice ad n cap := d45
      have ed44 := d44
      rw [Array.getD_eq_getD_getElem?] at ed44
      have ed45 := d45
      rw [Array.getD_eq_getD_getElem?] at ed45
      exact wpOp_val (v := (.slice (some ⟨W.heap.size, 0, none⟩) 2 2)) (w' := (W.alloc (.cells #[.slice p44 n q44, .slice ad n cap] 22))) rfl (wanted_none rfl) (by simp [execOp, Act.eval, ed44, ed45, go_sem]) ⟨_, rfl, hS.alloc hS.size _, fun j u h => G59.mono ad n cap fx (alloc_below _ _) j u h, ⟨W.heap.size, p44, q44, rfl, by
            have := liesR_new W [(p44, q44, turnL fx (n : Int)), (ad, cap, fx)] 22 (by intro r hr; simp at hr; rcases hr with rfl | rfl; exact h44; exact (unhide HV8).below hS)
            unfold rowV at this
            simpa [turn_len, unhide HN] using this⟩⟩
    | 5, _ =>
      obtain rfl := (Option.some.inj ho).symm
      have d46 : G59 ad n cap fx 4 (AQ.tmps.getD 46 undef) W := (hG ⟨4, .data⟩ (by simp) rfl).2 46 rfl
      obtain ⟨b46, p46, q46, d46, h46⟩ := d46
      refine wpOp_call (f := 14) (args := #[.slice (some ⟨b46, 0, none⟩) 2 2]) (w' := W) rfl (wanted_none rfl) (by simp [execOp, Act.eval, d46, go_sem]) ?_
      refine (add_some b46 2 2 [(p46, q46, turnL fx (n : Int)), (ad, cap, fx)] n W h46 rfl (by decide) (by decide) (show (turnL fx (n : Int)).length = n by rw [turn_len]; exact unhide HN) (by omega)).mono ?_
      rintro e w' ⟨a, l, c, rfl, hl, hla, hb⟩
      rw [sumR_two p46 ad q46 cap _ fx (turn_small _ _ hfs), unhide HZ] at hl hla
      obtain rfl : n = l := by rw [← hl]; simp
      exact ⟨_, rfl, _, rfl, below_trans hS hb, fun j u h => G59.mono ad n cap fx hb j u h, ⟨a, c, rfl, hla⟩⟩
    | 6, _ =>
      obtain rfl := (Option.some.inj ho).symm
      have d7 : AQ.tmps.getD 7 undef = .int .i64 (n : Int) := hK.2.2 7 (by kernel_rfl)
      exact wpOp_val (v := (.int .i64 (n : Int))) (w' := W) rfl (wanted_none rfl) (by simp [execOp, Act.eval, d7, go_sem]) ⟨_, rfl, hS, fun _ _ h => h, rfl⟩
    | 7, _ =>
      obtain rfl := (Option.some.inj ho).symm
      have d48 : G59 ad n cap fx 6 (AQ.tmps.getD 48 undef) W := (hG ⟨6, .data⟩ (by simp) rfl).2 48 rfl
      replace d48 : AQ.tmps.getD 48 undef = .int .i64 (n : Int) := d48
      obtain ⟨wM, hrun, hown, hgr⟩ := run_make_full (P := Tryd.prog) W W.heap.size 22 3 i0 (.int .i64 0) 1 Tryd.underlying22 hi hz0 hz1 .i64 .i64 n (by rw [hz2]; omega) (by unfold maxLen; omega) (Nat.le_refl _)
      have hb : Below W.heap.size W wM := (Below.refl _ W).grown hgr (Nat.le_refl _) (fun _ h => by cases h)
      have hown2 : wM.ownsRow W.heap.size 3 1 (.slice (some ⟨W.heap.size, 0, none⟩) n n) n (ints (List.replicate n 0)) := by rw [Nat.mul_one] at hown; rw [← ints_zero]; exact hown
      exact wpOp_val (v := .slice (some ⟨W.heap.size, 0, none⟩) n n) (w' := wM) rfl (wanted_none rfl) (by simp [execOp, Act.eval, d48, hrun, Result.andThen]) ⟨_, rfl, below_trans hS hb, fun j u h => G59.mono ad n cap fx hb j u h, ⟨_, _, rfl, (own_cells hown2).lies⟩⟩
    | 8, _ =>
      obtain rfl := (Option.some.inj ho).symm
      have d47 : G59 ad n cap fx 5 (AQ.tmps.getD 47 undef) W := (hG ⟨5, .data⟩ (by simp) rfl).2 47 rfl
      obtain ⟨p47, q47, d47, h47⟩ := d47
      have d49 : G59 ad n cap fx 7 (AQ.tmps.getD 49 undef) W := (hG ⟨7, .data⟩ (by simp) rfl).2 49 rfl
      obtain ⟨p49, q49, d49, h49⟩ := d49
      refine wpOp_call (f := 12) (args := #[.slice p47 n q47, .slice p49 n q49]) (w' := W) rfl (wanted_none rfl) (by simp [execOp, Act.eval, d47, d49, go_sem]) ?_
      refine (same_any p47 p49 q47 q49 (List.replicate n 0) n (by simp) (by omega) W h47 h49).mono ?_
      rintro e w' ⟨rfl, hb⟩
      exact ⟨_, rfl, _, rfl, below_trans hS hb, fun j u h => G59.mono ad n cap fx hb j u h, rfl⟩
    | 9, _ =>
      obtain rfl := (Option.some.inj ho).symm
      have d50 : G59 ad n cap fx 8 (AQ.tmps.getD 50 undef) W := (hG ⟨8, .data⟩ (by simp) rfl).2 50 rfl
      replace d50 : AQ.tmps.getD 50 undef = .bool true := d50
      exact wpOp_val (v := (.bool true)) (w' := W) rfl (wanted_none rfl) (by simp [execOp, Act.eval, d50, go_sem]) ⟨_, rfl, hS, fun _ _ h => h, rfl⟩
  · intro fq W vals hf hS hG
    have ev0 : G59 ad n cap fx 0 (vals 0) W := hG 0 42 (by decide) rfl
    replace ev0 : vals 0 = .slice ad n cap := ev0
    have ev1 : G59 ad n cap fx 1 (vals 1) W := hG 1 43 (by decide) rfl
    replace ev1 : vals 1 = .int .i64 (n : Int) := ev1
    have ev2 : G59 ad n cap fx 2 (vals 2) W := hG 2 44 (by decide) rfl
    obtain ⟨pv2, qv2, ev2, hv2⟩ := ev2
    have ev3 : G59 ad n cap fx 3 (vals 3) W := hG 3 45 (by decide) rfl
    replace ev3 : vals 3 = .slice ad n cap := ev3
    have ev4 : G59 ad n cap fx 4 (vals 4) W := hG 4 46 (by decide) rfl
    obtain ⟨bv4, pv4, qv4, ev4, hv4⟩ := ev4
    have ev5 : G59 ad n cap fx 5 (vals 5) W := hG 5 47 (by decide) rfl
    obtain ⟨pv5, qv5, ev5, hv5⟩ := ev5
    have ev6 : G59 ad n cap fx 6 (vals 6) W := hG 6 48 (by decide) rfl
    replace ev6 : vals 6 = .int .i64 (n : Int) := ev6
    have ev7 : G59 ad n cap fx 7 (vals 7) W := hG 7 49 (by decide) rfl
    obtain ⟨pv7, qv7, ev7, hv7⟩ := ev7
    have ev8 : G59 ad n cap fx 8 (vals 8) W := hG 8 50 (by decide) rfl
    replace ev8 : vals 8 = .bool true := ev8
    have ev9 : G59 ad n cap fx 9 (vals 9) W := hG 9 12 (by decide) rfl
    replace ev9 : vals 9 = .bool true := ev9
    change (_ : Exit → Act → World → Prop) Exit.normal (Act.put (Act.put (Act.put (Act.put (Act.put (Act.put (Act.put (Act.put (Act.put (Act.put _ (some 42) (vals 0)) (some 43) (vals 1)) (some 44) (vals 2)) (some 45) (vals 3)) (some 46) (vals 4)) (some 47) (vals 5)) (some 48) (vals 6)) (some 49) (vals 7)) (some 50) (vals 8)) (some 12) (vals 9)) W
    rw [putAll_zero, ev0, ev1, ev2, ev3, ev4, ev5, ev6, ev7, ev8, ev9]
    obtain ⟨w9, hwn⟩ : ∃ w9, w9 = W := ⟨_, rfl⟩
    subst hwn
    have HV9 := hide ((unhide HV8).below hS)
    have HB9 := hide (below_trans (unhide HB8) hS)
    have HC9 := hide ((unhide HC8).below hS)
    clear hG hf ev0 ev1 ev2 ev3 ev4 ev5 ev6 ev7 ev8 ev9
    clear hS vals fq HV8 HB8 HC8
    go_simp
    go_wp2_with fail
    refine (turn_told ad cap fx n x _ (unhide HV9) hfs (unhide HN) (by omega) (unhide HX64)).mono ?_
    rintro e w10 ht
    obtain ⟨a10, c10, rfl, hl, hb⟩ := told_len ht (show (turnL fx x).length = n by rw [turn_len]; exact unhide HN)
    have HV10 := hide ((unhide HV9).below hb)
    have HB10 := hide (below_trans (unhide HB9) hb)
    have HC10 := hide ((unhide HC9).below hb)
    have HX10 := hide hl
    clear ht hl hb HV9 HB9 HC9
    go_wp2_with fail
    refine (turn_told a10 c10 (turnL fx x) n (-x) _ (unhide HX10) (turn_small _ _ hfs) (by rw [turn_len]; exact unhide HN) (by omega) (unhide HM64)).mono ?_
    rintro e w11 ht
    obtain ⟨a11, c11, rfl, hl, hb⟩ := told_len ht (show (turnL (turnL fx x) (-x)).length = n by rw [turn_len, turn_len]; exact unhide HN)
    have HV11 := hide ((unhide HV10).below hb)
    have HB11 := hide (below_trans (unhide HB10) hb)
    have HC11 := hide ((unhide HC10).below hb)
    have HX11 := hide ((unhide HX10).below hb)
    have HE11 := hide hl
    clear ht hl hb HV10 HB10 HC10 HX10
    rw [turn_turn fx x (-x) hfs, show x + -x = 0 by omega, turn_zero] at HE11
    go_wp2_with fail
    refine (same_any a11 ad c11 cap fx n (unhide HN) (by omega) _ (unhide HE11) (unhide HV11)).mono ?_
    rintro e w12 ⟨rfl, hb⟩
    have HV12 := hide ((unhide HV11).below hb)
    have HB12 := hide (below_trans (unhide HB11) hb)
    have HC12 := hide ((unhide HC11).below hb)
    have HX12 := hide ((unhide HX11).below hb)
    have HE12 := hide ((unhide HE11).below hb)
    clear hb HV11 HB11 HC11 HX11 HE11
    go_wp2
    go_ret
    exact ⟨rfl, (unhide HB12)⟩
end Go.Proofs.YtcnpbkgnoeoccaaDoor
