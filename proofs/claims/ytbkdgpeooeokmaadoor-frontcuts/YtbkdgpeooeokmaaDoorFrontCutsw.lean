/- FrontCuts: the walk. -/
import Derived.Test.YtbkdgpeooeokmaaDoorFrontKeep
import Derived.Test.YtbkdgpeooeokmaaDoorFrontReset
import Derived.Deep.CutBlock
import Derived.Deep.DeepCutAuto
namespace Go.Proofs.YtbkdgpeooeokmaaDoor
open Go.RowKit
set_option linter.unusedVariables false

set_option maxRecDepth 100000 in
set_option maxHeartbeats 6400000 in
theorem cuts_walk (hop coefs pre : Int) (wide many : Bool) (a : Option Addr) (len cap : Nat) (zs : List Int) (cut : Int) (w : World) (hz : IsRow .i64 w a len cap zs) (hq : Quar w) :
    Calls Tryd.prog 3 #[.agg #[.int .i64 hop, .int .i64 coefs, .int .i64 pre, .bool wide, .bool many], .slice a len cap, .int .i64 cut] w fun e w' => e = .returned (.bool true) ∧ Below w.heap.size w w' := by
  obtain ⟨i0, hi, hz0, hz1, hz2⟩ := info_parts Tryd.infoRowC
  have HI : Hid (Tryd.prog.info? 24 = some i0 ∧ i0.zero = some (.slice none 0 0) ∧ i0.size = 1 ∧ i0.bytes = 24) := ⟨hi, hz0, hz1, hz2⟩
  obtain ⟨xs, hxl, hx63, hxs, _⟩ := dct_row_all a len cap zs w hz
  obtain ⟨n, p, B, C, r, hspc, hfront⟩ := spec_any hop coefs pre wide many
  obtain ⟨F, hF⟩ : ∃ F, w.heap.size = F := ⟨_, rfl⟩
  obtain ⟨W0, hW0⟩ : ∃ W0, w.alloc (.cells #[.int .i64 hop, .int .i64 coefs, .int .i64 pre, .bool wide, .bool many] 23) = W0 := ⟨_, rfl⟩
  have HF := hide (show Cells W0 F [.int .i64 hop, .int .i64 coefs, .int .i64 pre, .bool wide, .bool many] by rw [← hW0, ← hF]; exact cells_new w [.int .i64 hop, .int .i64 coefs, .int .i64 pre, .bool wide, .bool many] _)
  have HB := hide (show Below w.heap.size w W0 by rw [← hW0]; exact alloc_below w _)
  have HQ := hide (hq.below (unhide HB))
  have HX := hide (hxs.below (unhide HB))
  have HXL := hide hxl
  have HS := hide hspc
  have HFR := hide hfront
  have hn16 : 16 ≤ n := by have := hspc.sz; omega
  clear hq hxs hxl hz hspc hfront hi hz0 hz1 hz2
  go_enter Tryd.func3, Tryd.ntmps3
  go_wp2_with fail
  clear hW0 hF
  refine (awake_any W0 (unhide HQ)).mono ?_
  rintro e w1 ⟨rfl, hb1⟩
  have HB1 := hide (below_trans (unhide HB) hb1)
  have HQ1 := hide ((unhide HQ).below hb1)
  have HX1 := hide ((unhide HX).below hb1)
  obtain ⟨f0, f1, f2, f3, f4⟩ := show w1.cell? ⟨F, 0, none⟩ = some (.int .i64 hop) ∧ w1.cell? ⟨F, 1, none⟩ = some (.int .i64 coefs) ∧ w1.cell? ⟨F, 2, none⟩ = some (.int .i64 pre) ∧ w1.cell? ⟨F, 3, none⟩ = some (.bool wide) ∧ w1.cell? ⟨F, 4, none⟩ = some (.bool many) from ⟨((unhide HF).below hb1).cell 0 _ rfl, ((unhide HF).below hb1).cell 1 _ rfl, ((unhide HF).below hb1).cell 2 _ rfl, ((unhide HF).below hb1).cell 3 _ rfl, ((unhide HF).below hb1).cell 4 _ rfl⟩
  clear hb1
  go_wp2_with fail
  refine (unhide HFR w1).mono ?_
  rintro e w2 ⟨rfl, hb2⟩
  have HB2 := hide (below_trans (unhide HB1) hb2)
  have HQ2 := hide ((unhide HQ1).below hb2)
  have HX2 := hide ((unhide HX1).below hb2)
  clear hb2 f0 f1 f2 f3 f4
  go_wp2_with fail
  obtain ⟨W2, hW2⟩ : ∃ W2, w2.alloc (.cells #[.int .i64 (n : Int), .int .i64 (p : Int), .int .i64 (B : Int), .int .i64 (C : Int), .int .i64 r] 27) = W2 := ⟨_, rfl⟩
  rw [hW2]
  have HG2 := hide (show Cells W2 w2.heap.size [.int .i64 (n : Int), .int .i64 (p : Int), .int .i64 (B : Int), .int .i64 (C : Int), .int .i64 r] by rw [← hW2]; exact cells_new w2 [.int .i64 (n : Int), .int .i64 (p : Int), .int .i64 (B : Int), .int .i64 (C : Int), .int .i64 r] _)
  have hb2 : Below w2.heap.size w2 W2 := by rw [← hW2]; exact alloc_below w2 _
  have HBW2 := hide (below_trans (unhide HB2) hb2)
  have HQW2 := hide ((unhide HQ2).below hb2)
  have HXW2 := hide ((unhide HX2).below hb2)
  clear hb2 hW2
  refine (sound_any a len cap xs W2 (unhide HXW2) (unhide HXL)).mono ?_
  rintro e w3 ⟨al, N, cl, rfl, hNl, hNc, hcl63, hL, hsl, hlb, hb3⟩
  obtain ⟨L, hLL⟩ : ∃ L, soundL xs = L := ⟨_, rfl⟩
  have hN90 : N ≤ 90 := by rw [← hNl]; exact sound_len xs
  have hsmp := sound_smp xs
  rw [hLL] at hNl hL hsmp
  have HNL := hide hNl
  have HL3 := hide hL
  have HSMP := hide hsmp
  have HSL := hide hsl
  have HB3 := hide (below_trans (unhide HBW2) hb3)
  have HQ3 := hide ((unhide HQW2).below hb3)
  have h3 := (unhide HG2).below hb3
  obtain ⟨g0, g1, g2, g3, g4⟩ := show w3.cell? ⟨w2.heap.size, 0, none⟩ = some (.int .i64 (n : Int)) ∧ w3.cell? ⟨w2.heap.size, 1, none⟩ = some (.int .i64 (p : Int)) ∧ w3.cell? ⟨w2.heap.size, 2, none⟩ = some (.int .i64 (B : Int)) ∧ w3.cell? ⟨w2.heap.size, 3, none⟩ = some (.int .i64 (C : Int)) ∧ w3.cell? ⟨w2.heap.size, 4, none⟩ = some (.int .i64 r) from ⟨h3.cell 0 _ rfl, h3.cell 1 _ rfl, h3.cell 2 _ rfl, h3.cell 3 _ rfl, h3.cell 4 _ rfl⟩
  clear h3 hNl hL hsmp hsl hlb hb3 hLL
  go_wp2_with fail
  refine (new_yes n p B C r (unhide HS) w3).mono ?_
  rintro e w4 ⟨c, rfl, hcw, hst, hb4⟩
  have HST4 := hide hst
  have HB4 := hide (below_trans (unhide HB3) hb4)
  have HQ4 := hide ((unhide HQ3).below hb4)
  have HL4 := hide ((unhide HL3).below hb4)
  have HCW := hide (show w3.heap.size ≤ c ∧ w.heap.size ≤ c ∧ c < w4.heap.size from ⟨hcw, by have := (unhide HB3).size; omega, hst.lt⟩)
  have HNE := hide (show 0 < N → ∀ q, al = some q → q.block < w3.heap.size from fun h0 q hq => by
    obtain ⟨b, off, e, hlt, _⟩ := (unhide HL3).some (by intro e; have := unhide HNL; subst e; simp at this; omega)
    rw [hq] at e; cases e; exact hlt)
  have hN1w : IntKind.i64.wrap ((N : Int) + 1) = ((N + 1 : Nat) : Int) := by rw [IntKind.wrap_i64]; omega
  obtain ⟨K, hK, hK1⟩ := front_mod cut (N + 1) (by omega) (by omega)
  have hN1 : (N : Int) + 1 = ((N + 1 : Nat) : Int) := by omega
  obtain ⟨M, hM⟩ : ∃ M, N + 1 = M := ⟨_, rfl⟩
  rw [hM] at hN1w hK hN1
  have hM0 : ¬ (M : Int) = 0 := by omega
  have hM0' : ((M : Int) == 0) = false := by simp; omega
  clear hst hb4 hcw g0 g1 g2 g3 g4
  go_wp2_with fail
  have hp0 := (unhide HS).hp0
  have hpn := (unhide HS).hp
  have hq1 := (unhide HQ).1
  have hsz3 : 0 < w3.heap.size := (unhide HQ3).1
  have HLK : Hid (∀ w' : World, Kept w4.heap.size c w4 w' → Lies w' al L) := fun w' hk => by
    rcases Nat.eq_zero_or_pos N with h0 | h0
    · exact .inl (List.length_eq_zero_iff.1 ((unhide HNL).trans h0))
    · exact (unhide HL4).kept hk fun q hq => by have := unhide HNE h0 q hq; have := unhide HCW; omega
  have HQK : Hid (∀ w' : World, Kept w4.heap.size c w4 w' → Quar w') := fun w' hk => ⟨by have := (unhide HQ4).1; have := hk.size; omega, fun i hi => (World.cell?_of_block (hk.block 0 (unhide HQ4).1 (by have := unhide HCW; omega))).trans ((unhide HQ4).2 i hi)⟩
  clear hq1
  refine (push_any c n p B C r (unhide HS) stNone (stOk_none n (by omega)) none 0 0 [] w4 (unhide HST4) (.inl rfl) rfl (by decide) (fun y hy => by simp at hy) (fun h => by omega) (by decide) (unhide HQ4)).mono ?_
  rintro e w5 ⟨v5, rs5, rfl, ho5, hf5, hm5, hs5, hon5⟩
  obtain ⟨a5, c5, rfl, _, _, _⟩ := told_form ho5 hf5 hm5
  rw [show (stTold (frameI n B C) n p r stNone []).length = 0 by rw [stTold_len, frames_less _ _ _ (by show 0 + 0 < n; omega)]]
  rw [stPush_none n p r (by omega)] at hs5
  have HST5 := hide hs5
  have HK5 := hide (Kept.of_only hon5 (Nat.le_refl _))
  clear ho5 hf5 hm5 hs5 hon5
  have hKN : K ≤ N := by omega
  have hKNi : (K : Int) ≤ (N : Int) := by omega
  have hKc : (K : Int) ≤ (cl : Int) := by omega
  go_wp2_with fail
  refine (push_any c n p B C r (unhide HS) stNone (stOk_none n (by omega)) al K cl (L.take K) w5 (unhide HST5) (lies_take (unhide HLK _ (unhide HK5)) K) (by rw [List.length_take, unhide HNL]; omega) (by omega) (fun y hy => unhide HSMP y (List.mem_of_mem_take hy)) (fun h q hq => by have := unhide HNE (by omega) q hq; have := unhide HCW; omega) (by show 0 + K ≤ _; omega) (unhide HQK _ (unhide HK5))).mono ?_
  rintro e w6 ⟨vA, rsA, rfl, hoA, hfA, hmA, hs6, hon6⟩
  obtain ⟨t1, ht1⟩ : ∃ t, stPush n p r stNone (L.take K) = t := ⟨_, rfl⟩
  have HT1 := hide ht1
  have HOK1 := hide (show StOk n t1 by rw [← ht1]; exact stOk_push (unhide HS) (stOk_none n (by omega)) _ fun y hy => unhide HSMP y (List.mem_of_mem_take hy))
  have HN1 := hide (show t1.n = K by rw [← ht1]; show 0 + (L.take K).length = K; rw [List.length_take, unhide HNL]; omega)
  rw [ht1] at hs6
  have HST6 := hide hs6
  have hc5 : c < w5.heap.size := by have := (unhide HK5).size; have := unhide HCW; omega
  have HA := hide (And.intro hoA (And.intro hfA hmA))
  have HK6 := hide ((unhide HK5).trans (Kept.of_only hon6 (unhide HK5).size))
  clear hoA hfA hmA hs6 hon6 ht1
  clear hK hM hN1 hN1w hM0 hM0'
  go_upto_region 9 with fail
  go_cut [17, 18] (fun bv gv wc => ∃ rsB : List Rr, gv = .int .i64 0 ∧ Hid (wc.ownsRow w6.heap.size 24 1 bv rsB.length (rsB.map rowV) ∧ (∀ x ∈ rsB, FRow w6.heap.size wc x) ∧ rsB.map (fun x => x.2.2) = stTold (frameI n B C) n p r t1 (L.drop K)) ∧ Hid (∃ t2, Stm c n p B C r t2 wc) ∧ Hid (Only c w6 wc))
  case first =>
    have HFIN : Hid (∀ (ad : Option Addr) (m' cd : Nat) (w' : World), w' = w6 → m' = N - K → Lies w6 ad (L.drop K) → (0 < m' → ∀ q, ad = some q → q.block ≠ c) → Calls Tryd.prog 11 #[.pointer (some ⟨c, 0, none⟩), .slice ad m' cd] w' (Pushed c n p B C r t1 (L.drop K) w6)) := fun ad m' cd w' e e2 h1 h2 => by
      rw [e]
      exact push_any c n p B C r (unhide HS) t1 (unhide HOK1) ad m' cd (L.drop K) w6 (unhide HST6) h1 (by rw [List.length_drop, unhide HNL, e2]) (by omega) (fun y hy => unhide HSMP y (List.mem_of_mem_drop hy)) h2 (by rw [unhide HN1]; omega) (unhide HQK _ (unhide HK6))
    have hNKi : (N : Int) - (K : Int) = ((N - K : Nat) : Int) := by omega
    have HL6 := hide (unhide HLK _ (unhide HK6))
    rcases unhide HSL with ⟨rfl, rfl, rfl⟩ | ⟨⟨ab, ao, ar⟩, rfl⟩
    case' inl =>
      obtain rfl : K = 0 := by omega
      clear hNKi hKN hKNi hKc hN90
      go_wp2_with fail
      refine (unhide HFIN none 0 0 w6 rfl rfl (.inl (by rw [List.length_eq_zero_iff.1 (unhide HNL)]; rfl)) (fun _ q hq => by cases hq)).mono ?_
    case' inr =>
      have HBC := hide (show 0 < N → ab ≠ c from fun h => by have h1 : ab < w3.heap.size := unhide HNE h _ rfl; have := unhide HCW; omega)
      have HARN := hide (show 0 < N → ar = none from fun h => by
        obtain ⟨b, off, e, _, _⟩ := (unhide HL6).some (by intro e; have := unhide HNL; subst e; simp at this; omega)
        cases e; rfl)
      by_cases hcK : cl = K
    case' pos =>
      subst hcK
      obtain rfl : cl = N := by omega
      go_wp2_with fail
      refine (unhide HFIN _ _ _ w6 rfl (by omega) (.inl (List.length_eq_zero_iff.1 (by rw [List.length_drop, unhide HNL]; omega))) (fun h => by omega)).mono ?_
    case' neg =>
      have hcKi : ¬ (cl : Int) = (K : Int) := by omega
      have HLD := hide (show Lies w6 (some ((⟨ab, ao, ar⟩ : Addr).add K)) (L.drop K) by
        rcases Nat.eq_zero_or_pos N with h0 | h0
        · exact .inl (by rw [List.length_eq_zero_iff.1 ((unhide HNL).trans h0)]; simp)
        · obtain rfl := unhide HARN h0
          rw [Addr.add_lit]
          exact lies_drop (unhide HL6) K (by rw [unhide HNL]; omega))
      have HBD := hide (show ((⟨ab, ao, ar⟩ : Addr).add K).block = ab by unfold Addr.add; split <;> rfl)
      go_wp2_with fail
      refine (unhide HFIN _ _ _ w6 rfl rfl (unhide HLD) (fun h q hq => by cases hq; rw [unhide HBD]; exact unhide HBC (by omega))).mono ?_
    all_goals (
      rintro e w7 ⟨vB, rsB, rfl, hoB, hfB, hmB, hs7, hon7⟩
      have HBB := hide (And.intro hoB (And.intro hfB hmB))
      have HS7 := hide hs7
      have HO7 := hide hon7
      clear hoB hfB hmB hs7 hon7
      go_wp2_with fail
      go_meet
      exact ⟨rsB, rfl, HBB, ⟨_, unhide HS7⟩, HO7⟩)
  case rest =>
    obtain ⟨rsB, rfl, HBB, HT2, HOB⟩ := hcut
    obtain ⟨t2, hst7⟩ := unhide HT2
    have HK7 := hide ((unhide HK6).trans (Kept.of_only (unhide HOB) (unhide HK6).size))
    have HST7 := hide hst7
    clear hst7 HT2
    go_wp2_with fail
    refine (reset_any c n p B C r t2 wc (unhide HST7)).mono ?_
    rintro e w8 ⟨rfl, hs8, hon8⟩
    have HST8 := hide hs8
    have HK8 := hide ((unhide HK7).trans (Kept.of_only hon8 (unhide HK7).size))
    have HO8 := hide ((unhide HOB).trans hon8)
    have HOC8 := hide hon8
    clear hs8 hon8
    go_wp2_with fail
    refine (count_any c n p B C r stNone w8 (unhide HST8) (by decide)).mono ?_
    rintro e w9 ⟨rfl, hb9⟩
    have HST9 := hide ((unhide HST8).below hb9)
    have HK9 := hide ((unhide HK8).trans (Kept.of_below hb9 (unhide HK8).size))
    have HO9 := hide ((unhide HO8).trans (Only.of_below hb9))
    have HOC9 := hide ((unhide HOC8).trans (Only.of_below (c := c) hb9))
    rw [show ((stNone.n : Nat) : Int) = 0 from rfl]
    clear hb9
    go_wp2
    have hc9 : c < w9.heap.size := by have := (unhide HK9).size; have := unhide HCW; omega
    go_loopw [20, 19] (fun iv v wr => ∃ (i : Nat) (rs : List Rr), i ≤ N ∧ iv = .int .i64 (i : Int) ∧ Hid (wr.ownsRow w9.heap.size 24 1 v rs.length (rs.map rowV)) ∧ Hid (rs = [] → v = .slice none 0 0) ∧ Hid (∀ x ∈ rs, FRow w9.heap.size wr x) ∧ Hid (rs.map (fun x => x.2.2) = stTold (frameI n B C) n p r stNone (L.take i)) ∧ Hid (Stm c n p B C r (stPush n p r stNone (L.take i)) wr) ∧ Hid (Kept w9.heap.size c w9 wr) ∧ rs.length ≤ i)
      (fun iv _ _ => N - (intOf iv).toNat)
    case atStart => exact ⟨0, [], by omega, rfl, World.ownsRow_nil _ _ _ _, fun _ => rfl, fun x hx => by simp at hx, by
        show _ = _
        rw [List.take_zero]
        exact (List.length_eq_zero_iff.1 (by rw [stTold_len, frames_less _ _ _ (by show 0 + 0 < n; omega)])).symm, by
        show Stm c n p B C r (stPush n p r stNone (L.take 0)) w9
        rw [List.take_zero, stPush_none n p r (by omega)]; exact unhide HST9, Kept.refl _ _ _, by simp⟩
    case round =>
      obtain ⟨i, rs, hiN, rfl, HOr, HNr, HFr, HMr, HSr, HKr, hrl⟩ := hrel
      have HKA := hide ((unhide HK9).trans ((unhide HKr).mono (unhide HK9).size))
      by_cases hlt : i < N
      · obtain ⟨t, ht⟩ : ∃ t, stPush n p r stNone (L.take i) = t := ⟨_, rfl⟩
        have HOKt := hide (show StOk n t by rw [← ht]; exact stOk_push (unhide HS) (stOk_none n (by omega)) _ fun y hy => unhide HSMP y (List.mem_of_mem_take hy))
        have HNt := hide (show t.n = i by rw [← ht]; show 0 + (L.take i).length = i; rw [List.length_take, unhide HNL]; omega)
        obtain ⟨b, off, rfl, hbl, hcell⟩ := (unhide HLK wr (unhide HKA)).some (by intro e; have := unhide HNL; subst e; simp at this; omega)
        obtain ⟨x, hx⟩ : ∃ x, L.getD i 0 = x := ⟨_, rfl⟩
        have cx := hcell i (by rw [unhide HNL]; exact hlt)
        rw [hx] at cx
        have HXS := hide (show Smp x from unhide HSMP x (by rw [← hx, List.getD_eq_getElem?_getD, List.getElem?_eq_getElem (by rw [unhide HNL]; exact hlt)]; simp))
        have HTN := hide (show stPush n p r stNone (L.take (i + 1)) = stPush n p r t [x] by rw [push_take n p r stNone L i x (by rw [unhide HNL]; exact hlt) hx hp0 hpn, ht])
        have HTT := hide (show stTold (frameI n B C) n p r stNone (L.take (i + 1)) = stTold (frameI n B C) n p r stNone (L.take i) ++ stTold (frameI n B C) n p r t [x] by rw [told_step _ n p r stNone L i x (by rw [unhide HNL]; exact hlt) hx hp0 hpn, ht])
        rw [ht] at HSr
        have hiNi : (i : Int) < (N : Int) := by omega
        clear hcell hx ht
        go_wp2_with fail
        obtain ⟨w10, hw10⟩ : ∃ w10, wr.alloc (.cells #[.int .i64 x] 3) = w10 := ⟨_, rfl⟩
        rw [hw10]
        have hb10 : Below wr.heap.size wr w10 := by rw [← hw10]; exact alloc_below wr _
        have HL10 := hide (show Lies w10 (some ⟨wr.heap.size, 0, none⟩) [x] by rw [← hw10]; exact lies_new wr [x] _ rfl)
        have HK10 := hide ((unhide HKr).trans (Kept.of_below hb10 (unhide HKr).size))
        have HOr10 := hide (frows_under (unhide HOr) hb10)
        have HFr10 := hide (show ∀ x ∈ rs, FRow w9.heap.size w10 x from fun x hx => (unhide HFr x hx).below hb10)
        have HQ10 := hide ((unhide HQK _ (unhide HKA)).below hb10)
        have HSr10 := hide ((unhide HSr).below hb10)
        have hcr : c < wr.heap.size := by have := (unhide HKr).size; omega
        have hsz10 : w9.heap.size ≤ w10.heap.size := (unhide HK10).size
        clear hw10 hb10 cx
        refine (push_low c n p B C r (unhide HS) t (unhide HOKt) _ 1 1 [x] w10 (unhide HSr10) (unhide HL10) rfl (by decide) (fun y hy => by simp at hy; subst hy; exact unhide HXS) (fun _ q hq => by cases hq; show wr.heap.size ≠ c; omega) (by rw [unhide HNt]; omega) (unhide HQ10)).mono ?_
        rintro e w11 ⟨v1, rs1, rfl, ho1, hf1, hm1, hs1, hon1⟩
        have hl1 : rs1.length ≤ 1 := by
          have e1 : rs1.length = (rs1.map (fun x => x.2.2)).length := by rw [List.length_map]
          rw [e1, hm1, stTold_len]
          exact frames_few n p _ (by omega) (unhide HOKt).few
        have HSL11 := hide hs1
        have HSr11 := hide hs1.stm
        have hlt10 := hide (show ∀ k, Value.ownBlock u19 = some k → k < w10.heap.size from fun k hk => ((unhide HOr10).lt k hk).2)
        have HF1L := hide hf1
        have HK11 := hide ((unhide HK10).trans (Kept.of_only hon1 hsz10))
        have HOr11 := hide (owns_only2 (unhide HOr10) hon1 hc9)
        have HFr11 := hide (show ∀ x ∈ rs, FRow w9.heap.size w11 x from fun x hx => (unhide HFr10 x hx).only hon1 hc9)
        have HF1 := hide (show ∀ x ∈ rs1, FRow w9.heap.size w11 x from fun x hx => (hf1 x hx).mono hsz10)
        have HM1 := hide hm1
        obtain ⟨av1, cv1, rfl, hsrc1⟩ := rrow_slice ho1
        have hown := unhide HOr11
        have HSRC := hide hsrc1
        clear hf1 hm1 hs1 hon1 ho1 HOr HFr HOr10 HFr10 hsrc1
        have hl1i : (rs1.length : Int) ≤ 1 := by omega
        have hl1j : ¬ (1 : Int) < (rs1.length : Int) := by omega
        go_wp2_with (at_builtin; go_loud (refine wpList_append_rows rfl _ _ 32 rfl w9.heap.size 24 i0 (.slice none 0 0) 24 Tryd.underlying32 (unhide HI).1 (unhide HI).2.1 (unhide HI).2.2.1 (unhide HI).2.2.2 rfl _ _ _ rfl hown av1 rs1.length cv1 rs1 rfl (unhide HSRC) rfl ?d3 ?d4 ?d5 ?_))
        case d3 => unfold maxLen; omega
        case d4 => omega
        case d5 => have := (unhide HK11).size; omega
        intro v2 w12 hown2 hg2 hnil2
        have hr2 : ∀ k, Value.ownBlock u19 = some k → w9.heap.size ≤ k := fun k hk => (hown.lt k hk).1
        have HK12 := hide ((unhide HK11).trans (Kept.of_grown hg2 hr2 (unhide HK11).size))
        have HO12 := hide (owns_nil hown2)
        have HF12 := hide (show ∀ x ∈ rs ++ rs1, FRow w9.heap.size w12 x from fun x hx => by
          rcases List.mem_append.1 hx with hx | hx
          · exact (unhide HFr11 x hx).grown_own hg2 hown (unhide HNr)
          · exact ((unhide HF1L x hx).grown_old hg2 (unhide hlt10)).mono hsz10)
        have HN12 := hide (show rs ++ rs1 = [] → v2 = .slice none 0 0 from fun e => by
          obtain ⟨e1, e2⟩ := List.append_eq_nil_iff.1 e
          subst e1 e2
          exact hnil2.2 ⟨unhide HNr rfl, rfl⟩)
        have HM12 := hide (show (rs ++ rs1).map (fun x => x.2.2) = stTold (frameI n B C) n p r stNone (L.take (i + 1)) by rw [List.map_append, unhide HTT, ← unhide HMr, ← unhide HM1])
        have HS12 := hide (show Stm c n p B C r (stPush n p r stNone (L.take (i + 1))) w12 by rw [unhide HTN]; exact (unhide HSL11).grown hg2 fun k hk => ⟨by have := hr2 k hk; omega, unhide hlt10 k hk⟩)
        clear hown hown2 hg2 hnil2 hr2
        go_wp2
        go_roundw
        case rel => exact ⟨i + 1, rs ++ rs1, by omega, by simp, HO12, HN12, HF12, HM12, HS12, HK12, by rw [List.length_append]; omega⟩
        case measure => simp [intOf]; omega
      · obtain rfl : i = N := by omega
        have hLtk : L.take i = L := List.take_of_length_le (by rw [unhide HNL]; exact Nat.le_refl _)
        rw [hLtk] at HMr HSr
        obtain ⟨T, hT⟩ : ∃ T, stTold (frameI n B C) n p r stNone L = T := ⟨_, rfl⟩
        obtain ⟨a1, a2, a3⟩ := unhide HA
        obtain ⟨b1, b2, b3⟩ := unhide HBB
        have hszA : c < w5.heap.size := hc5
        have hszB : c < w6.heap.size := by have := (unhide HK6).size; have := unhide HCW; omega
        have a1r := owns_kept (owns_only2 a1 (unhide HO9) hszA) (unhide HKr) hszA (Nat.le_refl _)
        have b1r := owns_kept (owns_only2 b1 (unhide HOC9) hszB) (unhide HKr) hszB (Nat.le_refl _)
        have a2r : ∀ x ∈ rsA, FRow 0 wr x := fun x hx => ((((a2 x hx).only (unhide HO9) hszA).kept (unhide HKr) hszA (Nat.le_refl _))).mono (Nat.zero_le _)
        have b2r : ∀ x ∈ rsB, FRow 0 wr x := fun x hx => ((((b2 x hx).only (unhide HOC9) hszB).kept (unhide HKr) hszB (Nat.le_refl _))).mono (Nat.zero_le _)
        have HAr := hide a1r
        have HBr := hide b1r
        have HAF := hide a2r
        have HBF := hide b2r
        have HAB := hide (show (rsA ++ rsB).map (fun x => x.2.2) = T by
          rw [List.map_append, a3, b3, ← hT, told_take (frameI n B C) n p r stNone L K hp0 hpn, ← unhide HT1])
        have HTL := hide (show T.length ≤ 90 ∧ (∀ j, j < T.length → (T.getD j []).length = C) from by
          have e := stTold_len (frameI n B C) n p r stNone L
          have e2 := (frames_rest n p (stNone.rest.length + L.length) (by omega) hpn).1
          rw [hT] at e
          have e3 : framesN n p (stNone.rest.length + L.length) ≤ framesN n p (stNone.rest.length + L.length) * p := Nat.le_mul_of_pos_right _ (by omega)
          have e4 : stNone.rest.length + L.length = i := by rw [unhide HNL]; show 0 + i = i; omega
          rw [e4] at e2 e3
          refine ⟨by rw [e, e4]; omega, fun j hj => ?_⟩
          rw [← hT]
          exact stTold_mem n B C n p r stNone L j (by rw [← e]; exact hj))
        have HMT := hide (show rs.map (fun x => x.2.2) = T from (unhide HMr).trans hT)
        have HFr0 := hide (show ∀ x ∈ rs, FRow 0 wr x from fun x hx => (unhide HFr x hx).mono (Nat.zero_le _))
        have HBW := hide (show Below w.heap.size w wr from (unhide HB4).trans ((unhide HKA).below (unhide HCW).2.1 (unhide HB4).size))
        have hrA : rsA.length ≤ 90 := by
          have e := congrArg List.length (unhide HAB)
          rw [List.length_map, List.length_append] at e
          have := (unhide HTL).1
          omega
        have hrB : rsB.length ≤ 90 := by
          have e := congrArg List.length (unhide HAB)
          rw [List.length_map, List.length_append] at e
          have := (unhide HTL).1
          omega
        have hown0 : (wr.alloc (.cells #[] 24)).ownsRow wr.heap.size 24 1 (.slice (some ⟨wr.heap.size, 0, none⟩) 0 0) 0 [] := by
          have := World.ownsRow_lit (base := wr.heap.size) (e := 24) (size := 1) wr #[] 0 (Nat.le_refl _) (by decide) (by simp)
          simpa using this
        clear a1 a2 a3 b1 b2 b3 a1r b1r a2r b2r hT hLtk HA HBB
        obtain ⟨avA, cvA, rfl, hsA⟩ := rrow_slice (unhide HAr)
        obtain ⟨avB, cvB, rfl, hsB⟩ := rrow_slice (unhide HBr)
        have HSA := hide (hsA.below (alloc_below wr (.cells #[] 24)))
        have HSB := hide hsB
        clear hsA hsB
        go_wp2_with (at_builtin; go_loud (refine wpList_append_rows rfl _ _ 32 rfl wr.heap.size 24 i0 (.slice none 0 0) 24 Tryd.underlying32 (unhide HI).1 (unhide HI).2.1 (unhide HI).2.2.1 (unhide HI).2.2.2 rfl _ _ _ rfl hown0 avA rsA.length cvA rsA rfl (unhide HSA) rfl ?d3 ?d4 ?d5 ?_))
        case d3 => unfold maxLen; omega
        case d4 => omega
        case d5 => simp
        intro v13 w13 hown13 hg13 _
        have HB13 := hide (show Below wr.heap.size wr w13 from ((Below.refl wr.heap.size wr).alloc (Nat.le_refl _) _).grown hg13 (by simp) (fun k hk => by simp [Value.ownBlock] at hk; omega))
        have hlt13 := fun k hk => (hown13.lt k hk).1
        have HSB13 := hide ((unhide HSB).below (unhide HB13))
        clear hg13 hown0
        go_wp2_with (at_builtin; go_loud (refine wpList_append_rows rfl _ _ 32 rfl wr.heap.size 24 i0 (.slice none 0 0) 24 Tryd.underlying32 (unhide HI).1 (unhide HI).2.1 (unhide HI).2.2.1 (unhide HI).2.2.2 rfl _ _ _ rfl hown13 avB rsB.length cvB rsB rfl (unhide HSB13) rfl ?d3 ?d4 ?d5 ?_))
        case d3 => unfold maxLen; omega
        case d4 => omega
        case d5 => exact (unhide HB13).size
        intro v14 w14 hown14 hg14 _
        have HB14 := hide (show Below wr.heap.size wr w14 from (unhide HB13).grown hg14 (unhide HB13).size hlt13)
        have HO14 := hide (owns_nil (rs := rsA) (rt := rsB) (by simpa using hown14))
        obtain ⟨aZ, cZ, rfl, hlZ, _, hLZ⟩ := told_form (unhide HO14) (lo := 0) (fun x hx => by
          rcases List.mem_append.1 hx with hx | hx
          · exact (unhide HAF x hx).below (unhide HB14)
          · exact (unhide HBF x hx).below (unhide HB14)) (unhide HAB)
        obtain ⟨aC, cC, rfl, hlC, _, hLC⟩ := told_form (frows_under (unhide HOr) (unhide HB14)) (lo := 0) (fun x hx => (unhide HFr0 x hx).below (unhide HB14)) (unhide HMT)
        have HLZ := hide (And.intro hLZ (And.intro hLC (And.intro hlZ hlC)))
        have HT90 := hide (show T.length ≤ 1000000 by have := (unhide HTL).1; omega)
        have HC8 := hide (show C ≤ 8 by have := (unhide HS).bd; have := (unhide HS).cf; omega)
        have HSr14 := hide ((unhide HSr).below (unhide HB14))
        have HNr2 := hide (show ((stPush n p r stNone L).n : Int) = (i : Int) by show ((0 + L.length : Nat) : Int) = _; rw [unhide HNL]; omega)
        have HRr := hide (show (stPush n p r stNone L).rest.length ≤ 1000000 by have := (stOk_push (unhide HS) (stOk_none n (by omega)) L (unhide HSMP)).few; have := (unhide HS).sz; omega)
        clear hown13 hown14 hg14 hlt13 hLZ hLC hlZ hlC
        go_wp2_with fail
        refine (rows_same aZ aC cZ cC T.length (rsA ++ rsB) rs w14 (unhide HLZ).1 (unhide HLZ).2.1 (unhide HLZ).2.2.1 (unhide HLZ).2.2.2 (unhide HT90) (fun j hj => ⟨by rw [told_get (unhide HAB) j, told_get (unhide HMT) j], by rw [told_get (unhide HAB) j, (unhide HTL).2 j hj]; have := unhide HC8; omega⟩)).mono ?_
        rintro e w15 ⟨rfl, hb15⟩
        have HS15 := hide ((unhide HSr14).below hb15)
        have HB15 := hide (below_trans ((unhide HBW).trans ((unhide HB14).mono (unhide HBW).size)) hb15)
        clear hb15
        go_wp2_with fail
        refine (count_any c n p B C r _ w15 (unhide HS15) (unhide HRr)).mono ?_
        rintro e w16 ⟨rfl, hb16⟩
        rw [unhide HNr2]
        have HB16 := hide (below_trans (unhide HB15) hb16)
        clear hb16
        go_wp2
        go_ret
        exact ⟨rfl, unhide HB16⟩
end Go.Proofs.YtbkdgpeooeokmaaDoor
