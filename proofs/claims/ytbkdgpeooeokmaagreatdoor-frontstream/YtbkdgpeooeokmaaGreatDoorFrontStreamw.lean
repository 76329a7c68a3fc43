/- FrontStream: the walk. -/
import Derived.Test.YtbkdgpeooeokmaaGreatDoorFrontRall
import Derived.Deep.CutBlock
import Derived.Deep.DeepCutAuto
namespace Go.Proofs.YtbkdgpeooeokmaaGreatDoor
open Go.RowKit
set_option linter.unusedVariables false

theorem whole_get {β : Type} (d : β) (g : List Int → β) (s p : Nat) (pre : Int) (X : List Int) (i : Nat) (h : i < framesN s p X.length) : (wholeF g s p pre X).getD i d = g (cutF s p (flatFrom pre 0 X) i) := by
  have hl := whole_count g s p pre X
  unfold wholeF toldF at hl ⊢
  have hj : i < ((List.range (framesN s p (flatFrom pre 0 X).length)).map fun i => g (cutF s p (flatFrom pre 0 X) i)).length := by rw [hl]; exact h
  simp only [List.getD_eq_getElem?_getD, List.getElem?_eq_getElem hj, Option.getD_some, List.getElem_map, List.getElem_range]
/-- A frame that a stream tells is that of all sound at once. -/
theorem told_all {β : Type} (d : β) (g : List Int → β) (s p : Nat) (pre : Int) (L : List Int) (at_ m : Nat) (h0 : 0 < p) (hp : p ≤ s) (hL : at_ + m ≤ L.length) (j : Nat) (hj : framesN s p at_ + j < framesN s p (at_ + m)) :
    (stTold g s p pre (stOf s p pre (L.take at_)) ((L.drop at_).take m)).getD j d = g (cutF s p (flatFrom pre 0 L) (framesN s p at_ + j)) := by
  have e1 := st_told g s p pre (L.take at_) ((L.drop at_).take m) h0 hp
  have e2 : L.take at_ ++ (L.drop at_).take m = L.take (at_ + m) := by rw [List.take_add]
  have l1 : (L.take at_).length = at_ := by rw [List.length_take]; omega
  have l2 : (L.take (at_ + m)).length = at_ + m := by rw [List.length_take]; omega
  rw [e2] at e1
  have e3 := whole_get d g s p pre (L.take (at_ + m)) (framesN s p at_ + j) (by rw [l2]; exact hj)
  have e4 := whole_count g s p pre (L.take at_)
  rw [l1] at e4
  rw [e1, List.getD_eq_getElem?_getD, List.getElem?_append_right (by omega), e4, Nat.add_sub_cancel_left, ← List.getD_eq_getElem?_getD] at e3
  rw [e3]
  have e5 : flatFrom pre 0 L = flatFrom pre 0 (L.take (at_ + m)) ++ flatFrom pre (lastOf 0 (L.take (at_ + m))) (L.drop (at_ + m)) := by rw [← flat_append, List.take_append_drop]
  rw [e5, cut_more s p _ _ _ (cut_whole s p _ _ h0 (by rw [flat_len, l2]; exact hj))]
theorem st_take (s p : Nat) (pre : Int) (L : List Int) (at_ m : Nat) (h0 : 0 < p) (hp : p ≤ s) : stPush s p pre (stOf s p pre (L.take at_)) ((L.drop at_).take m) = stOf s p pre (L.take (at_ + m)) := by
  rw [st_push s p pre _ _ h0 hp, List.take_add]
theorem stOf_rest (s p : Nat) (pre : Int) (X : List Int) : (stOf s p pre X).rest.length = X.length - framesN s p X.length * p := by
  show (restF s p _).length = _
  rw [rest_len, flat_len]

set_option maxRecDepth 100000 in
set_option maxHeartbeats 6400000 in
theorem stream_walk (hop coefs pre : Int) (wide many : Bool) (a : Option Addr) (len cap : Nat) (zs : List Int) (ac : Option Addr) (lc capc : Nat) (zc : List Int) (w : World) (hz : IsRow .i64 w a len cap zs) (hzc : IsRow .i64 w ac lc capc zc) (hq : Quar w) :
    Calls Tryz.prog 4 #[.agg #[.int .i64 hop, .int .i64 coefs, .int .i64 pre, .bool wide, .bool many], .slice a len cap, .slice ac lc capc] w fun e w' => e = .returned (.bool true) ∧ Below w.heap.size w w' := by
  obtain ⟨i0, hi, hz0, hz1, hz2⟩ := info_parts Tryz.infoRowC
  have HI : Hid (Tryz.prog.info? 26 = some i0 ∧ i0.zero = some (.slice none 0 0) ∧ i0.size = 1 ∧ i0.bytes = 24) := ⟨hi, hz0, hz1, hz2⟩
  obtain ⟨xs, hxl, hx63, hxs, _⟩ := dct_row_all a len cap zs w hz
  obtain ⟨cs, hcl, hc63, hcs, _⟩ := dct_row_all ac lc capc zc w hzc
  obtain ⟨n, p, B, C, r, hspc, hfront⟩ := spec_any hop coefs pre wide many
  obtain ⟨F, hF⟩ : ∃ F, w.heap.size = F := ⟨_, rfl⟩
  obtain ⟨W0, hW0⟩ : ∃ W0, w.alloc (.cells #[.int .i64 hop, .int .i64 coefs, .int .i64 pre, .bool wide, .bool many] 25) = W0 := ⟨_, rfl⟩
  have HF := hide (show Cells W0 F [.int .i64 hop, .int .i64 coefs, .int .i64 pre, .bool wide, .bool many] by rw [← hW0, ← hF]; exact cells_new w [.int .i64 hop, .int .i64 coefs, .int .i64 pre, .bool wide, .bool many] _)
  have HB := hide (show Below w.heap.size w W0 by rw [← hW0]; exact alloc_below w _)
  have HQ := hide (hq.below (unhide HB))
  have HX := hide (hxs.below (unhide HB))
  have HXL := hide hxl
  have HCS := hide (hcs.below (unhide HB))
  have HCL := hide hcl
  have HS := hide hspc
  have HFR := hide hfront
  have hn16 : 16 ≤ n := by have := hspc.sz; omega
  clear hq hxs hxl hz hcs hcl hzc hspc hfront hi hz0 hz1 hz2
  go_enter Tryz.func4, Tryz.ntmps4
  go_wp2_with fail
  clear hW0 hF
  refine (awake_any W0 (unhide HQ)).mono ?_
  rintro e w1 ⟨rfl, hb1⟩
  have HB1 := hide (below_trans (unhide HB) hb1)
  have HQ1 := hide ((unhide HQ).below hb1)
  have HCS1 := hide ((unhide HCS).below hb1)
  have HX1 := hide ((unhide HX).below hb1)
  obtain ⟨f0, f1, f2, f3, f4⟩ := show w1.cell? ⟨F, 0, none⟩ = some (.int .i64 hop) ∧ w1.cell? ⟨F, 1, none⟩ = some (.int .i64 coefs) ∧ w1.cell? ⟨F, 2, none⟩ = some (.int .i64 pre) ∧ w1.cell? ⟨F, 3, none⟩ = some (.bool wide) ∧ w1.cell? ⟨F, 4, none⟩ = some (.bool many) from ⟨((unhide HF).below hb1).cell 0 _ rfl, ((unhide HF).below hb1).cell 1 _ rfl, ((unhide HF).below hb1).cell 2 _ rfl, ((unhide HF).below hb1).cell 3 _ rfl, ((unhide HF).below hb1).cell 4 _ rfl⟩
  clear hb1
  go_wp2_with fail
  refine (unhide HFR w1).mono ?_
  rintro e w2 ⟨rfl, hb2⟩
  have HB2 := hide (below_trans (unhide HB1) hb2)
  have HQ2 := hide ((unhide HQ1).below hb2)
  have HCS2 := hide ((unhide HCS1).below hb2)
  have HX2 := hide ((unhide HX1).below hb2)
  clear hb2 f0 f1 f2 f3 f4
  go_wp2_with fail
  obtain ⟨W2, hW2⟩ : ∃ W2, w2.alloc (.cells #[.int .i64 (n : Int), .int .i64 (p : Int), .int .i64 (B : Int), .int .i64 (C : Int), .int .i64 r] 23) = W2 := ⟨_, rfl⟩
  rw [hW2]
  have HG2 := hide (show Cells W2 w2.heap.size [.int .i64 (n : Int), .int .i64 (p : Int), .int .i64 (B : Int), .int .i64 (C : Int), .int .i64 r] by rw [← hW2]; exact cells_new w2 [.int .i64 (n : Int), .int .i64 (p : Int), .int .i64 (B : Int), .int .i64 (C : Int), .int .i64 r] _)
  have hb2 : Below w2.heap.size w2 W2 := by rw [← hW2]; exact alloc_below w2 _
  have HBW2 := hide (below_trans (unhide HB2) hb2)
  have HQW2 := hide ((unhide HQ2).below hb2)
  have HCSW2 := hide ((unhide HCS2).below hb2)
  have HXW2 := hide ((unhide HX2).below hb2)
  clear hb2 hW2
  refine (sound_any a len cap xs W2 (unhide HXW2) (unhide HXL)).mono ?_
  rintro e w3 ⟨al, N, cl, rfl, hNl, hNc, hcl63, hL, hsl, hlb, hb3⟩
  obtain ⟨L, hLL⟩ : ∃ L, soundL xs = L := ⟨_, rfl⟩
  have hN90 : N ≤ 90 := by rw [← hNl]; exact sound_len xs
  have hsmp := sound_smp xs
  rw [hLL] at hNl hL hsmp
  have HNL := hide hNl
  have HL3 := hide hL
  have HSMP := hide hsmp
  have HSL := hide hsl
  have HB3 := hide (below_trans (unhide HBW2) hb3)
  have HQ3 := hide ((unhide HQW2).below hb3)
  have HCS3 := hide ((unhide HCSW2).below hb3)
  have HG3 := hide ((unhide HG2).below hb3)
  have h3 := (unhide HG2).below hb3
  obtain ⟨g0, g1, g2, g3, g4⟩ := show w3.cell? ⟨w2.heap.size, 0, none⟩ = some (.int .i64 (n : Int)) ∧ w3.cell? ⟨w2.heap.size, 1, none⟩ = some (.int .i64 (p : Int)) ∧ w3.cell? ⟨w2.heap.size, 2, none⟩ = some (.int .i64 (B : Int)) ∧ w3.cell? ⟨w2.heap.size, 3, none⟩ = some (.int .i64 (C : Int)) ∧ w3.cell? ⟨w2.heap.size, 4, none⟩ = some (.int .i64 r) from ⟨h3.cell 0 _ rfl, h3.cell 1 _ rfl, h3.cell 2 _ rfl, h3.cell 3 _ rfl, h3.cell 4 _ rfl⟩
  clear h3 hNl hL hsmp hsl hlb hb3 hLL
  go_wp2_with fail
  refine (rwhole_any n p B C r (unhide HS) al cl N L w3 (unhide HL3) (unhide HNL) (by omega) (unhide HSMP)).mono ?_
  rintro e w4 ⟨aA, cA, rsA, rfl, hlA, hcA, hsA, hLA, hjA, hb4⟩
  obtain ⟨M, hM⟩ : ∃ M, framesN n p N = M := ⟨_, rfl⟩
  have HMM := hide hM
  rw [hM] at hlA hcA hsA hjA ⊢
  have HLA := hide (And.intro hLA (And.intro hlA hjA))
  have HSA := hide hsA
  have HB4 := hide (below_trans (unhide HB3) hb4)
  have HQ4 := hide ((unhide HQ3).below hb4)
  have HL4 := hide ((unhide HL3).below hb4)
  have HCS4 := hide ((unhide HCS3).below hb4)
  have HG4 := hide ((unhide HG3).below hb4)
  obtain ⟨g0, g1, g2, g3, g4⟩ := show w4.cell? ⟨w2.heap.size, 0, none⟩ = some (.int .i64 (n : Int)) ∧ w4.cell? ⟨w2.heap.size, 1, none⟩ = some (.int .i64 (p : Int)) ∧ w4.cell? ⟨w2.heap.size, 2, none⟩ = some (.int .i64 (B : Int)) ∧ w4.cell? ⟨w2.heap.size, 3, none⟩ = some (.int .i64 (C : Int)) ∧ w4.cell? ⟨w2.heap.size, 4, none⟩ = some (.int .i64 r) from ⟨(unhide HG4).cell 0 _ rfl, (unhide HG4).cell 1 _ rfl, (unhide HG4).cell 2 _ rfl, (unhide HG4).cell 3 _ rfl, (unhide HG4).cell 4 _ rfl⟩
  clear hM hLA hlA hjA hsA hb4
  go_wp2_with fail
  refine (new_yes n p B C r (unhide HS) w4).mono ?_
  rintro e w5 ⟨c, rfl, hcw, hst, hb5⟩
  have hp0 := (unhide HS).hp0
  have hpn := (unhide HS).hp
  have HST5 := hide (show Stm c n p B C r (stOf n p r (L.take 0)) w5 by rw [List.take_zero, st_none n p r (by omega)]; exact hst)
  have HB5 := hide (show Below w4.heap.size w4 w5 from hb5)
  have HNE := hide (show 0 < N → ∀ q, al = some q → q.block < w4.heap.size from fun h0 q hq => by
    obtain ⟨b, off, e, hlt, _⟩ := (unhide HL4).some (by intro e; have := unhide HNL; subst e; simp at this; omega)
    rw [hq] at e; cases e; exact hlt)
  obtain ⟨K, hK⟩ : ∃ K, min 20 lc = K := ⟨_, rfl⟩
  have HKK := hide (show (K ≤ 20 ∧ K ≤ lc) ∧ (K = 20 ∨ K = lc) by omega)
  clear hst hb5 g0 g1 g2 g3 g4 hK
  go_wp2
  go_loopw [12, 13, 14] (fun tv av iv wr => ∃ (i at_ : Nat), iv = .int .i64 (i : Int) ∧ av = .int .i64 (at_ : Int) ∧ tv = .int .i64 ((framesN n p at_ : Nat) : Int) ∧ at_ ≤ N ∧ (i ≤ K ∨ (i = K + 1 ∧ at_ = N)) ∧ i ≤ 21 ∧ Hid (Stm c n p B C r (stOf n p r (L.take at_)) wr) ∧ Hid (Below w4.heap.size w4 wr))
    (fun _ _ iv _ => 22 - (intOf iv).toNat)
  case atStart => exact ⟨0, 0, rfl, rfl, by rw [frames_less n p 0 (by omega)]; rfl, by omega, by omega, by omega, HST5, HB5⟩
  case round =>
    obtain ⟨i, at_, rfl, rfl, rfl, hatN, hiK, hi21, HSr, HBr⟩ := hrel
    obtain ⟨T, hT⟩ : ∃ T, framesN n p at_ = T := ⟨_, rfl⟩
    have HT := hide hT
    rw [hT]
    clear hT
    have HIK := hide hiK
    have hatNi : (at_ : Int) ≤ (N : Int) := by omega
    have HW := hide (show (i < K → (i : Int) < (lc : Int) ∧ (i : Int) < 20) ∧ (¬ i < K → (¬ (i : Int) < (lc : Int)) ∨ ((i : Int) < (lc : Int) ∧ ¬ (i : Int) < 20)) by have := unhide HKK; omega)
    go_upto_region 9 with fail
    go_cut [43] (fun x wc => x = .bool (decide (at_ < N ∨ i < K)) ∧ wc = wr)
    case first =>
      by_cases h1 : at_ < N
      · have h1i : (at_ : Int) < (N : Int) := by omega
        go_wp2_with fail
        go_meet
        exact ⟨by rw [decide_eq_true (show at_ < N ∨ i < K from .inl h1)], rfl⟩
      · have h1i : ¬ (at_ : Int) < (N : Int) := by omega
        by_cases h2 : i < K
        · obtain ⟨h3, h4⟩ := (unhide HW).1 h2
          go_wp2_with fail
          go_meet
          exact ⟨by rw [decide_eq_true (show at_ < N ∨ i < K from .inr h2)], rfl⟩
        · rcases (unhide HW).2 h2 with h3 | ⟨h3, h4⟩
          · go_wp2_with fail
            go_meet
            exact ⟨by rw [decide_eq_false (show ¬ (at_ < N ∨ i < K) by omega)], rfl⟩
          · go_wp2_with fail
            go_meet
            exact ⟨by rw [decide_eq_false (show ¬ (at_ < N ∨ i < K) by omega)], rfl⟩
    case rest =>
      obtain ⟨rfl, hwc⟩ := hcut
      subst hwc
      obtain ⟨wv, rfl⟩ : ∃ x, x = wc := ⟨_, rfl⟩
      by_cases hgo : at_ < N ∨ i < K
      · rw [decide_eq_true hgo]
        have HGO := hide hgo
        have hni : (N : Int) - (at_ : Int) = ((N - at_ : Nat) : Int) := by omega
        clear hgo
        go_upto_region 12 with fail
        go_cut [57] (fun x wy => x = .bool (decide (i < K)) ∧ wy = wv)
        case first =>
          by_cases h2 : i < K
          · obtain ⟨h3, h4⟩ := (unhide HW).1 h2
            go_wp2_with fail
            go_meet
            exact ⟨by rw [decide_eq_true h2], rfl⟩
          · rcases (unhide HW).2 h2 with h3 | ⟨h3, h4⟩
            · go_wp2_with fail
              go_meet
              exact ⟨by rw [decide_eq_false h2], rfl⟩
            · go_wp2_with fail
              go_meet
              exact ⟨by rw [decide_eq_false h2], rfl⟩
        case' rest =>
          obtain ⟨rfl, hwy⟩ := hcut
          subst hwy
          obtain ⟨wv, rfl⟩ : ∃ x, x = wc := ⟨_, rfl⟩
        go_upto_if 57 with fail
        go_cut [15] (fun nv wy => ∃ m : Nat, nv = .int .i64 (m : Int) ∧ m ≤ N - at_ ∧ (i < K ∨ m = N - at_) ∧ wy = wv)
        case first =>
          by_cases h2 : i < K
          · rw [decide_eq_true h2]
            obtain ⟨h3, h4⟩ := (unhide HW).1 h2
            obtain ⟨bc, oc, rfl, hbc, hcc⟩ := (unhide HCS4).some (by intro e; have := unhide HCL; subst e; simp at this; have := unhide HKK; omega)
            obtain ⟨x, hx⟩ : ∃ x, cs.getD i 0 = x := ⟨_, rfl⟩
            have cx : wv.cell? ⟨bc, oc + i, none⟩ = some (.int .i64 x) := by
              rw [(unhide HBr).cell (p := ⟨bc, _, none⟩) hbc, ← hx]; exact hcc i (by rw [unhide HCL]; have := unhide HKK; omega)
            obtain ⟨e, he, he40⟩ := front_mod x 40 (by decide) (by decide)
            have he2 : (wrap64 (x.tmod 40 + 40)).tmod 40 = (e : Int) := he
            clear hcc hx he
            have hmin : min ((N - at_ : Nat) : Int) (e : Int) = ((min (N - at_) e : Nat) : Int) := by omega
            go_wp2_with fail
            go_meet
            exact ⟨min (N - at_) e, by rw [← hmin], by omega, .inl h2, rfl⟩
          · rw [decide_eq_false h2]
            go_wp2_with fail
            go_meet
            exact ⟨N - at_, rfl, Nat.le_refl _, .inr rfl, rfl⟩
        case' rest =>
          obtain ⟨m, rfl, hm1, hm2, hwy⟩ := hcut
          subst hwy
          obtain ⟨wv, rfl⟩ : ∃ x, x = wc := ⟨_, rfl⟩
        obtain ⟨E, hE⟩ : ∃ E, at_ + m = E := ⟨_, rfl⟩
        have hEN : E ≤ N := by omega
        have hEi : (at_ : Int) + (m : Int) = (E : Int) := by omega
        have hEw : IntKind.i64.wrap ((at_ : Int) + (m : Int)) = (E : Int) := by rw [IntKind.wrap_i64]; omega
        have HEE := hide hE
        have HM2 := hide (And.intro hm1 hm2)
        clear hni hm1 hm2 hE
        go_upto_region 14 with fail
        go_cut [16, 17] (fun fv ev wy => ∃ (a1 : Option Addr) (c1 m1 : Nat) (rs1 : List Rr), fv = .slice a1 m1 c1 ∧ ev = .int .i64 0 ∧ Hid (rs1.length = m1 ∧ LiesRR wy a1 rs1) ∧ Hid (rs1.map (fun x => x.2.2) = stTold (frameI n B C) n p r (stOf n p r (L.take at_)) ((L.drop at_).take m)) ∧ Hid (Stm c n p B C r (stOf n p r (L.take E)) wy) ∧ Hid (Below w4.heap.size w4 wy))
        case first =>
          have HQr := hide ((unhide HQ4).below (unhide HBr))
          have HLr := hide ((unhide HL4).below (unhide HBr))
          have HFIN : Hid (∀ (ad : Option Addr) (m' cd : Nat) (w' : World), w' = wv → m' = m → Lies wv ad ((L.drop at_).take m) → (0 < m' → ∀ q, ad = some q → q.block ≠ c) → Calls Tryz.prog 15 #[.pointer (some ⟨c, 0, none⟩), .slice ad m' cd] w' (Pushed c n p B C r (stOf n p r (L.take at_)) ((L.drop at_).take m) wv)) := fun ad m' cd w' e e2 h1 h2 => by
            rw [e]
            exact push_any c n p B C r (unhide HS) _ (stOk_of (unhide HS) _ fun y hy => unhide HSMP y (List.mem_of_mem_take hy)) ad m' cd _ wv (unhide HSr) h1 (by rw [List.length_take, List.length_drop, unhide HNL, e2]; have := unhide HEE; omega) (by have := unhide HEE; omega) (fun y hy => unhide HSMP y (List.mem_of_mem_drop (List.mem_of_mem_take hy))) h2 (by show (L.take at_).length + m' ≤ _; rw [List.length_take, unhide HNL]; have := unhide HEE; omega) (unhide HQr)
          have hEat : E - at_ = m := by have := unhide HEE; omega
          have hEati : (E : Int) - (at_ : Int) = (m : Int) := by omega
          have hatE : (at_ : Int) ≤ (E : Int) := by omega
          have hEc : (E : Int) ≤ (cl : Int) := by omega
          rcases unhide HSL with ⟨rfl, rfl, rfl⟩ | ⟨⟨ab, ao, ar⟩, rfl⟩
          case' inl =>
            obtain rfl : at_ = 0 := by omega
            obtain rfl : m = 0 := by omega
            obtain rfl : E = 0 := by omega
            clear hEat hEati hatE hEc hEi hEw hEN hatN hatNi hN90
            go_wp2_with fail
            refine (unhide HFIN none 0 0 wv rfl rfl (.inl rfl) (fun _ q hq => by cases hq)).mono ?_
          case' inr =>
            have HBC := hide (show 0 < N → ab ≠ c from fun h => by have h1 : ab < w4.heap.size := unhide HNE h _ rfl; omega)
            have HARN := hide (show 0 < N → ar = none from fun h => by
              obtain ⟨b, off, e, _, _⟩ := (unhide HL4).some (by intro e; have := unhide HNL; subst e; simp at this; omega)
              cases e; rfl)
            by_cases hcK : cl = at_
          case' pos =>
            subst hcK
            obtain rfl : m = 0 := by omega
            obtain rfl : E = cl := by omega
            go_wp2_with fail
            refine (unhide HFIN _ _ _ wv rfl (by omega) (.inl rfl) (fun h => by omega)).mono ?_
          case' neg =>
            have hcKi : ¬ (cl : Int) = (at_ : Int) := by omega
            have HLD := hide (show Lies wv (some ((⟨ab, ao, ar⟩ : Addr).add at_)) ((L.drop at_).take m) by
              rcases Nat.eq_zero_or_pos N with h0 | h0
              · exact .inl (by rw [List.length_eq_zero_iff.1 ((unhide HNL).trans h0)]; simp)
              · obtain rfl := unhide HARN h0
                rw [Addr.add_lit]
                exact lies_take (lies_drop (unhide HLr) at_ (by rw [unhide HNL]; omega)) m)
            have HBD := hide (show ((⟨ab, ao, ar⟩ : Addr).add at_).block = ab by unfold Addr.add; split <;> rfl)
            go_wp2_with fail
            refine (unhide HFIN _ _ _ wv rfl (by omega) (unhide HLD) (fun h q hq => by cases hq; rw [unhide HBD]; exact unhide HBC (by omega))).mono ?_
          all_goals (
            rintro e w7 ⟨v1, rs1, rfl, ho1, hf1, hm1, hs1, hon1⟩
            obtain ⟨a1, c1, rfl, h1, _, h2⟩ := told_form ho1 hf1 hm1
            first
              | rw [st_take n p r L _ _ hp0 hpn, unhide HEE] at hs1
              | rw [st_take n p r L _ _ hp0 hpn] at hs1
            have HTO := hide (And.intro h1 h2)
            have HM1 := hide hm1
            have HS7 := hide hs1
            have HB7 := hide (show Below w4.heap.size w4 w7 from (unhide HBr).trans (hon1.below hcw (unhide HBr).size))
            clear ho1 hf1 hm1 hs1 hon1 h1 h2
            go_wp2_with fail
            go_meet
            exact ⟨a1, c1, _, rs1, rfl, rfl, HTO, HM1, HS7, HB7⟩)
        case' rest =>
          obtain ⟨a1, c1, m1, rs1, rfl, rfl, HTO, HM1, HS7, HB7⟩ := hcut
          obtain ⟨w7, rfl⟩ : ∃ x, x = wc := ⟨_, rfl⟩
        obtain ⟨g0, g1, g2, g3, g4⟩ := show w7.cell? ⟨w2.heap.size, 0, none⟩ = some (.int .i64 (n : Int)) ∧ w7.cell? ⟨w2.heap.size, 1, none⟩ = some (.int .i64 (p : Int)) ∧ w7.cell? ⟨w2.heap.size, 2, none⟩ = some (.int .i64 (B : Int)) ∧ w7.cell? ⟨w2.heap.size, 3, none⟩ = some (.int .i64 (C : Int)) ∧ w7.cell? ⟨w2.heap.size, 4, none⟩ = some (.int .i64 r) from ⟨((unhide HG4).below (unhide HB7)).cell 0 _ rfl, ((unhide HG4).below (unhide HB7)).cell 1 _ rfl, ((unhide HG4).below (unhide HB7)).cell 2 _ rfl, ((unhide HG4).below (unhide HB7)).cell 3 _ rfl, ((unhide HG4).below (unhide HB7)).cell 4 _ rfl⟩
        obtain ⟨V, hV⟩ : ∃ V, framesN n p E = V := ⟨_, rfl⟩
        have HFS := hide (show Calls Tryz.prog 16 #[.agg #[.int .i64 (n : Int), .int .i64 (p : Int), .int .i64 (B : Int), .int .i64 (C : Int), .int .i64 r], .int .i64 (E : Int)] w7 fun e w'' => e = .returned (.int .i64 (V : Int)) ∧ Below w7.heap.size w7 w'' from by
          rw [← hV]; exact rframes_any n p (B : Int) (C : Int) r E w7 (by have := (unhide HS).sz; omega) (by omega) (by omega))
        have hTV : T + m1 = V := by
          have e1 := stTold_len (frameI n B C) n p r (stOf n p r (L.take at_)) ((L.drop at_).take m)
          rw [← unhide HM1, List.length_map, (unhide HTO).1, stOf_rest, List.length_take, List.length_take, List.length_drop, unhide HNL] at e1
          have e2 := frames_add n p at_ m (by omega) hpn
          rw [unhide HT, unhide HEE, hV] at e2
          rw [show min at_ N = at_ by omega, show min m (N - at_) = m by have := (unhide HM2).1; omega, unhide HT] at e1
          omega
        have hVM : V ≤ M := by
          have e2 := frames_add n p E (N - E) (by omega) hpn
          rw [show E + (N - E) = N by omega, hV, unhide HMM] at e2
          omega
        have hVN : V ≤ N := by rw [← hV]; have := (frames_rest n p E (by omega) hpn).1; exact Nat.le_trans (Nat.le_mul_of_pos_right (framesN n p E) (show 0 < p by omega)) (Nat.le_trans this hEN)
        have hTVi : (T : Int) + (m1 : Int) = (V : Int) := by omega
        have hTVw : IntKind.i64.wrap ((T : Int) + (m1 : Int)) = (V : Int) := by rw [IntKind.wrap_i64]; omega
        have HVV := hide hV
        have HTV := hide hTV
        clear hV
        go_wp2_with fail
        refine (unhide HFS).mono ?_
        rintro e w8 ⟨rfl, hb8⟩
        have HS8 := hide ((unhide HS7).below hb8)
        have HTO8 := hide (show LiesRR w8 a1 rs1 from (unhide HTO).2.below hb8)
        have HB8 := hide ((unhide HB7).trans (hb8.mono (unhide HB7).size))
        have HN8 := hide (show ((stOf n p r (L.take E)).n : Int) = (E : Int) by show (((L.take E).length : Nat) : Int) = _; rw [List.length_take, unhide HNL]; omega)
        have HR8 := hide (show (stOf n p r (L.take E)).rest.length ≤ 1000000 by have := (stOk_of (unhide HS) (L.take E) fun y hy => unhide HSMP y (List.mem_of_mem_take hy)).few; have := (unhide HS).sz; omega)
        clear hb8 g0 g1 g2 g3 g4
        go_wp2_with fail
        refine (count_any c n p B C r _ w8 (unhide HS8) (unhide HR8)).mono ?_
        rintro e w9 ⟨rfl, hb9⟩
        rw [unhide HN8]
        have HS9 := hide ((unhide HS8).below hb9)
        have HTO9 := hide ((unhide HTO8).below hb9)
        have HB9 := hide ((unhide HB8).trans (hb9.mono (unhide HB8).size))
        clear hb9
        have HC8 := hide (show C ≤ 8 by have := (unhide HS).bd; have := (unhide HS).cf; omega)
        have HGT := hide (show ∀ j, j < m1 → (rs1.getD j nilR).2.2 = frameI n B C (cutF n p (flatFrom r 0 L) (T + j)) from fun j hj => by
          rw [told_get (unhide HM1) j, told_all [] (frameI n B C) n p r L at_ m (by omega) hpn (by rw [unhide HNL, unhide HEE]; exact hEN) j (by rw [unhide HT, unhide HEE, unhide HVV]; have := unhide HTV; omega), unhide HT])
        go_upto_region 19 with fail
        go_cut [19] (fun x wy => x = .bool true ∧ Hid (Below w9.heap.size w9 wy))
        case first =>
          have hVTn : V - T = m1 := by have := unhide HTV; omega
          have hVTi : (V : Int) - (T : Int) = (m1 : Int) := by omega
          have hTVl : (T : Int) ≤ (V : Int) := by omega
          have hVc : (V : Int) ≤ (cA : Int) := by omega
          have HAr := hide ((unhide HLA).1.below (unhide HB9))
          have HFIN : Hid (∀ (ad : Option Addr) (m' cd : Nat) (w' : World) (rt : List Rr), w' = w9 → m' = m1 → LiesRR w9 ad rt → rt.length = m1 → (∀ j, j < m1 → (rt.getD j nilR).2.2 = frameI n B C (cutF n p (flatFrom r 0 L) (T + j))) → Calls Tryz.prog 18 #[.slice a1 m1 c1, .slice ad m' cd] w' fun e w'' => e = .returned (.bool true) ∧ Below w9.heap.size w9 w'') := fun ad m' cd w' rt e e2 h1 h2 h3 => by
            rw [e, e2]
            exact rows_same a1 ad c1 cd m1 rs1 rt w9 (unhide HTO9) h1 (unhide HTO).1 h2 (by have := unhide HTV; omega) fun j hj => ⟨by rw [unhide HGT j hj, h3 j hj], by rw [unhide HGT j hj, frame_len]; have := unhide HC8; omega⟩
          rcases unhide HSA with ⟨rfl, rfl, rfl⟩ | ⟨gA, rfl⟩
          case' inl =>
            obtain rfl : V = 0 := by omega
            obtain rfl : T = 0 := by omega
            obtain rfl : m1 = 0 := by omega
            clear hVTn hVTi hTVl hVc hTVi hTVw hVM hVN
            go_wp2_with fail
            refine (unhide HFIN none 0 0 w9 [] rfl rfl (.inl rfl) rfl (fun j hj => absurd hj (Nat.not_lt_zero _))).mono ?_
          case' inr =>
            by_cases hcT : cA = T
          case' pos =>
            subst hcT
            obtain rfl : m1 = 0 := by omega
            go_wp2_with fail
            refine (unhide HFIN _ _ _ w9 [] rfl (by omega) (.inl rfl) rfl (fun j hj => absurd hj (Nat.not_lt_zero _))).mono ?_
          case' neg =>
            have hcTi : ¬ (cA : Int) = (T : Int) := by omega
            have HPT := hide (show LiesRR w9 (some ⟨gA, T, none⟩) ((rsA.drop T).take m1) by
              have h := (unhide HAr).part T m1 (by rw [(unhide HLA).2.1]; have := unhide HTV; omega)
              rw [Nat.zero_add] at h
              exact h)
            have HPL := hide (show ((rsA.drop T).take m1).length = m1 by rw [List.length_take, List.length_drop, (unhide HLA).2.1]; have := unhide HTV; omega)
            have HPG := hide (show ∀ j, j < m1 → (((rsA.drop T).take m1).getD j nilR).2.2 = frameI n B C (cutF n p (flatFrom r 0 L) (T + j)) from fun j hj => by
              rw [← (unhide HLA).2.2 (T + j) (by have := unhide HTV; omega)]
              simp [List.getD_eq_getElem?_getD, List.getElem?_drop, hj])
            go_wp2_with fail
            with_reducible refine (unhide HFIN _ _ _ w9 ((rsA.drop T).take m1) rfl rfl (unhide HPT) (unhide HPL) (unhide HPG)).mono ?_
          all_goals (
            rintro e w10 ⟨rfl, hb10⟩
            have HB10 := hide hb10
            clear hb10
            go_wp2_with fail
            go_meet
            exact ⟨rfl, HB10⟩)
        case rest =>
          obtain ⟨rfl, HB10⟩ := hcut
          have HS10 := hide ((unhide HS9).below (unhide HB10))
          have HB11 := hide ((unhide HB9).trans ((unhide HB10).mono (unhide HB9).size))
          have hnext : i + 1 ≤ K ∨ (i + 1 = K + 1 ∧ E = N) := by have := unhide HIK; have := unhide HM2; have := unhide HGO; have := unhide HEE; omega
          have HNX := hide hnext
          have hk20 : i + 1 ≤ 21 := by have := (unhide HKK).1; omega
          clear hnext
          go_wp2
          go_roundw
          case rel => exact ⟨i + 1, E, by simp, rfl, by rw [unhide HVV], hEN, unhide HNX, hk20, HS10, HB11⟩
          case measure => simp [intOf]; omega
      · rw [decide_eq_false hgo]
        have HBE := hide (show Below w.heap.size w wv from (unhide HB4).trans ((unhide HBr).mono (unhide HB4).size))
        go_wp2
        go_ret
        exact ⟨rfl, unhide HBE⟩
end Go.Proofs.YtbkdgpeooeokmaaGreatDoor
