/- FrontMoves: the walk. -/
import Derived.Test.YtbkdgpeooeokmaaDoorFrontKeep
import Derived.Test.YtbkdgpeooeokmaaDoorFrontSets
import Derived.Test.YtbkdgpeooeokmaaDoorFrontRtail
import Derived.Deep.CutBlock
import Derived.Deep.DeepCutAuto
namespace Go.Proofs.YtbkdgpeooeokmaaDoor
open Go.RowKit
set_option linter.unusedVariables false

/-- A stream that is set to a tail that may be; what was pushed ahead leaves such a tail. -/
theorem may_push {n p B C : Nat} {pre : Int} (hs : Spc n p B C pre) (L : List Int) (hy : ∀ y ∈ L, Smp y) (hK : L.length ≤ 1000) : mayT n p ((stPush n p pre stNone L).n : Int) (stPush n p pre stNone L).last (stPush n p pre stNone L).rest := by
  have hok := stOk_push hs (stOk_none n (by have := hs.sz; omega)) L hy
  have hn : (stPush n p pre stNone L).n = L.length := Nat.zero_add _
  refine ⟨⟨by omega, by rw [hn]; omega⟩, hok.last, allIn_iff' hok.rest, fun h => ?_, ?_⟩
  · have : L = [] := List.length_eq_zero_iff.1 (by omega)
    subst this; rfl
  · have h1 := stPush_rest n p pre stNone L
    rw [show stNone.rest.length = 0 from rfl, Nat.zero_add] at h1
    have h2 := (frames_rest n p L.length hs.hp0 hs.hp).1
    rw [h1, hn, Int.toNat_natCast]
    omega
theorem StmL.only {lo c k n p B C : Nat} {pre : Int} {t : StD} {w w' : World} (h : StmL lo c n p B C pre t w) (ho : Only k w w') (h1 : k < lo) (h2 : k ≠ c) : StmL lo c n p B C pre t w' := by
  obtain ⟨a, m, cap, h3, h4, h5, h6, h7, h8⟩ := h
  exact ⟨a, m, cap, h3.only ho (by omega), h4, h5, h6.only ho (fun _ q hq => by have := h8 q hq; omega), h7, h8⟩

set_option maxRecDepth 100000 in
set_option maxHeartbeats 6400000 in
theorem moves_walk (hop coefs pre : Int) (wide many : Bool) (a : Option Addr) (len cap : Nat) (zs : List Int) (cut : Int) (w : World) (hz : IsRow .i64 w a len cap zs) (hq : Quar w) :
    Calls Tryd.prog 4 #[.agg #[.int .i64 hop, .int .i64 coefs, .int .i64 pre, .bool wide, .bool many], .slice a len cap, .int .i64 cut] w fun e w' => e = .returned (.bool true) ∧ Below w.heap.size w w' := by
  obtain ⟨i0, hi, hz0, hz1, hz2⟩ := info_parts Tryd.infoRowC
  have HI : Hid (Tryd.prog.info? 24 = some i0 ∧ i0.zero = some (.slice none 0 0) ∧ i0.size = 1 ∧ i0.bytes = 24) := ⟨hi, hz0, hz1, hz2⟩
  obtain ⟨xs, hxl, hx63, hxs, _⟩ := dct_row_all a len cap zs w hz
  obtain ⟨n, p, B, C, r, hspc, hfront⟩ := spec_any hop coefs pre wide many
  obtain ⟨F, hF⟩ : ∃ F, w.heap.size = F := ⟨_, rfl⟩
  obtain ⟨W0, hW0⟩ : ∃ W0, w.alloc (.cells #[.int .i64 hop, .int .i64 coefs, .int .i64 pre, .bool wide, .bool many] 23) = W0 := ⟨_, rfl⟩
  have HF := hide (show Cells W0 F [.int .i64 hop, .int .i64 coefs, .int .i64 pre, .bool wide, .bool many] by rw [← hW0, ← hF]; exact cells_new w [.int .i64 hop, .int .i64 coefs, .int .i64 pre, .bool wide, .bool many] _)
  have HB := hide (show Below w.heap.size w W0 by rw [← hW0]; exact alloc_below w _)
  have HQ := hide (hq.below (unhide HB))
  have HX := hide (hxs.below (unhide HB))
  have HXL := hide hxl
  have HS := hide hspc
  have HFR := hide hfront
  have hn16 : 16 ≤ n := by have := hspc.sz; omega
  clear hq hxs hxl hz hspc hfront hi hz0 hz1 hz2
  go_enter Tryd.func4, Tryd.ntmps4
  go_wp2_with fail
  clear hW0 hF
  refine (awake_any W0 (unhide HQ)).mono ?_
  rintro e w1 ⟨rfl, hb1⟩
  have HB1 := hide (below_trans (unhide HB) hb1)
  have HQ1 := hide ((unhide HQ).below hb1)
  have HX1 := hide ((unhide HX).below hb1)
  obtain ⟨f0, f1, f2, f3, f4⟩ := show w1.cell? ⟨F, 0, none⟩ = some (.int .i64 hop) ∧ w1.cell? ⟨F, 1, none⟩ = some (.int .i64 coefs) ∧ w1.cell? ⟨F, 2, none⟩ = some (.int .i64 pre) ∧ w1.cell? ⟨F, 3, none⟩ = some (.bool wide) ∧ w1.cell? ⟨F, 4, none⟩ = some (.bool many) from ⟨((unhide HF).below hb1).cell 0 _ rfl, ((unhide HF).below hb1).cell 1 _ rfl, ((unhide HF).below hb1).cell 2 _ rfl, ((unhide HF).below hb1).cell 3 _ rfl, ((unhide HF).below hb1).cell 4 _ rfl⟩
  clear hb1
  go_wp2_with fail
  refine (unhide HFR w1).mono ?_
  rintro e w2 ⟨rfl, hb2⟩
  have HB2 := hide (below_trans (unhide HB1) hb2)
  have HQ2 := hide ((unhide HQ1).below hb2)
  have HX2 := hide ((unhide HX1).below hb2)
  clear hb2 f0 f1 f2 f3 f4
  go_wp2_with fail
  obtain ⟨W2, hW2⟩ : ∃ W2, w2.alloc (.cells #[.int .i64 (n : Int), .int .i64 (p : Int), .int .i64 (B : Int), .int .i64 (C : Int), .int .i64 r] 27) = W2 := ⟨_, rfl⟩
  rw [hW2]
  have HG2 := hide (show Cells W2 w2.heap.size [.int .i64 (n : Int), .int .i64 (p : Int), .int .i64 (B : Int), .int .i64 (C : Int), .int .i64 r] by rw [← hW2]; exact cells_new w2 [.int .i64 (n : Int), .int .i64 (p : Int), .int .i64 (B : Int), .int .i64 (C : Int), .int .i64 r] _)
  have hb2 : Below w2.heap.size w2 W2 := by rw [← hW2]; exact alloc_below w2 _
  have HBW2 := hide (below_trans (unhide HB2) hb2)
  have HQW2 := hide ((unhide HQ2).below hb2)
  have HXW2 := hide ((unhide HX2).below hb2)
  clear hb2 hW2
  refine (sound_any a len cap xs W2 (unhide HXW2) (unhide HXL)).mono ?_
  rintro e w3 ⟨al, N, cl, rfl, hNl, hNc, hcl63, hL, hsl, hlb, hb3⟩
  obtain ⟨L, hLL⟩ : ∃ L, soundL xs = L := ⟨_, rfl⟩
  have hN90 : N ≤ 90 := by rw [← hNl]; exact sound_len xs
  have hsmp := sound_smp xs
  rw [hLL] at hNl hL hsmp
  have HNL := hide hNl
  have HL3 := hide hL
  have HSMP := hide hsmp
  have HSL := hide hsl
  have HB3 := hide (below_trans (unhide HBW2) hb3)
  have HQ3 := hide ((unhide HQW2).below hb3)
  have h3 := (unhide HG2).below hb3
  have HG3 := hide h3
  have HB3s := hide hb3
  obtain ⟨g0, g1, g2, g3, g4⟩ := show w3.cell? ⟨w2.heap.size, 0, none⟩ = some (.int .i64 (n : Int)) ∧ w3.cell? ⟨w2.heap.size, 1, none⟩ = some (.int .i64 (p : Int)) ∧ w3.cell? ⟨w2.heap.size, 2, none⟩ = some (.int .i64 (B : Int)) ∧ w3.cell? ⟨w2.heap.size, 3, none⟩ = some (.int .i64 (C : Int)) ∧ w3.cell? ⟨w2.heap.size, 4, none⟩ = some (.int .i64 r) from ⟨h3.cell 0 _ rfl, h3.cell 1 _ rfl, h3.cell 2 _ rfl, h3.cell 3 _ rfl, h3.cell 4 _ rfl⟩
  clear h3 hNl hL hsmp hsl hlb hb3 hLL
  have hN1w : IntKind.i64.wrap ((N : Int) + 1) = ((N + 1 : Nat) : Int) := by rw [IntKind.wrap_i64]; omega
  obtain ⟨K, hK, hK1⟩ := front_mod cut (N + 1) (by omega) (by omega)
  have hN1 : (N : Int) + 1 = ((N + 1 : Nat) : Int) := by omega
  obtain ⟨M, hM⟩ : ∃ M, N + 1 = M := ⟨_, rfl⟩
  rw [hM] at hN1w hK hN1
  have hM0 : ¬ (M : Int) = 0 := by omega
  have hM0' : ((M : Int) == 0) = false := by simp; omega
  go_wp2_with fail
  refine (new_yes n p B C r (unhide HS) w3).mono ?_
  rintro e w4 ⟨c, rfl, hcw, hst, hb4⟩
  have HST4 := hide hst
  have HB4 := hide (below_trans (unhide HB3) hb4)
  have HQ4 := hide ((unhide HQ3).below hb4)
  have HL4 := hide ((unhide HL3).below hb4)
  have HG4 := hide (((unhide HG2).below (unhide HB3s)).below hb4)
  have HCW := hide (show w3.heap.size ≤ c ∧ w.heap.size ≤ c ∧ c < w4.heap.size from ⟨hcw, by have := (unhide HB3).size; omega, hst.lt⟩)
  have HNE := hide (show 0 < N → ∀ q, al = some q → q.block < w3.heap.size from fun h0 q hq => by
    obtain ⟨b, off, e, hlt, _⟩ := (unhide HL3).some (by intro e; have := unhide HNL; subst e; simp at this; omega)
    rw [hq] at e; cases e; exact hlt)
  have hKN : K ≤ N := by omega
  have hKNi : (K : Int) ≤ (N : Int) := by omega
  have hKc : (K : Int) ≤ (cl : Int) := by omega
  have HGC := hide (show w2.heap.size < w3.heap.size from (unhide HG3).lt)
  clear hst hb4 hcw g0 g1 g2 g3 g4 hK hM hN1 hN1w hM0 hM0'
  go_wp2_with fail
  have hp0 := (unhide HS).hp0
  have hpn := (unhide HS).hp
  have HLK : Hid (∀ w' : World, Kept w4.heap.size c w4 w' → Lies w' al L) := fun w' hk => by
    rcases Nat.eq_zero_or_pos N with h0 | h0
    · exact .inl (List.length_eq_zero_iff.1 ((unhide HNL).trans h0))
    · exact (unhide HL4).kept hk fun q hq => by have := unhide HNE h0 q hq; have := unhide HCW; omega
  have hsz3 : 0 < w3.heap.size := (unhide HQ3).1
  have HQK : Hid (∀ w' : World, Kept w4.heap.size c w4 w' → Quar w') := fun w' hk => ⟨by have := (unhide HQ4).1; have := hk.size; omega, fun i hi => (World.cell?_of_block (hk.block 0 (unhide HQ4).1 (by have := unhide HCW; omega))).trans ((unhide HQ4).2 i hi)⟩
  refine (push_any c n p B C r (unhide HS) stNone (stOk_none n (by omega)) al K cl (L.take K) w4 (unhide HST4) (lies_take (unhide HL4) K) (by rw [List.length_take, unhide HNL]; omega) (by omega) (fun y hy => unhide HSMP y (List.mem_of_mem_take hy)) (fun h q hq => by have := unhide HNE (by omega) q hq; have := unhide HCW; omega) (by show 0 + K ≤ _; omega) (unhide HQ4)).mono ?_
  rintro e w6 ⟨vA, rsA, rfl, -, -, -, hs6, hon6⟩
  obtain ⟨t1, ht1⟩ : ∃ t, stPush n p r stNone (L.take K) = t := ⟨_, rfl⟩
  have HT1 := hide ht1
  have HOK1 := hide (show StOk n t1 by rw [← ht1]; exact stOk_push (unhide HS) (stOk_none n (by omega)) _ fun y hy => unhide HSMP y (List.mem_of_mem_take hy))
  have HN1 := hide (show t1.n = K by rw [← ht1]; show 0 + (L.take K).length = K; rw [List.length_take, unhide HNL]; omega)
  have HMAY := hide (show mayT n p (t1.n : Int) t1.last t1.rest by rw [← ht1]; exact may_push (unhide HS) _ (fun y hy => unhide HSMP y (List.mem_of_mem_take hy)) (by rw [List.length_take, unhide HNL]; omega))
  have HTL := hide (show t1.last = lastOf 0 (L.take K) ∧ t1.rest = restF n p (flatFrom r 0 (L.take K)) by rw [← ht1]; exact ⟨rfl, rfl⟩)
  rw [ht1] at hs6
  have HST6 := hide hs6
  have HK6 := hide (Kept.of_only hon6 (Nat.le_refl w4.heap.size))
  have HG6 := hide ((unhide HG4).only hon6 (by have := unhide HCW; have := unhide HGC; omega))
  clear hs6 hon6 ht1
  go_wp2_with fail
  refine (tail_any c n p B C r t1 w6 (unhide HST6) (by have := (unhide HOK1).few; have := (unhide HS).sz; omega)).mono ?_
  rintro e w7 ⟨aT, cT, rfl, hoT, hb7⟩
  obtain ⟨RT, hRT⟩ : ∃ x, t1.rest = x := ⟨_, rfl⟩
  obtain ⟨LT, hLT⟩ : ∃ x, t1.last = x := ⟨_, rfl⟩
  rw [hRT] at hoT
  rw [hRT, hLT, unhide HN1]
  have HRT := hide hRT
  have HLT := hide hLT
  have HOT := hide hoT
  have HB7 := hide hb7
  clear hoT hb7 hRT hLT
  go_upto_region 9 with fail
  obtain ⟨W7, hW7⟩ : ∃ W7, w7.alloc (.cells #[.int .i64 (K : Int), .int .i64 LT, .slice aT RT.length cT] 40) = W7 := ⟨_, rfl⟩
  rw [hW7]
  have HCT := hide (show Cells W7 w7.heap.size [.int .i64 (K : Int), .int .i64 LT, .slice aT RT.length cT] by rw [← hW7]; exact cells_new w7 [.int .i64 (K : Int), .int .i64 LT, .slice aT RT.length cT] _)
  have hbW : Below w7.heap.size w7 W7 := by rw [← hW7]; exact alloc_below w7 _
  have HB67 := hide (below_trans (unhide HB7) hbW)
  have HOTW := hide (frows_under (unhide HOT) hbW)
  have HGW := hide ((unhide HG6).below (unhide HB67))
  have HK7 := hide ((unhide HK6).trans (Kept.of_below (unhide HB67) (unhide HK6).size))
  have HLW := hide (unhide HLK W7 (unhide HK7))
  have HSZ7 := hide (show w6.heap.size ≤ w7.heap.size ∧ w7.heap.size < W7.heap.size from ⟨(unhide HB7).size, (unhide HCT).lt⟩)
  have HGE : Hid (∃ (g : Nat) (l : List Value), w6.heap.size ≤ g ∧ g < W7.heap.size ∧ (0 < RT.length → aT = some ⟨g, 0, none⟩ ∧ Cells W7 g l ∧ RT.length ≤ l.length ∧ g < w7.heap.size)) := by
    rcases (unhide HOT).2 with ⟨h1, h2⟩ | ⟨g, cap', cur, h1, h2, h3, h4, h5, h6, h7⟩
    · exact ⟨w7.heap.size, [], (unhide HSZ7).1, (unhide HSZ7).2, fun h => by omega⟩
    · injection h1 with h11 _ h13
      have hg2 : g < w7.heap.size := (Array.getElem?_eq_some_iff.1 h3).1
      have hc7 : Cells w7 g cur.toList := ⟨3, by rw [h3, Array.toArray_toList]⟩
      exact ⟨g, cur.toList, h2, by have := (unhide HSZ7).2; omega, fun h => ⟨h11, hc7.below hbW, by have : cur.toList.length = cur.size := Array.length_toList; omega, hg2⟩⟩
  obtain ⟨LK, hLK⟩ : ∃ x, L.take K = x := ⟨_, rfl⟩
  have HLKE := hide hLK
  have HREF : Hid (∀ w' : World, Below W7.heap.size W7 w' → Calls Tryd.prog 16 #[.agg #[.int .i64 (n : Int), .int .i64 (p : Int), .int .i64 (B : Int), .int .i64 (C : Int), .int .i64 r], .slice al K cl] w' fun e w'' => ∃ v c', e = .returned (.agg #[.int .i64 (K : Int), .int .i64 LT, .slice v RT.length c']) ∧ Lies w'' v RT ∧ Below w'.heap.size w' w'' ∧ ∀ q, v = some q → w'.heap.size ≤ q.block) := fun w' hb => by
    have h := rtail_any n p B C r (unhide HS) al cl K (L.take K) w' ((lies_take (unhide HLW) K).below hb) (by rw [List.length_take, unhide HNL]; omega) (by omega) (fun y hy => unhide HSMP y (List.mem_of_mem_take hy))
    refine h.mono ?_
    rintro e w'' ⟨v, rfl, ⟨av, cv, rfl, ho⟩, hb'⟩
    rw [← (unhide HTL).2, unhide HRT] at ho
    rw [← (unhide HTL).1, unhide HLT, ← (unhide HTL).2, unhide HRT]
    obtain ⟨a', c'', e', _, _, _, hl', _, hq'⟩ := owned_slot ho
    injection e' with e1 _ e3
    subst e1 e3
    exact ⟨av, cv, rfl, hl', hb', hq'⟩
  obtain ⟨g0, g1, g2, g3, g4⟩ := show W7.cell? ⟨w2.heap.size, 0, none⟩ = some (.int .i64 (n : Int)) ∧ W7.cell? ⟨w2.heap.size, 1, none⟩ = some (.int .i64 (p : Int)) ∧ W7.cell? ⟨w2.heap.size, 2, none⟩ = some (.int .i64 (B : Int)) ∧ W7.cell? ⟨w2.heap.size, 3, none⟩ = some (.int .i64 (C : Int)) ∧ W7.cell? ⟨w2.heap.size, 4, none⟩ = some (.int .i64 r) from ⟨(unhide HGW).cell 0 _ rfl, (unhide HGW).cell 1 _ rfl, (unhide HGW).cell 2 _ rfl, (unhide HGW).cell 3 _ rfl, (unhide HGW).cell 4 _ rfl⟩
  have hbd : Below W7.heap.size W7 W7.drew := ⟨rfl, rfl, rfl, Nat.le_refl _, fun _ _ => rfl⟩
  have hba : Below W7.heap.size W7 (W7.drew.alloc (.cells #[.int .i64 0, .int .i64 0, .slice none 0 0] 40)) := hbd.alloc (Nat.le_refl _) _
  have hltG : w2.heap.size < W7.heap.size := (unhide HGW).lt
  have hneG : ¬ w2.heap.size = W7.heap.size := by omega
  have hGA := (unhide HGW).below hba
  obtain ⟨y0, y1, y2, y3, y4⟩ := show (W7.drew.alloc (.cells #[.int .i64 0, .int .i64 0, .slice none 0 0] 40)).cell? ⟨w2.heap.size, 0, none⟩ = some (.int .i64 (n : Int)) ∧ (W7.drew.alloc (.cells #[.int .i64 0, .int .i64 0, .slice none 0 0] 40)).cell? ⟨w2.heap.size, 1, none⟩ = some (.int .i64 (p : Int)) ∧ (W7.drew.alloc (.cells #[.int .i64 0, .int .i64 0, .slice none 0 0] 40)).cell? ⟨w2.heap.size, 2, none⟩ = some (.int .i64 (B : Int)) ∧ (W7.drew.alloc (.cells #[.int .i64 0, .int .i64 0, .slice none 0 0] 40)).cell? ⟨w2.heap.size, 3, none⟩ = some (.int .i64 (C : Int)) ∧ (W7.drew.alloc (.cells #[.int .i64 0, .int .i64 0, .slice none 0 0] 40)).cell? ⟨w2.heap.size, 4, none⟩ = some (.int .i64 r) from ⟨hGA.cell 0 _ rfl, hGA.cell 1 _ rfl, hGA.cell 2 _ rfl, hGA.cell 3 _ rfl, hGA.cell 4 _ rfl⟩
  clear hGA
  have HCN := hide (show Cells (W7.drew.alloc (.cells #[.int .i64 0, .int .i64 0, .slice none 0 0] 40)) W7.heap.size [.int .i64 0, .int .i64 0, .slice none 0 0] from cells_new W7.drew [.int .i64 0, .int .i64 0, .slice none 0 0] _)
  clear hW7 hbW hLK
  go_cut [14] (fun x wc => ∃ (blk : Nat) (av : Option Addr) (cv : Nat), x = .pointer (some ⟨blk, 0, none⟩) ∧ Hid (Cells wc blk [.int .i64 (K : Int), .int .i64 LT, .slice av RT.length cv]) ∧ Hid (Lies wc av RT) ∧ Hid (Below W7.heap.size W7 wc))
  case first =>
    go_region_with ((go_at_call 16; (first
      | ((with_reducible refine (unhide HREF _ hbd).mono ?_); rintro e w8 ⟨av, cv, rfl, hl8, hb8, hq8⟩; have hbV8 := below_trans hbd hb8)
      | ((refine (unhide HREF _ hba).mono ?_); rintro e w8 ⟨av, cv, rfl, hl8, hb8, hq8⟩; have hcw := (unhide HCN).below hb8; have k0 := hcw.cell 0 _ rfl; have k1 := hcw.cell 1 _ rfl; have k2 := hcw.cell 2 _ rfl; have z0 := hcw.free 0; have z1 := hcw.free 1; have z2 := hcw.free 2; have hbW8 := below_trans hba hb8))))
    all_goals (
      go_wp2_with fail
      go_meet
      first
      | exact ⟨w8.heap.size, av, cv, rfl, cells_new w8 _ _, hl8.below (alloc_below w8 _), hbV8.alloc hbV8.size _⟩
      | exact ⟨W7.heap.size, av, cv, rfl, ((hcw.set 0 _).set 1 _).set 2 _, hl8.only ((((Only.refl W7.heap.size w8).setCell rfl _).setCell rfl _).setCell rfl _) (fun _ q hq => by have := hq8 q hq; simp at this; omega), ((hbW8.setCell (Nat.le_refl _) _).setCell (Nat.le_refl _) _).setCell (Nat.le_refl _) _⟩)
  case rest =>
    obtain ⟨blk, av, cv, rfl, HWT, HLV, HB8⟩ := hcut
    obtain ⟨w9, rfl⟩ : ∃ x, x = wc := ⟨_, rfl⟩
    have hR32 : RT.length ≤ 32 := by rw [← unhide HRT]; have := (unhide HOK1).few; have := (unhide HS).sz; omega
    have HCT9 := hide ((unhide HCT).below (unhide HB8))
    have HG9 := hide ((unhide HGW).below (unhide HB8))
    obtain ⟨aT', cT', eT, _, _, hcT63, hlT, hsT, hqT⟩ := owned_slot (unhide HOTW)
    injection eT with eT1 _ eT3
    subst eT1 eT3
    have HLT9 := hide (hlT.below (unhide HB8))
    have HST := hide hsT
    have HB69 := hide (below_trans (unhide HB67) ((unhide HB8).mono (by have := unhide HSZ7; omega)))
    have k0 := (unhide HCT9).cell 0 _ rfl
    have k1 := (unhide HCT9).cell 1 _ rfl
    have k2 := (unhide HCT9).cell 2 _ rfl
    have v0 := (unhide HWT).cell 0 _ rfl
    have v1 := (unhide HWT).cell 1 _ rfl
    have v2 := (unhide HWT).cell 2 _ rfl
    clear hlT hsT hqT g0 g1 g2 g3 g4 y0 y1 y2 y3 y4 hbd hba hltG hneG
    go_wp2_with fail
    refine (same_any aT av cT cv RT RT.length rfl (by omega) w9 (unhide HLT9) (unhide HLV)).mono ?_
    rintro e w10 ⟨rfl, hb10⟩
    have HB10 := hide hb10
    have HCT10 := hide ((unhide HCT9).below hb10)
    have HWT10 := hide ((unhide HWT).below hb10)
    have HG10 := hide ((unhide HG9).below hb10)
    clear k0 k1 k2 v0 v1 v2 hb10
    have k0 := (unhide HCT10).cell 0 _ rfl
    have k1 := (unhide HCT10).cell 1 _ rfl
    have v0 := (unhide HWT10).cell 0 _ rfl
    have v1 := (unhide HWT10).cell 1 _ rfl
    obtain ⟨g0, g1, g2, g3, g4⟩ := show w10.cell? ⟨w2.heap.size, 0, none⟩ = some (.int .i64 (n : Int)) ∧ w10.cell? ⟨w2.heap.size, 1, none⟩ = some (.int .i64 (p : Int)) ∧ w10.cell? ⟨w2.heap.size, 2, none⟩ = some (.int .i64 (B : Int)) ∧ w10.cell? ⟨w2.heap.size, 3, none⟩ = some (.int .i64 (C : Int)) ∧ w10.cell? ⟨w2.heap.size, 4, none⟩ = some (.int .i64 r) from ⟨(unhide HG10).cell 0 _ rfl, (unhide HG10).cell 1 _ rfl, (unhide HG10).cell 2 _ rfl, (unhide HG10).cell 3 _ rfl, (unhide HG10).cell 4 _ rfl⟩
    go_wp2_with fail
    refine (new_yes n p B C r (unhide HS) w10).mono ?_
    rintro e w11 ⟨c2, rfl, hc2, hst2, hb11⟩
    have HST11 := hide hst2
    have HB11 := hide (below_trans (below_trans (unhide HB69) (unhide HB10)) hb11)
    have HORD := hide (show w6.heap.size ≤ w7.heap.size ∧ w7.heap.size < W7.heap.size ∧ W7.heap.size ≤ c2 ∧ c2 < w11.heap.size from ⟨(unhide HSZ7).1, (unhide HSZ7).2, by have := (unhide HB8).size; have := (unhide HB10).size; omega, hst2.lt⟩)
    have HC2 := hide (show w10.heap.size ≤ c2 ∧ c2 < w11.heap.size from ⟨hc2, hst2.lt⟩)
    have HCT11 := hide ((unhide HCT10).below hb11)
    have HLT11 := hide (((unhide HLT9).below (unhide HB10)).below hb11)
    have HX11 := hide (below_trans (below_trans (unhide HB8) (unhide HB10)) hb11)
    clear k0 k1 v0 v1 g0 g1 g2 g3 g4 hc2 hst2 hb11
    go_wp2_with fail
    obtain ⟨W11, hW11⟩ : ∃ W11, w11.alloc (.cells #[.int .i64 5, .int .i64 6, .int .i64 7] 3) = W11 := ⟨_, rfl⟩
    rw [hW11]
    have HL5 := hide (show Lies W11 (some ⟨w11.heap.size, 0, none⟩) [5, 6, 7] by rw [← hW11]; exact lies_new w11 [5, 6, 7] _ rfl)
    have hbW11 : Below w11.heap.size w11 W11 := by rw [← hW11]; exact alloc_below w11 _
    have HST11W := hide ((unhide HST11).below hbW11)
    have HBW11 := hide (below_trans (unhide HB11) hbW11)
    have HCTW := hide ((unhide HCT11).below hbW11)
    have HLTW := hide ((unhide HLT11).below hbW11)
    have HQW := hide (unhide HQK _ ((unhide HK6).trans (Kept.of_below (unhide HBW11) (unhide HK6).size)))
    have hszW : w11.heap.size ≤ W11.heap.size := hbW11.size
    have HXW := hide (below_trans (unhide HX11) hbW11)
    clear hW11 hbW11
    have HQT := hide (show ∀ q, aT = some q → w6.heap.size ≤ q.block ∧ q.block < w7.heap.size from fun q hq => by subst hq; exact (unhide HOT).lt q.block rfl)
    refine (push_any c2 n p B C r (unhide HS) stNone (stOk_none n (by omega)) _ 3 3 [5, 6, 7] W11 (unhide HST11W) (unhide HL5) rfl (by decide) (fun y hy => by simp at hy; unfold Smp; omega) (fun _ q hq => by cases hq; show w11.heap.size ≠ c2; have := unhide HORD; omega) (by show 0 + 3 ≤ _; omega) (unhide HQW)).mono ?_
    rintro e w12 ⟨v12, rs12, rfl, -, -, -, hs12, hon12⟩
    obtain ⟨t5, ht5⟩ : ∃ t, stPush n p r stNone [5, 6, 7] = t := ⟨_, rfl⟩
    rw [ht5] at hs12
    have HST12 := hide hs12
    have HO12 := hide hon12
    have HB12 := hide (show Below w6.heap.size w6 w12 from (unhide HBW11).trans (hon12.below (by have := unhide HORD; omega) (unhide HBW11).size))
    have HCT12 := hide ((unhide HCTW).only hon12 (by have := unhide HORD; omega))
    have HLT12 := hide ((unhide HLTW).only hon12 (fun _ q hq => by have := unhide HQT q hq; have := unhide HORD; omega))
    have hsz12 : w11.heap.size ≤ w12.heap.size := by have := hon12.size; omega
    have k0 := (unhide HCT12).cell 0 _ rfl
    have k1 := (unhide HCT12).cell 1 _ rfl
    have k2 := (unhide HCT12).cell 2 _ rfl
    clear hs12 hon12 ht5
    go_wp2_with fail
    refine (set_low c2 n p B C r (unhide HS) t5 w12 (unhide HST12) (K : Int) LT aT RT.length cT RT (unhide HLT12) rfl (by omega) (unhide HST) ⟨by omega, by omega⟩).mono ?_
    rintro e w13 ⟨hyes, -⟩
    obtain ⟨rfl, hs13, hon13⟩ := hyes (by have h := unhide HMAY; rw [unhide HN1, unhide HLT, unhide HRT] at h; exact h)
    have HS13 := hide (show StmL w12.heap.size c2 n p B C r t1 w13 by
      rw [Int.toNat_natCast, ← unhide HN1, ← unhide HLT, ← unhide HRT] at hs13
      exact hs13)
    have HB13 := hide ((unhide HB12).trans (hon13.below (by have := unhide HORD; omega) (unhide HB12).size))
    have HSZ13 := hide (show w12.heap.size ≤ w13.heap.size from hon13.size)
    have HCT13 := hide ((unhide HCT12).only hon13 (by have := unhide HORD; omega))
    obtain ⟨g, l0, hg1, hg2, HGL⟩ := unhide HGE
    have HGL13 := hide (show 0 < RT.length → Cells w13 g l0 ∧ RT.length ≤ l0.length from fun h => by
      obtain ⟨_, h2, h3, h4⟩ := HGL h
      exact ⟨(((h2.below (unhide HXW)).only (unhide HO12) (by have := unhide HORD; omega)).only hon13 (by have := unhide HORD; omega)), h3⟩)
    have HGA := hide (show 0 < RT.length → aT = some ⟨g, 0, none⟩ ∧ g < w7.heap.size from fun h => ⟨(HGL h).1, (HGL h).2.2.2⟩)
    clear k0 k1 k2 hs13 hon13 hyes HGL
    have hg3 : g < w12.heap.size := by have := unhide HORD; omega
    have hg4 : g ≠ c2 := by have := unhide HORD; omega
    have hg5 : g < w13.heap.size := by have := unhide HSZ13; omega
    go_upto_region 16 with fail
    go_wp2
    go_loopw [18] (fun iv wr => ∃ (i : Nat) (l : List Value), i ≤ RT.length ∧ iv = .int .i64 (i : Int) ∧ Hid (0 < RT.length → Cells wr g l ∧ RT.length ≤ l.length) ∧ Hid (Cells wr w7.heap.size [.int .i64 (K : Int), .int .i64 LT, .slice aT RT.length cT]) ∧ Hid (Only g w13 wr))
      (fun iv _ => RT.length - (intOf iv).toNat)
    case atStart => exact ⟨0, l0, Nat.zero_le _, rfl, HGL13, HCT13, Only.refl _ _⟩
    case round =>
      obtain ⟨i, l, hiN, rfl, HGr, HCr, HOr⟩ := hrel
      have k2 := (unhide HCr).cell 2 _ rfl
      by_cases hlt : i < RT.length
      · obtain ⟨hcr, hll⟩ := unhide HGr (by omega)
        obtain ⟨u, hu⟩ : ∃ u, l[i]? = some u := ⟨_, List.getElem?_eq_getElem (by omega)⟩
        have cx := hcr.cell i u hu
        have zx := hcr.free i
        have hA := unhide HGA (by omega)
        obtain rfl := hA.1
        have hltw := hA.2
        have hlti : (i : Int) < (RT.length : Int) := by omega
        have HS2 := hide (hcr.set i (.int .i64 9))
        have HLL := hide (show RT.length ≤ (l.set i (.int .i64 9)).length by rw [List.length_set]; exact hll)
        clear hcr hu hA
        go_wp2_with fail
        go_roundw
        case rel => exact ⟨i + 1, l.set i (.int .i64 9), by omega, by simp, fun _ => ⟨unhide HS2, unhide HLL⟩, (unhide HCr).only ((Only.refl g wr).setCell rfl _) (by omega), (unhide HOr).setCell rfl _⟩
        case measure => simp [intOf]; omega
      · obtain rfl : i = RT.length := by omega
        obtain ⟨w14, rfl⟩ : ∃ x, x = wr := ⟨_, rfl⟩
        have HB14 := hide (show Below w6.heap.size w6 w14 from (unhide HB13).trans ((unhide HOr).below hg1 (unhide HB13).size))
        have HST14 := hide ((unhide HST6).below (unhide HB14))
        have HS14 := hide ((unhide HS13).only (unhide HOr) hg3 hg4)
        have HK14 := hide ((unhide HK6).trans (Kept.of_below (unhide HB14) (unhide HK6).size))
        have HCC := hide (show c < w6.heap.size ∧ c < c2 ∧ w3.heap.size ≤ c2 ∧ c2 < w12.heap.size ∧ w12.heap.size ≤ w14.heap.size from ⟨(unhide HST6).lt, by have := (unhide HST6).lt; have := unhide HORD; omega, by have := unhide HCW; have := (unhide HST6).lt; have := unhide HORD; omega, by have := unhide HORD; omega, by have := (unhide HOr).size; have := unhide HSZ13; omega⟩)
        clear hlt hg1 hg2 hg3 hg4 hg5 hsz12 hszW hiN
        go_upto_region 20 with fail
        clear k2
        go_cut [19, 20] (fun bv gv wc => ∃ rsB : List Rr, gv = .int .i64 0 ∧ Hid (wc.ownsRow w14.heap.size 24 1 bv rsB.length (rsB.map rowV) ∧ (∀ x ∈ rsB, FRow w14.heap.size wc x) ∧ rsB.map (fun x => x.2.2) = stTold (frameI n B C) n p r t1 (L.drop K)) ∧ Hid (StmL w14.heap.size c n p B C r (stPush n p r t1 (L.drop K)) wc) ∧ Hid (Only c w14 wc))
        case first =>
          have HFIN : Hid (∀ (ad : Option Addr) (m' cd : Nat) (w' : World), w' = w14 → m' = N - K → Lies w14 ad (L.drop K) → (0 < m' → ∀ q, ad = some q → q.block ≠ c) → Calls Tryd.prog 11 #[.pointer (some ⟨c, 0, none⟩), .slice ad m' cd] w' (PushedL c n p B C r t1 (L.drop K) w14)) := fun ad m' cd w' e e2 h1 h2 => by
            rw [e]
            exact push_low c n p B C r (unhide HS) t1 (unhide HOK1) ad m' cd (L.drop K) w14 (unhide HST14) h1 (by rw [List.length_drop, unhide HNL, e2]) (by omega) (fun y hy => unhide HSMP y (List.mem_of_mem_drop hy)) h2 (by rw [unhide HN1]; omega) (unhide HQK _ (unhide HK14))
          have hNKi : (N : Int) - (K : Int) = ((N - K : Nat) : Int) := by omega
          have HL6 := hide (unhide HLK _ (unhide HK14))
          rcases unhide HSL with ⟨rfl, rfl, rfl⟩ | ⟨⟨ab, ao, ar⟩, rfl⟩
          case' inl =>
            obtain rfl : K = 0 := by omega
            clear hNKi hKN hKNi hKc hN90
            go_wp2_with fail
            refine (unhide HFIN none 0 0 w14 rfl rfl (.inl (by rw [List.length_eq_zero_iff.1 (unhide HNL)]; rfl)) (fun _ q hq => by cases hq)).mono ?_
          case' inr =>
            have HBC := hide (show 0 < N → ab ≠ c from fun h => by have h1 : ab < w3.heap.size := unhide HNE h _ rfl; have := unhide HCW; have := unhide HCC; omega)
            have HARN := hide (show 0 < N → ar = none from fun h => by
              obtain ⟨b, off, e, _, _⟩ := (unhide HL6).some (by intro e; have := unhide HNL; subst e; simp at this; omega)
              cases e; rfl)
            by_cases hcK : cl = K
          case' pos =>
            subst hcK
            obtain rfl : cl = N := by omega
            go_wp2_with fail
            refine (unhide HFIN _ _ _ w14 rfl (by omega) (.inl (List.length_eq_zero_iff.1 (by rw [List.length_drop, unhide HNL]; omega))) (fun h => by omega)).mono ?_
          case' neg =>
            have hcKi : ¬ (cl : Int) = (K : Int) := by omega
            have HLD := hide (show Lies w14 (some ((⟨ab, ao, ar⟩ : Addr).add K)) (L.drop K) by
              rcases Nat.eq_zero_or_pos N with h0 | h0
              · exact .inl (by rw [List.length_eq_zero_iff.1 ((unhide HNL).trans h0)]; simp)
              · obtain rfl := unhide HARN h0
                rw [Addr.add_lit]
                exact lies_drop (unhide HL6) K (by rw [unhide HNL]; omega))
            have HBD := hide (show ((⟨ab, ao, ar⟩ : Addr).add K).block = ab by unfold Addr.add; split <;> rfl)
            go_wp2_with fail
            refine (unhide HFIN _ _ _ w14 rfl rfl (unhide HLD) (fun h q hq => by cases hq; rw [unhide HBD]; exact unhide HBC (by omega))).mono ?_
          all_goals (
            rintro e wp ⟨vB, rsB, rfl, hoB, hfB, hmB, hsB, hoB7⟩
            have HBB := hide (And.intro hoB (And.intro hfB hmB))
            have HS7 := hide hsB
            have HO7 := hide hoB7
            clear hoB hfB hmB hsB hoB7
            go_wp2_with fail
            go_meet
            exact ⟨rsB, rfl, HBB, HS7, HO7⟩)
        case rest =>
          obtain ⟨rsA, rfl, HA, HSA, HOA⟩ := hcut
          obtain ⟨w15, rfl⟩ : ∃ x, x = wc := ⟨_, rfl⟩
          have HK15 := hide ((unhide HK14).trans (Kept.of_only (unhide HOA) (unhide HK14).size))
          have HS15 := hide ((unhide HS14).only (unhide HOA) (by have := unhide HCC; omega) (by have := unhide HCC; omega))
          have HST15 := hide (unhide HS15).stm
          have HSZ15 := hide (unhide HOA).size
          go_upto_region 21 with fail
          go_cut [21, 22] (fun bv gv wc => ∃ rsB : List Rr, gv = .int .i64 0 ∧ Hid (wc.ownsRow w15.heap.size 24 1 bv rsB.length (rsB.map rowV) ∧ (∀ x ∈ rsB, FRow w15.heap.size wc x) ∧ rsB.map (fun x => x.2.2) = stTold (frameI n B C) n p r t1 (L.drop K)) ∧ Hid (StmL w15.heap.size c2 n p B C r (stPush n p r t1 (L.drop K)) wc) ∧ Hid (Only c2 w15 wc))
          case first =>
            have HFIN : Hid (∀ (ad : Option Addr) (m' cd : Nat) (w' : World), w' = w15 → m' = N - K → Lies w15 ad (L.drop K) → (0 < m' → ∀ q, ad = some q → q.block ≠ c2) → Calls Tryd.prog 11 #[.pointer (some ⟨c2, 0, none⟩), .slice ad m' cd] w' (PushedL c2 n p B C r t1 (L.drop K) w15)) := fun ad m' cd w' e e2 h1 h2 => by
              rw [e]
              exact push_low c2 n p B C r (unhide HS) t1 (unhide HOK1) ad m' cd (L.drop K) w15 (unhide HST15) h1 (by rw [List.length_drop, unhide HNL, e2]) (by omega) (fun y hy => unhide HSMP y (List.mem_of_mem_drop hy)) h2 (by rw [unhide HN1]; omega) (unhide HQK _ (unhide HK15))
            have hNKi : (N : Int) - (K : Int) = ((N - K : Nat) : Int) := by omega
            have HL6 := hide (unhide HLK _ (unhide HK15))
            rcases unhide HSL with ⟨rfl, rfl, rfl⟩ | ⟨⟨ab, ao, ar⟩, rfl⟩
            case' inl =>
              obtain rfl : K = 0 := by omega
              clear hNKi hKN hKNi hKc hN90
              go_wp2_with fail
              refine (unhide HFIN none 0 0 w15 rfl rfl (.inl (by rw [List.length_eq_zero_iff.1 (unhide HNL)]; rfl)) (fun _ q hq => by cases hq)).mono ?_
            case' inr =>
              have HBC := hide (show 0 < N → ab ≠ c2 from fun h => by have h1 : ab < w3.heap.size := unhide HNE h _ rfl; have := unhide HCW; have := unhide HCC; omega)
              have HARN := hide (show 0 < N → ar = none from fun h => by
                obtain ⟨b, off, e, _, _⟩ := (unhide HL6).some (by intro e; have := unhide HNL; subst e; simp at this; omega)
                cases e; rfl)
              by_cases hcK : cl = K
            case' pos =>
              subst hcK
              obtain rfl : cl = N := by omega
              go_wp2_with fail
              refine (unhide HFIN _ _ _ w15 rfl (by omega) (.inl (List.length_eq_zero_iff.1 (by rw [List.length_drop, unhide HNL]; omega))) (fun h => by omega)).mono ?_
            case' neg =>
              have hcKi : ¬ (cl : Int) = (K : Int) := by omega
              have HLD := hide (show Lies w15 (some ((⟨ab, ao, ar⟩ : Addr).add K)) (L.drop K) by
                rcases Nat.eq_zero_or_pos N with h0 | h0
                · exact .inl (by rw [List.length_eq_zero_iff.1 ((unhide HNL).trans h0)]; simp)
                · obtain rfl := unhide HARN h0
                  rw [Addr.add_lit]
                  exact lies_drop (unhide HL6) K (by rw [unhide HNL]; omega))
              have HBD := hide (show ((⟨ab, ao, ar⟩ : Addr).add K).block = ab by unfold Addr.add; split <;> rfl)
              go_wp2_with fail
              refine (unhide HFIN _ _ _ w15 rfl rfl (unhide HLD) (fun h q hq => by cases hq; rw [unhide HBD]; exact unhide HBC (by omega))).mono ?_
            all_goals (
              rintro e wp ⟨vB, rsB, rfl, hoB, hfB, hmB, hsB, hoB7⟩
              have HBB := hide (And.intro hoB (And.intro hfB hmB))
              have HS7 := hide hsB
              have HO7 := hide hoB7
              clear hoB hfB hmB hsB hoB7
              go_wp2_with fail
              go_meet
              exact ⟨rsB, rfl, HBB, HS7, HO7⟩)
          case rest =>
            obtain ⟨rsB, rfl, HBB, HSB, HOB⟩ := hcut
            obtain ⟨w16, rfl⟩ : ∃ x, x = wc := ⟨_, rfl⟩
            have hcA : c2 < w14.heap.size := by have := unhide HCC; omega
            have HSA16 := hide ((unhide HSA).only (unhide HOB) hcA (by have := unhide HCC; omega)).stm
            have HSB16 := hide (unhide HSB).stm
            have HBW := hide (show Below w.heap.size w w15 from (unhide HB4).trans ((unhide HK15).below (unhide HCW).2.1 (unhide HB4).size))
            have HBW16 := hide (show Below w.heap.size w w16 from (unhide HBW).trans ((unhide HOB).below (by have := unhide HCC; have := unhide HCW; omega) (unhide HBW).size))
            obtain ⟨T, hT⟩ : ∃ T, stTold (frameI n B C) n p r t1 (L.drop K) = T := ⟨_, rfl⟩
            obtain ⟨a1, a2, a3⟩ := unhide HA
            obtain ⟨b1, b2, b3⟩ := unhide HBB
            rw [hT] at a3 b3
            have HTT := hide (show T.length ≤ 1000000 ∧ ∀ j, j < T.length → (T.getD j []).length = C from by
              have e := stTold_len (frameI n B C) n p r t1 (L.drop K)
              rw [hT] at e
              have e2 := (frames_rest n p (t1.rest.length + (L.drop K).length) (by omega) hpn).1
              have e3 : framesN n p (t1.rest.length + (L.drop K).length) ≤ framesN n p (t1.rest.length + (L.drop K).length) * p := Nat.le_mul_of_pos_right _ (by omega)
              have e4 : (L.drop K).length ≤ 90 := by rw [List.length_drop, unhide HNL]; omega
              have e5 : t1.rest.length ≤ 32 := by rw [unhide HRT]; exact hR32
              refine ⟨by rw [e]; omega, fun j hj => ?_⟩
              rw [← hT]
              exact stTold_mem n B C n p r t1 (L.drop K) j (by rw [← e]; exact hj))
            obtain ⟨aA, cA, rfl, hlA, _, hLA⟩ := told_form (owns_only2 a1 (unhide HOB) hcA) (fun x hx => (a2 x hx).only (unhide HOB) hcA) a3
            obtain ⟨aB, cB, rfl, hlB, _, hLB⟩ := told_form b1 b2 b3
            have HLZ := hide (And.intro hLA (And.intro hLB (And.intro hlA hlB)))
            have HA3 := hide a3
            have HB3' := hide b3
            have hC8 : C ≤ 8 := by have := (unhide HS).bd; have := (unhide HS).cf; omega
            have HRr := hide (show (stPush n p r t1 (L.drop K)).rest.length ≤ 1000000 by have := (stOk_push (unhide HS) (unhide HOK1) (L.drop K) (fun y hy => unhide HSMP y (List.mem_of_mem_drop hy))).few; have := (unhide HS).sz; omega)
            obtain ⟨t2, ht2⟩ : ∃ t, stPush n p r t1 (L.drop K) = t := ⟨_, rfl⟩
            rw [ht2] at HSA16 HSB16 HRr
            clear a1 a2 a3 b1 b2 b3 hLA hLB hlA hlB hT ht2
            go_wp2_with fail
            refine (rows_same aA aB cA cB T.length rsA rsB w16 (unhide HLZ).1 (unhide HLZ).2.1 (unhide HLZ).2.2.1 (unhide HLZ).2.2.2 (unhide HTT).1 (fun j hj => ⟨by rw [told_get (unhide HA3) j, told_get (unhide HB3') j], by rw [told_get (unhide HA3) j, (unhide HTT).2 j hj]; omega⟩)).mono ?_
            rintro e w17 ⟨rfl, hb17⟩
            have HSA17 := hide ((unhide HSA16).below hb17)
            have HSB17 := hide ((unhide HSB16).below hb17)
            have HBW17 := hide (below_trans (unhide HBW16) hb17)
            clear hb17
            go_wp2_with fail
            refine (count_any c n p B C r t2 w17 (unhide HSA17) (unhide HRr)).mono ?_
            rintro e w18 ⟨rfl, hb18⟩
            have HSB18 := hide ((unhide HSB17).below hb18)
            have HBW18 := hide (below_trans (unhide HBW17) hb18)
            clear hb18
            go_wp2_with fail
            refine (count_any c2 n p B C r t2 w18 (unhide HSB18) (unhide HRr)).mono ?_
            rintro e w19 ⟨rfl, hb19⟩
            have HBW19 := hide (below_trans (unhide HBW18) hb19)
            clear hb19
            go_wp2
            go_ret
            exact ⟨rfl, unhide HBW19⟩
end Go.Proofs.YtbkdgpeooeokmaaDoor
