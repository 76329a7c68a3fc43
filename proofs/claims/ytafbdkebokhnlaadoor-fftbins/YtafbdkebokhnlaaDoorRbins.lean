/- The document's bins: what they answer. -/
import Derived.Test.YtafbdkebokhnlaaDoorBst
import Derived.Test.YtafbdkebokhnlaaDoorSsa
namespace Go.Proofs.YtafbdkebokhnlaaDoor
open Go.RowKit
set_option linter.unusedVariables false

/-- An operation that yields nothing: a store. -/
theorem wpOp_skip {P : Program} {ops : Array Oper} {Q : Exit → Act → World → Prop} {i : Nat} {o : Oper} {K : Act → World → Prop} {a : Act} {w w' : World} (ho : ops[i]? = some o)
    (hw : Region.wanted o (yielded ops a.tmps) = true) (hx : (execOp a.eval o).run P w = .ok .skip w') (h : K (a.put o.dst undef) w') : wpOp P ops Q i K a w := by
  unfold wpOp
  simp only [ho, hw, if_true]
  left
  unfold Oper.wp
  rw [hx]
  exact h
theorem parts_snoc (c : Nat → Int) (h : Nat) (xs : List Int) (k : Nat) (z : Int) (hz : partI c (spinS h (k : Int) xs) = z) : partsTo c h xs (k + 1) = partsTo c h xs k ++ [z] := by
  rw [← hz]; simp [partsTo, mkL, List.range_succ]

set_option maxRecDepth 100000 in
set_option maxHeartbeats 6400000 in
theorem rbins_yes (a : Option Addr) (cap n h : Nat) (xs : List Int) (w : World) (hl : Lies w a xs) (hs : Small xs) (hn : xs.length = n) (hh : n = 2 * h) (hm : mayN h) :
    Calls Tryd.prog 30 #[.slice a n cap] w fun e w' => ∃ a1 a2 c1 c2, e = .returned (.agg #[.slice a1 (h + 1) c1, .slice a2 (h + 1) c2, .int .i64 (movS h xs)]) ∧
      Lies w' a1 (downL (movS h xs) (partsL cosC h xs)) ∧ Lies w' a2 (downL (movS h xs) (partsL sinC h xs)) ∧ Below w.heap.size w w' := by
  obtain ⟨i0, hi, hz0, hz1, hz2⟩ := info_parts Tryd.info3
  obtain ⟨hp0, hp1⟩ := mayN_pos hm
  have hM : mayF n := by rw [hh]; exact mayF_of hm
  have HM := hide hM
  have HMN := hide hm
  have HL := hide hl
  have HN := hide hn
  have HS := hide hs
  have HH := hide hh
  have hn64 : n ≤ 64 := mayF_le hM
  have hd : (n : Int) / 2 = (h : Int) := by omega
  clear hl hn hs hM hh hm
  go_enter Tryd.func30, Tryd.ntmps30
  go_wp2_with fail
  refine (rfmay_yes n _ (unhide HM)).mono ?_
  rintro e w0 ⟨rfl, rfl⟩
  go_wp2
  generalize hw0 : ((w.alloc (Obj.cells #[Value.slice none 0 0, Value.slice none 0 0, Value.int IntKind.i64 0] 51)).alloc (Obj.cells #[Value.slice none 0 0, Value.slice none 0 0, Value.int IntKind.i64 0] 51)) = w0
  obtain ⟨D, hD⟩ : ∃ D, w.heap.size = D := ⟨_, rfl⟩
  have HT0 : Hid (Bst w D w0 none none 0 0 0 0 [] []) := by
    refine ⟨World.ownsRow_nil _ _ _ _, World.ownsRow_nil _ _ _ _, (by intro q hq; cases hq), ?_, ?_, ?_, hD⟩
    · subst hw0 hD
      have := cells_new (w.alloc (Obj.cells #[Value.slice none 0 0, Value.slice none 0 0, Value.int IntKind.i64 0] 51)) Z3 51
      rw [World.size_alloc] at this
      exact this
    · subst hw0 hD; exact (cells_new w Z3 51).alloc _
    · subst hw0; exact ((Below.refl _ w).alloc (Nat.le_refl _) _).alloc (by simp) _
  clear hw0
  rw [hD]
  clear hD
  go_loopw [6] (fun i wr => ∃ (k : Nat) (p1 p2 : Option Addr) (c1 c2 : Nat), k ≤ h + 1 ∧ i = .int .i64 (k : Int) ∧ Hid (Bst w D wr p1 p2 c1 c2 k k (partsTo cosC h xs k) (partsTo sinC h xs k)))
    (fun i _ => h + 1 - (intOf i).toNat)
  case atStart => exact ⟨0, none, none, 0, 0, by omega, rfl, HT0⟩
  case round =>
    obtain ⟨k, p1, p2, c1, c2, hk, rfl, HTr⟩ := hrel
    by_cases hlt : k ≤ h
    · go_wp2_with fail
      refine (rfsum_yes a cap n h (k : Int) xs _ ((unhide HL).below (unhide HTr).hb) (unhide HS) (unhide HN) (unhide HH) (unhide HMN) (by unfold In64; omega)).mono ?_
      rintro e w4 ⟨a4, l4, c4, rfl, h1, h2, h3, h4⟩
      obtain rfl : l4 = h := by rw [← h1, spinS_len]
      obtain ⟨h, hhe⟩ : ∃ h, h = l4 := ⟨_, rfl⟩
      subst hhe
      have HT4 := hide ((unhide HTr).below h3)
      have HL4 := hide h2
      have HF4 := hide (show ∀ p, a4 = some p → D + 2 ≤ p.block ∧ (Value.slice p1 k c1).ownBlock ≠ some p.block ∧ (Value.slice p2 k c2).ownBlock ≠ some p.block from fun p hp => by
        have e1 := h4 p hp
        have e2 := (unhide HTr).hp.lt
        refine ⟨by omega, fun e => ?_, fun e => ?_⟩
        · have := ((unhide HTr).o1.lt _ e).2; omega
        · have := ((unhide HTr).o2.lt _ e).2; omega)
      clear h1 h2 h3 h4
      have b4 := (unhide HT4).hp.cell 0 _ rfl
      have hgr : ∀ q, (Value.slice p1 k c1).ownBlock = some q → D + 2 ≤ q := fun q hq => ((unhide HT4).o1.lt q hq).1
      have hDw : D + 1 < w4.heap.size := (unhide HT4).hp.lt
      obtain ⟨z1, hz⟩ : ∃ z, partI cosC (spinS h (k : Int) xs) = z := ⟨_, rfl⟩
      have HZ1 := hide hz
      have hbd : Below w4.heap.size w4 w4.drew := ⟨rfl, rfl, rfl, Nat.le_refl _, fun _ _ => rfl⟩
      have K := hide (fun w' (hb : Below w4.heap.size w4 w') => rreal_any a4 c4 h (spinS h (k : Int) xs) w' ((unhide HL4).below hb) (spinS_small _ _ _) (spinS_len _ _ _) (by omega))
      rw [hz] at K
      have b0d : w4.drew.cell? ⟨D + 1, 0, none⟩ = some (.slice p1 k c1) := b4
      clear hz
      go_wp2
      go_region_law (first
        | (refine step_call 49 #[.slice a4 h c4] (by rfl) (by simp [Act.eval, go_sem]; done) ?_; refine (unhide K _ hbd).mono ?_; rintro e wz ⟨rfl, hb5⟩; refine ⟨_, rfl, ?_⟩; have hb5' := spin_undrew hb5; have HT5 := (unhide HT4).below hb5'; have b05 := (hb5'.cell (p := ⟨D + 1, 0, none⟩) hDw).trans b4; have hDw5 := Nat.lt_of_lt_of_le hDw hb5'.size)
        | (refine step_append_lies _ (by rfl) _ _ 22 (by rfl) (D + 2) 3 i0 (.int .i64 0) 1 8 Tryd.underlying22 hi hz0 hz1 hz2 (by rfl) (by decide) _ k _ (by rfl) (by first | exact (HT5.o1.alloc _) | exact (HT5.o1.alloc _).drew) ⟨wz.heap.size, 0, none⟩ 1 1 [.int .i64 z1] (by rfl) (by rfl) (cell_one_new _ _ _) (ints_one [z1]) (by decide) (by unfold maxLen; omega) (by omega) (by simp; omega) (wz.heap.size + 1) (by simp) ?_; intro g cp w6 hown6 hg6 hat6 hlt6; have hp6 := cells_grown (HT5.hp.alloc _) hg6 (fun q hq => by have := hgr q hq; omega); have c6 := hp6.cell 0 _ rfl; have f6 := hp6.free 0))
      all_goals (
        have hg6' : (wz.alloc (.cells #[.int .i64 z1] 3)).grownBy w6 (Value.slice p1 k c1).ownBlock := hg6
        have hat6' : (Value.slice p1 k c1).ownBlock = some g ∨ g = wz.heap.size + 1 := hat6
        have HT7 := hide (HT5.push1 hg6' hat6' hown6)
        have HL5 := hide (((unhide HL4).below hb5'))
        have HL7 := hide (HT5.lies1 hg6' (unhide HL5) (fun p hp => ⟨((unhide HF4) p hp).1, ((unhide HF4) p hp).2.1⟩) (u := .slice (some ⟨g, 0, none⟩) (k + 1) cp))
        obtain ⟨w7, hw7⟩ : ∃ w7, w6.setCell ⟨D + 1, 0, none⟩ (.slice (some ⟨g, 0, none⟩) (k + 1) cp) = w7 := ⟨_, rfl⟩
        rw [hw7] at HT7 HL7 ⊢
        obtain ⟨q1, hq1⟩ : ∃ q1, (some ⟨g, 0, none⟩ : Option Addr) = q1 := ⟨_, rfl⟩
        rw [hq1] at HT7 ⊢
        clear hq1 hw7 hg6' hat6' hp6 c6 f6 hlt6 hat6 hg6 hown6 hDw5 b05 HT5 hb5' hb5 b0d K hbd hDw hgr b4 HT4
        have b7 := (unhide HT7).hp.cell 1 _ rfl
        have hgr : ∀ q, (Value.slice p2 k c2).ownBlock = some q → D + 2 ≤ q := fun q hq => ((unhide HT7).o2.lt q hq).1
        have hDw : D + 1 < w7.heap.size := (unhide HT7).hp.lt
        obtain ⟨z2, hz⟩ : ∃ z, partI sinC (spinS h (k : Int) xs) = z := ⟨_, rfl⟩
        have HZ2 := hide hz
        have hbd : Below w7.heap.size w7 w7.drew := ⟨rfl, rfl, rfl, Nat.le_refl _, fun _ _ => rfl⟩
        have K := hide (fun w' (hb : Below w7.heap.size w7 w') => rimag_any a4 c4 h (spinS h (k : Int) xs) w' ((unhide HL7).below hb) (spinS_small _ _ _) (spinS_len _ _ _) (by omega))
        rw [hz] at K
        have b0d : w7.drew.cell? ⟨D + 1, 1, none⟩ = some (.slice p2 k c2) := b7
        clear hz
        go_wp2
        go_region_law (first
          | (refine step_call 50 #[.slice a4 h c4] (by rfl) (by simp [Act.eval, go_sem]; done) ?_; refine (unhide K _ hbd).mono ?_; rintro e wz ⟨rfl, hb5⟩; refine ⟨_, rfl, ?_⟩; have hb5' := spin_undrew hb5; have HT5 := (unhide HT7).below hb5'; have b05 := (hb5'.cell (p := ⟨D + 1, 1, none⟩) hDw).trans b7; have hDw5 := Nat.lt_of_lt_of_le hDw hb5'.size)
          | (refine step_append_lies _ (by rfl) _ _ 22 (by rfl) (D + 2) 3 i0 (.int .i64 0) 1 8 Tryd.underlying22 hi hz0 hz1 hz2 (by rfl) (by decide) _ k _ (by rfl) (by first | exact (HT5.o2.alloc _) | exact (HT5.o2.alloc _).drew) ⟨wz.heap.size, 0, none⟩ 1 1 [.int .i64 z2] (by rfl) (by rfl) (cell_one_new _ _ _) (ints_one [z2]) (by decide) (by unfold maxLen; omega) (by omega) (by simp; omega) (wz.heap.size + 1) (by simp) ?_; intro g cp w6 hown6 hg6 hat6 hlt6; have hp6 := cells_grown (HT5.hp.alloc _) hg6 (fun q hq => by have := hgr q hq; omega); have c6 := hp6.cell 1 _ rfl; have f6 := hp6.free 1))
        all_goals (
          have hg6' : (wz.alloc (.cells #[.int .i64 z2] 3)).grownBy w6 (Value.slice p2 k c2).ownBlock := hg6
          have hat6' : (Value.slice p2 k c2).ownBlock = some g ∨ g = wz.heap.size + 1 := hat6
          have HT8 := hide (HT5.push2 hg6' hat6' hown6)
          rw [← parts_snoc cosC h xs k z1 (unhide HZ1), ← parts_snoc sinC h xs k z2 (unhide HZ2)] at HT8
          clear hg6' hat6' hp6 c6 f6 hlt6 hat6 hg6 hown6 hDw5 b05 HT5 hb5' hb5 b0d K hbd hDw hgr
          go_wp2
          go_roundw
          case rel => exact ⟨k + 1, _, _, _, _, by omega, by simp, HT8⟩
          case measure => simp [intOf]; omega))
    · have HKE := hide (show k = h + 1 by omega)
      have hkh : (h : Int) < (k : Int) := by omega
      have hk33 : k ≤ 33 := by omega
      have hk1 : 1 ≤ k := by omega
      have hnle : ¬ (k : Int) ≤ (h : Int) := by omega
      have b0 := (unhide HTr).hp.cell 0 _ rfl
      have b1 := (unhide HTr).hp.cell 1 _ rfl
      have b2 := (unhide HTr).hp.cell 2 _ rfl
      clear HT0
      obtain ⟨g1, rfl⟩ : ∃ g1, p1 = some ⟨g1, 0, none⟩ := by
        rcases (unhide HTr).o1.2 with ⟨h', h''⟩ | ⟨g, cap, cur, h1, _⟩
        · omega
        · cases h1; exact ⟨_, rfl⟩
      obtain ⟨g2, rfl⟩ : ∃ g2, p2 = some ⟨g2, 0, none⟩ := by
        rcases (unhide HTr).o2.2 with ⟨h', h''⟩ | ⟨g, cap, cur, h1, _⟩
        · omega
        · cases h1; exact ⟨_, rfl⟩
      obtain ⟨L1, hL1⟩ : ∃ L1, partsTo cosC h xs k = L1 := ⟨_, rfl⟩
      obtain ⟨L2, hL2⟩ : ∃ L2, partsTo sinC h xs k = L2 := ⟨_, rfl⟩
      have HL1 := hide hL1
      have HL2 := hide hL2
      rw [hL1, hL2] at HTr
      have hl1 : L1.length = k := by rw [← hL1]; exact mkL_len _ _
      have hl2 : L2.length = k := by rw [← hL2]; exact mkL_len _ _
      have HSm1 := hide (show Small L1 by rw [← hL1, parts_all cosC h xs k (unhide HKE)]; exact parts_small _ _ _)
      have HSm2 := hide (show Small L2 by rw [← hL2, parts_all sinC h xs k (unhide HKE)]; exact parts_small _ _ _)
      have HMV := hide (show movS h xs = if 15 < normI (L1 ++ L2) then normI (L1 ++ L2) - 15 else 0 by unfold movS shiftI; rw [← parts_all cosC h xs k (unhide HKE), ← parts_all sinC h xs k (unhide HKE), hL1, hL2])
      clear hL1 hL2
      have hwr : D + 1 < wr.heap.size := (unhide HTr).hp.lt
      have own0 : ((wr.alloc (.cells #[] 3)).drew).ownsRow wr.heap.size 3 1 (.slice (some ⟨wr.heap.size, 0, none⟩) 0 0) 0 [] := (World.ownsRow_lit wr #[] 0 (Nat.le_refl _) (by decide) rfl).drew
      have oa1 := ((unhide HTr).o1.alloc (.cells #[] 3)).drew
      have oa2 := ((unhide HTr).o2.alloc (.cells #[] 3)).drew
      have news1 := oa1.cells (g := g1) rfl
      go_wp2
      go_region_held3 (fun w' => w'.cell? ⟨D + 1, 0, none⟩ = some (.slice (some ⟨g1, 0, none⟩) k c1) ∧ w'.cell? ⟨D + 1, 1, none⟩ = some (.slice (some ⟨g2, 0, none⟩) k c2)) (first | exact ⟨b0, b1⟩ | exact sc | exact sb | assumption | go_keep)
        (first
          | (go_at_call 51; refine (rnorm_any _ _ (L1 ++ L2) (k + k) (by rw [List.length_append, hl1, hl2]) _ lc (by intro x hx; rcases List.mem_append.1 hx with hx | hx; exact unhide HSm1 x hx; exact unhide HSm2 x hx) (by omega)).mono ?_; rintro e wd ⟨rfl, rfl⟩)
          | (refine step_append_lies _ (by rfl) _ _ 22 (by rfl) wr.heap.size 3 i0 (.int .i64 0) 1 8 Tryd.underlying22 hi hz0 hz1 hz2 (by rfl) (by decide) _ (0 + k) _ (by rfl) ob ⟨g2, 0, none⟩ k c2 (ints L2) (by rfl) (by simp [ints, hl2]) news2 (ints_one L2) (by omega) (by unfold maxLen; omega) (by omega) (by have := hgb.size; simp at this; omega) _ rfl ?_; intro gc cpc wc oc hgc hatc hltc; have hpc := cells_grown hpb hgc (fun q hq => by have := (ob.lt q hq).1; omega); have sc := And.intro (hpc.cell 0 _ rfl) (hpc.cell 1 _ rfl); obtain ⟨_, _, hvc, lc, _⟩ := owned_lies (xs := L1 ++ L2) (by have := oc; simpa [ints] using this))
          | (refine step_append_lies _ (by rfl) _ _ 22 (by rfl) wr.heap.size 3 i0 (.int .i64 0) 1 8 Tryd.underlying22 hi hz0 hz1 hz2 (by rfl) (by decide) _ 0 [] (by rfl) own0 ⟨g1, 0, none⟩ k c1 (ints L1) (by rfl) (by simp [ints, hl1]) news1 (ints_one L1) (by omega) (by unfold maxLen; omega) (by omega) (by simp) _ rfl ?_; intro gb cpb wb ob hgb hatb hltb; have hpb := cells_grown ((unhide HTr).hp.alloc _).drew hgb (fun q hq => by have := (own0.lt q hq).1; omega); have sb := And.intro (hpb.cell 0 _ rfl) (hpb.cell 1 _ rfl); have ob2 := kept_if oa2 hgb (fun q hq e => by have := (own0.lt q hq).1; have := ((unhide HTr).o2.lt q e).2; omega); have news2 := ob2.cells (g := g2) rfl))
      have hgb' : ((wr.alloc (.cells #[] 3)).drew).grownBy wb (some wr.heap.size) := hgb
      have hgc' : wb.grownBy wd (some gb) := hgc
      have hgbl : wr.heap.size ≤ gb := (ob.lt gb rfl).1
      have HTd := hide (((((unhide HTr).below (alloc_below wr (.cells #[] 3)).drew).keep hgb' (fun q hq => by
          obtain rfl := Option.some.inj hq
          exact ⟨by omega, fun e => by have := ((unhide HTr).o1.lt _ e).2; omega, fun e => by have := ((unhide HTr).o2.lt _ e).2; omega⟩)).keep hgc' (fun q hq => by
          obtain rfl := Option.some.inj hq
          exact ⟨by omega, fun e => by have := ((unhide HTr).o1.lt _ e).2; omega, fun e => by have := ((unhide HTr).o2.lt _ e).2; omega⟩)).two)
      have hnb := norm_bd (L1 ++ L2) (by intro x hx; rcases List.mem_append.1 hx with hx | hx; exact unhide HSm1 x hx; exact unhide HSm2 x hx)
      obtain ⟨nb, hnbe⟩ : ∃ nb, normI (L1 ++ L2) = nb := ⟨_, rfl⟩
      rw [hnbe] at hnb HMV ⊢
      obtain ⟨nb0, nb1⟩ := hnb
      obtain ⟨sh, hsh⟩ : ∃ sh, movS h xs = sh := ⟨_, rfl⟩
      have HSH := hide hsh
      have hshv : sh = if 15 < nb then nb - 15 else 0 := by rw [← hsh]; exact unhide HMV
      have hsc := (unhide HTd).hp.cell 2 _ rfl
      have hsf := (unhide HTd).hp.free 2
      clear hgb hgc hgb' hgc' hgbl oc hpc sc hatc hltc ob ob2 news2 hatb hltb hpb sb own0 oa1 oa2 news1 hwr b0 b1 b2 HTr HMV hsh lc hnbe hvc
      have HT2 : ∃ W2, Hid (Bs2 w D W2 g1 g2 c1 c2 k sh L1 L2) ∧ (if 15 < nb then wd.setCell ⟨D + 1, 2, none⟩ (.int .i64 sh) else wd) = W2 := by
        by_cases c : 15 < nb
        · rw [if_pos c]; exact ⟨_, (unhide HTd).shift sh, rfl⟩
        · rw [if_neg c] at hshv ⊢
          subst hshv
          exact ⟨_, unhide HTd, rfl⟩
      obtain ⟨W2, HU, hW2⟩ := HT2
      by_cases c : 15 < nb
      case' pos =>
        rw [if_pos c] at hshv hW2
        have hsv : nb - 15 = sh := hshv.symm
        have hsb : 0 ≤ sh ∧ sh ≤ 49 := by omega
        clear hshv
        go_wp2
        clear hsv hW2 hsc hsf
      case' neg =>
        rw [if_neg c] at hW2 hshv
        have hW3 := hide hW2
        have hsb : 0 ≤ sh ∧ sh ≤ 49 := by omega
        clear hsc hsf hshv hW2
        go_wp2
        rw [unhide hW3]
        clear hW3
      all_goals (
        clear HTd nb0 nb1 c
        rw [← dnTo_zero sh L1, ← dnTo_zero sh L2] at HU
        go_loopw [9] (fun i wr => ∃ j : Nat, j ≤ k ∧ i = .int .i64 (j : Int) ∧ Hid (Bs2 w D wr g1 g2 c1 c2 k sh (dnTo sh L1 j) (dnTo sh L2 j)))
          (fun i _ => k - (intOf i).toNat)
        case atStart => exact ⟨0, by omega, rfl, HU⟩
        case round =>
          obtain ⟨j, hj, rfl, Hwa⟩ := hrel
          obtain ⟨wa, rfl⟩ : ∃ x, x = wr := ⟨_, rfl⟩
          by_cases hjh : j ≤ h
          · have hjk : (j : Int) < (k : Int) := by omega
            have hjn : j < k := by omega
            have hg1 : D + 2 ≤ g1 := ((unhide Hwa).o1.lt g1 rfl).1
            have hg2 : D + 2 ≤ g2 := ((unhide Hwa).o2.lt g2 rfl).1
            obtain ⟨x1, hx1⟩ : ∃ x, L1.getD j 0 = x := ⟨_, rfl⟩
            obtain ⟨x2, hx2⟩ : ∃ x, L2.getD j 0 = x := ⟨_, rfl⟩
            have hx1in : In64 x1 := by rw [← hx1]; exact (unhide HSm1).all j
            have hx2in : In64 x2 := by rw [← hx2]; exact (unhide HSm2).all j
            obtain ⟨y1, hy1⟩ : ∃ y, halfI x1 sh = y := ⟨_, rfl⟩
            obtain ⟨y2, hy2⟩ : ∃ y, halfI x2 sh = y := ⟨_, rfl⟩
            have HYy1 := hide hy1
            have HYy2 := hide hy2
            have hD1 := hide (show (dnTo sh L1 j).set j y1 = dnTo sh L1 (j + 1) by rw [← hy1, ← hx1]; exact dnTo_set sh L1 j (by omega))
            have hD2 := hide (show (dnTo sh L2 j).set j y2 = dnTo sh L2 (j + 1) by rw [← hy2, ← hx2]; exact dnTo_set sh L2 j (by omega))
            have ewax : wa.drew.cell? ⟨g1, j, none⟩ = some (.int .i64 x1) := by
              have := (unhide Hwa).o1.cellAt j (by omega)
              rw [ints_at _ j (by rw [dnTo_len]; omega), dnTo_at _ _ _ (by omega), hx1] at this
              exact this
            have ewaf : wa.drew.frozen? ⟨g1, j, none⟩ = false := (unhide Hwa).o1.frozenAt j
            have ewbx : ∀ W, Bs2 w D W g1 g2 c1 c2 k sh (dnTo sh L1 (j + 1)) (dnTo sh L2 j) → W.drew.cell? ⟨g2, j, none⟩ = some (.int .i64 x2) ∧ W.drew.frozen? ⟨g2, j, none⟩ = false := by
              intro W hW
              have := hW.o2.cellAt j (by omega)
              rw [ints_at _ j (by rw [dnTo_len]; omega), dnTo_at _ _ _ (by omega), hx2] at this
              exact ⟨this, hW.o2.frozenAt j⟩
            have EWB := hide ewbx
            have rwa0 : wa.drew.cell? ⟨D + 1, 0, none⟩ = some (.slice (some ⟨g1, 0, none⟩) k c1) := (unhide Hwa).hp.cell 0 _ rfl
            have rwas : wa.drew.cell? ⟨D + 1, 2, none⟩ = some (.int .i64 sh) := (unhide Hwa).hp.cell 2 _ rfl
            clear hx1 hx2 hy1 hy2 ewbx
            go_wp2
            refine region_ssa2 (fun f W => W = (bif f 12 then wa.drew.setCell ⟨g1, j, none⟩ (.int .i64 y1) else wa.drew) ∧ W.cell? ⟨D + 1, 0, none⟩ = some (.slice (some ⟨g1, 0, none⟩) k c1) ∧ W.cell? ⟨D + 1, 2, none⟩ = some (.int .i64 sh)) (fun jq vq wq => (∀ xq, (([some (.pointer (some ⟨D + 1, 0, none⟩)), some (.slice (some ⟨g1, 0, none⟩) k c1), some (.int .i64 (j : Int)), some (.pointer (some ⟨D + 1, 0, none⟩)), some (.slice (some ⟨g1, 0, none⟩) k c1), some (.int .i64 (j : Int)), some (.pointer (some ⟨g1, j, none⟩)), some (.int .i64 x1), some (.pointer (some ⟨D + 1, 2, none⟩)), some (.int .i64 sh), some (.int .i64 y1), some (.pointer (some ⟨g1, j, none⟩)), none] : List (Option Value)).getD jq none) = some xq → vq = xq)) (by kernel_rfl) (by kernel_rfl) ?_ ?_ ?_
            · intro fq hf
              exact ⟨by rw [hf 12 (by decide)]; rfl, rwa0, rwas⟩
            · intro iq op ho fq AQ W hf hdep hS hK hG
              have hlt : iq < 13 := (Array.getElem?_eq_some_iff.1 ho).1
              match iq, hlt with
              | 0, _ =>
                obtain rfl := (Option.some.inj ho).symm
                have d5 : AQ.tmps.getD 5 undef = .pointer (some ⟨D + 1, 0, none⟩) := hK.2.2 5 (by kernel_rfl)
                exact wpOp_val (v := (.pointer (some ⟨D + 1, 0, none⟩))) (w' := W) rfl (wanted_none rfl) (by simp [execOp, Act.eval, d5, go_sem]) ⟨_, rfl, hS, fun _ _ h => h, (by intro x hx; cases hx; rfl)⟩
              | 1, _ =>
                obtain rfl := (Option.some.inj ho).symm
                have d60 : AQ.tmps.getD 60 undef = .pointer (some ⟨D + 1, 0, none⟩) := ((hG ⟨0, .data⟩ (by simp) rfl).2 60 rfl) _ rfl
                have hc := hS.2.1
                exact wpOp_val (v := (.slice (some ⟨g1, 0, none⟩) k c1)) (w' := W) rfl (wanted_none rfl) (by simp [execOp, Act.eval, d60, hc, go_sem]) ⟨_, rfl, hS, fun _ _ h => h, (by intro x hx; cases hx; rfl)⟩
              | 2, _ =>
                obtain rfl := (Option.some.inj ho).symm
                have d9 : AQ.tmps.getD 9 undef = .int .i64 (j : Int) := hK.2.2 9 (by kernel_rfl)
                exact wpOp_val (v := (.int .i64 (j : Int))) (w' := W) rfl (wanted_none rfl) (by simp [execOp, Act.eval, d9, go_sem]) ⟨_, rfl, hS, fun _ _ h => h, (by intro x hx; cases hx; rfl)⟩
              | 3, _ =>
                obtain rfl := (Option.some.inj ho).symm
                have d5 : AQ.tmps.getD 5 undef = .pointer (some ⟨D + 1, 0, none⟩) := hK.2.2 5 (by kernel_rfl)
                exact wpOp_val (v := (.pointer (some ⟨D + 1, 0, none⟩))) (w' := W) rfl (wanted_none rfl) (by simp [execOp, Act.eval, d5, go_sem]) ⟨_, rfl, hS, fun _ _ h => h, (by intro x hx; cases hx; rfl)⟩
              | 4, _ =>
                obtain rfl := (Option.some.inj ho).symm
                have d63 : AQ.tmps.getD 63 undef = .pointer (some ⟨D + 1, 0, none⟩) := ((hG ⟨3, .data⟩ (by simp) rfl).2 63 rfl) _ rfl
                have hc := hS.2.1
                exact wpOp_val (v := (.slice (some ⟨g1, 0, none⟩) k c1)) (w' := W) rfl (wanted_none rfl) (by simp [execOp, Act.eval, d63, hc, go_sem]) ⟨_, rfl, hS, fun _ _ h => h, (by intro x hx; cases hx; rfl)⟩
              | 5, _ =>
                obtain rfl := (Option.some.inj ho).symm
                have d9 : AQ.tmps.getD 9 undef = .int .i64 (j : Int) := hK.2.2 9 (by kernel_rfl)
                exact wpOp_val (v := (.int .i64 (j : Int))) (w' := W) rfl (wanted_none rfl) (by simp [execOp, Act.eval, d9, go_sem]) ⟨_, rfl, hS, fun _ _ h => h, (by intro x hx; cases hx; rfl)⟩
              | 6, _ =>
                obtain rfl := (Option.some.inj ho).symm
                have d64 : AQ.tmps.getD 64 undef = .slice (some ⟨g1, 0, none⟩) k c1 := ((hG ⟨4, .data⟩ (by simp) rfl).2 64 rfl) _ rfl
                have d65 : AQ.tmps.getD 65 undef = .int .i64 (j : Int) := ((hG ⟨5, .data⟩ (by simp) rfl).2 65 rfl) _ rfl
                exact wpOp_val (v := (.pointer (some ⟨g1, j, none⟩))) (w' := W) rfl (wanted_none rfl) (by simp [execOp, Act.eval, d64, d65, hjk, go_sem]) ⟨_, rfl, hS, fun _ _ h => h, (by intro x hx; cases hx; rfl)⟩
              | 7, _ =>
                obtain rfl := (Option.some.inj ho).symm
                have d66 : AQ.tmps.getD 66 undef = .pointer (some ⟨g1, j, none⟩) := ((hG ⟨6, .data⟩ (by simp) rfl).2 66 rfl) _ rfl
                have h12 : fq 12 = false := by
                  cases hb : fq 12 with
                  | false => rfl
                  | true =>
                    have h10 := hdep 12 _ rfl hb ⟨10, .data⟩ (by simp) rfl
                    have h7 := hdep 10 _ rfl h10 ⟨7, .data⟩ (by simp) rfl
                    rw [hf] at h7; cases h7
                have hSf := hS.1
                rw [h12] at hSf
                have hW : W = wa.drew := hSf
                have hc : W.cell? ⟨g1, j, none⟩ = some (.int .i64 x1) := by rw [hW]; exact ewax
                exact wpOp_val (v := (.int .i64 x1)) (w' := W) rfl (wanted_none rfl) (by simp [execOp, Act.eval, d66, hc, go_sem]) ⟨_, rfl, hS, fun _ _ h => h, (by intro x hx; cases hx; rfl)⟩
              | 8, _ =>
                obtain rfl := (Option.some.inj ho).symm
                have d5 : AQ.tmps.getD 5 undef = .pointer (some ⟨D + 1, 0, none⟩) := hK.2.2 5 (by kernel_rfl)
                exact wpOp_val (v := (.pointer (some ⟨D + 1, 2, none⟩))) (w' := W) rfl (wanted_none rfl) (by simp [execOp, Act.eval, d5, go_sem]) ⟨_, rfl, hS, fun _ _ h => h, (by intro x hx; cases hx; rfl)⟩
              | 9, _ =>
                obtain rfl := (Option.some.inj ho).symm
                have d68 : AQ.tmps.getD 68 undef = .pointer (some ⟨D + 1, 2, none⟩) := ((hG ⟨8, .data⟩ (by simp) rfl).2 68 rfl) _ rfl
                have hc := hS.2.2
                exact wpOp_val (v := (.int .i64 sh)) (w' := W) rfl (wanted_none rfl) (by simp [execOp, Act.eval, d68, hc, go_sem]) ⟨_, rfl, hS, fun _ _ h => h, (by intro x hx; cases hx; rfl)⟩
              | 10, _ =>
                obtain rfl := (Option.some.inj ho).symm
                have d67 : AQ.tmps.getD 67 undef = .int .i64 x1 := ((hG ⟨7, .data⟩ (by simp) rfl).2 67 rfl) _ rfl
                have d69 : AQ.tmps.getD 69 undef = .int .i64 sh := ((hG ⟨9, .data⟩ (by simp) rfl).2 69 rfl) _ rfl
                have h12 : fq 12 = false := by
                  cases hb : fq 12 with
                  | false => rfl
                  | true =>
                    have h10 := hdep 12 _ rfl hb ⟨10, .data⟩ (by simp) rfl
                    rw [hf] at h10; cases h10
                refine wpOp_call (f := 52) (args := #[.int .i64 x1, .int .i64 sh]) (w' := W) rfl (wanted_none rfl) (by simp [execOp, Act.eval, d67, d69, go_sem]) ?_
                refine (rhalf_any x1 sh W hx1in).mono ?_
                rintro ee w' ⟨rfl, rfl⟩
                rw [unhide HYy1]
                exact ⟨_, rfl, _, rfl, hS, fun _ _ h => h, (by intro x hx; cases hx; rfl)⟩
              | 11, _ =>
                obtain rfl := (Option.some.inj ho).symm
                have d61 : AQ.tmps.getD 61 undef = .slice (some ⟨g1, 0, none⟩) k c1 := ((hG ⟨1, .data⟩ (by simp) rfl).2 61 rfl) _ rfl
                have d62 : AQ.tmps.getD 62 undef = .int .i64 (j : Int) := ((hG ⟨2, .data⟩ (by simp) rfl).2 62 rfl) _ rfl
                exact wpOp_val (v := (.pointer (some ⟨g1, j, none⟩))) (w' := W) rfl (wanted_none rfl) (by simp [execOp, Act.eval, d61, d62, hjk, go_sem]) ⟨_, rfl, hS, fun _ _ h => h, (by intro x hx; cases hx; rfl)⟩
              | 12, _ =>
                obtain rfl := (Option.some.inj ho).symm
                have d71 : AQ.tmps.getD 71 undef = .pointer (some ⟨g1, j, none⟩) := ((hG ⟨11, .data⟩ (by simp) rfl).2 71 rfl) _ rfl
                have d70 : AQ.tmps.getD 70 undef = .int .i64 y1 := ((hG ⟨10, .data⟩ (by simp) rfl).2 70 rfl) _ rfl
                have hSf := hS.1
                rw [hf] at hSf
                have hW : W = wa.drew := hSf
                have hc : W.cell? ⟨g1, j, none⟩ = some (.int .i64 x1) := by rw [hW]; exact ewax
                have hfz : W.frozen? ⟨g1, j, none⟩ = false := by rw [hW]; exact ewaf
                exact wpOp_skip (w' := W.setCell ⟨g1, j, none⟩ (.int .i64 y1)) rfl (wanted_none rfl) (by simp [execOp, Act.eval, d71, d70, hc, hfz, go_sem]) ⟨_, rfl, ⟨by rw [hW]; rfl, by rw [World.cell?_of_block (Below.heap_setCell _ _ _ _ (by show D + 1 ≠ g1; omega))]; exact hS.2.1, by rw [World.cell?_of_block (Below.heap_setCell _ _ _ _ (by show D + 1 ≠ g1; omega))]; exact hS.2.2⟩, fun _ _ h => h, (by intro x hx; cases hx)⟩
            · intro fq W vals hf hS hG
              have ev0 : vals 0 = .pointer (some ⟨D + 1, 0, none⟩) := (hG 0 60 (by decide) rfl) _ rfl
              have ev1 : vals 1 = .slice (some ⟨g1, 0, none⟩) k c1 := (hG 1 61 (by decide) rfl) _ rfl
              have ev2 : vals 2 = .int .i64 (j : Int) := (hG 2 62 (by decide) rfl) _ rfl
              have ev3 : vals 3 = .pointer (some ⟨D + 1, 0, none⟩) := (hG 3 63 (by decide) rfl) _ rfl
              have ev4 : vals 4 = .slice (some ⟨g1, 0, none⟩) k c1 := (hG 4 64 (by decide) rfl) _ rfl
              have ev5 : vals 5 = .int .i64 (j : Int) := (hG 5 65 (by decide) rfl) _ rfl
              have ev6 : vals 6 = .pointer (some ⟨g1, j, none⟩) := (hG 6 66 (by decide) rfl) _ rfl
              have ev7 : vals 7 = .int .i64 x1 := (hG 7 67 (by decide) rfl) _ rfl
              have ev8 : vals 8 = .pointer (some ⟨D + 1, 2, none⟩) := (hG 8 68 (by decide) rfl) _ rfl
              have ev9 : vals 9 = .int .i64 sh := (hG 9 69 (by decide) rfl) _ rfl
              have ev10 : vals 10 = .int .i64 y1 := (hG 10 70 (by decide) rfl) _ rfl
              have ev11 : vals 11 = .pointer (some ⟨g1, j, none⟩) := (hG 11 71 (by decide) rfl) _ rfl
              change (_ : Exit → Act → World → Prop) Exit.normal (Act.put (Act.put (Act.put (Act.put (Act.put (Act.put (Act.put (Act.put (Act.put (Act.put (Act.put (Act.put (Act.put _ (some 60) (vals 0)) (some 61) (vals 1)) (some 62) (vals 2)) (some 63) (vals 3)) (some 64) (vals 4)) (some 65) (vals 5)) (some 66) (vals 6)) (some 67) (vals 7)) (some 68) (vals 8)) (some 69) (vals 9)) (some 70) (vals 10)) (some 71) (vals 11)) none (vals 12)) W
              rw [putAll_zero, ev0, ev1, ev2, ev3, ev4, ev5, ev6, ev7, ev8, ev9, ev10, ev11]
              generalize vals 12 = xv12
              have hSf := hS.1
              rw [hf 12 (by decide)] at hSf
              have hWW : W = wa.drew.setCell ⟨g1, j, none⟩ (.int .i64 y1) := hSf
              have Hwb := hide (show Bs2 w D W g1 g2 c1 c2 k sh _ _ by rw [hWW]; exact (unhide Hwa).drew.set1 j y1)
              obtain ⟨wb, hHwb⟩ : ∃ x, x = W := ⟨_, rfl⟩
              rw [← hHwb] at Hwb ⊢
              clear hS hG hf hSf hWW hHwb ev0 ev1 ev2 ev3 ev4 ev5 ev6 ev7 ev8 ev9 ev10 ev11
              clear vals fq
              go_simp
              rw [unhide hD1] at Hwb
              have r := unhide EWB wb (unhide Hwb)
              have ewbx := r.1
              have ewbf := r.2
              have rwb1 : wb.drew.cell? ⟨D + 1, 1, none⟩ = some (.slice (some ⟨g2, 0, none⟩) k c2) := (unhide Hwb).hp.cell 1 _ rfl
              have rwbs : wb.drew.cell? ⟨D + 1, 2, none⟩ = some (.int .i64 sh) := (unhide Hwb).hp.cell 2 _ rfl
              clear r rwa0 rwas ewax ewaf Hwa
              go_wp2
              refine region_ssa2 (fun f W => W = (bif f 12 then wb.drew.setCell ⟨g2, j, none⟩ (.int .i64 y2) else wb.drew) ∧ W.cell? ⟨D + 1, 1, none⟩ = some (.slice (some ⟨g2, 0, none⟩) k c2) ∧ W.cell? ⟨D + 1, 2, none⟩ = some (.int .i64 sh)) (fun jq vq wq => (∀ xq, (([some (.pointer (some ⟨D + 1, 1, none⟩)), some (.slice (some ⟨g2, 0, none⟩) k c2), some (.int .i64 (j : Int)), some (.pointer (some ⟨D + 1, 1, none⟩)), some (.slice (some ⟨g2, 0, none⟩) k c2), some (.int .i64 (j : Int)), some (.pointer (some ⟨g2, j, none⟩)), some (.int .i64 x2), some (.pointer (some ⟨D + 1, 2, none⟩)), some (.int .i64 sh), some (.int .i64 y2), some (.pointer (some ⟨g2, j, none⟩)), none] : List (Option Value)).getD jq none) = some xq → vq = xq)) (by kernel_rfl) (by kernel_rfl) ?_ ?_ ?_
              · intro fq hf
                exact ⟨by rw [hf 12 (by decide)]; rfl, rwb1, rwbs⟩
              · intro iq op ho fq AQ W hf hdep hS hK hG
                have hlt : iq < 13 := (Array.getElem?_eq_some_iff.1 ho).1
                match iq, hlt with
                | 0, _ =>
                  obtain rfl := (Option.some.inj ho).symm
                  have d5 : AQ.tmps.getD 5 undef = .pointer (some ⟨D + 1, 0, none⟩) := hK.2.2 5 (by kernel_rfl)
                  exact wpOp_val (v := (.pointer (some ⟨D + 1, 1, none⟩))) (w' := W) rfl (wanted_none rfl) (by simp [execOp, Act.eval, d5, go_sem]) ⟨_, rfl, hS, fun _ _ h => h, (by intro x hx; cases hx; rfl)⟩
                | 1, _ =>
                  obtain rfl := (Option.some.inj ho).symm
                  have d72 : AQ.tmps.getD 72 undef = .pointer (some ⟨D + 1, 1, none⟩) := ((hG ⟨0, .data⟩ (by simp) rfl).2 72 rfl) _ rfl
                  have hc := hS.2.1
                  exact wpOp_val (v := (.slice (some ⟨g2, 0, none⟩) k c2)) (w' := W) rfl (wanted_none rfl) (by simp [execOp, Act.eval, d72, hc, go_sem]) ⟨_, rfl, hS, fun _ _ h => h, (by intro x hx; cases hx; rfl)⟩
                | 2, _ =>
                  obtain rfl := (Option.some.inj ho).symm
                  have d9 : AQ.tmps.getD 9 undef = .int .i64 (j : Int) := hK.2.2 9 (by kernel_rfl)
                  exact wpOp_val (v := (.int .i64 (j : Int))) (w' := W) rfl (wanted_none rfl) (by simp [execOp, Act.eval, d9, go_sem]) ⟨_, rfl, hS, fun _ _ h => h, (by intro x hx; cases hx; rfl)⟩
                | 3, _ =>
                  obtain rfl := (Option.some.inj ho).symm
                  have d5 : AQ.tmps.getD 5 undef = .pointer (some ⟨D + 1, 0, none⟩) := hK.2.2 5 (by kernel_rfl)
                  exact wpOp_val (v := (.pointer (some ⟨D + 1, 1, none⟩))) (w' := W) rfl (wanted_none rfl) (by simp [execOp, Act.eval, d5, go_sem]) ⟨_, rfl, hS, fun _ _ h => h, (by intro x hx; cases hx; rfl)⟩
                | 4, _ =>
                  obtain rfl := (Option.some.inj ho).symm
                  have d75 : AQ.tmps.getD 75 undef = .pointer (some ⟨D + 1, 1, none⟩) := ((hG ⟨3, .data⟩ (by simp) rfl).2 75 rfl) _ rfl
                  have hc := hS.2.1
                  exact wpOp_val (v := (.slice (some ⟨g2, 0, none⟩) k c2)) (w' := W) rfl (wanted_none rfl) (by simp [execOp, Act.eval, d75, hc, go_sem]) ⟨_, rfl, hS, fun _ _ h => h, (by intro x hx; cases hx; rfl)⟩
                | 5, _ =>
                  obtain rfl := (Option.some.inj ho).symm
                  have d9 : AQ.tmps.getD 9 undef = .int .i64 (j : Int) := hK.2.2 9 (by kernel_rfl)
                  exact wpOp_val (v := (.int .i64 (j : Int))) (w' := W) rfl (wanted_none rfl) (by simp [execOp, Act.eval, d9, go_sem]) ⟨_, rfl, hS, fun _ _ h => h, (by intro x hx; cases hx; rfl)⟩
                | 6, _ =>
                  obtain rfl := (Option.some.inj ho).symm
                  have d76 : AQ.tmps.getD 76 undef = .slice (some ⟨g2, 0, none⟩) k c2 := ((hG ⟨4, .data⟩ (by simp) rfl).2 76 rfl) _ rfl
                  have d77 : AQ.tmps.getD 77 undef = .int .i64 (j : Int) := ((hG ⟨5, .data⟩ (by simp) rfl).2 77 rfl) _ rfl
                  exact wpOp_val (v := (.pointer (some ⟨g2, j, none⟩))) (w' := W) rfl (wanted_none rfl) (by simp [execOp, Act.eval, d76, d77, hjk, go_sem]) ⟨_, rfl, hS, fun _ _ h => h, (by intro x hx; cases hx; rfl)⟩
                | 7, _ =>
                  obtain rfl := (Option.some.inj ho).symm
                  have d78 : AQ.tmps.getD 78 undef = .pointer (some ⟨g2, j, none⟩) := ((hG ⟨6, .data⟩ (by simp) rfl).2 78 rfl) _ rfl
                  have h12 : fq 12 = false := by
                    cases hb : fq 12 with
                    | false => rfl
                    | true =>
                      have h10 := hdep 12 _ rfl hb ⟨10, .data⟩ (by simp) rfl
                      have h7 := hdep 10 _ rfl h10 ⟨7, .data⟩ (by simp) rfl
                      rw [hf] at h7; cases h7
                  have hSf := hS.1
                  rw [h12] at hSf
                  have hW : W = wb.drew := hSf
                  have hc : W.cell? ⟨g2, j, none⟩ = some (.int .i64 x2) := by rw [hW]; exact ewbx
                  exact wpOp_val (v := (.int .i64 x2)) (w' := W) rfl (wanted_none rfl) (by simp [execOp, Act.eval, d78, hc, go_sem]) ⟨_, rfl, hS, fun _ _ h => h, (by intro x hx; cases hx; rfl)⟩
                | 8, _ =>
                  obtain rfl := (Option.some.inj ho).symm
                  have d5 : AQ.tmps.getD 5 undef = .pointer (some ⟨D + 1, 0, none⟩) := hK.2.2 5 (by kernel_rfl)
                  exact wpOp_val (v := (.pointer (some ⟨D + 1, 2, none⟩))) (w' := W) rfl (wanted_none rfl) (by simp [execOp, Act.eval, d5, go_sem]) ⟨_, rfl, hS, fun _ _ h => h, (by intro x hx; cases hx; rfl)⟩
                | 9, _ =>
                  obtain rfl := (Option.some.inj ho).symm
                  have d80 : AQ.tmps.getD 80 undef = .pointer (some ⟨D + 1, 2, none⟩) := ((hG ⟨8, .data⟩ (by simp) rfl).2 80 rfl) _ rfl
                  have hc := hS.2.2
                  exact wpOp_val (v := (.int .i64 sh)) (w' := W) rfl (wanted_none rfl) (by simp [execOp, Act.eval, d80, hc, go_sem]) ⟨_, rfl, hS, fun _ _ h => h, (by intro x hx; cases hx; rfl)⟩
                | 10, _ =>
                  obtain rfl := (Option.some.inj ho).symm
                  have d79 : AQ.tmps.getD 79 undef = .int .i64 x2 := ((hG ⟨7, .data⟩ (by simp) rfl).2 79 rfl) _ rfl
                  have d81 : AQ.tmps.getD 81 undef = .int .i64 sh := ((hG ⟨9, .data⟩ (by simp) rfl).2 81 rfl) _ rfl
                  have h12 : fq 12 = false := by
                    cases hb : fq 12 with
                    | false => rfl
                    | true =>
                      have h10 := hdep 12 _ rfl hb ⟨10, .data⟩ (by simp) rfl
                      rw [hf] at h10; cases h10
                  refine wpOp_call (f := 52) (args := #[.int .i64 x2, .int .i64 sh]) (w' := W) rfl (wanted_none rfl) (by simp [execOp, Act.eval, d79, d81, go_sem]) ?_
                  refine (rhalf_any x2 sh W hx2in).mono ?_
                  rintro ee w' ⟨rfl, rfl⟩
                  rw [unhide HYy2]
                  exact ⟨_, rfl, _, rfl, hS, fun _ _ h => h, (by intro x hx; cases hx; rfl)⟩
                | 11, _ =>
                  obtain rfl := (Option.some.inj ho).symm
                  have d73 : AQ.tmps.getD 73 undef = .slice (some ⟨g2, 0, none⟩) k c2 := ((hG ⟨1, .data⟩ (by simp) rfl).2 73 rfl) _ rfl
                  have d74 : AQ.tmps.getD 74 undef = .int .i64 (j : Int) := ((hG ⟨2, .data⟩ (by simp) rfl).2 74 rfl) _ rfl
                  exact wpOp_val (v := (.pointer (some ⟨g2, j, none⟩))) (w' := W) rfl (wanted_none rfl) (by simp [execOp, Act.eval, d73, d74, hjk, go_sem]) ⟨_, rfl, hS, fun _ _ h => h, (by intro x hx; cases hx; rfl)⟩
                | 12, _ =>
                  obtain rfl := (Option.some.inj ho).symm
                  have d83 : AQ.tmps.getD 83 undef = .pointer (some ⟨g2, j, none⟩) := ((hG ⟨11, .data⟩ (by simp) rfl).2 83 rfl) _ rfl
                  have d82 : AQ.tmps.getD 82 undef = .int .i64 y2 := ((hG ⟨10, .data⟩ (by simp) rfl).2 82 rfl) _ rfl
                  have hSf := hS.1
                  rw [hf] at hSf
                  have hW : W = wb.drew := hSf
                  have hc : W.cell? ⟨g2, j, none⟩ = some (.int .i64 x2) := by rw [hW]; exact ewbx
                  have hfz : W.frozen? ⟨g2, j, none⟩ = false := by rw [hW]; exact ewbf
                  exact wpOp_skip (w' := W.setCell ⟨g2, j, none⟩ (.int .i64 y2)) rfl (wanted_none rfl) (by simp [execOp, Act.eval, d83, d82, hc, hfz, go_sem]) ⟨_, rfl, ⟨by rw [hW]; rfl, by rw [World.cell?_of_block (Below.heap_setCell _ _ _ _ (by show D + 1 ≠ g2; omega))]; exact hS.2.1, by rw [World.cell?_of_block (Below.heap_setCell _ _ _ _ (by show D + 1 ≠ g2; omega))]; exact hS.2.2⟩, fun _ _ h => h, (by intro x hx; cases hx)⟩
              · intro fq W vals hf hS hG
                have ev0 : vals 0 = .pointer (some ⟨D + 1, 1, none⟩) := (hG 0 72 (by decide) rfl) _ rfl
                have ev1 : vals 1 = .slice (some ⟨g2, 0, none⟩) k c2 := (hG 1 73 (by decide) rfl) _ rfl
                have ev2 : vals 2 = .int .i64 (j : Int) := (hG 2 74 (by decide) rfl) _ rfl
                have ev3 : vals 3 = .pointer (some ⟨D + 1, 1, none⟩) := (hG 3 75 (by decide) rfl) _ rfl
                have ev4 : vals 4 = .slice (some ⟨g2, 0, none⟩) k c2 := (hG 4 76 (by decide) rfl) _ rfl
                have ev5 : vals 5 = .int .i64 (j : Int) := (hG 5 77 (by decide) rfl) _ rfl
                have ev6 : vals 6 = .pointer (some ⟨g2, j, none⟩) := (hG 6 78 (by decide) rfl) _ rfl
                have ev7 : vals 7 = .int .i64 x2 := (hG 7 79 (by decide) rfl) _ rfl
                have ev8 : vals 8 = .pointer (some ⟨D + 1, 2, none⟩) := (hG 8 80 (by decide) rfl) _ rfl
                have ev9 : vals 9 = .int .i64 sh := (hG 9 81 (by decide) rfl) _ rfl
                have ev10 : vals 10 = .int .i64 y2 := (hG 10 82 (by decide) rfl) _ rfl
                have ev11 : vals 11 = .pointer (some ⟨g2, j, none⟩) := (hG 11 83 (by decide) rfl) _ rfl
                change (_ : Exit → Act → World → Prop) Exit.normal (Act.put (Act.put (Act.put (Act.put (Act.put (Act.put (Act.put (Act.put (Act.put (Act.put (Act.put (Act.put (Act.put _ (some 72) (vals 0)) (some 73) (vals 1)) (some 74) (vals 2)) (some 75) (vals 3)) (some 76) (vals 4)) (some 77) (vals 5)) (some 78) (vals 6)) (some 79) (vals 7)) (some 80) (vals 8)) (some 81) (vals 9)) (some 82) (vals 10)) (some 83) (vals 11)) none (vals 12)) W
                rw [putAll_zero, ev0, ev1, ev2, ev3, ev4, ev5, ev6, ev7, ev8, ev9, ev10, ev11]
                generalize vals 12 = xv12
                have hSf := hS.1
                rw [hf 12 (by decide)] at hSf
                have hWW : W = wb.drew.setCell ⟨g2, j, none⟩ (.int .i64 y2) := hSf
                have Hwc := hide (show Bs2 w D W g1 g2 c1 c2 k sh _ _ by rw [hWW]; exact (unhide Hwb).drew.set2 j y2)
                obtain ⟨wc, hHwc⟩ : ∃ x, x = W := ⟨_, rfl⟩
                rw [← hHwc] at Hwc ⊢
                clear hS hG hf hSf hWW hHwc ev0 ev1 ev2 ev3 ev4 ev5 ev6 ev7 ev8 ev9 ev10 ev11
                clear vals fq
                go_simp
                rw [unhide hD2] at Hwc
                clear rwb1 rwbs ewbx ewbf Hwb
                go_wp2
                go_roundw
                case rel => exact ⟨j + 1, by omega, by simp, Hwc⟩
                case measure => simp [intOf]; omega
          · have hjk : j = k := by have := unhide HKE; omega
            subst hjk
            rw [dnTo_all sh L1 j hl1, dnTo_all sh L2 j hl2] at Hwa
            have p0 := (unhide Hwa).hp.cell 0 _ rfl
            have p1 := (unhide Hwa).hp.cell 1 _ rfl
            have p2 := (unhide Hwa).hp.cell 2 _ rfl
            have r0 := (unhide Hwa).hr.cell 0 _ rfl
            have r1 := (unhide Hwa).hr.cell 1 _ rfl
            have r2 := (unhide Hwa).hr.cell 2 _ rfl
            have f0 := (unhide Hwa).hr.free 0
            have f1 := (unhide Hwa).hr.free 1
            have f2 := (unhide Hwa).hr.free 2
            go_wp2
            have ho : Only D wa (((wa.setCell ⟨D, 0, none⟩ (.slice (some ⟨g1, 0, none⟩) j c1)).setCell ⟨D, 1, none⟩ (.slice (some ⟨g2, 0, none⟩) j c2)).setCell ⟨D, 2, none⟩ (.int .i64 sh)) := ((setOnly 0 _).trans (setOnly 1 _)).trans (setOnly 2 _)
            have hc9 := (((unhide Hwa).hr.set 0 (.slice (some ⟨g1, 0, none⟩) j c1)).set 1 (.slice (some ⟨g2, 0, none⟩) j c2)).set 2 (.int .i64 sh)
            have d0 := hc9.cell 0 _ rfl
            have d1 := hc9.cell 1 _ rfl
            have d2 := hc9.cell 2 _ rfl
            refine bodyPost_ret (v := .agg #[.slice (some ⟨g1, 0, none⟩) j c1, .slice (some ⟨g2, 0, none⟩) j c2, .int .i64 sh]) (by simp [results, Tryd.results30, go_sem, d0, d1, d2]) rfl ?_
            obtain ⟨q1, k1, v1, l1, n1⟩ := owned_lies (unhide Hwa).o1
            obtain ⟨q2, k2, v2, l2, n2⟩ := owned_lies (unhide Hwa).o2
            injection v1 with va1 _ _
            injection v2 with va2 _ _
            rw [← va1] at l1
            rw [← va2] at l2
            have hg1 : D + 2 ≤ g1 := ((unhide Hwa).o1.lt g1 rfl).1
            have hg2 : D + 2 ≤ g2 := ((unhide Hwa).o2.lt g2 rfl).1
            refine ⟨_, _, c1, c2, by rw [unhide HSH, unhide HKE], ?_, ?_, ho.below (by have := (unhide Hwa).hd; omega) (unhide Hwa).hb.size |> fun hb => (unhide Hwa).hb.trans hb⟩
            · rw [unhide HSH, ← parts_all cosC h xs j (unhide HKE), unhide HL1]
              exact l1.only ho (fun _ p hp => by cases hp; show g1 ≠ D; omega)
            · rw [unhide HSH, ← parts_all sinC h xs j (unhide HKE), unhide HL2]
              exact l2.only ho (fun _ p hp => by cases hp; show g2 ≠ D; omega))

theorem rbins_no (a : Option Addr) (cap n : Nat) (w : World) (hM : ¬ mayF n) (hn : n ≤ 1000) :
    Calls Tryd.prog 30 #[.slice a n cap] w fun e w' => e = .returned (.agg #[.slice none 0 0, .slice none 0 0, .int .i64 0]) ∧ Below w.heap.size w w' := by
  have HM := hide hM
  clear hM
  go_enter Tryd.func30, Tryd.ntmps30
  go_wp2_with fail
  refine (rfmay_no n _ (unhide HM) hn).mono ?_
  rintro e w0 ⟨rfl, rfl⟩
  go_wp2
  have hc9 := cells_new w [.slice none 0 0, .slice none 0 0, .int .i64 0] 51
  have d0 := hc9.cell 0 _ rfl
  have d1 := hc9.cell 1 _ rfl
  have d2 := hc9.cell 2 _ rfl
  refine bodyPost_ret (v := .agg #[.slice none 0 0, .slice none 0 0, .int .i64 0]) (by simp [results, Tryd.results30, go_sem, d0, d1, d2]) rfl ?_
  exact ⟨rfl, alloc_below _ _⟩
end Go.Proofs.YtafbdkebokhnlaaDoor
