/- SpinSizes returns true. -/
import Derived.Test.YtcnpbkgnoeoccaaDoorTells
namespace Go.Proofs.YtcnpbkgnoeoccaaDoor
open Go.RowKit
set_option linter.unusedVariables false

/-- append of all numbers of a row to a row of its own: also of a row that is nil. -/
theorem wpList_append_any {P : Program} {w : World} {ops : Array Oper} {rest : List Oper} {o : Oper} {a : Act} {Q : Exit → Act → World → Prop} (hgd : o.guard = none) (s x : Operand) (t : TypeId)
    (ho : o.op = .call { callee := .builtin .append, args := #[s, x], argTypes := #[t, t] })
    (base : Nat) (i : TypeInfo) (ht : P.underlying t = some (.slice 3)) (hi : P.info? 3 = some i) (hz : i.zero = some (.int .i64 0))
    (hsize : i.size = 1) (hby : i.bytes = 8)
    (v : Value) (hs : a.eval s = v) (hown : w.ownsRow base 3 1 v 0 [])
    (ax : Option Addr) (m c : Nat) (xs : List Int) (hx : a.eval x = .slice ax m c) (hl : xs.length = m) (hlies : Lies w ax xs) (hnone : ax = none → xs = [] ∧ c = 0)
    (hm : m ≤ 1000000) (hbase : base ≤ w.heap.size)
    (h : ∀ v' w', w'.ownsRow base 3 1 v' m (xs.map (Value.int .i64)) → w.grownBy w' v.ownBlock → wpList P ops Q rest (a.put o.dst v') w') : wpList P ops Q (o :: rest) a w := by
  cases ax with
  | none =>
    obtain ⟨rfl, rfl⟩ := hnone rfl
    subst hl
    exact wpList_append_own_none hgd s x t ho base 3 i 1 ht hi v 0 [] hs hown hx (h v w hown ⟨rfl, rfl, rfl, Nat.le_refl _, fun _ _ _ => rfl⟩)
  | some ad =>
    refine wpList_append_own w hgd s x t ho base 3 i (.int .i64 0) 1 8 ht hi hz hsize hby rfl (by decide) v 0 [] hs hown ad m c (xs.map (Value.int .i64)) hx (by simp [hl]) (lies_news hlies) (ints_one xs) (by unfold maxLen; omega) (by omega) hbase fun v' w' h1 h2 _ => ?_
    rw [Nat.zero_add] at h1
    exact h v' w' h1 h2
set_option maxRecDepth 100000 in
set_option maxHeartbeats 6400000 in
theorem sizes_walk (a b : Option Addr) (n ca m cb : Nat) (zx zy : List Int) (k : Int) (w : World) (hx : IsRow .i64 w a n ca zx) (hy : IsRow .i64 w b m cb zy) (hk : In64 k) (hq : Quar w) :
    Calls Tryd.prog 7 #[.slice a n ca, .slice b m cb, .int .i64 k] w fun e w' => e = .returned (.bool true) ∧ Below w.heap.size w w' := by
  obtain ⟨i0, hi, hz0, hz1, hz2⟩ := info_parts Tryd.info3
  obtain ⟨fx, hf40, hfc, hfm, hfl, hfs, hfn, hfew⟩ := few_came a n ca zx w hx
  obtain ⟨fy, hg40, hgc, hgm, hgl, hgs, hgn, hgew⟩ := few_came b m cb zy w hy
  obtain ⟨nf, hnf⟩ : ∃ n, fx.length = n := ⟨_, rfl⟩
  obtain ⟨mf, hmf⟩ : ∃ n, fy.length = n := ⟨_, rfl⟩
  obtain ⟨l3, hl3⟩ : ∃ n, (sum3 fx fy fx).length = n := ⟨_, rfl⟩
  obtain ⟨l2, hl2⟩ : ∃ n, (less2 fx fy).length = n := ⟨_, rfl⟩
  rw [hnf] at hfew hf40
  rw [hmf] at hgew hg40
  have HLL : Hid ((nf = mf ∧ nf = l3 ∧ nf = l2) ∨ (mf ≠ nf ∧ 0 = l3 ∧ 0 = l2)) := by
    show _ ∨ _
    rw [← hl3, ← hl2]
    unfold sum3 less2
    by_cases c : mf = nf
    · rw [if_pos ⟨by omega, rfl⟩, if_pos (by omega), add2_len, add2_len, less_len]; exact .inl ⟨c.symm, hnf.symm, hnf.symm⟩
    · rw [if_neg (fun h => c (by omega)), if_neg (fun h => c (by omega))]; exact .inr ⟨c, rfl, rfl⟩
  have HV := hide hfl
  have HY := hide hgl
  have HQ := hide hq
  have HF := hide hfew
  have HG := hide hgew
  have HNF := hide hnf
  have HMF := hide hmf
  have HL3 := hide hl3
  have HL2 := hide hl2
  have HN1 := hide hfn
  have HN2 := hide hgn
  have HK := hide hk
  clear hx hy hfl hgl hq hfew hgew hnf hmf hk hl3 hl2 hfc hfm hfn hgc hgm hgn
  go_enter Tryd.func7, Tryd.ntmps7
  go_wp2_with fail
  refine (awake_any _ (unhide HQ)).mono ?_
  rintro e w1 ⟨rfl, hb⟩
  have HV1 := hide ((unhide HV).below hb)
  have HY1 := hide ((unhide HY).below hb)
  have HQ1 := hide ((unhide HQ).below hb)
  have HB1 := hide hb
  clear hb HV HY HQ
  have HO := hide (show (w1.alloc (.cells #[] 3)).ownsRow w1.heap.size 3 1 (.slice (some ⟨w1.heap.size, 0, none⟩) 0 0) 0 [] from World.ownsRow_made w1 #[] 0 (Nat.le_refl _) (Nat.zero_le _) rfl)
  go_wp2_with fail
  refine (unhide HF _).mono ?_
  rintro e w' ⟨rfl, rfl⟩
  go_wp2_with (at_builtin; refine wpList_append_any rfl _ _ 22 rfl w1.heap.size i0 Tryd.underlying22 hi hz0 hz1 hz2 _ rfl (unhide HO) a nf ca fx rfl (unhide HNF) ((unhide HV1).below (alloc_below _ _)) (unhide HN1) ?d1 ?d2 ?_)
  case d1 => omega
  case d2 => simp
  intro v2 w2 hown hg
  have hb := ((Below.refl w1.heap.size w1).alloc (Nat.le_refl _) (.cells #[] 3)).grown hg (by simp) (fun j hj => by cases hj; exact Nat.le_refl _)
  obtain ⟨av, cv, hv, hl, _⟩ := owned_lies hown
  rw [unhide HNF] at hv
  subst hv
  have HV2 := hide ((unhide HV1).below hb)
  have HY2 := hide ((unhide HY1).below hb)
  have HQ2 := hide ((unhide HQ1).below hb)
  have HB2 := hide (below_trans (unhide HB1) hb)
  have HA2 := hide hl
  clear hown hg hb hl HO HV1 HY1 HQ1 HB1
  have HO := hide (show (w2.alloc (.cells #[] 3)).ownsRow w2.heap.size 3 1 (.slice (some ⟨w2.heap.size, 0, none⟩) 0 0) 0 [] from World.ownsRow_made w2 #[] 0 (Nat.le_refl _) (Nat.zero_le _) rfl)
  go_wp2_with fail
  refine (unhide HG _).mono ?_
  rintro e w' ⟨rfl, rfl⟩
  go_wp2_with (at_builtin; refine wpList_append_any rfl _ _ 22 rfl w2.heap.size i0 Tryd.underlying22 hi hz0 hz1 hz2 _ rfl (unhide HO) b mf cb fy rfl (unhide HMF) ((unhide HY2).below (alloc_below _ _)) (unhide HN2) ?d1 ?d2 ?_)
  case d1 => omega
  case d2 => simp
  intro v3 w3 hown hg
  have hb := ((Below.refl w2.heap.size w2).alloc (Nat.le_refl _) (.cells #[] 3)).grown hg (by simp) (fun j hj => by cases hj; exact Nat.le_refl _)
  obtain ⟨aw, cw, hv, hl, _⟩ := owned_lies hown
  rw [unhide HMF] at hv
  subst hv
  have HV3 := hide ((unhide HV2).below hb)
  have HY3 := hide ((unhide HY2).below hb)
  have HQ3 := hide ((unhide HQ2).below hb)
  have HB3 := hide (below_trans (unhide HB2) hb)
  have HA3 := hide ((unhide HA2).below hb)
  have HE3 := hide hl
  clear hown hg hb hl HO HV2 HY2 HQ2 HB2 HA2
  by_cases hm : mayN nf
  · have HM := hide hm
    clear hm
    go_wp2_with fail
    refine (rmay_yes nf _ (unhide HM)).mono ?_
    rintro e w' ⟨rfl, rfl⟩
    go_wp2_with fail
    refine (add_three av aw av nf mf nf cv cw cv fx fy fx _ _ (Below.refl _ _) (unhide HA3) (unhide HE3) (unhide HA3) hfs (unhide HNF) (unhide HMF) (unhide HNF) (by omega)).mono ?_
    rintro e w4 ht
    obtain ⟨a4, c4, rfl, hl, hb⟩ := told_len ht (unhide HL3)
    have HV4 := hide ((unhide HV3).below hb)
    have HY4 := hide ((unhide HY3).below hb)
    have HQ4 := hide ((unhide HQ3).below hb)
    have HB4 := hide (below_trans (unhide HB3) hb)
    have HA4 := hide ((unhide HA3).below hb)
    have HE4 := hide ((unhide HE3).below hb)
    have HS4 := hide hl
    clear ht hl hb HV3 HY3 HQ3 HB3 HA3 HE3
    clear HS4
    go_wp2_with fail
    refine (less_any av aw nf mf cv cw fx fy _ (unhide HA4) (unhide HE4) hfs hgs (unhide HNF) (unhide HMF) (by omega) (by omega)).mono ?_
    rintro e w5 ht
    obtain ⟨a5, c5, rfl, hl, hb⟩ := told_len ht (unhide HL2)
    have HV5 := hide ((unhide HV4).below hb)
    have HY5 := hide ((unhide HY4).below hb)
    have HQ5 := hide ((unhide HQ4).below hb)
    have HB5 := hide (below_trans (unhide HB4) hb)
    have HA5 := hide ((unhide HA4).below hb)
    have HE5 := hide ((unhide HE4).below hb)
    have HD5 := hide hl
    clear ht hl hb HV4 HY4 HQ4 HB4 HA4 HE4
    clear HD5 HQ5
    go_wp2_with fail
    refine (sturn_any av cv fx nf k _ (unhide HA5) hfs (unhide HNF) (by omega) (unhide HK)).mono ?_
    rintro e w6 ⟨g, rfl, hg, hc, hb⟩
    have HT := hide hc
    have HTB := hide hb
    have HTL := hide (turn_len fx k)
    have HG2 := hide hg
    clear hc hb hg
    go_wp2
    go_loopw [14] (fun i wr => ∃ (j : Nat) (L : List Int), j ≤ nf ∧ i = .int .i64 (j : Int) ∧ Hid (Cells wr g (ints L)) ∧ Hid (L.length = nf) ∧ Hid (Below w5.heap.size w5 wr)) (fun i _ => nf - (intOf i).toNat)
    case atStart => exact ⟨0, turnL fx k, by omega, rfl, HT, by show _ = _; rw [unhide HTL]; exact unhide HNF, HTB⟩
    case round =>
      obtain ⟨j, L, hj, rfl, HTr, HLr, HBr⟩ := hrel
      by_cases hlt : j < nf
      · have hcell := (unhide HTr).cell j _ (ints_at _ j (by rw [unhide HLr]; exact hlt))
        have hfree := (unhide HTr).free j
        go_wp2
        go_roundw
        case rel =>
          refine ⟨j + 1, L.set j 5, by omega, by simp, ?_, by show _ = _; rw [List.length_set]; exact unhide HLr, (unhide HBr).setCell (unhide HG2) _⟩
          have := (unhide HTr).set j (.int .i64 5)
          rw [ints_set] at this
          exact this
        case measure => simp [intOf]; omega
      · obtain rfl : nf = j := by omega
        have hb := unhide HBr
        have HV6 := hide ((unhide HV5).below hb)
        have HY6 := hide ((unhide HY5).below hb)
        have HB6 := hide (below_trans (unhide HB5) hb)
        have HA6 := hide ((unhide HA5).below hb)
        have HE6 := hide ((unhide HE5).below hb)
        clear hb HTr HLr HBr HV5 HY5 HB5 HA5 HE5
        go_wp2_with fail
        refine (unhide HF _).mono ?_
        rintro e w' ⟨rfl, rfl⟩
        go_wp2_with fail
        refine (same_any av a cv ca fx nf (unhide HNF) (by omega) _ (unhide HA6) (unhide HV6)).mono ?_
        rintro e w7 ⟨rfl, hb⟩
        have HV7 := hide ((unhide HV6).below hb)
        have HY7 := hide ((unhide HY6).below hb)
        have HB7 := hide (below_trans (unhide HB6) hb)
        have HA7 := hide ((unhide HA6).below hb)
        have HE7 := hide ((unhide HE6).below hb)
        clear hb HV6 HY6 HB6 HA6 HE6
        go_wp2_with fail
        refine (unhide HG _).mono ?_
        rintro e w' ⟨rfl, rfl⟩
        go_wp2_with fail
        refine (same_any aw b cw cb fy mf (unhide HMF) (by omega) _ (unhide HE7) (unhide HY7)).mono ?_
        rintro e w8 ⟨rfl, hb⟩
        have HV8 := hide ((unhide HV7).below hb)
        have HY8 := hide ((unhide HY7).below hb)
        have HB8 := hide (below_trans (unhide HB7) hb)
        have HA8 := hide ((unhide HA7).below hb)
        have HE8 := hide ((unhide HE7).below hb)
        clear hb HV7 HY7 HB7 HA7 HE7
        rcases unhide HLL with ⟨e1, e2, e3⟩ | ⟨e1, e2, e3⟩
        · subst e1 e2 e3
          go_wp2
          go_ret
          exact ⟨rfl, (unhide HB8)⟩
        · subst e2 e3
          have e4 : ((nf : Int) == (mf : Int)) = false := by simp; omega
          have e5 : ((nf : Int) != (mf : Int)) = true := by simp; omega
          go_wp2
          go_ret
          exact ⟨rfl, (unhide HB8)⟩
  · have HM := hide hm
    have HR := hide (show partI cosC fx = 0 by unfold partI; rw [unhide HNF, if_neg hm])
    have HI := hide (show partI sinC fx = 0 by unfold partI; rw [unhide HNF, if_neg hm])
    clear hm
    go_wp2_with fail
    refine (rmay_no nf _ (unhide HM)).mono ?_
    rintro e w' ⟨rfl, rfl⟩
    go_wp2_with fail
    refine (real_any av cv nf fx _ (unhide HA3) hfs (unhide HNF) (unhide HQ3)).mono ?_
    rintro e w4 ⟨rfl, hb⟩
    rw [unhide HR]
    have HV4 := hide ((unhide HV3).below hb)
    have HY4 := hide ((unhide HY3).below hb)
    have HQ4 := hide ((unhide HQ3).below hb)
    have HB4 := hide (below_trans (unhide HB3) hb)
    have HA4 := hide ((unhide HA3).below hb)
    have HE4 := hide ((unhide HE3).below hb)
    clear hb HV3 HY3 HQ3 HB3 HA3 HE3
    go_wp2_with fail
    refine (imag_any av cv nf fx _ (unhide HA4) hfs (unhide HNF) (unhide HQ4)).mono ?_
    rintro e w5 ⟨rfl, hb⟩
    rw [unhide HI]
    have HV5 := hide ((unhide HV4).below hb)
    have HY5 := hide ((unhide HY4).below hb)
    have HQ5 := hide ((unhide HQ4).below hb)
    have HB5 := hide (below_trans (unhide HB4) hb)
    have HA5 := hide ((unhide HA4).below hb)
    have HE5 := hide ((unhide HE4).below hb)
    clear hb HV4 HY4 HQ4 HB4 HA4 HE4
    go_wp2_with fail
    refine (add_three av aw av nf mf nf cv cw cv fx fy fx _ _ (Below.refl _ _) (unhide HA5) (unhide HE5) (unhide HA5) hfs (unhide HNF) (unhide HMF) (unhide HNF) (by omega)).mono ?_
    rintro e w6 ht
    obtain ⟨a6, c6, rfl, hl, hb⟩ := told_len ht (unhide HL3)
    have HV6 := hide ((unhide HV5).below hb)
    have HY6 := hide ((unhide HY5).below hb)
    have HQ6 := hide ((unhide HQ5).below hb)
    have HB6 := hide (below_trans (unhide HB5) hb)
    have HA6 := hide ((unhide HA5).below hb)
    have HE6 := hide ((unhide HE5).below hb)
    have HS6 := hide hl
    clear ht hl hb HV5 HY5 HQ5 HB5 HA5 HE5
    clear HS6
    go_wp2_with fail
    refine (less_any av aw nf mf cv cw fx fy _ (unhide HA6) (unhide HE6) hfs hgs (unhide HNF) (unhide HMF) (by omega) (by omega)).mono ?_
    rintro e w7 ht
    obtain ⟨a7, c7, rfl, hl, hb⟩ := told_len ht (unhide HL2)
    have HV7 := hide ((unhide HV6).below hb)
    have HY7 := hide ((unhide HY6).below hb)
    have HQ7 := hide ((unhide HQ6).below hb)
    have HB7 := hide (below_trans (unhide HB6) hb)
    have HA7 := hide ((unhide HA6).below hb)
    have HE7 := hide ((unhide HE6).below hb)
    have HD7 := hide hl
    clear ht hl hb HV6 HY6 HQ6 HB6 HA6 HE6
    clear HD7 HQ7
    go_wp2_with fail
    refine (sturn_any av cv fx nf k _ (unhide HA7) hfs (unhide HNF) (by omega) (unhide HK)).mono ?_
    rintro e w8 ⟨g, rfl, hg, hc, hb⟩
    have HT := hide hc
    have HTB := hide hb
    have HTL := hide (turn_len fx k)
    have HG2 := hide hg
    clear hc hb hg
    go_wp2
    go_loopw [14] (fun i wr => ∃ (j : Nat) (L : List Int), j ≤ nf ∧ i = .int .i64 (j : Int) ∧ Hid (Cells wr g (ints L)) ∧ Hid (L.length = nf) ∧ Hid (Below w7.heap.size w7 wr)) (fun i _ => nf - (intOf i).toNat)
    case atStart => exact ⟨0, turnL fx k, by omega, rfl, HT, by show _ = _; rw [unhide HTL]; exact unhide HNF, HTB⟩
    case round =>
      obtain ⟨j, L, hj, rfl, HTr, HLr, HBr⟩ := hrel
      by_cases hlt : j < nf
      · have hcell := (unhide HTr).cell j _ (ints_at _ j (by rw [unhide HLr]; exact hlt))
        have hfree := (unhide HTr).free j
        go_wp2
        go_roundw
        case rel =>
          refine ⟨j + 1, L.set j 5, by omega, by simp, ?_, by show _ = _; rw [List.length_set]; exact unhide HLr, (unhide HBr).setCell (unhide HG2) _⟩
          have := (unhide HTr).set j (.int .i64 5)
          rw [ints_set] at this
          exact this
        case measure => simp [intOf]; omega
      · obtain rfl : nf = j := by omega
        have hb := unhide HBr
        have HV8 := hide ((unhide HV7).below hb)
        have HY8 := hide ((unhide HY7).below hb)
        have HB8 := hide (below_trans (unhide HB7) hb)
        have HA8 := hide ((unhide HA7).below hb)
        have HE8 := hide ((unhide HE7).below hb)
        clear hb HTr HLr HBr HV7 HY7 HB7 HA7 HE7
        go_wp2_with fail
        refine (unhide HF _).mono ?_
        rintro e w' ⟨rfl, rfl⟩
        go_wp2_with fail
        refine (same_any av a cv ca fx nf (unhide HNF) (by omega) _ (unhide HA8) (unhide HV8)).mono ?_
        rintro e w9 ⟨rfl, hb⟩
        have HV9 := hide ((unhide HV8).below hb)
        have HY9 := hide ((unhide HY8).below hb)
        have HB9 := hide (below_trans (unhide HB8) hb)
        have HA9 := hide ((unhide HA8).below hb)
        have HE9 := hide ((unhide HE8).below hb)
        clear hb HV8 HY8 HB8 HA8 HE8
        go_wp2_with fail
        refine (unhide HG _).mono ?_
        rintro e w' ⟨rfl, rfl⟩
        go_wp2_with fail
        refine (same_any aw b cw cb fy mf (unhide HMF) (by omega) _ (unhide HE9) (unhide HY9)).mono ?_
        rintro e w10 ⟨rfl, hb⟩
        have HV10 := hide ((unhide HV9).below hb)
        have HY10 := hide ((unhide HY9).below hb)
        have HB10 := hide (below_trans (unhide HB9) hb)
        have HA10 := hide ((unhide HA9).below hb)
        have HE10 := hide ((unhide HE9).below hb)
        clear hb HV9 HY9 HB9 HA9 HE9
        rcases unhide HLL with ⟨e1, e2, e3⟩ | ⟨e1, e2, e3⟩
        · subst e1 e2 e3
          go_wp2
          go_ret
          exact ⟨rfl, (unhide HB10)⟩
        · subst e2 e3
          have e4 : ((nf : Int) == (mf : Int)) = false := by simp; omega
          have e5 : ((nf : Int) != (mf : Int)) = true := by simp; omega
          go_wp2
          go_ret
          exact ⟨rfl, (unhide HB10)⟩
end Go.Proofs.YtcnpbkgnoeoccaaDoor
