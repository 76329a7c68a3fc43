/- The walk of ArenaKeeps. -/
import Derived.Test.YtbekechjphangaaLaysw
import Derived.Test.YtbekechjphangaaSet
namespace Go.Proofs.Ytbekechjphangaa
open Go.RowKit
set_option linter.unusedVariables false

theorem Lies.under {w w' : World} {B : Nat} {a : Option Addr} {xs : List Int} (h : Lies w a xs) (hb : Below B w w') (hlt : ∀ p, a = Option.some p → p.block < B) : Lies w' a xs := by
  rcases h with h | ⟨b, off, rfl, hl, hc⟩
  · exact .inl h
  · refine .inr ⟨b, off, rfl, Nat.lt_of_lt_of_le hl hb.size, fun j hj => ?_⟩
    rw [hb.cell (p := ⟨b, off + j, none⟩) (hlt ⟨b, off, none⟩ rfl)]
    exact hc j hj
theorem Cells.under {w w' : World} {B c : Nat} {l : List Value} (h : Cells w c l) (hb : Below B w w') (hlt : c < B) : Cells w' c l := by
  obtain ⟨t, h⟩ := h
  exact ⟨t, by rw [hb.block c hlt]; exact h⟩
theorem owns_under {w w' : World} {base n B : Nat} {v : Value} {xs : List Value} (h : w.ownsRow base 3 1 v n xs) (hb : Below B w w') (hlt : ∀ k, v.ownBlock = some k → k < B) : w'.ownsRow base 3 1 v n xs := by
  refine ⟨h.1, ?_⟩
  rcases h.2 with h' | ⟨g, cap, cur, h1, h2, h3, h4⟩
  · exact .inl h'
  · exact .inr ⟨g, cap, cur, h1, h2, by rw [hb.block g (hlt g (by rw [h1]; rfl))]; exact h3, h4⟩
theorem Ar.only {c g n q : Nat} {w w' : World} {L : List Int} {e : Int} (h : Ar c g n w L e) (ho : Only q w w') (h1 : c ≠ q) (h2 : g ≠ q) : Ar c g n w' L e :=
  ⟨h.len, h.me.only ho h1, h.row.only ho h2, h.ne⟩
theorem own_head {w : World} {base n : Nat} {a : Option Addr} {cap : Nat} {xs : List Value} (h : w.ownsRow base 3 1 (.slice a n cap) n xs) : (a = none ∧ n = 0 ∧ cap = 0) ∨ ∃ q, a = some ⟨q, 0, none⟩ ∧ base ≤ q ∧ q < w.heap.size := by
  rcases h.2 with ⟨h', h0⟩ | ⟨g, cap', cur, h1, h2, h3, _⟩
  · cases h'; exact .inl ⟨rfl, rfl, rfl⟩
  · cases h1; exact .inr ⟨g, rfl, h2, (Array.getElem?_eq_some_iff.1 h3).1⟩
theorem setL_ok {n : Nat} {L xs : List Int} (h : setE n xs = 0) : setL n L xs = xs := by unfold setL; rw [if_pos h]
theorem setL_no {n : Nat} {L xs : List Int} (h : setE n xs ≠ 0) : setL n L xs = L := by unfold setL; rw [if_neg h]
theorem wrap32_ok (z : Int) : okW (wrap32 z) := by unfold okW wrap32; omega

set_option maxHeartbeats 2000000 in
/-- Same of two rows as long as each other: it answers. -/
theorem same_may (a b : Option Addr) (cap cap' : Nat) (xs ys : List Int) (n : Nat) (hn : xs.length = n) (hn' : ys.length = n) (hm : n ≤ 1000000) (w : World) (ha : Lies w a xs) (hb : Lies w b ys) :
    Calls Try.prog 26 #[.slice a n cap, .slice b n cap'] w fun e w' => ∃ v : Bool, e = .returned (.bool v) ∧ Below w.heap.size w w' := by
  have HA := hide ha
  have HB := hide hb
  have HN := hide hn
  have HN' := hide hn'
  clear ha hb hn hn'
  go_enter Try.func26, Try.ntmps26
  go_wp2
  go_loopw [5] (fun i wr => ∃ k : Nat, k ≤ n ∧ i = .int .i64 k ∧ Hid (Below w.heap.size w wr))
    (fun i _ => n - (intOf i).toNat)
  case atStart => exact ⟨0, Nat.zero_le _, rfl, Below.refl _ _⟩
  case round =>
    obtain ⟨k, hk, rfl, HBr⟩ := hrel
    by_cases c : k < n
    · obtain ⟨ba, oa, rfl, hlta, hca⟩ := ((unhide HA).below (unhide HBr)).some (by intro e; have := unhide HN; rw [e] at this; simp at this; omega)
      obtain ⟨bb, ob, rfl, hltb, hcb⟩ := ((unhide HB).below (unhide HBr)).some (by intro e; have := unhide HN'; rw [e] at this; simp at this; omega)
      have hc1 := hca k (by rw [unhide HN]; exact c)
      have hc2 := hcb k (by rw [unhide HN']; exact c)
      clear hca hcb HA HB hlta hltb
      generalize xs.getD k 0 = z at hc1
      generalize ys.getD k 0 = y at hc2
      by_cases hzy : z = y
      · subst hzy
        go_wp2
        go_region
        all_goals go_wp2
        go_roundw
        case rel => exact ⟨k + 1, by omega, by go_num, (unhide HBr).drew⟩
        case measure => simp [intOf]; omega
      · go_wp2
        go_region
        all_goals go_wp2
        all_goals (go_ret; exact ⟨_, rfl, (unhide HBr).drew⟩)
    · go_wp2
      go_ret
      exact ⟨_, rfl, unhide HBr⟩

set_option maxRecDepth 100000 in
set_option maxHeartbeats 8000000 in
theorem keeps_walk (a : Option Addr) (len cap m : Nat) (ys : List Int) (wide : Int) (w : World)
    (k1 : ys.length = m) (k2 : m ≤ 40) (k3 : m ≤ cap) (k4 : cap ≤ 9223372036854775807) (kl : Lies w a ys) (k7 : (len = m) ∨ (m = 40 ∧ 40 < len ∧ len ≤ cap ∧ ∃ x, a = some x)) :
    Calls Try.prog 6 #[.slice a len cap, .int .i64 wide] w fun e w' => e = .returned (.bool true) ∧ Below w.heap.size w w' := by
  obtain ⟨i0, hi, hz0, hz1, hz2⟩ := info_parts Try.info3
  have HI : Hid (Try.prog.info? 3 = some i0 ∧ i0.zero = some (.int .i64 0) ∧ i0.size = 1 ∧ i0.bytes = 8) := ⟨hi, hz0, hz1, hz2⟩
  have KL := hide kl
  have KX := hide k1
  have hm2 : m ≤ len := by rcases k7 with h | h <;> omega
  have HM3 : Hid (m < 40 → len = m) := by intro h; rcases k7 with h' | h' <;> omega
  clear hi hz0 hz1 hz2 kl k1 k7
  go_enter Try.func6, Try.ntmps6
  go_wp2_with fail
  refine (awake_any _).mono ?_
  rintro e w1 ⟨rfl, hb⟩
  have HB := hide hb
  have KL1 := hide ((unhide KL).below hb)
  clear hb
  go_wp2
  go_loopw [7, 6] (fun i v wr => ∃ (j : Nat) (P : List Int), j ≤ m ∧ i = .int .i64 (j : Int) ∧ Hid (P.length = j) ∧ Hid (∀ x ∈ P, okW x) ∧ Hid (wr.ownsRow w1.heap.size 3 1 v j (ints P)) ∧ Hid (Below w1.heap.size w1 wr)) (fun i _ _ => m - (intOf i).toNat)
  case atStart => exact ⟨0, [], by omega, rfl, rfl, (by intro x hx; cases hx), World.ownsRow_nil _ _ _ _, Below.refl _ _⟩
  case round =>
    obtain ⟨j, P, hj, rfl, HP, HOK, HOwn, HBr⟩ := hrel
    by_cases hlt : j < m
    · have hkl : j < ys.length := by rw [unhide KX]; exact hlt
      have hl1 := (unhide KL1).below (unhide HBr)
      obtain ⟨b, off, rfl, hb, hc⟩ := hl1.some (by intro e; rw [e] at hkl; simp at hkl)
      have hck := hc j hkl
      generalize ys.getD j 0 = z at hck
      have hj1 : (j : Int) < len := by omega
      have hj2 : (j : Int) < 40 := by omega
      clear hc hkl hb hl1
      obtain ⟨y, hy⟩ : ∃ y, wrap32 z = y := ⟨_, rfl⟩
      have HY := hide (show okW y by rw [← hy]; exact wrap32_ok z)
      have hy1 : -2147483648 ≤ y := (unhide HY).1
      have hy2 : y ≤ 2147483647 := (unhide HY).2
      go_wp2_with (at_builtin; refine wpList_append_own _ rfl _ _ 41 rfl w1.heap.size 3 i0 (.int .i64 0) 1 8 Try.underlying41 (unhide HI).1 (unhide HI).2.1 (unhide HI).2.2.1 (unhide HI).2.2.2 rfl (by decide) _ _ _ rfl ((unhide HOwn).alloc _) ⟨wr.heap.size, 0, none⟩ 1 1 [.int .i64 y] rfl rfl ?d1 ?d2 ?d3 ?d4 ?d5 ?_)
      case d1 => exact cell_one_new _ _ _
      case d2 => exact ints_one [y]
      case d3 => unfold maxLen; omega
      case d4 => omega
      case d5 => have := (unhide HBr).size; simp; omega
      intro v4 w4 hown4 hg4 _
      have hgr : ∀ q, Value.ownBlock _ = some q → w1.heap.size ≤ q := fun q hq => ((unhide HOwn).lt q hq).1
      have HB4 := hide (((unhide HBr).alloc (unhide HBr).size _).grown hg4 (by have := (unhide HBr).size; simp; omega) hgr)
      have HOwn4 := hide (show w4.ownsRow w1.heap.size 3 1 v4 (j + 1) (ints (P ++ [y])) by rw [ints_snoc]; exact hown4)
      clear hown4 hg4 hgr
      go_wp2
      go_roundw
      case rel => exact ⟨j + 1, P ++ [y], by omega, rfl, by show _ = _; rw [List.length_append, unhide HP]; rfl, by
        intro x hx
        rcases List.mem_append.1 hx with h | h
        · exact unhide HOK x h
        · simp at h; subst h; exact unhide HY, HOwn4, HB4⟩
      case measure => simp [intOf]; omega
    · obtain rfl : j = m := by omega
      obtain ⟨a5, c5, rfl, hl5, hlen5⟩ := owned_lies (unhide HOwn)
      rw [hlen5] at HOwn ⊢
      have HL2 := hide hl5
      have HB2 := hide (below_trans (unhide HB) (unhide HBr))
      have HE1 := hide (setE_ok (unhide HP) (unhide HOK))
      obtain ⟨w2, rfl⟩ : ∃ w2, w2 = wr := ⟨_, rfl⟩
      have HQ : Hid (∀ p, a5 = some p → p.block < w2.heap.size) := by
        intro p hp
        subst hp
        exact ((unhide HOwn).lt p.block rfl).2
      have hfin : ¬ ((j : Int) < len ∧ (j : Int) < 40) := by
        rintro ⟨h1, h2⟩
        have := unhide HM3 (by omega)
        omega
      clear hl5 hlen5
      by_cases hjl : (j : Int) < len
      case' pos => have hj12 : (40 : Int) ≤ j := by omega
      all_goals (
        clear hfin
        go_wp2_with fail
        refine (new_any j (by omega) _).mono ?_
        rintro e w3 ⟨c, g, rfl, hc2, hg2, hA, hb⟩
        have HNA := hide (And.intro hc2 hg2)
        have HA3 := hide hA
        have HB3 := hide (below_trans (unhide HB2) hb)
        have HL3 := hide ((unhide HL2).below hb)
        have HOwn3 := hide (owns_below (unhide HOwn) hb)
        have HS3 := hide hb.size
        clear hc2 hg2 hA hb
        go_wp2_with fail
        refine (new_any j (by omega) _).mono ?_
        rintro e w4 ⟨d, h, rfl, hd3, hh3, hD, hb⟩
        have HND := hide (And.intro hd3 hh3)
        have HD4 := hide hD
        have HB4 := hide (below_trans (unhide HB3) hb)
        have HL4 := hide ((unhide HL3).below hb)
        have HOwn4 := hide (owns_below (unhide HOwn3) hb)
        have HA4 := hide ((unhide HA3).below hb)
        have HNC : Hid (c < w3.heap.size ∧ g < w3.heap.size) := ⟨(unhide HA3).me.lt, (unhide HA3).row.lt⟩
        have HS4 := hide hb.size
        clear hd3 hh3 hD hb HL3 HOwn3
        go_wp2_with fail
        refine (set_any c g j j c5 a5 P _ 0 _ (unhide HA4) (unhide HL4) (unhide HP) (by omega)).mono ?_
        rw [setL_ok (unhide HE1), unhide HE1]
        rintro e w5 ⟨rfl, ht, hA⟩
        have HAlt := hide (And.intro (unhide HA4).me.lt (unhide HA4).row.lt)
        have HDlt := hide (And.intro (unhide HD4).me.lt (unhide HD4).row.lt)
        have hb : Below w2.heap.size w4 w5 := ht.below (unhide HNA).1 (unhide HNA).2 (Nat.le_trans (unhide HS3) (unhide HS4))
        have HA5 := hide hA
        have HD5 := hide ((unhide HD4).two ht (by have := (unhide HNC).1; have := (unhide HND).1; omega) (by have := (unhide HNC).2; have := (unhide HND).1; omega) (by have := (unhide HNC).1; have := (unhide HND).2; omega) (by have := (unhide HNC).2; have := (unhide HND).2; omega))
        have HL5 := hide ((unhide HL4).under hb (unhide HQ))
        have HOwn5 := hide (owns_under (unhide HOwn4) hb (fun k hk => ((unhide HOwn).lt k hk).2))
        have HB5 := hide ((unhide HB4).trans (hb.mono (unhide HB2).size))
        have HS5 := hide ht.size
        clear ht hA hb HA4 HD4 HL4 HOwn4
        go_wp2_with fail
        refine (words_any c g j P 0 _ (unhide HA5) (by omega)).mono ?_
        rintro e w6 ⟨t, rfl, htl, hT, hb⟩
        have HT6 := hide hT
        have HTl := hide htl
        have HA6 := hide ((unhide HA5).below hb)
        have HD6 := hide ((unhide HD5).below hb)
        have HL6 := hide ((unhide HL5).below hb)
        have HOwn6 := hide (owns_below (unhide HOwn5) hb)
        have HB6 := hide (below_trans (unhide HB5) hb)
        have HS6 := hide hb.size
        clear htl hT hb HA5 HD5 HL5 HOwn5
        go_wp2_with fail
        refine (set_any d h j j j _ P _ 0 _ (unhide HD6) (unhide HT6).lies (unhide HP) (by omega)).mono ?_
        rw [setL_ok (unhide HE1), unhide HE1]
        rintro e w7 ⟨rfl, ht, hD⟩
        have hb : Below w3.heap.size w6 w7 := ht.below (unhide HND).1 (unhide HND).2 (by have := unhide HS4; have := unhide HS5; have := unhide HS6; omega)
        have HT7 := hide ((unhide HT6).two ht (by have := (unhide HDlt).1; have := unhide HTl; have := unhide HS5; omega) (by have := (unhide HDlt).2; have := unhide HTl; have := unhide HS5; omega))
        have HA7 := hide ((unhide HA6).under hb (unhide HNC).1 (unhide HNC).2)
        have HD7 := hide hD
        have HL7 := hide ((unhide HL6).under hb (fun p hp => Nat.lt_of_lt_of_le (unhide HQ p hp) (unhide HS3)))
        have HOwn7 := hide (owns_under (unhide HOwn6) hb (fun k hk => Nat.lt_of_lt_of_le ((unhide HOwn).lt k hk).2 (unhide HS3)))
        have HB7 := hide ((unhide HB6).trans (hb.mono (Nat.le_trans (unhide HB2).size (unhide HS3))))
        have HS7 := hide ht.size
        clear ht hD hb HA6 HD6 HL6 HOwn6 HT6
        go_wp2
        go_loopw [13] (fun i wr => ∃ (k : Nat) (Q : List Int), k ≤ j ∧ i = .int .i64 (k : Int) ∧ Hid (Q.length = j) ∧ Hid (Cells wr t (ints Q)) ∧ Hid (Below w5.heap.size w7 wr)) (fun i _ => j - (intOf i).toNat)
        case atStart => exact ⟨0, P, by omega, rfl, HP, HT7, (Below.refl _ _)⟩
        case round =>
          obtain ⟨k, Q, hk, rfl, HQl, HTr, HBt⟩ := hrel
          by_cases hkj : k < j
          · have hcell := (unhide HTr).cell k _ (ints_at Q k (by rw [unhide HQl]; exact hkj))
            have hfree := (unhide HTr).free k
            generalize Q.getD k 0 = y at hcell
            go_wp2
            go_roundw
            case rel => exact ⟨k + 1, Q.set k 7, by omega, rfl, by show _ = _; rw [List.length_set]; exact unhide HQl, by
              have := (unhide HTr).set k (.int .i64 7)
              rw [ints_set] at this
              exact this, (unhide HBt).setCell (unhide HTl) _⟩
            case measure => simp [intOf]; omega
          · obtain rfl : k = j := by omega
            obtain ⟨w8, rfl⟩ : ∃ w8, w8 = wr := ⟨_, rfl⟩
            have hb := unhide HBt
            have h45 := unhide HS5
            have h34 := unhide HS4
            have h23 := unhide HS3
            have HA8 := hide ((unhide HA7).under hb (Nat.lt_of_lt_of_le (unhide HAlt).1 h45) (Nat.lt_of_lt_of_le (unhide HAlt).2 h45))
            have HD8 := hide ((unhide HD7).under hb (Nat.lt_of_lt_of_le (unhide HDlt).1 h45) (Nat.lt_of_lt_of_le (unhide HDlt).2 h45))
            have HL8 := hide ((unhide HL7).under hb (fun p hp => by have := unhide HQ p hp; omega))
            have HOwn8 := hide (owns_under (unhide HOwn7) hb (fun k hk => by have := ((unhide HOwn).lt k hk).2; omega))
            have HB8 := hide ((unhide HB7).trans (hb.mono (by have := (unhide HB2).size; omega)))
            clear hb h45 h34 h23 HA7 HD7 HL7 HOwn7 HT7 HTr HBt HQl
            go_wp2_with fail
            refine (words_any c g k P 0 _ (unhide HA8) (by omega)).mono ?_
            rintro e w9 ⟨t2, rfl, htl, hT, hb⟩
            have HT9 := hide hT
            have HA9 := hide ((unhide HA8).below hb)
            have HD9 := hide ((unhide HD8).below hb)
            have HL9 := hide ((unhide HL8).below hb)
            have HOwn9 := hide (owns_below (unhide HOwn8) hb)
            have HB9 := hide (below_trans (unhide HB8) hb)
            clear htl hT hb HA8 HD8 HL8 HOwn8
            go_wp2_with fail
            refine (same_any _ _ _ _ P k (unhide HP) (by omega) _ (unhide HT9).lies (unhide HL9)).mono ?_
            rintro e w10 ⟨rfl, hb⟩
            have HA10 := hide ((unhide HA9).below hb)
            have HD10 := hide ((unhide HD9).below hb)
            have HL10 := hide ((unhide HL9).below hb)
            have HOwn10 := hide (owns_below (unhide HOwn9) hb)
            have HB10 := hide (below_trans (unhide HB9) hb)
            clear hb HA9 HD9 HL9 HOwn9 HT9
            go_wp2_with fail
            refine (words_any d h k P 0 _ (unhide HD10) (by omega)).mono ?_
            rintro e w11 ⟨t3, rfl, htl, hT, hb⟩
            have HT11 := hide hT
            have HA11 := hide ((unhide HA10).below hb)
            have HD11 := hide ((unhide HD10).below hb)
            have HL11 := hide ((unhide HL10).below hb)
            have HOwn11 := hide (owns_below (unhide HOwn10) hb)
            have HB11 := hide (below_trans (unhide HB10) hb)
            clear htl hT hb HA10 HD10 HL10 HOwn10
            go_wp2_with fail
            refine (same_any _ _ _ _ P k (unhide HP) (by omega) _ (unhide HT11).lies (unhide HL11)).mono ?_
            rintro e w12 ⟨rfl, hb⟩
            have HA12 := hide ((unhide HA11).below hb)
            have HD12 := hide ((unhide HD11).below hb)
            have HL12 := hide ((unhide HL11).below hb)
            have HOwn12 := hide (owns_below (unhide HOwn11) hb)
            have HB12 := hide (below_trans (unhide HB11) hb)
            clear hb HA11 HD11 HL11 HOwn11 HT11
            have HS12 : Hid (w3.heap.size < w12.heap.size) := Nat.lt_of_le_of_lt (unhide HND).1 (unhide HD12).me.lt
            have HOwn0 : Hid ((w12.alloc (.cells #[] 3)).ownsRow w12.heap.size 3 1 (.slice (some ⟨w12.heap.size, 0, none⟩) 0 0) 0 []) := World.ownsRow_made w12 #[] 0 (Nat.le_refl _) (Nat.zero_le _) rfl
            have HBa := hide ((Below.refl w12.heap.size w12).alloc (Nat.le_refl _) (.cells #[] 3))
            have HAux := hide (own_head (unhide HOwn12))
            rcases unhide HAux with ⟨rfl, rfl, rfl⟩ | ⟨q, rfl, hq1, hq2⟩
            case' inl =>
              (try (exfalso; omega))
              all_goals (
                obtain rfl : P = [] := List.eq_nil_of_length_eq_zero (unhide HP)
                go_wp2_with (first | (at_builtin; refine wpList_append_own_none rfl _ _ 41 rfl w12.heap.size 3 i0 1 Try.underlying41 (unhide HI).1 _ 0 [] rfl (unhide HOwn0) rfl ?_) | (at_builtin; refine wpList_append_own _ rfl _ _ 41 rfl w12.heap.size 3 i0 (.int .i64 0) 1 8 Try.underlying41 (unhide HI).1 (unhide HI).2.1 (unhide HI).2.2.1 (unhide HI).2.2.2 rfl (by decide) _ 0 [] rfl ((unhide HOwn0).alloc _) ⟨w12.heap.size + 1, 0, none⟩ 1 1 [.int .i64 0] rfl rfl ?d1 ?d2 ?d3 ?d4 ?d5 ?_))
                case d1 => have h := cell_one_new (w12.alloc (.cells #[] 3)) (.int .i64 0) 3; rw [World.size_alloc] at h; exact h
                case d2 => exact ints_one [0]
                case d3 => unfold maxLen; omega
                case d4 => omega
                case d5 => simp; omega
                intro v14 w14 hown14 hg14 _
                have HB14 := hide (((unhide HBa).alloc (by simp) _).grown hg14 (by simp; omega) (fun r hr => by cases hr; exact Nat.le_refl _))
                have HOwn14 := hide (show w14.ownsRow w12.heap.size 3 1 v14 (0 + 1) (ints (([] : List Int) ++ [0])) by rw [ints_snoc]; exact hown14)
                clear hown14 hg14
                obtain ⟨a14, c14, rfl, hl14, hlen14⟩ := owned_lies (unhide HOwn14)
                rw [hlen14] at HOwn14 ⊢
                have HL14 := hide hl14
                have HLn := hide hlen14
                have HE2 : Hid (setE 0 (([] : List Int) ++ [0]) = 22) := setE_size (by rw [unhide HLn]; omega)
                have HA14 := hide ((unhide HA12).below (unhide HB14))
                have HD14 := hide ((unhide HD12).below (unhide HB14))
                clear hl14 hlen14
                go_wp2_with fail
                refine (set_any d h 0 (0 + 1) c14 a14 (([] : List Int) ++ [0]) ([] : List Int) 0 _ (unhide HD14) (unhide HL14) (unhide HLn) (by omega)).mono ?_
                rw [setL_no (by rw [unhide HE2]; decide), unhide HE2]
                rintro e w15 ⟨rfl, ht, hD⟩
                have hb : Below w3.heap.size w14 w15 := ht.below (unhide HND).1 (unhide HND).2 (by have := unhide HS12; have := (unhide HB14).size; omega)
                have HA15 := hide ((unhide HA14).under hb (unhide HNC).1 (unhide HNC).2)
                have HD15 := hide hD
                have HB15 := hide (((unhide HB12).trans ((unhide HB14).mono (unhide HB12).size)).trans (hb.mono (by have := (unhide HB2).size; have := unhide HS3; omega)))
                have HBq := hide hb
                clear ht hD hb HA14 HD14 HL14 HLn HOwn14
                by_cases hw1 : -2147483648 ≤ wide
                · by_cases hw2 : wide < 2147483648
                  · go_wp2
                    go_ret
                    exact ⟨rfl, unhide HB15⟩
                  · go_wp2
                    go_ret
                    exact ⟨rfl, unhide HB15⟩
                · go_wp2
                  go_ret
                  exact ⟨rfl, unhide HB15⟩)
            case' inr =>
              go_wp2_with (at_builtin; refine wpList_append_own _ rfl _ _ 41 rfl w12.heap.size 3 i0 (.int .i64 0) 1 8 Try.underlying41 (unhide HI).1 (unhide HI).2.1 (unhide HI).2.2.1 (unhide HI).2.2.2 rfl (by decide) _ 0 [] rfl (unhide HOwn0) ⟨q, 0, none⟩ k c5 (ints P) rfl ?d0 ?d1 ?d2 ?d3 ?d4 ?d5 ?_)
              case d0 => rw [ints_len, unhide HP]; omega
              case d1 => exact lies_news ((unhide HL12).below ((Below.refl _ w12).alloc (Nat.le_refl _) _))
              case d2 => exact ints_one' P
              case d3 => unfold maxLen; omega
              case d4 => omega
              case d5 => simp
              intro v13 w13 hown13 hg13 _
              have HOwn13 := hide hown13
              have HB13 := hide ((unhide HBa).grown hg13 (by simp) (fun r hr => by cases hr; exact Nat.le_refl _))
              clear hown13 hg13 HOwn0 HBa
              obtain ⟨a13, c13, rfl, _, hlen13⟩ := owned_lies (unhide HOwn13)
              rw [hlen13] at HOwn13 ⊢
              clear hlen13
            all_goals (
              go_wp2_with (at_builtin; refine wpList_append_own _ rfl _ _ 41 rfl w12.heap.size 3 i0 (.int .i64 0) 1 8 Try.underlying41 (unhide HI).1 (unhide HI).2.1 (unhide HI).2.2.1 (unhide HI).2.2.2 rfl (by decide) _ _ _ rfl ((unhide HOwn13).alloc _) ⟨w13.heap.size, 0, none⟩ 1 1 [.int .i64 0] rfl rfl ?d1 ?d2 ?d3 ?d4 ?d5 ?_)
              case d1 => exact cell_one_new _ _ _
              case d2 => exact ints_one [0]
              case d3 => unfold maxLen; omega
              case d4 => omega
              case d5 => have := (unhide HB13).size; simp; omega
              intro v14 w14 hown14 hg14 _
              have HB14 := hide (((unhide HB13).alloc (unhide HB13).size _).grown hg14 (by have := (unhide HB13).size; simp; omega) (fun r hr => ((unhide HOwn13).lt r hr).1))
              have HOwn14 := hide (show w14.ownsRow w12.heap.size 3 1 v14 (k + 1) (ints (P ++ [0])) by rw [ints_snoc]; exact hown14)
              clear hown14 hg14
              obtain ⟨a14, c14, rfl, hl14, hlen14⟩ := owned_lies (unhide HOwn14)
              rw [hlen14] at HOwn14 ⊢
              have HL14 := hide hl14
              have HLn := hide hlen14
              have HE2 : Hid (setE k (P ++ [0]) = 22) := setE_size (by rw [unhide HLn]; omega)
              have HA14 := hide ((unhide HA12).below (unhide HB14))
              have HD14 := hide ((unhide HD12).below (unhide HB14))
              clear hl14 hlen14
              go_wp2_with fail
              refine (set_any d h k (k + 1) c14 a14 (P ++ [0]) P 0 _ (unhide HD14) (unhide HL14) (unhide HLn) (by omega)).mono ?_
              rw [setL_no (by rw [unhide HE2]; decide), unhide HE2]
              rintro e w15 ⟨rfl, ht, hD⟩
              have hb : Below w3.heap.size w14 w15 := ht.below (unhide HND).1 (unhide HND).2 (by have := unhide HS12; have := (unhide HB14).size; omega)
              have HA15 := hide ((unhide HA14).under hb (unhide HNC).1 (unhide HNC).2)
              have HD15 := hide hD
              have HB15 := hide (((unhide HB12).trans ((unhide HB14).mono (unhide HB12).size)).trans (hb.mono (by have := (unhide HB2).size; have := unhide HS3; omega)))
              have HBq := hide hb
              clear ht hD hb HA14 HD14 HL14 HLn HOwn14
              have HOwn15 := hide (owns_under (owns_below (unhide HOwn12) (unhide HB14)) (unhide HBq) (fun r hr => Nat.lt_of_lt_of_le ((unhide HOwn).lt r hr).2 (unhide HS3)))
              have HQ2 := hide (show q < w2.heap.size from unhide HQ _ rfl)
              clear HBq hq2 HAux HL12 HOwn12 HA12 HD12 HOwn13 HB13
              by_cases hk0 : k = 0
              · subst hk0
                (try (exfalso; omega))
                all_goals (
                  by_cases hw1 : -2147483648 ≤ wide
                  · by_cases hw2 : wide < 2147483648
                    · go_wp2
                      go_ret
                      exact ⟨rfl, unhide HB15⟩
                    · go_wp2
                      go_ret
                      exact ⟨rfl, unhide HB15⟩
                  · go_wp2
                    go_ret
                    exact ⟨rfl, unhide HB15⟩)
              · have hkn : (k : Int) ≠ 0 := by omega
                obtain ⟨i, rfl⟩ : ∃ i, k = i + 1 := ⟨k - 1, by omega⟩
                have hcell := (unhide HOwn15).cellAt i (by omega)
                rw [ints_at P i (by rw [unhide HP]; omega)] at hcell
                have hfree := (unhide HOwn15).frozenAt i
                generalize P.getD i 0 = y0 at hcell
                obtain ⟨w16, hw16⟩ : ∃ w16, w16 = w15.setCell ⟨q, i, none⟩ (.int .i64 wide) := ⟨_, rfl⟩
                have HOwn16 : Hid (w16.ownsRow w1.heap.size 3 1 (.slice (some ⟨q, 0, none⟩) (i + 1) c5) (i + 1) (ints (P.set i wide))) := by
                  subst hw16
                  rw [← ints_set]
                  exact ((unhide HOwn15).stored i _).1
                have HL16 : Hid (Lies w16 (some ⟨q, 0, none⟩) (P.set i wide)) := by
                  obtain ⟨_, _, hv, hl, hln⟩ := owned_lies (unhide HOwn16)
                  rw [hln] at hv
                  cases hv
                  exact hl
                have HA16 : Hid (Ar c g (i + 1) w16 P 0) := by
                  subst hw16
                  exact (unhide HA15).only (Only.setHere i _) (by have := (unhide HNA).1; have := unhide HQ2; omega) (by have := (unhide HNA).2; have := unhide HQ2; omega)
                have HD16 : Hid (Ar d h (i + 1) w16 P 0) := by
                  subst hw16
                  exact (unhide HD15).only (Only.setHere i _) (by have := (unhide HND).1; have := unhide HS3; have := unhide HQ2; omega) (by have := (unhide HND).2; have := unhide HS3; have := unhide HQ2; omega)
                have HB16 : Hid (Below w.heap.size w w16) := by
                  subst hw16
                  exact (unhide HB15).setCell (by show _ ≤ q; have := (unhide HB).size; omega) _
                have HPl : Hid ((P.set i wide).length = i + 1) := by show _ = _; rw [List.length_set]; exact unhide HP
                have hi40 : ((i + 1 : Nat) : Int) = (i : Int) + 1 := by omega
                by_cases hok : okW wide
                · have hw1 : -2147483648 ≤ wide := hok.1
                  have hw2 : wide < 2147483648 := by have := hok.2; omega
                  have HE3 : Hid (setE (i + 1) (P.set i wide) = 0) := setE_ok (unhide HPl) (by
                    intro x hx
                    rcases List.mem_or_eq_of_mem_set hx with h | h
                    · exact unhide HOK x h
                    · rw [h]; exact hok)
                  clear hok
                  go_wp2_with fail
                  rw [← hw16]
                  refine (set_any d h (i + 1) (i + 1) c5 _ (P.set i wide) P 0 _ (unhide HD16) (unhide HL16) (unhide HPl) (by omega)).mono ?_
                  rw [setL_ok (unhide HE3), unhide HE3]
                  rintro e w17 ⟨rfl, ht, hD⟩
                  have hb : Below w3.heap.size w16 w17 := ht.below (unhide HND).1 (unhide HND).2 (Nat.le_of_lt (Nat.lt_of_le_of_lt (unhide HND).1 (unhide HD16).me.lt))
                  have HA17 := hide ((unhide HA16).under hb (unhide HNC).1 (unhide HNC).2)
                  have HD17 := hide hD
                  have HB17 := hide ((unhide HB16).trans (hb.mono (by have := (unhide HB2).size; have := unhide HS3; omega)))
                  clear ht hD hb HA16 HD16 HL16 HA15 HD15 HOwn15 HOwn16 hw16 hcell hfree
                  go_wp2_with fail
                  refine (words_any d h (i + 1) (P.set i wide) 0 _ (unhide HD17) (by omega)).mono ?_
                  rintro e w18 ⟨t4, rfl, _, hT, hb⟩
                  have HT18 := hide hT
                  have HA18 := hide ((unhide HA17).below hb)
                  have HD18 := hide ((unhide HD17).below hb)
                  have HB18 := hide (below_trans (unhide HB17) hb)
                  clear hT hb HA17 HD17
                  go_wp2_with fail
                  refine (words_any c g (i + 1) P 0 _ (unhide HA18) (by omega)).mono ?_
                  rintro e w19 ⟨t5, rfl, _, hT, hb⟩
                  have HT19 := hide hT
                  have HT19' := hide ((unhide HT18).below hb)
                  have HA19 := hide ((unhide HA18).below hb)
                  have HD19 := hide ((unhide HD18).below hb)
                  have HB19 := hide (below_trans (unhide HB18) hb)
                  clear hT hb HA18 HD18
                  go_wp2_with fail
                  refine (same_may _ _ _ _ (P.set i wide) P (i + 1) (unhide HPl) (unhide HP) (by omega) _ (unhide HT19').lies (unhide HT19).lies).mono ?_
                  rintro e w20 ⟨v, rfl, hb⟩
                  have HA20 := hide ((unhide HA19).below hb)
                  have HD20 := hide ((unhide HD19).below hb)
                  have HB20 := hide (below_trans (unhide HB19) hb)
                  clear hb HA19 HD19
                  go_wp2_with fail
                  refine (err_any c g (i + 1) P 0 _ (unhide HA20)).mono ?_
                  rintro e w21 ⟨rfl, rfl⟩
                  go_wp2_with fail
                  refine (err_any d h (i + 1) (P.set i wide) 0 _ (unhide HD20)).mono ?_
                  rintro e w22 ⟨rfl, rfl⟩
                  go_wp2
                  go_ret
                  exact ⟨rfl, unhide HB20⟩
                · have HE3 : Hid (setE (i + 1) (P.set i wide) = 16) := setE_bad (unhide HPl) (fun h => hok (h wide (by
                    have := unhide HP
                    exact List.mem_set (by omega) wide)))
                  by_cases hw1 : -2147483648 ≤ wide
                  case' pos => have hw2 : (2147483648 : Int) ≤ wide := by unfold okW at hok; omega
                  all_goals (
                    clear hok
                    go_wp2_with fail
                    rw [← hw16]
                    refine (set_any d h (i + 1) (i + 1) c5 _ (P.set i wide) P 0 _ (unhide HD16) (unhide HL16) (unhide HPl) (by omega)).mono ?_
                    rw [setL_no (by rw [unhide HE3]; decide), unhide HE3]
                    rintro e w17 ⟨rfl, ht, hD⟩
                    have hb : Below w3.heap.size w16 w17 := ht.below (unhide HND).1 (unhide HND).2 (Nat.le_of_lt (Nat.lt_of_le_of_lt (unhide HND).1 (unhide HD16).me.lt))
                    have HA17 := hide ((unhide HA16).under hb (unhide HNC).1 (unhide HNC).2)
                    have HD17 := hide hD
                    have HB17 := hide ((unhide HB16).trans (hb.mono (by have := (unhide HB2).size; have := unhide HS3; omega)))
                    clear ht hD hb HA16 HD16 HL16 HA15 HD15 HOwn15 HOwn16 hw16 hcell hfree
                    go_wp2_with fail
                    refine (words_any d h (i + 1) P 0 _ (unhide HD17) (by omega)).mono ?_
                    rintro e w18 ⟨t4, rfl, _, hT, hb⟩
                    have HT18 := hide hT
                    have HA18 := hide ((unhide HA17).below hb)
                    have HD18 := hide ((unhide HD17).below hb)
                    have HB18 := hide (below_trans (unhide HB17) hb)
                    clear hT hb HA17 HD17
                    go_wp2_with fail
                    refine (words_any c g (i + 1) P 0 _ (unhide HA18) (by omega)).mono ?_
                    rintro e w19 ⟨t5, rfl, _, hT, hb⟩
                    have HT19 := hide hT
                    have HT19' := hide ((unhide HT18).below hb)
                    have HA19 := hide ((unhide HA18).below hb)
                    have HD19 := hide ((unhide HD18).below hb)
                    have HB19 := hide (below_trans (unhide HB18) hb)
                    clear hT hb HA18 HD18
                    go_wp2_with fail
                    refine (same_any _ _ _ _ P (i + 1) (unhide HP) (by omega) _ (unhide HT19').lies (unhide HT19).lies).mono ?_
                    rintro e w20 ⟨rfl, hb⟩
                    have HA20 := hide ((unhide HA19).below hb)
                    have HD20 := hide ((unhide HD19).below hb)
                    have HB20 := hide (below_trans (unhide HB19) hb)
                    clear hb HA19 HD19
                    go_wp2_with fail
                    refine (err_any c g (i + 1) P 0 _ (unhide HA20)).mono ?_
                    rintro e w21 ⟨rfl, rfl⟩
                    go_wp2_with fail
                    refine (err_any d h (i + 1) P 0 _ (unhide HD20)).mono ?_
                    rintro e w22 ⟨rfl, rfl⟩
                    go_wp2
                    go_ret
                    exact ⟨rfl, unhide HB20⟩)))
theorem keeps_came (a : Option Addr) (len cap : Nat) (zs : List Int) (wide : Int) (w : World) (h : IsRow .i64 w a len cap zs) :
    Calls Try.prog 6 #[.slice a len cap, .int .i64 wide] w fun e w' => e = .returned (.bool true) ∧ Below w.heap.size w w' := by
  obtain ⟨xs, n, h1, h2, h3, h4, h5, h6, h7⟩ := cutK_came 40 a len cap zs w h
  exact keeps_walk a len cap n xs wide w h1 h2 h3 h4 h5 h7
end Go.Proofs.Ytbekechjphangaa
