/- The document's reader's Row: what it answers. -/
import Derived.Test.YtifellblfafhmaaRef2
namespace Go.Proofs.Ytifellblfafhmaa
open Go.RowKit
set_option linter.unusedVariables false

def DowOut (c : Nat) (w : World) (s : ByteArray) (X : List Int) (A : Nat) (E : Int) (e' : Ending) (w' : World) : Prop :=
  ∃ a cap, e' = .returned (.slice a X.length cap) ∧ Lies w' a X ∧ (∀ p, a = some p → w.heap.size ≤ p.block) ∧ Only c w w' ∧ Dr c w' A s E
theorem dr_grown {c : Nat} {w w' : World} {a : Nat} {s : ByteArray} {e : Int} {base n : Nat} {v : Value} {xs : List Value} {o : Obj} (h : Dr c w a s e) (hown : w.ownsRow base 3 1 v n xs) (hc : c < base) (hg : (w.alloc o).grownBy w' v.ownBlock) : Dr c w' a s e := by
  have hlt := h.lt
  obtain ⟨t, ht⟩ := h
  refine ⟨t, ?_⟩
  rw [hg.block c (by simp; omega) (fun e => by have := (hown.lt c e.symm).1; omega), Below.heap_alloc _ _ _ hlt]
  exact ht

set_option maxRecDepth 100000 in
set_option maxHeartbeats 1000000 in
theorem drow_any (c at_ : Nat) (s : ByteArray) (e : Int) (w : World) (h : Dr c w at_ s e) (ha : at_ ≤ s.size) (hs : s.size ≤ 1000000000) (he : e = 0 ∨ e = 11) :
    Calls Try.prog 23 #[.pointer (some ⟨c, 0, none⟩)] w (DowOut c w s (rowXs s at_ e) (rowR s at_ e).2.1 (rowR s at_ e).2.2) := by
  obtain ⟨i0, hi, hz0, hz1, hz2⟩ := info_parts Try.info3
  have HI : Hid (Try.prog.info? 3 = some i0 ∧ i0.zero = some (.int .i64 0) ∧ i0.size = 1 ∧ i0.bytes = 8) := ⟨hi, hz0, hz1, hz2⟩
  clear hi hz0 hz1 hz2
  have hclt : c < w.heap.size := h.lt
  have H := hide h
  have hvlt := takeV_lt at_ s e 2
  obtain ⟨R, hR⟩ : ∃ R, rowR s at_ e = R := ⟨_, rfl⟩
  obtain ⟨X, hX⟩ : ∃ X, rowXs s at_ e = X := ⟨_, rfl⟩
  have HX : Hid (X = if R.2.2 = 0 then R.1 else []) := by show X = _; rw [← hX]; unfold rowXs; rw [hR]
  obtain ⟨A, hA⟩ : ∃ A, R.2.1 = A := ⟨_, rfl⟩
  obtain ⟨E, hE⟩ : ∃ E, R.2.2 = E := ⟨_, rfl⟩
  rw [hX, hR, hA, hE]
  have HAA := hide hA
  have HEE := hide hE
  clear hX hA hE
  unfold rowR at hR
  have HET := hide (take_err (a := at_) (s := s) (k := 2) he)
  have HE0 := hide he
  generalize hn : takeV at_ s e 2 = n at hR hvlt
  have ha1 : takeA at_ s e 2 ≤ s.size := takeA_le ha
  have HE1 : Hid (n ≠ 0 → takeE at_ s e 2 = 0) := by
    intro h0
    unfold takeE
    unfold takeV at hn
    by_cases hf : fits at_ s e 2 = true
    · rw [if_pos hf]
    · rw [if_neg hf] at hn; omega
  generalize hA : takeA at_ s e 2 = a1 at hR ha1
  generalize hEq : takeE at_ s e 2 = e1 at hR HE1 HET
  have HN := hide hn
  have HA := hide hA
  have HEq := hide hEq
  have HR0 := hide hR
  clear h hn hA hEq hR he
  go_enter Try.func23, Try.ntmps23
  go_wp2_with fail
  refine (num_any c at_ 2 s e _ (unhide H) ha hs (by omega) (unhide HE0)).mono ?_
  rw [unhide HN, unhide HA, unhide HEq]
  rintro e' w1 ⟨rfl, ho, hr⟩
  have HO := hide ho
  have HR := hide hr
  clear ho hr
  go_wp2
  go_loopw [4, 5] (fun v i wr => ∃ (j a' : Nat) (e' : Int) (xs : List Int), j ≤ n ∧ i = .int .i64 (j : Int) ∧ a' ≤ s.size ∧ Hid (e' = 0 ∨ e' = 11) ∧ Hid (wr.ownsRow w.heap.size 3 1 v j (xs.map (Value.int .i64))) ∧ Hid (Only c w wr) ∧ Hid (Dr c wr a' s e') ∧ Hid (e' = 0 → R = (xs ++ (rowGo s (n - j) a' e').1, (rowGo s (n - j) a' e').2)) ∧ Hid (e' ≠ 0 → R.2 = (a', e'))) (fun _ i _ => n - (intOf i).toNat)
  case atStart => exact ⟨0, a1, e1, [], by omega, rfl, ha1, HET, World.ownsRow_nil _ _ _ _, HO, HR, fun _ => by rw [← unhide HR0]; simp, fun h1 => by
      have h0 : n = 0 := by
        rcases Nat.eq_zero_or_pos n with h | h
        · exact h
        · exact absurd (unhide HE1 (by omega)) h1
      rw [← unhide HR0, h0]
      rfl⟩
  case round =>
    obtain ⟨j, a', e', xs, hj, rfl, ha', HE, HOwn, HOr, HRr, HG, HG'⟩ := hrel
    have g2 := (unhide HRr).cell 2 _ rfl
    rcases unhide HE with rfl | rfl
    · by_cases hlt : j < n
      · go_wp2_with fail
        refine (dword_any c a' s 0 _ (unhide HRr) ha' hs (.inl rfl)).mono ?_
        obtain ⟨z, hz⟩ : ∃ z, wordI (takeV a' s 0 4) = z := ⟨_, rfl⟩
        have hzb := wordI_in (takeV a' s 0 4)
        have hA := takeA_le (at_ := a') (s := s) (e := 0) (k := 4) ha'
        have HET2 := hide (take_err (a := a') (s := s) (e := 0) (k := 4) (.inl rfl))
        generalize hA4 : takeA a' s 0 4 = a2 at hA ⊢
        generalize hE4 : takeE a' s 0 4 = e2 at HET2 ⊢
        rw [hz] at hzb ⊢
        rintro e3 w2 ⟨rfl, ho2, hr2⟩
        have hG2 : R = if e2 = 0 then (xs ++ (z :: (rowGo s (n - (j + 1)) a2 e2).1), (rowGo s (n - (j + 1)) a2 e2).2) else (xs, a2, e2) := by
          have hg := unhide HG (by trivial)
          rw [show n - j = (n - (j + 1)) + 1 by omega] at hg
          unfold rowGo at hg
          rw [hA4, hE4, hz] at hg
          rw [hg]
          by_cases he2 : e2 = 0
          · rw [if_pos he2, if_pos he2]
          · rw [if_neg he2, if_neg he2]; simp
        have HG2 : Hid (e2 = 0 → R = (xs ++ [z] ++ (rowGo s (n - (j + 1)) a2 e2).1, (rowGo s (n - (j + 1)) a2 e2).2)) := fun h0 => by rw [hG2, if_pos h0]; simp
        have HG3 : Hid (e2 ≠ 0 → R.2 = (a2, e2)) := fun h0 => by rw [hG2, if_neg h0]
        have HO2 := hide ((unhide HOr).trans ho2)
        have HR2 := hide hr2
        have HOwn2 := hide (owns_only (unhide HOwn) ho2 hclt)
        clear ho2 hr2 hG2 hz hA4 hE4 HG HG' HOr HRr HOwn g2
        go_wp2_with (at_builtin; refine wpList_append_own _ rfl _ _ 31 rfl w.heap.size 3 i0 (.int .i64 0) 1 8 Try.underlying31 (unhide HI).1 (unhide HI).2.1 (unhide HI).2.2.1 (unhide HI).2.2.2 rfl (by decide) _ _ _ rfl ((unhide HOwn2).alloc _) ⟨w2.heap.size, 0, none⟩ 1 1 [.int .i64 z] rfl rfl ?d1 ?d2 ?d3 ?d4 ?d5 ?_)
        case d1 => exact cell_one_new _ _ _
        case d2 => exact ints_one [z]
        case d3 => unfold maxLen; omega
        case d4 => omega
        case d5 => have := (unhide HO2).size; simp; omega
        intro v4 w4 hown4 hg4 _
        have HO4 := hide (only_grown ((unhide HO2).alloc _) hg4 (fun k hk => ((unhide HOwn2).lt k hk).1))
        have HR4 := hide (dr_grown (unhide HR2) (unhide HOwn2) hclt hg4)
        have HOwn4 := hide (show w4.ownsRow w.heap.size 3 1 v4 (j + 1) ((xs ++ [z]).map (Value.int .i64)) by rw [List.map_append]; exact hown4)
        clear hown4 hg4
        go_wp2
        go_roundw
        case rel => exact ⟨j + 1, a2, e2, xs ++ [z], by omega, rfl, hA, HET2, HOwn4, HO4, HR4, HG2, HG3⟩
        case measure => simp [intOf]; omega
      · obtain rfl : j = n := by omega
        have hRR : R = (xs, a', 0) := by have := unhide HG (by trivial); rw [Nat.sub_self] at this; simpa [rowGo] using this
        have HRR := hide hRR
        clear hRR
        obtain ⟨a, cap, hv, hl, hn⟩ := owned_lies (unhide HOwn)
        have HAt := hide (owned_at (unhide HOwn) a xs.length cap hv)
        subst hv
        have HL := hide hl
        have HLen := hide hn
        clear hl hn
        go_wp2
        go_ret
        have hx := unhide HX
        have h1 := unhide HAA
        have h2 := unhide HEE
        rw [unhide HRR] at hx h1 h2
        rw [if_pos rfl] at hx
        subst h1 h2 hx
        exact ⟨a, cap, rfl, unhide HL, unhide HAt, unhide HOr, unhide HRr⟩
    · have HRR := hide (unhide HG' (by decide))
      clear HG HG'
      by_cases hlt : j < n
      all_goals
        go_wp2
        go_ret
        have hx := unhide HX
        have h1 := unhide HAA
        have h2 := unhide HEE
        rw [unhide HRR] at hx h1 h2
        rw [if_neg (show ¬ (11 : Int) = 0 by decide)] at hx
        subst h1 h2 hx
        exact ⟨none, 0, rfl, .inl rfl, (fun p hp => by cases hp), unhide HOr, unhide HRr⟩
end Go.Proofs.Ytifellblfafhmaa
