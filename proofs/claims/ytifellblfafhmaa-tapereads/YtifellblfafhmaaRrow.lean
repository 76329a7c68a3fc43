/- Contract of a reader's Row. -/
import Derived.Test.YtifellblfafhmaaRd
namespace Go.Proofs.Ytifellblfafhmaa
open Go.RowKit
set_option linter.unusedVariables false

/-- So many words, one behind the other, up to the first that is not there: the words, and where the reader is then. -/
def rowGo (s : ByteArray) : Nat → Nat → Int → List Int × Nat × Int
  | 0, a, e => ([], a, e)
  | n + 1, a, e => if takeE a s e 4 = 0 then (wordI (takeV a s e 4) :: (rowGo s n (takeA a s e 4) (takeE a s e 4)).1, (rowGo s n (takeA a s e 4) (takeE a s e 4)).2) else ([], takeA a s e 4, takeE a s e 4)
def rowR (s : ByteArray) (a : Nat) (e : Int) : List Int × Nat × Int := rowGo s (takeV a s e 2) (takeA a s e 2) (takeE a s e 2)
/-- What a Row is. -/
def rowXs (s : ByteArray) (a : Nat) (e : Int) : List Int := if (rowR s a e).2.2 = 0 then (rowR s a e).1 else []
theorem rowGo_le (s : ByteArray) : ∀ (n a : Nat) (e : Int), a ≤ s.size → (rowGo s n a e).2.1 ≤ s.size
  | 0, a, e, h => h
  | n + 1, a, e, h => by
    unfold rowGo
    split
    · exact rowGo_le s n _ _ (takeA_le h)
    · exact takeA_le h
theorem owns_only {w w' : World} {base n c : Nat} {v : Value} {xs : List Value} (h : w.ownsRow base 3 1 v n xs) (hb : Only c w w') (hc : c < base) : w'.ownsRow base 3 1 v n xs := by
  refine ⟨h.1, ?_⟩
  rcases h.2 with h' | ⟨g, cap, cur, h1, h2, h3, h4⟩
  · exact .inl h'
  · exact .inr ⟨g, cap, cur, h1, h2, by rw [hb.block g (by have := Array.getElem?_eq_some_iff.1 h3; exact this.1) (by omega)]; exact h3, h4⟩
theorem owned_at {w : World} {base n : Nat} {v : Value} {xs : List Value} (h : w.ownsRow base 3 1 v n xs) : ∀ a m cap, v = .slice a m cap → ∀ p, a = some p → base ≤ p.block := by
  intro a m cap hv p hp
  rcases h.2 with ⟨h', _⟩ | ⟨g, cap', cur, h1, h2, _⟩
  · rw [h'] at hv; cases hv; cases hp
  · rw [h1] at hv; cases hv; cases hp; exact h2
theorem only_grown {c : Nat} {a w w' : World} {row : Option Nat} (h : Only c a w) (hg : w.grownBy w' row) (hr : ∀ k, row = some k → a.heap.size ≤ k) : Only c a w' :=
  ⟨hg.os.trans h.os, hg.tape.trans h.tape, hg.output.trans h.output, Nat.le_trans h.size hg.size, fun k hk hc => (hg.block k (by have := h.size; omega) (fun e => by have := hr k e.symm; omega)).trans (h.block k hk hc)⟩

/-- A row of its own came out; the reader is there, and has that error. -/
def RowOut (c : Nat) (w : World) (s : ByteArray) (X : List Int) (A : Nat) (E : Int) (e' : Ending) (w' : World) : Prop :=
  ∃ a cap, e' = .returned (.slice a X.length cap) ∧ Lies w' a X ∧ (∀ p, a = some p → w.heap.size ≤ p.block) ∧ Only c w w' ∧ Rd c w' A s E

set_option maxRecDepth 100000 in
set_option maxHeartbeats 1000000 in
theorem rrow_any (c at_ : Nat) (s : ByteArray) (e : Int) (w : World) (h : Rd c w at_ s e) (ha : at_ ≤ s.size) (hs : s.size ≤ 1000000000) :
    Calls Try.prog 22 #[.pointer (some ⟨c, 0, none⟩)] w (RowOut c w s (rowXs s at_ e) (rowR s at_ e).2.1 (rowR s at_ e).2.2) := by
  obtain ⟨i0, hi, hz0, hz1, hz2⟩ := info_parts Try.info3
  have HI : Hid (Try.prog.info? 3 = some i0 ∧ i0.zero = some (.int .i64 0) ∧ i0.size = 1 ∧ i0.bytes = 8) := ⟨hi, hz0, hz1, hz2⟩
  clear hi hz0 hz1 hz2
  have hclt : c < w.heap.size := h.lt
  have H := hide h
  have hvlt := takeV_lt at_ s e 2
  obtain ⟨R, hR⟩ : ∃ R, rowR s at_ e = R := ⟨_, rfl⟩
  obtain ⟨X, hX⟩ : ∃ X, rowXs s at_ e = X := ⟨_, rfl⟩
  have HX : Hid (X = if R.2.2 = 0 then R.1 else []) := by show X = _; rw [← hX]; unfold rowXs; rw [hR]
  obtain ⟨A, hA⟩ : ∃ A, R.2.1 = A := ⟨_, rfl⟩
  obtain ⟨E, hE⟩ : ∃ E, R.2.2 = E := ⟨_, rfl⟩
  rw [hX, hR, hA, hE]
  have HAA := hide hA
  have HEE := hide hE
  clear hX hA hE
  unfold rowR at hR
  generalize hn : takeV at_ s e 2 = n at hR hvlt
  have ha1 : takeA at_ s e 2 ≤ s.size := takeA_le ha
  have HE1 : Hid (n ≠ 0 → takeE at_ s e 2 = 0) := by
    intro h0
    unfold takeE
    unfold takeV at hn
    by_cases hf : fits at_ s e 2 = true
    · rw [if_pos hf]
    · rw [if_neg hf] at hn; omega
  generalize hA : takeA at_ s e 2 = a1 at hR ha1
  generalize hEq : takeE at_ s e 2 = e1 at hR HE1
  have HN := hide hn
  have HA := hide hA
  have HEq := hide hEq
  have HR0 := hide hR
  clear h hn hA hEq hR
  go_enter Try.func22, Try.ntmps22
  go_wp2_with fail
  refine (rshort_any c at_ s e _ (unhide H) ha hs).mono ?_
  rw [unhide HN, unhide HA, unhide HEq]
  rintro e' w1 ⟨rfl, ho, hr⟩
  have HO := hide ho
  have HR := hide hr
  clear ho hr
  go_wp2
  go_loopw [7, 3, 4] (fun i v _ wr => ∃ (j a' : Nat) (e' : Int) (xs : List Int), j ≤ n ∧ i = .int .i64 (j : Int) ∧ a' ≤ s.size ∧ Hid (e' = 0 ∨ n = 0) ∧ Hid (wr.ownsRow w.heap.size 3 1 v j (xs.map (Value.int .i64))) ∧ Hid (Only c w wr) ∧ Hid (Rd c wr a' s e') ∧ Hid (R = (xs ++ (rowGo s (n - j) a' e').1, (rowGo s (n - j) a' e').2))) (fun i _ _ _ => n - (intOf i).toNat)
  case atStart => exact ⟨0, a1, e1, [], by omega, rfl, ha1, (by rcases Nat.eq_zero_or_pos n with h | h; exact .inr h; exact .inl (unhide HE1 (by omega))), World.ownsRow_nil _ _ _ _, HO, HR, by show R = _; rw [← unhide HR0]; simp⟩
  case round =>
    obtain ⟨j, a', e', xs, hj, rfl, ha', HE, HOwn, HOr, HRr, HG⟩ := hrel
    by_cases hlt : j < n
    · obtain rfl : e' = 0 := by rcases unhide HE with h | h; exact h; omega
      go_wp2_with fail
      refine (rword_any c a' s 0 _ (unhide HRr) ha' hs).mono ?_
      obtain ⟨z, hz⟩ : ∃ z, wordI (takeV a' s 0 4) = z := ⟨_, rfl⟩
      have hzb := wordI_in (takeV a' s 0 4)
      have hA := takeA_le (at_ := a') (s := s) (e := 0) (k := 4) ha'
      generalize hA4 : takeA a' s 0 4 = a2 at hA ⊢
      generalize hE4 : takeE a' s 0 4 = e2
      rw [hz] at hzb ⊢
      rintro e3 w2 ⟨rfl, ho2, hr2⟩
      have hG2 : R = if e2 = 0 then (xs ++ (z :: (rowGo s (n - (j + 1)) a2 e2).1), (rowGo s (n - (j + 1)) a2 e2).2) else (xs, a2, e2) := by
        have hg := unhide HG
        rw [show n - j = (n - (j + 1)) + 1 by omega] at hg
        unfold rowGo at hg
        rw [hA4, hE4, hz] at hg
        rw [hg]
        by_cases he2 : e2 = 0
        · rw [if_pos he2, if_pos he2]
        · rw [if_neg he2, if_neg he2]; simp
      have HG2 := hide hG2
      have HO2 := hide ((unhide HOr).trans ho2)
      have HR2 := hide hr2
      have HOwn2 := hide (owns_only (unhide HOwn) ho2 hclt)
      clear ho2 hr2 hG2 hz hA4 hE4 HG HOr HRr HOwn
      go_wp2_with fail
      refine (rerr_any c a2 s e2 _ (unhide HR2)).mono ?_
      rintro e4 w3 ⟨rfl, rfl⟩
      by_cases he2 : e2 = 0
      · subst he2
        go_wp2_with (at_builtin; refine wpList_append_own _ rfl _ _ 31 rfl w.heap.size 3 i0 (.int .i64 0) 1 8 Try.underlying31 (unhide HI).1 (unhide HI).2.1 (unhide HI).2.2.1 (unhide HI).2.2.2 rfl (by decide) _ _ _ rfl ((unhide HOwn2).alloc _) ⟨w3.heap.size, 0, none⟩ 1 1 [.int .i64 z] rfl rfl ?d1 ?d2 ?d3 ?d4 ?d5 ?_)
        case d1 => exact cell_one_new _ _ _
        case d2 => exact ints_one [z]
        case d3 => unfold maxLen; omega
        case d4 => omega
        case d5 => have := (unhide HO2).size; simp; omega
        intro v4 w4 hown4 hg4 _
        have HO4 := hide (only_grown ((unhide HO2).alloc _) hg4 (fun k hk => ((unhide HOwn2).lt k hk).1))
        have HR4 : Hid (Rd c w4 a2 s 0) := by
          have hlt3 := (unhide HR2).lt
          have := (unhide HR2)
          obtain ⟨t, ht⟩ := this
          refine ⟨t, ?_⟩
          rw [hg4.block c (by simp; omega) (fun e => by have := ((unhide HOwn2).lt c e.symm).1; omega)]
          rw [Below.heap_alloc _ _ _ hlt3]
          exact ht
        have HOwn4 := hide (show w4.ownsRow w.heap.size 3 1 v4 (j + 1) ((xs ++ [z]).map (Value.int .i64)) by rw [List.map_append]; exact hown4)
        clear hown4 hg4
        go_wp2
        go_roundw
        case rel => exact ⟨j + 1, a2, 0, xs ++ [z], by omega, rfl, hA, .inl rfl, HOwn4, HO4, HR4, by
            show R = _
            rw [unhide HG2]
            simp⟩
        case measure => simp [intOf]; omega
      · have hne : (e2 != 0) = true := by simpa using he2
        have hRR : R = (xs, a2, e2) := by have := unhide HG2; rwa [if_neg he2] at this
        have HRR := hide hRR
        have HNE := hide he2
        clear hRR he2
        go_wp2
        go_ret
        have hx := unhide HX
        have h1 := unhide HAA
        have h2 := unhide HEE
        rw [unhide HRR] at hx h1 h2
        rw [if_neg (unhide HNE)] at hx
        subst hx h1 h2
        exact ⟨none, 0, rfl, .inl rfl, (fun p hp => by cases hp), unhide HO2, unhide HR2⟩
    · obtain rfl : j = n := by omega
      have hRR : R = (xs, a', e') := by have := unhide HG; rw [Nat.sub_self] at this; simpa [rowGo] using this
      have HRR := hide hRR
      clear hRR
      obtain ⟨a, cap, hv, hl, hn⟩ := owned_lies (unhide HOwn)
      have HAt := hide (owned_at (unhide HOwn) a xs.length cap hv)
      subst hv
      have HL := hide hl
      have HLen := hide hn
      clear hl hn
      go_wp2
      go_ret
      have hx := unhide HX
      have h1 := unhide HAA
      have h2 := unhide HEE
      rw [unhide HRR] at hx h1 h2
      subst h1 h2
      by_cases h0 : e' = 0
      · rw [if_pos h0] at hx
        subst hx
        exact ⟨a, cap, rfl, unhide HL, unhide HAt, unhide HOr, unhide HRr⟩
      · rw [if_neg h0] at hx
        have hxs : xs = [] := by
          rcases unhide HE with h | h
          · exact absurd h h0
          · exact List.length_eq_zero_iff.1 (by rw [unhide HLen]; exact h)
        subst hxs hx
        exact ⟨a, cap, rfl, unhide HL, unhide HAt, unhide HOr, unhide HRr⟩
end Go.Proofs.Ytifellblfafhmaa
