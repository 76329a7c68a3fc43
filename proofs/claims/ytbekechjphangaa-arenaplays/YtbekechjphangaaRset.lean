/- The document's arena: the contract of Set. -/
import Derived.Test.YtbekechjphangaaRef
import Derived.Test.YtbekechjphangaaLaysw
namespace Go.Proofs.Ytbekechjphangaa
open Go.RowKit
set_option linter.unusedVariables false

theorem own_rest {w : World} {base n : Nat} {v : Value} {xs : List Value} (h : w.ownsRow base 3 1 v n xs) (hv : v ≠ .slice none 0 0) : ∃ g cap rest, v = .slice (some ⟨g, 0, none⟩) n cap ∧ base ≤ g ∧ Cells w g (xs ++ rest) := by
  rcases h.2 with ⟨h', _⟩ | ⟨g, cap, cur, h1, h2, h3, h4, h5, h6, h7⟩
  · exact absurd h' hv
  · refine ⟨g, cap, cur.toList.drop (n * 1), h1, h2, 3, ?_⟩
    rw [← h7, List.take_append_drop, h3]
theorem setL_same {n : Nat} {L xs : List Int} (h : setE n xs = 0) : setL n L xs = xs := by unfold setL; rw [if_pos h]
theorem setL_old {n : Nat} {L xs : List Int} (h : setE n xs ≠ 0) : setL n L xs = L := by unfold setL; rw [if_neg h]

set_option maxHeartbeats 2000000 in
theorem rset_any (X : Nat → Prop) (B d n m cap : Nat) (a : Option Addr) (xs L : List Int) (e : Int) (w : World) (h : Rg X B d n w L e) (hl : Lies w a xs) (hx : xs.length = m) (hn : n ≤ 4096) (hcap : a = none → m = 0 ∧ cap = 0) (hX : ∀ k, X k → k < w.heap.size) :
    Calls Try.prog 24 #[.pointer (some ⟨d, 0, none⟩), .slice a m cap] w fun r w' => r = .returned (.int .i64 (setE n xs)) ∧ Only d w w' ∧ Rg X B d n w' (setL n L xs) e := by
  obtain ⟨i0, hi, hz0, hz1, hz2⟩ := info_parts Try.info3
  have HI : Hid (Try.prog.info? 3 = some i0 ∧ i0.zero = some (.int .i64 0) ∧ i0.size = 1 ∧ i0.bytes = 8) := ⟨hi, hz0, hz1, hz2⟩
  obtain ⟨g, gcap, hcell, _⟩ := h.open
  have H := hide h
  have HL := hide hl
  have HX := hide hx
  have HCP := hide hcap
  have HXX := hide hX
  clear hi hz0 hz1 hz2 hcap hX
  by_cases hmn : m = n
  · subst hmn
    clear h hl hx
    go_enter Try.func24, Try.ntmps24
    go_wp2
    go_loopw [5, 6] (fun i _ wr => ∃ k : Nat, k ≤ m ∧ i = .int .i64 (k : Int) ∧ Hid (∀ j, j < k → okW (xs.getD j 0)) ∧ wr = w) (fun i _ _ => m - (intOf i).toNat)
    case atStart => exact ⟨0, by omega, rfl, fun j hj => by omega, rfl⟩
    case round =>
      obtain ⟨k, hk, rfl, HK, rfl⟩ := hrel
      by_cases hlt : k < m
      · have hkl : k < xs.length := by rw [unhide HX]; exact hlt
        obtain ⟨b, off, rfl, hb, hc⟩ := (unhide HL).some (by intro e; rw [e] at hkl; simp at hkl)
        have hck := hc k hkl
        have HZ := hide (show xs.getD k 0 ∈ xs from getD_mem hkl)
        obtain ⟨z, hz⟩ : ∃ z, xs.getD k 0 = z := ⟨_, rfl⟩
        rw [hz] at hck HZ
        have Hz := hide hz
        clear hc hkl hb hz
        go_wp2_with fail
        refine (rword_any z _).mono ?_
        by_cases ho : okW z
        · rw [decide_eq_true ho]
          have HOK := hide ho
          clear ho
          rintro e' w2 ⟨rfl, rfl⟩
          go_wp2
          go_roundw
          case rel =>
            refine ⟨k + 1, by omega, by simp, fun j hj => ?_, trivial⟩
            by_cases hjk : j = k
            · subst hjk; rw [unhide Hz]; exact unhide HOK
            · exact unhide HK j (by omega)
          case measure => simp [intOf]; omega
        · rw [decide_eq_false ho]
          have HOK := hide ho
          clear ho
          rintro e' w2 ⟨rfl, rfl⟩
          go_wp2
          go_ret
          have hE : setE m xs = 16 := setE_bad (unhide HX) (fun h => unhide HOK (h _ (unhide HZ)))
          refine ⟨by rw [hE]; rfl, Only.refl _ _, ?_⟩
          rw [setL_old (by rw [hE]; decide)]
          exact unhide H
      · obtain rfl : k = m := by omega
        have HE : Hid (setE k xs = 0) := setE_ok (unhide HX) (all_of_getD (fun j hj => unhide HK j (by rw [← unhide HX]; exact hj)))
        obtain ⟨w0, rfl⟩ : ∃ w0, w0 = wr := ⟨_, rfl⟩
        have HOwn0 : Hid ((w0.alloc (.cells #[] 3)).ownsRow w0.heap.size 3 1 (.slice (some ⟨w0.heap.size, 0, none⟩) 0 0) 0 []) := World.ownsRow_made w0 #[] 0 (Nat.le_refl _) (Nat.zero_le _) rfl
        have HBa := hide ((Below.refl w0.heap.size w0).alloc (Nat.le_refl _) (.cells #[] 3))
        have hf : w0.frozen? ⟨d, 0, none⟩ = false := (unhide H).free 0
        have HSz := hide (unhide H).size
        have HBd := hide (unhide H).base
        have HDlt : Hid (d < w0.heap.size) := lt_of_cell hcell
        cases a with
        | none =>
          obtain ⟨rfl, rfl⟩ := unhide HCP rfl
          obtain rfl : xs = [] := List.eq_nil_of_length_eq_zero (unhide HX)
          have hfA : (w0.alloc (.cells #[] 3)).frozen? ⟨d, 0, none⟩ = false := by rw [(unhide HBa).frozen (p := ⟨d, 0, none⟩) (unhide HDlt)]; exact hf
          have hcA : (w0.alloc (.cells #[] 3)).cell? ⟨d, 0, none⟩ = some (.slice (some ⟨g, 0, none⟩) 0 gcap) := by rw [(unhide HBa).cell (p := ⟨d, 0, none⟩) (unhide HDlt)]; exact hcell
          go_wp2_with (at_builtin; refine wpList_append_own_none rfl _ _ 41 rfl w0.heap.size 3 i0 1 Try.underlying41 (unhide HI).1 _ 0 [] rfl (unhide HOwn0) rfl ?_)
          go_ret
          have hC := own_cells (unhide HOwn0)
          refine ⟨by rw [unhide HE]; rfl, (Only.of_below (c := d) (unhide HBa)).setCell (p := ⟨d, 0, none⟩) rfl _, ?_⟩
          rw [setL_same (unhide HE)]
          refine ((unhide H).below (unhide HBa)).setRow (rest := []) (fun h => by have := unhide HXX _ h; omega) (Nat.le_of_lt (unhide HSz)) (by have := unhide HDlt; omega) ?_ rfl
          exact hC
        | some ad =>
          go_wp2_with (at_builtin; refine wpList_append_own _ rfl _ _ 41 rfl w0.heap.size 3 i0 (.int .i64 0) 1 8 Try.underlying41 (unhide HI).1 (unhide HI).2.1 (unhide HI).2.2.1 (unhide HI).2.2.2 rfl (by decide) _ 0 [] rfl (unhide HOwn0) ad k cap (ints xs) rfl ?d0 ?d1 ?d2 ?d3 ?d4 ?d5 ?_)
          case d0 => rw [ints_len, unhide HX]; omega
          case d1 => exact lies_news ((unhide HL).below ((Below.refl _ w0).alloc (Nat.le_refl _) _))
          case d2 => exact ints_one' xs
          case d3 => unfold maxLen; omega
          case d4 => omega
          case d5 => simp
          intro v1 w1 hown hg hne
          have HB1 := hide ((unhide HBa).grown hg (by simp) (fun r hr => by cases hr; exact Nat.le_refl _))
          obtain ⟨g1, c1, rest, rfl, hg1, hC⟩ := own_rest hown hne
          have HC := hide hC
          have HG1 := hide hg1
          have hf1 : w1.frozen? ⟨d, 0, none⟩ = false := by rw [(unhide HB1).frozen (p := ⟨d, 0, none⟩) (unhide HDlt)]; exact hf
          have hcell1 : w1.cell? ⟨d, 0, none⟩ = some (.slice (some ⟨g, 0, none⟩) k gcap) := by rw [(unhide HB1).cell (p := ⟨d, 0, none⟩) (unhide HDlt)]; exact hcell
          clear hown hg hne hg1 hC
          go_wp2
          go_ret
          refine ⟨by rw [unhide HE]; rfl, (Only.of_below (c := d) (unhide HB1)).setCell (p := ⟨d, 0, none⟩) rfl _, ?_⟩
          rw [setL_same (unhide HE)]
          exact ((unhide H).below (unhide HB1)).setRow (fun h => by have := unhide HXX _ h; have := unhide HG1; omega) (Nat.le_trans (Nat.le_of_lt (unhide HSz)) (unhide HG1)) (by have := unhide HDlt; have := unhide HG1; omega) (unhide HC) (unhide HX)
  · have hE : setE n xs = 22 := setE_size (by rw [hx]; exact hmn)
    rw [setL_old (by rw [hE]; decide), hE]
    clear h hl hx
    have hmn' : (m : Int) ≠ (n : Int) := by omega
    go_enter Try.func24, Try.ntmps24
    go_wp2
    go_ret
    exact ⟨rfl, Only.refl _ _, unhide H⟩
end Go.Proofs.Ytbekechjphangaa
