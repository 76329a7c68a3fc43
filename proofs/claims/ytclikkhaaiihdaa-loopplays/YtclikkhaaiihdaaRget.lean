/- The document's loop: Get. -/
import Derived.Test.YtclikkhaaiihdaaRpush
namespace Go.Proofs.Ytclikkhaaiihdaa
open Go.RowKit
set_option linter.unusedVariables false

set_option maxHeartbeats 1000000 in
theorem rget_no (B p h m d R : Nat) (cnt t : Int) (L : List Int) (w : World) (k : Rl B p h m d R cnt w L) (h0 : 0 ≤ cnt) (h1 : cnt ≤ 9223372036854775807) (hno : ¬ hasI cnt R t) :
    Calls Try.prog 14 #[.pointer (some ⟨p, 0, none⟩), .int .i64 t] w fun r w' => r = .returned (.agg #[.slice none 0 0, .bool false]) ∧ Below w.heap.size w w' := by
  have K := hide k
  obtain ⟨ho1, ho2⟩ := old_bd cnt R h0
  have HNo : Hid (t < oldI cnt R ∨ cnt ≤ t) := by show _ ∨ _; unfold hasI at hno; omega
  obtain ⟨w1, hw1⟩ : ∃ w1, w1 = w.alloc (.cells #[.slice none 0 0, .bool false] 40) := ⟨_, rfl⟩
  have HB1 : Hid (Below w.heap.size w w1) := by rw [hw1]; exact (Below.refl _ _).alloc (Nat.le_refl _) _
  have HO := hide (roldest_any B p h m d R cnt L w1 ((k.below (unhide HB1))) h0 h1)
  have c3 := (k.below (unhide HB1)).me.cell 3 _ rfl
  have HC1 : Hid (Cells w1 w.heap.size [.slice none 0 0, .bool false]) := by rw [hw1]; exact cells_new w [_, _] 40
  obtain ⟨z, hz⟩ : ∃ z, oldI cnt R = z := ⟨_, rfl⟩
  rw [hz] at ho1 ho2 HNo HO
  clear k hno hz
  go_enter Try.func14, Try.ntmps14
  go_wp2_with fail
  rw [← hw1]
  refine (unhide HO).mono ?_
  rintro e' w2 ⟨rfl, n1, rfl⟩
  have HB2 := hide (below_trans (unhide HB1) (below_drewN w1 n1))
  have hC2 := (unhide HC1).below (below_drewN w1 n1)
  have d0 := hC2.cell 0 _ rfl
  have d1 := hC2.cell 1 _ rfl
  have hf := hC2.free
  have c32 : (w1.drewN n1).cell? ⟨p, 3, none⟩ = some (.int .i64 cnt) := c3
  have HC2 := hide hC2
  clear hC2 HC1 HB1 c3 hw1
  generalize w1.drewN n1 = w2 at *
  rcases unhide HNo with hn | hn
  case' inr => have hn2 : ¬ t < z := by omega
  all_goals (
    go_wp2
    have hC4 := ((unhide HC2).set 0 (.slice none 0 0)).set 1 (.bool false)
    have e0 := hC4.cell 0 _ rfl
    have e1 := hC4.cell 1 _ rfl
    refine bodyPost_ret (v := .agg #[.slice none 0 0, .bool false]) (by simp [results, Try.results14, go_sem, e0, e1]) rfl ?_
    exact ⟨rfl, ((unhide HB2).setCell (Nat.le_refl _) _).setCell (Nat.le_refl _) _⟩)
theorem rget_post {w w3 w4 : World} {g d cap A : Nat} {L : List Int} (HB3 : Below w.heap.size w w3) (HC3 : Cells w3 w.heap.size [.slice none 0 0, .bool false]) (hown : w4.ownsRow w.heap.size 3 1 (.slice (some ⟨g, 0, none⟩) (0 + d) cap) (0 + d) ([] ++ ints (rowL L A d)))
    (hgr : (w3.alloc (.cells #[] 3)).drew.grownBy w4 (Value.ownBlock (.slice (some ⟨w3.heap.size, 0, none⟩) 0 0))) : Below w.heap.size w w4 ∧ Cells w4 w.heap.size [.slice none 0 0, .bool false] ∧ Lies w4 (some ⟨g, 0, none⟩) (rowL L A d) := by
  have hb4 : Below (w3.heap.size) (w3.alloc (.cells #[] 3)).drew w4 := (Below.refl _ _).grown hgr (by simp) (fun q hq => by simp [Value.ownBlock] at hq; omega)
  have hb5 : Below w3.heap.size w3 w4 := ((Below.refl w3.heap.size w3).alloc (Nat.le_refl _) (.cells #[] 3)).drew.trans hb4
  refine ⟨HB3.trans (hb5.mono HB3.size), HC3.below hb5, ?_⟩
  obtain ⟨a5, c5, hv, hl5, _⟩ := owned_lies (xs := rowL L A d) (by simpa [ints] using hown)
  injection hv with h1 h2 h3
  rw [h1]
  exact hl5
theorem rget_far {w w3 : World} {g : Nat} {l : List Value} (HC3 : Cells w3 w.heap.size l) (hat : Value.ownBlock (.slice (some ⟨w3.heap.size, 0, none⟩) 0 0) = some g ∨ g = w3.heap.size + 1) : g ≠ w.heap.size := by
  have := HC3.lt
  rcases hat with h | h
  · simp [Value.ownBlock] at h; omega
  · omega
set_option maxRecDepth 100000 in
set_option maxHeartbeats 2000000 in
theorem rget_yes (B p h m d R : Nat) (cnt t : Int) (L : List Int) (w : World) (k : Rl B p h m d R cnt w L) (h0 : 0 ≤ cnt) (h1 : cnt ≤ 9223372036854775807) (hyes : hasI cnt R t) (hd4 : d ≤ 4096) :
    Calls Try.prog 14 #[.pointer (some ⟨p, 0, none⟩), .int .i64 t] w fun r w' => ∃ a cap, r = .returned (.agg #[.slice a d cap, .bool true]) ∧ Lies w' a (rowL L (atI t R (d : Int)).toNat d) ∧ Below w.heap.size w w' := by
  have K := hide k
  obtain ⟨ho1, ho2⟩ := old_bd cnt R h0
  obtain ⟨hy1, hy2⟩ := hyes
  obtain ⟨w1, hw1⟩ : ∃ w1, w1 = w.alloc (.cells #[.slice none 0 0, .bool false] 40) := ⟨_, rfl⟩
  have HB1 : Hid (Below w.heap.size w w1) := by rw [hw1]; exact (Below.refl _ _).alloc (Nat.le_refl _) _
  have HO := hide (roldest_any B p h m d R cnt L w1 ((k.below (unhide HB1))) h0 h1)
  have HC1 : Hid (Cells w1 w.heap.size [.slice none 0 0, .bool false]) := by rw [hw1]; exact cells_new w [_, _] 40
  have hR := k.has
  have hR2 : R ≤ 4096 := Nat.le_trans (k.room ▸ room_le m _) k.most
  have hmm := k.most
  have hd1 := k.pos
  obtain ⟨hb1, hb2⟩ := at_bd t m R (d : Int) (by have := k.pos; omega) k.room k.has
  obtain ⟨A, hA⟩ : ∃ A : Nat, atI t R (d : Int) = (A : Int) := ⟨(atI t R (d : Int)).toNat, by omega⟩
  rw [hA] at hb1 hb2 ⊢
  rw [Int.toNat_natCast]
  obtain ⟨q, hq⟩ : ∃ q, t % (R : Int) = q := ⟨_, rfl⟩
  obtain ⟨hq1, hq2⟩ := emod_bd t R hR
  rw [hq] at hq1 hq2
  have htm : t.tmod (R : Int) = q := by rw [Int.tmod_eq_emod_of_nonneg (by omega)]; exact hq
  have hqd : q * (d : Int) = (A : Int) := by rw [← hq]; exact hA
  have hR0 : (R : Int) ≠ 0 := by omega
  have hwA : IntKind.i64.wrap (A : Int) = (A : Int) := by rw [IntKind.wrap_i64]; omega
  have hwAd : IntKind.i64.wrap ((A : Int) + (d : Int)) = ((A + d : Nat) : Int) := by rw [IntKind.wrap_i64]; omega
  obtain ⟨z, hz⟩ : ∃ z, oldI cnt R = z := ⟨_, rfl⟩
  rw [hz] at ho1 ho2 hy1 HO
  clear k hz hA hq
  have hg1 : ¬ t < z := by omega
  have hg2 : ¬ cnt ≤ t := by omega
  go_enter Try.func14, Try.ntmps14
  go_wp2_with fail
  rw [← hw1]
  refine (unhide HO).mono ?_
  rintro e' w2 ⟨rfl, n1, rfl⟩
  have HB2 := hide (below_trans (unhide HB1) (below_drewN w1 n1))
  have HC2 := hide ((unhide HC1).below (below_drewN w1 n1))
  clear HC1 HB1 hw1 HO
  generalize w1.drewN n1 = w2 at *
  have hM := ((unhide K).below (unhide HB2)).me
  have c0 := hM.cell 0 _ rfl
  have c1 := hM.cell 1 _ rfl
  have c2 := hM.cell 2 _ rfl
  have c3 := hM.cell 3 _ rfl
  clear hM
  go_wp2_with fail
  go_quiet (fail)
  have HB3 := hide (below_trans (unhide HB2) (below_drewN w2 nq))
  have HC3 := hide ((unhide HC2).below (below_drewN w2 nq))
  clear HB2 HC2 c0 c1 c2 c3
  generalize w2.drewN nq = w3 at *
  have hM := ((unhide K).below (unhide HB3)).me
  have c0 := hM.cell 0 _ rfl
  have c1 := hM.cell 1 _ rfl
  clear hM
  have HRow := hide ((unhide K).below (unhide HB3)).row
  obtain ⟨i0, hi, hz0, hz1, hz2⟩ := info_parts Try.info3
  have ho1' : (w3.alloc (.cells #[] 3)).drew.ownsRow w.heap.size 3 1 (.slice (some ⟨w3.heap.size, 0, none⟩) 0 0) 0 [] := ⟨rfl, Or.inr ⟨w3.heap.size, 0, #[], rfl, (unhide HB3).size, by show (w3.heap.push _)[w3.heap.size]? = _; exact Array.getElem?_push_size, by omega, by unfold maxLen; omega, rfl, rfl⟩⟩
  have ho2' : (ints (rowL L A d)).length = d * 1 := by rw [ints_len, row_len]; omega
  have ho3' : ∀ j u, (ints (rowL L A d))[j]? = some u → (w3.alloc (.cells #[] 3)).drew.cell? ((⟨h, A, none⟩ : Addr).add j) = some u := by
    intro j u hu
    have hj : j < d := by
      have := (List.getElem?_eq_some_iff.1 hu).1
      rwa [ints_len, row_len] at this
    rw [ints_at _ _ (by rw [row_len]; exact hj), rowL_getD _ _ _ _ hj] at hu
    cases hu
    rw [Addr.add_lit]
    exact (Cells.drew ((unhide HRow).alloc _)).cell (A + j) _ (ints_at L (A + j) (by rw [(unhide K).len]; omega))
  have ho4' : w.heap.size ≤ (w3.alloc (.cells #[] 3)).drew.heap.size := by have := (unhide HB3).size; simp; omega
  have HO1 := hide ho1'
  have HO2 := hide ho2'
  have HO3 := hide ho3'
  have HO4 := hide ho4'
  have HI : Hid (Try.prog.info? 3 = some i0 ∧ i0.zero = some (.int .i64 0) ∧ i0.size = 1 ∧ i0.bytes = 8) := ⟨hi, hz0, hz1, hz2⟩
  have hAdA : A + d - A = d := by omega
  have c0a : (w3.alloc (.cells #[] 3)).cell? ⟨p, 0, none⟩ = some (.slice (some ⟨h, 0, none⟩) m m) := (((unhide K).below (unhide HB3)).me.alloc _).cell 0 _ rfl
  have c1a : (w3.alloc (.cells #[] 3)).cell? ⟨p, 1, none⟩ = some (.int .i64 (d : Int)) := (((unhide K).below (unhide HB3)).me.alloc _).cell 1 _ rfl
  have hs0 : (0 : Int) ≤ (A : Int) + (d : Int) := by omega
  have htn : ((A : Int) + (d : Int)).toNat = A + d := by omega
  have hmA : ¬ m = A := by omega
  have hs1 : (A : Int) ≤ ((A + d : Nat) : Int) := by omega
  have hs2 : ((A + d : Nat) : Int) ≤ (m : Int) := by omega
  clear ho1' ho2' ho3' ho4' hi hz0 hz1 hz2
  go_wp2_with fail
  go_region_law ((refine step_append_lies _ (by rfl) _ _ 34 (by rfl) w.heap.size 3 i0 (.int .i64 0) 1 8 Try.underlying34 (unhide HI).1 (unhide HI).2.1 (unhide HI).2.2.1 (unhide HI).2.2.2 (by rfl) (by decide) _ 0 [] (by rfl) (unhide HO1) ⟨h, A, none⟩ d (m - A) (ints (rowL L A d)) (by rfl) (unhide HO2) (unhide HO3) (ints_one _) (by omega) (by unfold maxLen; omega) (by omega) (unhide HO4) (w3.heap.size + 1) (by simp) ?_; intro g cap w4 hown hgr hat hlt; have hp := rget_post (unhide HB3) (unhide HC3) hown hgr; have f0 := hp.2.1.free 0; have f1 := hp.2.1.free 1; have d0 := hp.2.1.cell 0 _ rfl; have d1 := hp.2.1.cell 1 _ rfl; have HP := hide hp; have HG : Hid (g ≠ w.heap.size) := rget_far (unhide HC3) hat; clear hp hown hgr hat hlt))
  all_goals (
    have hp := unhide HP
    have hC4 := (hp.2.1.set 0 (.slice (some ⟨g, 0, none⟩) d cap)).set 1 (.bool true)
    have e0 := hC4.cell 0 _ rfl
    have e1 := hC4.cell 1 _ rfl
    have HL : Hid (Lies ((w4.setCell ⟨w.heap.size, 0, none⟩ (.slice (some ⟨g, 0, none⟩) d cap)).setCell ⟨w.heap.size, 1, none⟩ (.bool true)) (some ⟨g, 0, none⟩) (rowL L A d)) := by
      have hne : (rowL L A d) ≠ [] → ∀ q, some (⟨g, 0, none⟩ : Addr) = some q → q.block ≠ w.heap.size := fun _ q hq => by cases hq; exact unhide HG
      exact (hp.2.2.only (Only.setHere _ _) hne).only (Only.setHere _ _) hne
    clear hp hC4
    go_wp2
    refine bodyPost_ret (v := .agg #[.slice (some ⟨g, 0, none⟩) d cap, .bool true]) (by simp [results, Try.results14, go_sem, e0, e1]) rfl ?_
    exact ⟨_, _, rfl, unhide HL, ((unhide HP).1.setCell (Nat.le_refl _) _).setCell (Nat.le_refl _) _⟩)
end Go.Proofs.Ytclikkhaaiihdaa
