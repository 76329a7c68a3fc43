/- The document's word of which tails may be. -/
import Derived.Test.YtbkdgpeooeokmaaDoorFrontRows
namespace Go.Proofs.YtbkdgpeooeokmaaDoor
open Go.RowKit
set_option linter.unusedVariables false

/-- May a tail be? -/
def mayT (n p : Nat) (cnt last : Int) (R : List Int) : Prop := (0 ≤ cnt ∧ cnt ≤ 4611686018427387904) ∧ (-32768 ≤ last ∧ last ≤ 32767) ∧ allIn R (-65536) 65536 = true ∧ (cnt = 0 → last = 0) ∧ (R.length : Int) = cnt - ((framesN n p cnt.toNat * p : Nat) : Int)
instance (n p : Nat) (cnt last : Int) (R : List Int) : Decidable (mayT n p cnt last R) := by unfold mayT; infer_instance

set_option maxRecDepth 100000 in
set_option maxHeartbeats 1600000 in
theorem rmay_tail (n p B C : Nat) (pre : Int) (hs : Spc n p B C pre) (cnt last : Int) (a : Option Addr) (m cap : Nat) (R : List Int) (w : World) (hl : Lies w a R) (hm : R.length = m) (hm63 : m ≤ 9223372036854775807) (hc : In64 cnt) :
    Calls Tryd.prog 20 #[.agg #[.int .i64 (n : Int), .int .i64 (p : Int), .int .i64 (B : Int), .int .i64 (C : Int), .int .i64 pre], .agg #[.int .i64 cnt, .int .i64 last, .slice a m cap]] w fun e w' => e = .returned (.bool (decide (mayT n p cnt last R))) ∧ Below w.heap.size w w' := by
  obtain ⟨b1, hb1⟩ : ∃ b, w.heap.size = b := ⟨_, rfl⟩
  obtain ⟨W1, hW1⟩ : ∃ W1, w.alloc (.cells #[.int .i64 (n : Int), .int .i64 (p : Int), .int .i64 (B : Int), .int .i64 (C : Int), .int .i64 pre] 27) = W1 := ⟨_, rfl⟩
  have s1 : W1.heap.size = b1 + 1 := by rw [← hW1, ← hb1]; simp
  have c1 : Cells W1 b1 [.int .i64 (n : Int), .int .i64 (p : Int), .int .i64 (B : Int), .int .i64 (C : Int), .int .i64 pre] := by rw [← hW1, ← hb1]; exact cells_new w [.int .i64 (n : Int), .int .i64 (p : Int), .int .i64 (B : Int), .int .i64 (C : Int), .int .i64 pre] _
  obtain ⟨W2, hW2⟩ : ∃ W2, W1.alloc (.cells #[.int .i64 cnt, .int .i64 last, .slice a m cap] 40) = W2 := ⟨_, rfl⟩
  have c2 : Cells W2 b1 [.int .i64 (n : Int), .int .i64 (p : Int), .int .i64 (B : Int), .int .i64 (C : Int), .int .i64 pre] := by rw [← hW2]; exact c1.alloc _
  have t2 : Cells W2 (b1 + 1) [.int .i64 cnt, .int .i64 last, .slice a m cap] := by rw [← hW2, ← s1]; exact cells_new W1 [.int .i64 cnt, .int .i64 last, .slice a m cap] _
  have hB2 : Below w.heap.size w W2 := below_trans (show Below w.heap.size w W1 by rw [← hW1]; exact alloc_below w _) (show Below W1.heap.size W1 W2 by rw [← hW2]; exact alloc_below W1 _)
  have HB2 := hide hB2
  have HL := hide (hl.below hB2)
  have HM := hide hm
  have g0 : W2.cell? ⟨b1, 0, none⟩ = some (.int .i64 (n : Int)) := c2.cell 0 _ rfl
  have g1 : W2.cell? ⟨b1, 1, none⟩ = some (.int .i64 (p : Int)) := c2.cell 1 _ rfl
  have g2 : W2.cell? ⟨b1, 2, none⟩ = some (.int .i64 (B : Int)) := c2.cell 2 _ rfl
  have g3 : W2.cell? ⟨b1, 3, none⟩ = some (.int .i64 (C : Int)) := c2.cell 3 _ rfl
  have g4 : W2.cell? ⟨b1, 4, none⟩ = some (.int .i64 pre) := c2.cell 4 _ rfl
  have k0 : W2.cell? ⟨b1 + 1, 0, none⟩ = some (.int .i64 cnt) := t2.cell 0 _ rfl
  have k1 : W2.cell? ⟨b1 + 1, 1, none⟩ = some (.int .i64 last) := t2.cell 1 _ rfl
  have k2 : W2.cell? ⟨b1 + 1, 2, none⟩ = some (.slice a m cap) := t2.cell 2 _ rfl
  obtain ⟨v, hv⟩ : ∃ v, decide (mayT n p cnt last R) = v := ⟨_, rfl⟩
  obtain ⟨u, hu⟩ : ∃ u, allIn R (-65536) 65536 = u := ⟨_, rfl⟩
  have HV := hide hv
  have HU := hide hu
  have hn64 : n ≤ 64 := by have := hs.sz; omega
  have hp0 := hs.hp0
  have hpn := hs.hp
  rw [hv]
  clear hl hm hs c1 c2 t2 hB2 hv hu
  go_enter Tryd.func20, Tryd.ntmps20
  go_wp2_with fail
  clear hW1 hW2 s1
  refine (rin_any cnt 0 4611686018427387904 W2).mono ?_
  rintro e w1 ⟨rfl, rfl⟩
  obtain ⟨d1, hd1⟩ : ∃ d, decide (0 ≤ cnt ∧ cnt ≤ 4611686018427387904) = d := ⟨_, rfl⟩
  rw [hd1]
  have HD1 := hide hd1
  clear hd1
  go_wp2_with fail
  refine (rin_any last (-32768) 32767 _).mono ?_
  rintro e w2 ⟨rfl, rfl⟩
  obtain ⟨d2, hd2⟩ : ∃ d, decide (-32768 ≤ last ∧ last ≤ 32767) = d := ⟨_, rfl⟩
  rw [hd2]
  have HD2 := hide hd2
  clear hd2
  go_wp2_with fail
  refine (rall_any a cap m R (-65536) 65536 _ (unhide HL) (unhide HM) hm63).mono ?_
  rintro e w3 ⟨rfl, rfl⟩
  rw [unhide HU]
  by_cases h1 : 0 ≤ cnt ∧ cnt ≤ 4611686018427387904
  · obtain rfl : d1 = true := by rw [← unhide HD1]; exact decide_eq_true h1
    by_cases h2 : -32768 ≤ last ∧ last ≤ 32767
    · obtain rfl : d2 = true := by rw [← unhide HD2]; exact decide_eq_true h2
      cases u
      · obtain rfl : v = false := by
          rw [← unhide HV]; exact decide_eq_false fun e => by have := e.2.2.1; rw [unhide HU] at this; cases this
        go_wp2
        go_ret
        exact ⟨rfl, unhide HB2⟩
      · by_cases h3 : cnt = 0 ∧ last ≠ 0
        · obtain rfl : v = false := by rw [← unhide HV]; exact decide_eq_false fun e => h3.2 (e.2.2.2.1 h3.1)
          obtain ⟨rfl, h4⟩ := h3
          have h4' : (last == 0) = false := by simp; exact h4
          go_wp2
          go_ret
          exact ⟨rfl, unhide HB2⟩
        · obtain ⟨N, rfl⟩ : ∃ N : Nat, cnt = (N : Int) := ⟨cnt.toNat, by omega⟩
          have hfr := (frames_rest n p N (by omega) hpn).1
          obtain ⟨K, hK⟩ : ∃ K, framesN n p N = K := ⟨_, rfl⟩
          obtain ⟨P, hP⟩ : ∃ P, K * p = P := ⟨_, rfl⟩
          rw [hK, hP] at hfr
          have hPi : (K : Int) * (p : Int) = (P : Int) := by rw [← hP]; push_cast; rfl
          have hE := hide (show v = decide ((m : Int) = (N : Int) - (P : Int)) by
            rw [← unhide HV]
            apply decide_eq_decide.2
            unfold mayT
            rw [Int.toNat_natCast, hK, hP, unhide HM, unhide HU]
            constructor
            · intro h; exact h.2.2.2.2
            · intro h; exact ⟨h1, h2, rfl, fun e => by
                by_cases c : last = 0
                · exact c
                · exact absurd ⟨e, c⟩ h3, h⟩)
          have HKK := hide hK
          have HC : Hid (∀ w0 (c : Int), c = (N : Int) → Calls Tryd.prog 19 #[.agg #[.int .i64 (n : Int), .int .i64 (p : Int), .int .i64 (B : Int), .int .i64 (C : Int), .int .i64 pre], .int .i64 c] w0 fun e w' => e = .returned (.int .i64 (K : Int)) ∧ Below w0.heap.size w0 w') := fun w0 c hc => by
            rw [hc, ← hK]; exact rframes_any n p (B : Int) (C : Int) pre N w0 hn64 (by omega) (by omega)
          have hPw : IntKind.i64.wrap (P : Int) = (P : Int) := by rw [IntKind.wrap_i64]; omega
          obtain ⟨Q, hQ⟩ : ∃ Q, (N : Int) - (P : Int) = Q := ⟨_, rfl⟩
          have hQw : IntKind.i64.wrap Q = Q := by rw [IntKind.wrap_i64]; omega
          have hQ2 : N = 0 → (0 : Int) - (P : Int) = Q := fun e => by omega
          rw [hQ] at hE
          have keep : ∀ {w' : World}, Below w3.heap.size w3 w' → w'.cell? ⟨b1, 1, none⟩ = some (.int .i64 (p : Int)) ∧ w'.cell? ⟨b1, 0, none⟩ = some (.int .i64 (n : Int)) ∧ w'.cell? ⟨b1, 2, none⟩ = some (.int .i64 (B : Int)) ∧ w'.cell? ⟨b1, 3, none⟩ = some (.int .i64 (C : Int)) ∧ w'.cell? ⟨b1, 4, none⟩ = some (.int .i64 pre) ∧ w'.cell? ⟨b1 + 1, 0, none⟩ = some (.int .i64 (N : Int)) ∧ w'.cell? ⟨b1 + 1, 2, none⟩ = some (.slice a m cap) := fun hb =>
            ⟨(hb.cell (p := ⟨b1, 1, none⟩) (lt_of_cell g1)).trans g1, (hb.cell (p := ⟨b1, 0, none⟩) (lt_of_cell g0)).trans g0, (hb.cell (p := ⟨b1, 2, none⟩) (lt_of_cell g2)).trans g2, (hb.cell (p := ⟨b1, 3, none⟩) (lt_of_cell g3)).trans g3, (hb.cell (p := ⟨b1, 4, none⟩) (lt_of_cell g4)).trans g4, (hb.cell (p := ⟨b1 + 1, 0, none⟩) (lt_of_cell k0)).trans k0, (hb.cell (p := ⟨b1 + 1, 2, none⟩) (lt_of_cell k2)).trans k2⟩
          clear hK hP hfr
          by_cases hN0 : N = 0
          · subst hN0
            have hl0 : last = 0 := by
              by_cases c : last = 0
              · exact c
              · exact absurd ⟨rfl, c⟩ h3
            subst hl0
            have hQ3 := hQ2 rfl
            have k0' : w3.cell? ⟨b1 + 1, 0, none⟩ = some (.int .i64 0) := k0
            have keep' : ∀ {w' : World}, Below w3.heap.size w3 w' → w'.cell? ⟨b1, 1, none⟩ = some (.int .i64 (p : Int)) ∧ w'.cell? ⟨b1, 0, none⟩ = some (.int .i64 (n : Int)) ∧ w'.cell? ⟨b1, 2, none⟩ = some (.int .i64 (B : Int)) ∧ w'.cell? ⟨b1, 3, none⟩ = some (.int .i64 (C : Int)) ∧ w'.cell? ⟨b1, 4, none⟩ = some (.int .i64 pre) ∧ w'.cell? ⟨b1 + 1, 0, none⟩ = some (.int .i64 0) ∧ w'.cell? ⟨b1 + 1, 2, none⟩ = some (.slice a m cap) := keep
            clear hQ2 k0 keep hQ
            go_wp2_with fail
            go_region_held3 (fun w' => w'.cell? ⟨b1, 1, none⟩ = some (.int .i64 (p : Int)) ∧ w'.cell? ⟨b1, 0, none⟩ = some (.int .i64 (n : Int)) ∧ w'.cell? ⟨b1, 2, none⟩ = some (.int .i64 (B : Int)) ∧ w'.cell? ⟨b1, 3, none⟩ = some (.int .i64 (C : Int)) ∧ w'.cell? ⟨b1, 4, none⟩ = some (.int .i64 pre) ∧ w'.cell? ⟨b1 + 1, 0, none⟩ = some (.int .i64 0) ∧ w'.cell? ⟨b1 + 1, 2, none⟩ = some (.slice a m cap)) (first | exact ⟨g1, g0, g2, g3, g4, k0', k2⟩ | exact keep' (spin_undrew hb4)) ((go_at_call 19; go_must (with_reducible refine (unhide HC w3.drew 0 rfl).mono ?_); rintro e w4 ⟨rfl, hb4⟩))
            have HB4 := hide (below_trans (unhide HB2) (spin_undrew hb4))
            clear hb4 keep'
            go_wp2
            go_ret
            exact ⟨by rw [unhide hE]; first | rfl | simp, unhide HB4⟩
          · have hl0 : ((N : Int) == 0) = false := by simp; exact hN0
            have hl1 : (N == 0) = false := by simp; exact hN0
            clear hQ2
            go_wp2_with fail
            go_region_held3 (fun w' => w'.cell? ⟨b1, 1, none⟩ = some (.int .i64 (p : Int)) ∧ w'.cell? ⟨b1, 0, none⟩ = some (.int .i64 (n : Int)) ∧ w'.cell? ⟨b1, 2, none⟩ = some (.int .i64 (B : Int)) ∧ w'.cell? ⟨b1, 3, none⟩ = some (.int .i64 (C : Int)) ∧ w'.cell? ⟨b1, 4, none⟩ = some (.int .i64 pre) ∧ w'.cell? ⟨b1 + 1, 0, none⟩ = some (.int .i64 (N : Int)) ∧ w'.cell? ⟨b1 + 1, 2, none⟩ = some (.slice a m cap)) (first | exact ⟨g1, g0, g2, g3, g4, k0, k2⟩ | exact keep (spin_undrew hb4)) ((go_at_call 19; go_must (with_reducible refine (unhide HC w3.drew (N : Int) rfl).mono ?_); rintro e w4 ⟨rfl, hb4⟩))
            have HB4 := hide (below_trans (unhide HB2) (spin_undrew hb4))
            clear hb4 keep
            go_wp2
            go_ret
            exact ⟨by rw [unhide hE]; first | rfl | simp, unhide HB4⟩
    · obtain rfl : d2 = false := by rw [← unhide HD2]; exact decide_eq_false h2
      obtain rfl : v = false := by rw [← unhide HV]; exact decide_eq_false fun e => h2 e.2.1
      clear h2
      go_wp2
      go_ret
      exact ⟨rfl, unhide HB2⟩
  · obtain rfl : d1 = false := by rw [← unhide HD1]; exact decide_eq_false h1
    obtain rfl : v = false := by rw [← unhide HV]; exact decide_eq_false fun e => h1 e.1
    clear h1
    go_wp2
    go_ret
    exact ⟨rfl, unhide HB2⟩
end Go.Proofs.YtbkdgpeooeokmaaDoor
