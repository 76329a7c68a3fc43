/- Package front: Reset; which tails may be; Set. -/
import Derived.Test.YtbkdgpeooeokmaaDoorFrontReset
import Derived.Test.YtbkdgpeooeokmaaDoorFrontMay
namespace Go.Proofs.YtbkdgpeooeokmaaDoor
open Go.RowKit
set_option linter.unusedVariables false

/-- How many of so many samples are needed still. -/
theorem needed_nat (n p N : Nat) (hp0 : 1 ≤ p) (hpn : p ≤ n) : N - framesN n p N * p = if N < n then N else n - p + (N - n) % p := by
  unfold framesN
  by_cases c : N < n
  · rw [if_pos c, if_pos c]; omega
  · rw [if_neg c, if_neg c, Nat.add_mul]
    have h := Nat.div_add_mod (N - n) p
    rw [Nat.mul_comm] at h
    omega
set_option maxRecDepth 100000 in
theorem needed_any (n p B C : Nat) (pre : Int) (hp0 : 1 ≤ p) (hpn : p ≤ n) (hn : n ≤ 64) (N : Nat) (hN : N ≤ 4611686018427387904) (w : World) :
    Calls Tryd.prog 40 #[.agg #[.int .i64 (n : Int), .int .i64 (p : Int), .int .i64 (B : Int), .int .i64 (C : Int), .int .i64 pre], .int .i64 (N : Int)] w fun e w' => e = .returned (.int .i64 ((N - framesN n p N * p : Nat) : Int)) ∧ Below w.heap.size w w' := by
  obtain ⟨F, hF⟩ : ∃ F, w.heap.size = F := ⟨_, rfl⟩
  obtain ⟨W0, hW0⟩ : ∃ W0, w.alloc (.cells #[.int .i64 (n : Int), .int .i64 (p : Int), .int .i64 (B : Int), .int .i64 (C : Int), .int .i64 pre] 54) = W0 := ⟨_, rfl⟩
  have HF := hide (show Cells W0 F [.int .i64 (n : Int), .int .i64 (p : Int), .int .i64 (B : Int), .int .i64 (C : Int), .int .i64 pre] by rw [← hW0, ← hF]; exact cells_new w [.int .i64 (n : Int), .int .i64 (p : Int), .int .i64 (B : Int), .int .i64 (C : Int), .int .i64 pre] _)
  have HB := hide (show Below w.heap.size w W0 by rw [← hW0]; exact alloc_below w _)
  have q0 := (unhide HF).cell 0 _ rfl
  have q1 := (unhide HF).cell 1 _ rfl
  have HV := hide (needed_nat n p N hp0 hpn)
  rw [unhide HV]
  by_cases c : N < n
  · have cI : (N : Int) < (n : Int) := by omega
    rw [if_pos c]
    go_enter Tryd.func40, Tryd.ntmps40
    go_wp2
    clear hW0 hF
    go_ret
    exact ⟨rfl, unhide HB⟩
  · have cI : ¬ (N : Int) < (n : Int) := by omega
    rw [if_neg c]
    obtain ⟨d, hd⟩ : ∃ d : Nat, N - n = d := ⟨_, rfl⟩
    have hdI : (N : Int) - (n : Int) = (d : Int) := by omega
    have hmod : (d : Int) % (p : Int) = ((d % p : Nat) : Int) := by simp
    obtain ⟨r, hr⟩ : ∃ r, d % p = r := ⟨_, rfl⟩
    have hrp : r < p := by rw [← hr]; exact Nat.mod_lt _ (by omega)
    have HP := hide (show ∀ w, Calls Tryd.prog 51 #[.int .i64 (d : Int), .int .i64 (p : Int)] w fun e w' => e = .returned (.tuple #[.int .i64 ((d : Int) / (p : Int)), .int .i64 (r : Int)]) ∧ ∃ k, w' = w.drewN k from fun w => by
      have := parts_quiet (d : Int) (p : Int) w ⟨by omega, by omega⟩ (by omega) (by omega)
      rwa [hmod, hr] at this)
    have HR := hide (show n - p + (N - n) % p = n - p + r by rw [hd, hr])
    rw [unhide HR]
    clear hmod hr
    have hnp : (n : Int) - (p : Int) = ((n - p : Nat) : Int) := by omega
    generalize (d : Int) / (p : Int) = qq at HP
    go_enter Tryd.func40, Tryd.ntmps40
    go_wp2_with fail
    clear hW0 hF q0 q1
    refine (unhide HP _).mono ?_
    rintro e w1 ⟨rfl, k, rfl⟩
    have q0 : (W0.drewN k).cell? ⟨F, 0, none⟩ = some (.int .i64 (n : Int)) := (unhide HF).cell 0 _ rfl
    have q1 : (W0.drewN k).cell? ⟨F, 1, none⟩ = some (.int .i64 (p : Int)) := (unhide HF).cell 1 _ rfl
    go_wp2
    clear q0 q1
    go_ret
    exact ⟨by rw [show ((n - p + r : Nat) : Int) = ((n - p : Nat) : Int) + (r : Int) by omega]; rfl, (unhide HB).trans ((below_drewN W0 k).mono (unhide HB).size)⟩

set_option maxRecDepth 100000 in
set_option maxHeartbeats 8000000 in
theorem mayhave_any (n p B C : Nat) (pre : Int) (hs : Spc n p B C pre) (cnt last : Int) (a : Option Addr) (m cap : Nat) (R : List Int) (w : World) (hl : Lies w a R) (hm : R.length = m) (hm63 : m ≤ 9223372036854775807) (hc : In64 cnt) :
    Calls Tryd.prog 31 #[.agg #[.int .i64 (n : Int), .int .i64 (p : Int), .int .i64 (B : Int), .int .i64 (C : Int), .int .i64 pre], .agg #[.int .i64 cnt, .int .i64 last, .slice a m cap]] w fun e w' => e = .returned (.bool (decide (mayT n p cnt last R))) ∧ Below w.heap.size w w' := by
  obtain ⟨F, hF⟩ : ∃ F, w.heap.size = F := ⟨_, rfl⟩
  obtain ⟨W0, hW0⟩ : ∃ W0, (w.alloc (.cells #[.int .i64 (n : Int), .int .i64 (p : Int), .int .i64 (B : Int), .int .i64 (C : Int), .int .i64 pre] 54)).alloc (.cells #[.int .i64 cnt, .int .i64 last, .slice a m cap] 40) = W0 := ⟨_, rfl⟩
  have HF := hide (show Cells W0 F [.int .i64 (n : Int), .int .i64 (p : Int), .int .i64 (B : Int), .int .i64 (C : Int), .int .i64 pre] by rw [← hW0, ← hF]; exact (cells_new w [.int .i64 (n : Int), .int .i64 (p : Int), .int .i64 (B : Int), .int .i64 (C : Int), .int .i64 pre] _).alloc _)
  have HT := hide (show Cells W0 (F + 1) [.int .i64 cnt, .int .i64 last, .slice a m cap] by
    rw [← hW0, ← hF]
    have := cells_new (w.alloc (.cells #[.int .i64 (n : Int), .int .i64 (p : Int), .int .i64 (B : Int), .int .i64 (C : Int), .int .i64 pre] 54)) [.int .i64 cnt, .int .i64 last, .slice a m cap] 40
    simpa using this)
  have HB := hide (show Below w.heap.size w W0 by rw [← hW0]; exact (alloc_below w _).alloc (by simp) _)
  have hsz := hide (show W0.heap.size = F + 1 + 1 by rw [← hW0, ← hF]; simp)
  have HL := hide (hl.below (unhide HB))
  have HM := hide hm
  obtain ⟨v, hv⟩ : ∃ v, decide (mayT n p cnt last R) = v := ⟨_, rfl⟩
  rw [hv]
  have HV := hide hv
  have hp0 := hs.hp0
  have hpn := hs.hp
  have hn64 : n ≤ 64 := by have := hs.sz; omega
  have q0 := fun o => ((unhide HT).alloc o).cell 0 _ rfl
  have q1 := fun o => ((unhide HT).alloc o).cell 1 _ rfl
  have p0 := (unhide HT).cell 0 _ rfl
  clear hl hm hv hs
  go_enter Tryd.func31, Tryd.ntmps31
  go_wp2_with fail
  clear hW0 hF p0
  refine (within_one cnt 0 4611686018427387904 _ 1 _ (lies_new W0 [cnt] _ (by first | rfl | simp))).mono ?_
  rintro e w1 ⟨rfl, rfl⟩
  by_cases h1 : 0 ≤ cnt ∧ cnt ≤ 4611686018427387904
  · rw [decide_eq_true h1]
    go_wp2_with fail
    obtain ⟨W2, hW2⟩ : ∃ W2, (W0.alloc (.cells #[.int .i64 cnt] 3)).alloc (.cells #[.int .i64 last] 3) = W2 := ⟨_, rfl⟩
    rw [hW2]
    have hLW : Lies W2 (some ⟨W0.heap.size + 1, 0, none⟩) [last] := by rw [← hW2]; exact lies_new _ [last] _ (by simp)
    have HF2 := hide (show Cells W2 F [.int .i64 (n : Int), .int .i64 (p : Int), .int .i64 (B : Int), .int .i64 (C : Int), .int .i64 pre] by rw [← hW2]; exact ((unhide HF).alloc _).alloc _)
    have HT2 := hide (show Cells W2 (F + 1) [.int .i64 cnt, .int .i64 last, .slice a m cap] by rw [← hW2]; exact ((unhide HT).alloc _).alloc _)
    have HBW := show Below W0.heap.size W0 W2 by rw [← hW2]; exact (alloc_below W0 _).alloc (by simp) _
    have HB2 := hide (below_trans (unhide HB) HBW)
    have HL2 := hide ((unhide HL).below HBW)
    clear q0 q1 HBW hW2
    refine (within_one last (-32768) 32767 _ 1 W2 hLW).mono ?_
    rintro e w1 ⟨rfl, rfl⟩
    by_cases h2 : -32768 ≤ last ∧ last ≤ 32767
    · rw [decide_eq_true h2]
      obtain ⟨W2, rfl⟩ : ∃ x, x = w1 := ⟨_, rfl⟩
      obtain ⟨f0, f1, f2, f3, f4⟩ := show W2.cell? ⟨F, 0, none⟩ = some (.int .i64 (n : Int)) ∧ W2.cell? ⟨F, 1, none⟩ = some (.int .i64 (p : Int)) ∧ W2.cell? ⟨F, 2, none⟩ = some (.int .i64 (B : Int)) ∧ W2.cell? ⟨F, 3, none⟩ = some (.int .i64 (C : Int)) ∧ W2.cell? ⟨F, 4, none⟩ = some (.int .i64 pre) from ⟨(unhide HF2).cell 0 _ rfl, (unhide HF2).cell 1 _ rfl, (unhide HF2).cell 2 _ rfl, (unhide HF2).cell 3 _ rfl, (unhide HF2).cell 4 _ rfl⟩
      have g0 : W2.cell? ⟨F + 1, 0, none⟩ = some (.int .i64 cnt) := (unhide HT2).cell 0 _ rfl
      have g1 : W2.cell? ⟨F + 1, 1, none⟩ = some (.int .i64 last) := (unhide HT2).cell 1 _ rfl
      have g2 : W2.cell? ⟨F + 1, 2, none⟩ = some (.slice a m cap) := (unhide HT2).cell 2 _ rfl
      by_cases h3 : cnt = 0 ∧ last ≠ 0
      · obtain rfl : v = false := by rw [← unhide HV]; exact decide_eq_false fun e => h3.2 (e.2.2.2.1 h3.1)
        obtain ⟨rfl, h4⟩ := h3
        have h4' : ¬ last = 0 := h4
        go_wp2
        go_ret
        exact ⟨rfl, unhide HB2⟩
      · obtain ⟨N, rfl⟩ : ∃ N : Nat, cnt = (N : Int) := ⟨cnt.toNat, by omega⟩
        have hfr := (frames_rest n p N (by omega) hpn).1
        obtain ⟨Q, hQ⟩ : ∃ Q, N - framesN n p N * p = Q := ⟨_, rfl⟩
        have HND : Hid (∀ w (c : Int), c = (N : Int) → Calls Tryd.prog 40 #[.agg #[.int .i64 (n : Int), .int .i64 (p : Int), .int .i64 (B : Int), .int .i64 (C : Int), .int .i64 pre], .int .i64 c] w fun e w' => e = .returned (.int .i64 (Q : Int)) ∧ Below w.heap.size w w') := fun w c hc => by
          rw [hc, ← hQ]; exact needed_any n p B C pre hp0 hpn hn64 N (by omega) w
        have HE := hide (show v = (decide (m = Q) && allIn R (-65536) 65536) by
          rw [← unhide HV]
          have : mayT n p (N : Int) last R ↔ (m = Q ∧ allIn R (-65536) 65536 = true) := by
            unfold mayT
            rw [Int.toNat_natCast, unhide HM]
            constructor
            · intro h; exact ⟨by have := h.2.2.2.2; omega, h.2.2.1⟩
            · intro h; exact ⟨h1, h2, h.2, fun e => by
                by_cases c : last = 0
                · exact c
                · exact absurd ⟨e, c⟩ h3, by omega⟩
          rw [show decide (mayT n p (N : Int) last R) = decide (m = Q ∧ allIn R (-65536) 65536 = true) from decide_eq_decide.2 this]
          simp)
        have hc4 : (N : Int) = 0 → last = 0 := fun e => by
          by_cases c : last = 0
          · exact c
          · exact absurd ⟨e, c⟩ h3
        clear hfr hQ h3
        have keep : ∀ {w' : World}, Below W2.heap.size W2 w' → w'.cell? ⟨F, 0, none⟩ = some (.int .i64 (n : Int)) ∧ w'.cell? ⟨F, 1, none⟩ = some (.int .i64 (p : Int)) ∧ w'.cell? ⟨F, 2, none⟩ = some (.int .i64 (B : Int)) ∧ w'.cell? ⟨F, 3, none⟩ = some (.int .i64 (C : Int)) ∧ w'.cell? ⟨F, 4, none⟩ = some (.int .i64 pre) ∧ w'.cell? ⟨F + 1, 0, none⟩ = some (.int .i64 (N : Int)) ∧ w'.cell? ⟨F + 1, 2, none⟩ = some (.slice a m cap) := fun hb => by
          have h := (unhide HF2).below hb
          have h' := (unhide HT2).below hb
          exact ⟨h.cell 0 _ rfl, h.cell 1 _ rfl, h.cell 2 _ rfl, h.cell 3 _ rfl, h.cell 4 _ rfl, h'.cell 0 _ rfl, h'.cell 2 _ rfl⟩
        have hLd : ∀ {w' : World}, Below W2.heap.size W2 w' → Lies w' a R := fun hb => (unhide HL2).below hb
        have hmm := unhide HM
        have HMQ := hide (show m = Q ∨ m ≠ Q by omega)
        go_upto_region 4 with fail
        go_cut [16] (fun x wc => x = .bool false ∧ wc = W2)
        case first =>
          by_cases hN0 : N = 0
          · subst hN0
            obtain rfl : last = 0 := hc4 rfl
            go_wp2_with fail
            go_meet
            exact ⟨rfl, rfl⟩
          · have hN1 : ¬ (N : Int) = 0 := by omega
            have hN2 : ((N : Int) == 0) = false := by simp; exact hN0
            have hN3 : (N == 0) = false := by simp; exact hN0
            clear hc4
            go_wp2_with fail
            go_meet
            exact ⟨rfl, rfl⟩
        case rest =>
          obtain ⟨rfl, rfl⟩ := hcut
          clear hc4
          rcases unhide HMQ with hmQ | hmQ
          · subst hmQ
            have e1 : ((m : Int) == (m : Int)) = true := by simp
            have HE2 := hide (show v = allIn R (-65536) 65536 by rw [unhide HE]; simp)
            go_wp2_with fail
            go_region_held3 (fun w' => w'.cell? ⟨F, 0, none⟩ = some (.int .i64 (n : Int)) ∧ w'.cell? ⟨F, 1, none⟩ = some (.int .i64 (p : Int)) ∧ w'.cell? ⟨F, 2, none⟩ = some (.int .i64 (B : Int)) ∧ w'.cell? ⟨F, 3, none⟩ = some (.int .i64 (C : Int)) ∧ w'.cell? ⟨F, 4, none⟩ = some (.int .i64 pre) ∧ w'.cell? ⟨F + 1, 0, none⟩ = some (.int .i64 (N : Int)) ∧ w'.cell? ⟨F + 1, 2, none⟩ = some (.slice a m cap)) (first | exact ⟨f0, f1, f2, f3, f4, g0, g2⟩ | exact keep (spin_undrew hb4)) (first | (go_at_call 24; go_must (with_reducible refine (within_any a cap m R (-65536) 65536 w4 (hLd (spin_undrew hb4)) hmm hm63).mono ?_); rintro e w5 ⟨rfl, rfl⟩) | (go_at_call 40; go_must (with_reducible refine (unhide HND _ (N : Int) rfl).mono ?_); rintro e w4 ⟨rfl, hb4⟩))
            have HB5 := hide (below_trans (unhide HB2) (spin_undrew hb4))
            clear hb4 keep hLd
            go_wp2
            go_ret
            exact ⟨by rw [unhide HE2]; rfl, unhide HB5⟩
          · have e1 : ((m : Int) == (Q : Int)) = false := by simp; omega
            have e2 : ¬ (m : Int) = (Q : Int) := by omega
            obtain rfl : v = false := by rw [unhide HE]; simp [hmQ]
            go_wp2_with fail
            first
              | go_region_with ((go_at_call 40; (with_reducible refine (unhide HND _ (N : Int) rfl).mono ?_); rintro e w4 ⟨rfl, hb4⟩; obtain ⟨y0, y1, y2, y3, y4, y5, y6⟩ := keep (spin_undrew hb4)))
              | fail "region"
            all_goals (
              have HB5 := hide (below_trans (unhide HB2) (spin_undrew hb4))
              clear hb4 keep hLd
              go_wp2
              go_ret
              exact ⟨rfl, unhide HB5⟩)
    · rw [decide_eq_false h2]
      obtain rfl : v = false := by rw [← unhide HV]; exact decide_eq_false fun e => h2 e.2.1
      clear h2
      go_wp2
      go_ret
      exact ⟨rfl, unhide HB2⟩
  · rw [decide_eq_false h1]
    obtain rfl : v = false := by rw [← unhide HV]; exact decide_eq_false fun e => h1 e.1
    clear h1
    go_wp2
    go_ret
    exact ⟨rfl, (unhide HB).alloc (unhide HB).size _⟩
end Go.Proofs.YtbkdgpeooeokmaaDoor
