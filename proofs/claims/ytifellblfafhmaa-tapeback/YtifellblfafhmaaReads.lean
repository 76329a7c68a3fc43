/- The walk of TapeReads. -/
import Derived.Test.YtifellblfafhmaaWrites
namespace Go.Proofs.Ytifellblfafhmaa
open Go.RowKit
set_option linter.unusedVariables false

theorem Rd.only {c g : Nat} {w w' : World} {a : Nat} {s : ByteArray} {e : Int} (h : Rd g w a s e) (ho : Only c w w') (hne : g ≠ c) : Rd g w' a s e := Cells.only (l := [.int .i64 (a : Int), .string s, .int .i64 e]) h ho hne
theorem Dr.only {c g : Nat} {w w' : World} {a : Nat} {s : ByteArray} {e : Int} (h : Dr g w a s e) (ho : Only c w w') (hne : g ≠ c) : Dr g w' a s e := Cells.only (l := [.string s, .int .i64 (a : Int), .int .i64 e]) h ho hne
theorem Dr.below {c : Nat} {w w' : World} {a : Nat} {s : ByteArray} {e : Int} (h : Dr c w a s e) (hb : Below w.heap.size w w') : Dr c w' a s e := Cells.below (l := [.string s, .int .i64 (a : Int), .int .i64 e]) h hb
theorem rowGo_len (s : ByteArray) : ∀ (n a : Nat) (e : Int), (rowGo s n a e).1.length ≤ n
  | 0, a, e => by simp [rowGo]
  | n + 1, a, e => by
    unfold rowGo
    split
    · have := rowGo_len s n (takeA a s e 4) (takeE a s e 4)
      simp
      exact this
    · simp
theorem rowXs_len (s : ByteArray) (a : Nat) (e : Int) : (rowXs s a e).length ≤ 65536 := by
  unfold rowXs rowR
  have h1 := rowGo_len s (takeV a s e 2) (takeA a s e 2) (takeE a s e 2)
  have h2 := takeV_lt a s e 2
  split
  · omega
  · simp
theorem rowGo_err (s : ByteArray) : ∀ (n a : Nat) (e : Int), (e = 0 ∨ e = 11) → ((rowGo s n a e).2.2 = 0 ∨ (rowGo s n a e).2.2 = 11)
  | 0, a, e, h => h
  | n + 1, a, e, h => by
    unfold rowGo
    split
    · exact rowGo_err s n _ _ (take_err h)
    · exact take_err h

set_option maxRecDepth 100000 in
set_option maxHeartbeats 1000000 in
theorem reads_walk (s0 : ByteArray) (a : Option Addr) (len cap : Nat) (is : List ItemD) (w : World) (hl : len ≤ 9223372036854775807) (hm : is.length = min len 30) (hi : LiesI w a is) :
    Calls Try.prog 4 #[.string s0, .slice a len cap] w fun e w' => e = .returned (.bool true) ∧ Below w.heap.size w w' := by
  have HI := hide hi
  have HM := hide hm
  clear hi hm
  obtain ⟨s, hs, hs60⟩ : ∃ s, (if 60 < s0.size then s0.extract 0 60 else s0) = s ∧ s.size ≤ 60 := ⟨_, rfl, by split; rw [ByteArray.size_extract]; omega; omega⟩
  have HSS := hide hs
  clear hs
  by_cases h60 : 60 < s0.size
  case' pos => have hse : s0.extract 0 60 = s := by have := unhide HSS; rwa [if_pos h60] at this
  case' neg => obtain rfl : s = s0 := by have := unhide HSS; rw [if_neg h60] at this; exact this.symm
  all_goals
    clear HSS
    go_enter Try.func4, Try.ntmps4
    go_wp2_with fail
    refine (awake_any _).mono ?_
    rintro e w1 ⟨rfl, hb1⟩
    have HB1 := hide hb1
    have hs1 := hb1.size
    clear hb1
    go_wp2_with fail
    refine (read_any _ _).mono ?_
    rintro e w2 ⟨rfl, rfl⟩
    go_wp2_with fail
    refine (dread_any _ _).mono ?_
    rintro e w3 ⟨rfl, rfl⟩
    go_wp2
  all_goals
    go_loopw [8] (fun i wr => ∃ (j A : Nat) (E : Int), j ≤ is.length ∧ i = .int .i64 (j : Int) ∧ A ≤ s.size ∧ Hid (E = 0 ∨ E = 11) ∧ Hid (Rd w1.heap.size wr A s E) ∧ Hid (Dr (w1.heap.size + 1) wr A s E) ∧ Hid (Below w.heap.size w wr)) (fun i _ => is.length - (intOf i).toNat)
    case atStart => exact ⟨0, 0, 0, by omega, rfl, by omega, .inl rfl, (rd_new w1 s).below ((Below.refl _ _).alloc (Nat.le_refl _) _), by
      have := dr_new (w1.alloc (.cells #[.int .i64 0, .string s, .int .i64 0] 65)) s
      rw [World.size_alloc] at this
      exact this, ((unhide HB1).alloc hs1 _).alloc (by simp; omega) _⟩
    case round =>
      obtain ⟨j, A, E, hj, rfl, hA, HE, HR, HD, HB⟩ := hrel
      have hjm := unhide HM
      by_cases hlt : j < is.length
      · have hj30 : (j : Int) < 30 := by omega
        have hjl : (j : Int) < (len : Int) := by omega
        obtain ⟨b, off, rfl, hb, hat⟩ : ∃ b off, a = some ⟨b, off, none⟩ ∧ b < w.heap.size ∧ ∀ j (h : j < is.length), ItAt w b (off + j * 3) is[j] := by
          rcases unhide HI with h | h
          · rw [h] at hlt; simp at hlt
          · exact h
        obtain ⟨q, hq⟩ : ∃ q, is[j] = q := ⟨_, rfl⟩
        have hatj := (hat j hlt).below (unhide HB) hb
        rw [hq] at hatj
        obtain ⟨c0, c1, c2, hit⟩ := hatj
        have HK := hide hit.k64
        clear hat hit hq hjm
        go_wp2_with fail
        refine (kind_any q.k q.n q.a q.len q.cap _ (unhide HK)).mono ?_
        rintro e w4 ⟨rfl, hb4⟩
        have HB4 := hide hb4
        have HB2 := hide (below_trans (unhide HB) hb4)
        clear hb4 c0 c1 c2
        obtain ⟨y, hy⟩ : ∃ y, q.k % 5 = y := ⟨_, rfl⟩
        have hy5 : y = 0 ∨ y = 1 ∨ y = 2 ∨ y = 3 ∨ y = 4 := by omega
        rw [hy]
        clear hy HK
        rcases hy5 with rfl | rfl | rfl | rfl | rfl
        case' inl =>
          have hA2 := takeA_le (at_ := A) (s := s) (e := E) (k := 1) hA
          have HE2 := hide (take_err (a := A) (s := s) (k := 1) (unhide HE))
          have hv := takeV_lt A s E 1
          obtain ⟨A2, hA2'⟩ : ∃ A2, takeA A s E 1 = A2 := ⟨_, rfl⟩
          obtain ⟨E2, hE2'⟩ : ∃ E2, takeE A s E 1 = E2 := ⟨_, rfl⟩
          obtain ⟨V, hV'⟩ : ∃ V, takeV A s E 1 = V := ⟨_, rfl⟩
          rw [hA2'] at hA2
          rw [hE2'] at HE2
          rw [hV'] at hv
          have HT := hide (And.intro hA2' (And.intro hE2' hV'))
          clear hA2' hE2' hV'
          go_wp2_with fail
          refine (rbyte_any w1.heap.size A s E _ ((unhide HR).below (unhide HB4)) hA (by omega)).mono ?_
          rw [(unhide HT).1, (unhide HT).2.1, (unhide HT).2.2]
          rintro e w5 ⟨rfl, ho5, hr5⟩
          have HB5 := hide ((unhide HB2).trans (ho5.below (B := w.heap.size) hs1 (unhide HB2).size))
          have HR5 := hide hr5
          have HD5 := hide (((unhide HD).below (unhide HB4)).only ho5 (by omega))
          clear ho5 hr5 HR HD
          go_wp2_with fail
          refine (num_any (w1.heap.size + 1) A 1 s E _ (unhide HD5) hA (by omega) (by omega) (unhide HE)).mono ?_
          rw [(unhide HT).1, (unhide HT).2.1, (unhide HT).2.2]
          rintro e w6 ⟨rfl, ho6, hr6⟩
          have HB6 := hide ((unhide HB5).trans (ho6.below (B := w.heap.size) (by omega) (unhide HB5).size))
          have HD6 := hide hr6
          have HR6 := hide ((unhide HR5).only ho6 (by omega))
          clear ho6 hr6 HR5 HD5 HB5 HT
          go_wp2
        case' inr.inl =>
          have hA2 := takeA_le (at_ := A) (s := s) (e := E) (k := 2) hA
          have HE2 := hide (take_err (a := A) (s := s) (k := 2) (unhide HE))
          have hv := takeV_lt A s E 2
          obtain ⟨A2, hA2'⟩ : ∃ A2, takeA A s E 2 = A2 := ⟨_, rfl⟩
          obtain ⟨E2, hE2'⟩ : ∃ E2, takeE A s E 2 = E2 := ⟨_, rfl⟩
          obtain ⟨V, hV'⟩ : ∃ V, takeV A s E 2 = V := ⟨_, rfl⟩
          rw [hA2'] at hA2
          rw [hE2'] at HE2
          rw [hV'] at hv
          have HT := hide (And.intro hA2' (And.intro hE2' hV'))
          clear hA2' hE2' hV'
          go_wp2_with fail
          refine (rshort_any w1.heap.size A s E _ ((unhide HR).below (unhide HB4)) hA (by omega)).mono ?_
          rw [(unhide HT).1, (unhide HT).2.1, (unhide HT).2.2]
          rintro e w5 ⟨rfl, ho5, hr5⟩
          have HB5 := hide ((unhide HB2).trans (ho5.below (B := w.heap.size) hs1 (unhide HB2).size))
          have HR5 := hide hr5
          have HD5 := hide (((unhide HD).below (unhide HB4)).only ho5 (by omega))
          clear ho5 hr5 HR HD
          go_wp2_with fail
          refine (num_any (w1.heap.size + 1) A 2 s E _ (unhide HD5) hA (by omega) (by omega) (unhide HE)).mono ?_
          rw [(unhide HT).1, (unhide HT).2.1, (unhide HT).2.2]
          rintro e w6 ⟨rfl, ho6, hr6⟩
          have HB6 := hide ((unhide HB5).trans (ho6.below (B := w.heap.size) (by omega) (unhide HB5).size))
          have HD6 := hide hr6
          have HR6 := hide ((unhide HR5).only ho6 (by omega))
          clear ho6 hr6 HR5 HD5 HB5 HT
          go_wp2
        case' inr.inr.inl =>
          have hA2 := takeA_le (at_ := A) (s := s) (e := E) (k := 4) hA
          have HE2 := hide (take_err (a := A) (s := s) (k := 4) (unhide HE))
          have hv := takeV_lt A s E 4
          obtain ⟨A2, hA2'⟩ : ∃ A2, takeA A s E 4 = A2 := ⟨_, rfl⟩
          obtain ⟨E2, hE2'⟩ : ∃ E2, takeE A s E 4 = E2 := ⟨_, rfl⟩
          obtain ⟨V, hV'⟩ : ∃ V, takeV A s E 4 = V := ⟨_, rfl⟩
          rw [hA2'] at hA2
          rw [hE2'] at HE2
          rw [hV'] at hv
          have HT := hide (And.intro hA2' (And.intro hE2' hV'))
          clear hA2' hE2' hV'
          go_wp2_with fail
          refine (rword_any w1.heap.size A s E _ ((unhide HR).below (unhide HB4)) hA (by omega)).mono ?_
          rw [(unhide HT).1, (unhide HT).2.1, (unhide HT).2.2]
          rintro e w5 ⟨rfl, ho5, hr5⟩
          have HB5 := hide ((unhide HB2).trans (ho5.below (B := w.heap.size) hs1 (unhide HB2).size))
          have HR5 := hide hr5
          have HD5 := hide (((unhide HD).below (unhide HB4)).only ho5 (by omega))
          clear ho5 hr5 HR HD
          go_wp2_with fail
          refine (dword_any (w1.heap.size + 1) A s E _ (unhide HD5) hA (by omega) (unhide HE)).mono ?_
          rw [(unhide HT).1, (unhide HT).2.1, (unhide HT).2.2]
          rintro e w6 ⟨rfl, ho6, hr6⟩
          have HB6 := hide ((unhide HB5).trans (ho6.below (B := w.heap.size) (by omega) (unhide HB5).size))
          have HD6 := hide hr6
          have HR6 := hide ((unhide HR5).only ho6 (by omega))
          clear ho6 hr6 HR5 HD5 HB5 HT
          go_wp2
        case' inr.inr.inr.inl =>
          have hA2 := takeA_le (at_ := A) (s := s) (e := E) (k := 8) hA
          have HE2 := hide (take_err (a := A) (s := s) (k := 8) (unhide HE))
          have hv := takeV_lt A s E 8
          obtain ⟨A2, hA2'⟩ : ∃ A2, takeA A s E 8 = A2 := ⟨_, rfl⟩
          obtain ⟨E2, hE2'⟩ : ∃ E2, takeE A s E 8 = E2 := ⟨_, rfl⟩
          obtain ⟨V, hV'⟩ : ∃ V, takeV A s E 8 = V := ⟨_, rfl⟩
          rw [hA2'] at hA2
          rw [hE2'] at HE2
          rw [hV'] at hv
          have HT := hide (And.intro hA2' (And.intro hE2' hV'))
          clear hA2' hE2' hV'
          go_wp2_with fail
          refine (rlong_any w1.heap.size A s E _ ((unhide HR).below (unhide HB4)) hA (by omega)).mono ?_
          rw [(unhide HT).1, (unhide HT).2.1, (unhide HT).2.2]
          rintro e w5 ⟨rfl, ho5, hr5⟩
          have HB5 := hide ((unhide HB2).trans (ho5.below (B := w.heap.size) hs1 (unhide HB2).size))
          have HR5 := hide hr5
          have HD5 := hide (((unhide HD).below (unhide HB4)).only ho5 (by omega))
          clear ho5 hr5 HR HD
          go_wp2_with fail
          refine (num_any (w1.heap.size + 1) A 8 s E _ (unhide HD5) hA (by omega) (by omega) (unhide HE)).mono ?_
          rw [(unhide HT).1, (unhide HT).2.1, (unhide HT).2.2]
          rintro e w6 ⟨rfl, ho6, hr6⟩
          have HB6 := hide ((unhide HB5).trans (ho6.below (B := w.heap.size) (by omega) (unhide HB5).size))
          have HD6 := hide hr6
          have HR6 := hide ((unhide HR5).only ho6 (by omega))
          clear ho6 hr6 HR5 HD5 HB5 HT
          go_wp2
        case' inr.inr.inr.inr =>
          have hA2 := rowGo_le s (takeV A s E 2) (takeA A s E 2) (takeE A s E 2) (takeA_le hA)
          have HE2 := hide (rowGo_err s (takeV A s E 2) (takeA A s E 2) (takeE A s E 2) (take_err (unhide HE)))
          have hv := rowXs_len s A E
          obtain ⟨A2, hA2'⟩ : ∃ A2, (rowR s A E).2.1 = A2 := ⟨_, rfl⟩
          obtain ⟨E2, hE2'⟩ : ∃ E2, (rowR s A E).2.2 = E2 := ⟨_, rfl⟩
          obtain ⟨V, hV'⟩ : ∃ V, rowXs s A E = V := ⟨_, rfl⟩
          change (rowR s A E).2.1 ≤ _ at hA2
          change Hid ((rowR s A E).2.2 = 0 ∨ (rowR s A E).2.2 = 11) at HE2
          rw [hA2'] at hA2
          rw [hE2'] at HE2
          rw [hV'] at hv
          have HT := hide (And.intro hA2' (And.intro hE2' hV'))
          clear hA2' hE2' hV'
          go_wp2_with fail
          refine (rrow_any w1.heap.size A s E _ ((unhide HR).below (unhide HB4)) hA (by omega)).mono ?_
          rw [(unhide HT).1, (unhide HT).2.1, (unhide HT).2.2]
          rintro e w5 ⟨a5, cap5, rfl, hl5, hp5, ho5, hr5⟩
          have HB5 := hide ((unhide HB2).trans (ho5.below (B := w.heap.size) hs1 (unhide HB2).size))
          have HR5 := hide hr5
          have HD5 := hide (((unhide HD).below (unhide HB4)).only ho5 (by omega))
          have HL5 := hide hl5
          have HP5 := hide (show ∀ p, a5 = some p → p.block ≠ w1.heap.size + 1 from fun p hp => by have h1 := hp5 p hp; have h2 := ((unhide HD).below (unhide HB4)).lt; omega)
          clear ho5 hr5 HR HD hl5 hp5
          go_wp2_with fail
          refine (drow_any (w1.heap.size + 1) A s E _ (unhide HD5) hA (by omega) (unhide HE)).mono ?_
          rw [(unhide HT).1, (unhide HT).2.1, (unhide HT).2.2]
          rintro e wx ⟨a6, cap6, rfl, hl6, hp6, ho6, hr6⟩
          have HB6' := hide ((unhide HB5).trans (ho6.below (B := w.heap.size) (by omega) (unhide HB5).size))
          have HD6' := hide hr6
          have HR6' := hide ((unhide HR5).only ho6 (by omega))
          have HL6 := hide hl6
          have HL5' := hide ((unhide HL5).only ho6 fun _ => unhide HP5)
          clear ho6 hr6 HR5 HD5 HB5 HT hl6 hp6 HL5 HP5
          go_wp2_with fail
          refine (same_any a5 a6 cap5 cap6 V _ rfl (by omega) _ (unhide HL5') (unhide HL6)).mono ?_
          rintro e w6 ⟨rfl, hb7⟩
          have HB6 := hide (below_trans (unhide HB6') hb7)
          have HD6 := hide ((unhide HD6').below hb7)
          have HR6 := hide ((unhide HR6').below hb7)
          clear hb7 HB6' HD6' HR6' HL5' HL6
          go_wp2
        all_goals
          have g0 := (unhide HD6).cell 0 _ rfl
          have g1 := (unhide HD6).cell 1 _ rfl
          have g2 := (unhide HD6).cell 2 _ rfl
          go_quiet ((first | (go_at_call 24; exact Calls.quiet_of_same (rat_any w1.heap.size A2 s E2 _ ((unhide HR6).below (below_drewN _ _)))) | (go_at_call 25; exact Calls.quiet_of (rleft_any w1.heap.size A2 s E2 _ ((unhide HR6).below (below_drewN _ _)) hA2 (by omega))) | (go_at_call 26; exact Calls.quiet_of (dleft_any (w1.heap.size + 1) A2 s E2 _ ((unhide HD6).below (below_drewN _ _)) hA2 (by omega))) | (go_at_call 27; exact Calls.quiet_of_same (rerr_any w1.heap.size A2 s E2 _ ((unhide HR6).below (below_drewN _ _))))))
          go_wp2
          go_roundw
          case rel => exact ⟨j + 1, A2, E2, by omega, rfl, hA2, HE2, (unhide HR6).below (below_drewN _ _), (unhide HD6).below (below_drewN _ _), below_trans (unhide HB6) (below_drewN _ _)⟩
          case measure => simp [intOf]; omega
      · obtain rfl : j = is.length := by omega
        by_cases hl30 : (is.length : Int) < (len : Int)
        · have hj30 : ¬ ((is.length : Int) < 30) := by omega
          clear hjm
          go_wp2
          go_ret
          exact ⟨rfl, unhide HB⟩
        · clear hjm
          go_wp2
          go_ret
          exact ⟨rfl, unhide HB⟩
end Go.Proofs.Ytifellblfafhmaa
