/- Contracts of Push of a loop; of a nil loop's calls. -/
import Derived.Test.YtclikkhaaiihdaaPush
namespace Go.Proofs.Ytclikkhaaiihdaa
open Go.RowKit
set_option linter.unusedVariables false

set_option maxHeartbeats 2000000 in
theorem lpush_width (l b c g o m k R d cap : Nat) (cnt : Int) (a : Option Addr) (w : World) (h : Lo l b c g o m (d : Int) R cnt w) (hk : k ≠ d) :
    Calls Try.prog 19 #[.pointer (some ⟨l, 0, none⟩), .slice a k cap] w fun r w' => r = .returned (.int .i64 14) ∧ ∃ n, w' = w.drewN n := by
  have hR0 : ((R : Int) == 0) = false := by have := h.has; simp; omega
  have H := hide h
  have hkd : ((k : Int) == (d : Int)) = false := by simp; omega
  clear h
  go_enter Try.func19, Try.ntmps19
  go_wp2_with fail
  refine (lroom_any l b c g o m R d cnt w (unhide H)).mono ?_
  rintro e' w1 ⟨rfl, n1, rfl⟩
  go_wp2_with fail
  refine (lwidth_any l b c g o m R d cnt _ ((unhide H).below (below_drewN _ _))).mono ?_
  rintro e' w2 ⟨rfl, rfl⟩
  go_wp2
  go_ret
  exact ⟨rfl, _, rfl⟩
set_option maxHeartbeats 2000000 in
theorem lpush_range (l b c g o m R d cap : Nat) (cnt : Int) (a : Option Addr) (xs : List Int) (w : World) (h : Lo l b c g o m (d : Int) R cnt w)
    (hl : Lies w a xs) (hxl : xs.length = d) (hx : ∃ j, j < d ∧ ¬ okW (xs.getD j 0)) :
    Calls Try.prog 19 #[.pointer (some ⟨l, 0, none⟩), .slice a d cap] w fun r w' => r = .returned (.int .i64 16) ∧ Below w.heap.size w w' := by
  have hR0 : ((R : Int) == 0) = false := by have := h.has; simp; omega
  have H := hide h
  have hd1 := h.small
  have HLi := hide hl
  have HXl := hide hxl
  have HX := hide hx
  clear h hl hxl hx
  go_enter Try.func19, Try.ntmps19
  go_wp2_with fail
  refine (lroom_any l b c g o m R d cnt w (unhide H)).mono ?_
  rintro e' w1 ⟨rfl, n1, rfl⟩
  go_wp2_with fail
  refine (lwidth_any l b c g o m R d cnt _ ((unhide H).below (below_drewN _ _))).mono ?_
  rintro e' w2 ⟨rfl, rfl⟩
  have HLw := hide ((unhide HLi).below (below_drewN w n1))
  obtain ⟨w2, hw2⟩ : ∃ w2, w2 = w.drewN n1 := ⟨_, rfl⟩
  rw [← hw2] at HLw ⊢
  have HB2 : Hid (Below w.heap.size w w2) := by rw [hw2]; exact below_drewN _ _
  clear hw2
  go_wp2
  go_loopw [17, 6] (fun iv _ wr => ∃ k : Nat, k ≤ d ∧ iv = .int .i64 (k : Int) ∧ Hid (∀ j, j < k → okW (xs.getD j 0)) ∧ wr = w2) (fun iv _ _ => d - (intOf iv).toNat)
  case atStart => exact ⟨0, by omega, rfl, fun j hj => by omega, rfl⟩
  case round =>
    obtain ⟨k, hk, rfl, HK, rfl⟩ := hrel
    by_cases hlt : k < d
    · have hkl : k < xs.length := by rw [unhide HXl]; exact hlt
      obtain ⟨ba, off, rfl, hb, hc⟩ := (unhide HLw).some (by intro e; rw [e] at hkl; simp at hkl)
      have hck := hc k hkl
      obtain ⟨z, hz⟩ : ∃ z, xs.getD k 0 = z := ⟨_, rfl⟩
      rw [hz] at hck
      have Hz := hide hz
      clear hc hkl hb hz
      go_wp2_with fail
      refine (fits_any z 32 _).mono ?_
      rw [fitsB_word]
      by_cases ho : okW z
      · rw [decide_eq_true ho]
        have HOK := hide ho
        clear ho
        rintro e' w3 ⟨rfl, rfl⟩
        go_wp2
        go_roundw
        case rel =>
          refine ⟨k + 1, by omega, by simp, fun j hj => ?_, trivial⟩
          by_cases hjk : j = k
          · subst hjk; rw [unhide Hz]; exact unhide HOK
          · exact unhide HK j (by omega)
        case measure => simp [intOf]; omega
      · rw [decide_eq_false ho]
        clear ho
        rintro e' w3 ⟨rfl, rfl⟩
        go_wp2
        go_ret
        exact ⟨rfl, unhide HB2⟩
    · exfalso
      obtain ⟨j, hj1, hj2⟩ := unhide HX
      exact hj2 (unhide HK j (by omega))
set_option maxHeartbeats 2000000 in
theorem lpush_ok (l b c g o m n R d cap : Nat) (cnt : Int) (a : Option Addr) (xs L : List Int) (w : World) (h : Lo l b c g o m (d : Int) R cnt w) (ha : Ar c g n w L 0) (hm : o + m ≤ n) (h0 : 0 ≤ cnt) (h1 : cnt ≤ 9223372036854775000)
    (hl : Lies w a xs) (hxl : xs.length = d) (hx : ∀ j, j < d → okW (xs.getD j 0)) (hlb : l ≠ b) (hlc : l ≠ c) (hlg : l ≠ g) (hbg : b ≠ g) (hna : xs ≠ [] → ∀ p, a = some p → p.block ≠ g) :
    Calls Try.prog 19 #[.pointer (some ⟨l, 0, none⟩), .slice a d cap] w fun r w' => r = .returned (.int .i64 0) ∧ Lo l b c g o m (d : Int) R (cnt + 1) w' ∧ Ar c g n w' (layTo L (o + (atI cnt R d).toNat) xs d) 0 ∧ But (fun k => k = l ∨ k = g) w w' := by
  have hR0 : ((R : Int) == 0) = false := by have := h.has; simp; omega
  have H := hide h
  have hd1 := h.small
  have HA := hide ha
  have HLi := hide hl
  have HXl := hide hxl
  have HX := hide hx
  have HN := hide hna
  clear h hl hxl hx hna ha
  go_enter Try.func19, Try.ntmps19
  go_wp2_with fail
  refine (lroom_any l b c g o m R d cnt w (unhide H)).mono ?_
  rintro e' w1 ⟨rfl, n1, rfl⟩
  go_wp2_with fail
  refine (lwidth_any l b c g o m R d cnt _ ((unhide H).below (below_drewN _ _))).mono ?_
  rintro e' w2 ⟨rfl, rfl⟩
  have HLw := hide ((unhide HLi).below (below_drewN w n1))
  obtain ⟨w2, hw2⟩ : ∃ w2, w2 = w.drewN n1 := ⟨_, rfl⟩
  rw [← hw2] at HLw ⊢
  have HB2 : Hid (Below w.heap.size w w2) := by rw [hw2]; exact below_drewN _ _
  clear hw2
  go_wp2
  go_loopw [17, 6] (fun iv _ wr => ∃ k : Nat, k ≤ d ∧ iv = .int .i64 (k : Int) ∧ Hid (∀ j, j < k → okW (xs.getD j 0)) ∧ wr = w2) (fun iv _ _ => d - (intOf iv).toNat)
  case atStart => exact ⟨0, by omega, rfl, fun j hj => by omega, rfl⟩
  case round =>
    obtain ⟨k, hk, rfl, HK, rfl⟩ := hrel
    by_cases hlt : k < d
    · have hkl : k < xs.length := by rw [unhide HXl]; exact hlt
      obtain ⟨ba, off, rfl, hb, hc⟩ := (unhide HLw).some (by intro e; rw [e] at hkl; simp at hkl)
      have hck := hc k hkl
      obtain ⟨z, hz⟩ : ∃ z, xs.getD k 0 = z := ⟨_, rfl⟩
      rw [hz] at hck
      have Hz := hide hz
      clear hc hkl hb hz
      go_wp2_with fail
      refine (fits_any z 32 _).mono ?_
      rw [fitsB_word]
      have HOK := hide (show okW z by have := unhide HX k hlt; rwa [unhide Hz] at this)
      rw [decide_eq_true (unhide HOK)]
      rintro e' w3 ⟨rfl, rfl⟩
      go_wp2
      go_roundw
      case rel =>
        refine ⟨k + 1, by omega, by simp, fun j hj => ?_, trivial⟩
        exact unhide HX j (by omega)
      case measure => simp [intOf]; omega
    · obtain rfl : k = d := by omega
      go_wp2_with fail
      refine (write_any l b c g o m n R k cap cnt a xs L _ ((unhide H).below (unhide HB2)) ((unhide HA).below (unhide HB2)) hm h0 h1 (unhide HLw) (unhide HXl) (unhide HX) hlb hlc hlg hbg (unhide HN)).mono ?_
      rintro e' w4 ⟨rfl, q1, q2, q3⟩
      have HQ := hide (And.intro q1 (And.intro q2 q3))
      clear q1 q2 q3
      go_wp2
      go_ret
      exact ⟨rfl, (unhide HQ).1, (unhide HQ).2.1, (But.of_below (unhide HB2)).trans (unhide HQ).2.2⟩

set_option maxHeartbeats 1000000 in
theorem lroom_nil (w : World) : Calls Try.prog 25 #[.pointer none] w fun r w' => r = .returned (.int .i64 0) ∧ Below w.heap.size w w' := by
  go_enter Try.func25, Try.ntmps25
  go_wp2_with fail
  refine (own_nil _).mono ?_
  rintro e' w1 ⟨rfl, hc, hb⟩
  have HC := hide hc
  have HB := hide hb
  clear hc hb
  go_wp2_with fail
  refine (room_low _ none 0 0 _ (unhide HC) (by decide)).mono ?_
  rintro e' w2 ⟨rfl, n, rfl⟩
  go_wp2
  go_ret
  exact ⟨rfl, below_trans (unhide HB) (below_drewN _ _)⟩
set_option maxHeartbeats 1000000 in
theorem lwidth_nil (w : World) : Calls Try.prog 26 #[.pointer none] w fun r w' => r = .returned (.int .i64 0) ∧ Below w.heap.size w w' := by
  go_enter Try.func26, Try.ntmps26
  go_wp2_with fail
  refine (own_nil _).mono ?_
  rintro e' w1 ⟨rfl, hc, hb⟩
  have c1 := hc.cell 1 _ rfl
  have HB := hide hb
  clear hc hb
  go_wp2
  go_ret
  exact ⟨rfl, unhide HB⟩
set_option maxHeartbeats 1000000 in
theorem lcount_nil (w : World) : Calls Try.prog 22 #[.pointer none] w fun r w' => r = .returned (.int .i64 0) ∧ Below w.heap.size w w' := by
  go_enter Try.func22, Try.ntmps22
  go_wp2_with fail
  refine (own_nil _).mono ?_
  rintro e' w1 ⟨rfl, hc, hb⟩
  have c1 := hc.cell 2 _ rfl
  have HB := hide hb
  clear hc hb
  go_wp2
  go_ret
  exact ⟨rfl, unhide HB⟩
set_option maxHeartbeats 1000000 in
theorem oldest_none (l : Nat) (w : World) (h : Cells w l [.pointer none, .int .i64 0, .int .u64 0]) : Calls Try.prog 38 #[.pointer (some ⟨l, 0, none⟩)] w fun r w' => r = .returned (.int .u64 0) ∧ ∃ n, w' = w.drewN n := by
  have c2 := h.cell 2 _ rfl
  have H := hide h
  clear h
  go_enter Try.func38, Try.ntmps38
  go_wp2_with fail
  go_quiet ((go_at_call 29; exact Calls.quiet_of (room_low _ none 0 0 _ ((unhide H).below (below_drewN _ _)) (by decide))))
  go_wp2
  go_ret
  exact ⟨rfl, _, rfl⟩
set_option maxHeartbeats 1000000 in
theorem loldest_nil (w : World) : Calls Try.prog 23 #[.pointer none] w fun r w' => r = .returned (.int .i64 0) ∧ Below w.heap.size w w' := by
  go_enter Try.func23, Try.ntmps23
  go_wp2_with fail
  refine (own_nil _).mono ?_
  rintro e' w1 ⟨rfl, hc, hb⟩
  have HC := hide hc
  have HB := hide hb
  clear hc hb
  go_wp2_with fail
  refine (oldest_none _ _ (unhide HC)).mono ?_
  rintro e' w2 ⟨rfl, n, rfl⟩
  go_wp2
  go_ret
  exact ⟨rfl, below_trans (unhide HB) (below_drewN _ _)⟩
set_option maxHeartbeats 1000000 in
theorem lpush_nil (a : Option Addr) (k cap : Nat) (w : World) : Calls Try.prog 19 #[.pointer none, .slice a k cap] w fun r w' => r = .returned (.int .i64 1) ∧ Below w.heap.size w w' := by
  go_enter Try.func19, Try.ntmps19
  go_wp2_with fail
  refine (lroom_nil _).mono ?_
  rintro e' w1 ⟨rfl, hb⟩
  have HB := hide hb
  clear hb
  go_wp2
  go_ret
  exact ⟨rfl, unhide HB⟩
set_option maxHeartbeats 1000000 in
theorem lseek_nil (k : Int) (w : World) : Calls Try.prog 16 #[.pointer none, .int .i64 k] w fun r w' => r = .returned (.bool false) ∧ Below w.heap.size w w' := by
  go_enter Try.func16, Try.ntmps16
  go_wp2_with fail
  refine (lroom_nil _).mono ?_
  rintro e' w1 ⟨rfl, hb⟩
  have HB := hide hb
  clear hb
  go_wp2
  go_ret
  exact ⟨rfl, unhide HB⟩
set_option maxHeartbeats 1000000 in
theorem lhas_none (l : Nat) (t : Int) (w : World) (h : Cells w l [.pointer none, .int .i64 0, .int .u64 0]) (ht : In64 t) : Calls Try.prog 32 #[.pointer (some ⟨l, 0, none⟩), .int .i64 t] w fun r w' => r = .returned (.bool false) ∧ ∃ n, w' = w.drewN n := by
  have c2 := h.cell 2 _ rfl
  have H := hide h
  obtain ⟨ht1, ht2⟩ := ht
  clear h
  by_cases hn : t < 0
  · go_enter Try.func32, Try.ntmps32
    go_wp2
    go_ret
    exact ⟨rfl, 0, rfl⟩
  · go_enter Try.func32, Try.ntmps32
    go_wp2_with fail
    refine (oldest_none _ _ (unhide H)).mono ?_
    rintro e' w1 ⟨rfl, n1, rfl⟩
    go_wp2
    go_ret
    exact ⟨by simp; omega, _, rfl⟩
set_option maxHeartbeats 1000000 in
theorem lget_nil (t : Int) (w : World) (ht : In64 t) : Calls Try.prog 13 #[.pointer none, .int .i64 t] w fun r w' => r = .returned (.tuple #[.slice none 0 0, .bool false]) ∧ Below w.heap.size w w' := by
  have HT := hide ht
  clear ht
  go_enter Try.func13, Try.ntmps13
  go_wp2_with fail
  refine (own_nil _).mono ?_
  rintro e' w1 ⟨rfl, hc, hb⟩
  have HC := hide hc
  have HB := hide hb
  clear hc hb
  go_wp2_with fail
  refine (lhas_none _ t _ (unhide HC) (unhide HT)).mono ?_
  rintro e' w2 ⟨rfl, n, rfl⟩
  go_wp2
  go_ret2
  exact ⟨rfl, below_trans (unhide HB) (below_drewN _ _)⟩
end Go.Proofs.Ytclikkhaaiihdaa
