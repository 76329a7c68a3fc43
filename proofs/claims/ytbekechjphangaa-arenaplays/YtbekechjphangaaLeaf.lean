/- Contracts of package arena's small calls: has, isWord, row, fail, get, put, and Len, Get, Put, Err of an arena. -/
import Derived.Test.YtbekechjphangaaMem
namespace Go.Proofs.Ytbekechjphangaa
open Go.RowKit
set_option linter.unusedVariables false

theorem fitsB_word (x : Int) : fitsB x 32 = decide (okW x) := by
  unfold fitsB okW
  have : pw 32 = 2147483648 := by decide
  rw [this]
  exact decide_eq_decide.2 (by omega)
set_option maxHeartbeats 1000000 in
theorem isword_any (x : Int) (w : World) : Calls Try.prog 38 #[.int .i64 x] w fun e w' => e = .returned (.bool (decide (okW x))) ∧ w' = w := by
  have hv := hide (fitsB_word x)
  go_enter Try.func38, Try.ntmps38
  go_wp2_with fail
  refine (fits_any _ _ _).mono ?_
  rintro e w' ⟨rfl, rfl⟩
  rw [unhide hv]
  go_wp2
  go_ret
  exact ⟨rfl, rfl⟩
set_option maxHeartbeats 1000000 in
theorem has_any (a : Option Addr) (m cap : Nat) (i : Int) (w : World) : Calls Try.prog 42 #[.slice a m cap, .int .i64 i] w fun e w' => e = .returned (.bool (decide (inR m i))) ∧ w' = w := by
  have hv := hide (show decide (inR m i) = (decide (0 ≤ i) && decide (i < (m : Int))) by rw [← Bool.decide_and]; exact decide_eq_decide.2 Iff.rfl)
  by_cases c1 : 0 ≤ i
  · go_enter Try.func42, Try.ntmps42
    go_wp2
    go_ret
    rw [unhide hv]
    exact ⟨by simp [c1], rfl⟩
  · go_enter Try.func42, Try.ntmps42
    go_wp2
    go_ret
    rw [unhide hv]
    exact ⟨by simp; omega, rfl⟩
set_option maxHeartbeats 1000000 in
theorem row_any (c g n : Nat) (L : List Int) (e : Int) (w : World) (h : Ar c g n w L e) : Calls Try.prog 34 #[.pointer (some ⟨c, 0, none⟩)] w fun e w' => e = .returned (.slice (some ⟨g, 0, none⟩) n n) ∧ w' = w := by
  have hc := h.slice
  go_enter Try.func34, Try.ntmps34
  go_wp2
  go_ret
  exact ⟨rfl, rfl⟩
set_option maxHeartbeats 1000000 in
theorem row_nil (w : World) : Calls Try.prog 34 #[.pointer none] w fun e w' => e = .returned (.slice none 0 0) ∧ w' = w := by
  go_enter Try.func34, Try.ntmps34
  go_wp2
  go_ret
  exact ⟨rfl, rfl⟩
set_option maxHeartbeats 1000000 in
theorem fail_any (c g n : Nat) (L : List Int) (e k : Int) (w : World) (h : Ar c g n w L e) : Calls Try.prog 43 #[.pointer (some ⟨c, 0, none⟩), .int .i64 k] w fun r w' => r = .returned (.tuple #[]) ∧ Only c w w' ∧ Ar c g n w' L (fst e k) := by
  have hc := h.err
  have hf : w.frozen? ⟨c, 1, none⟩ = false := h.me.free 1
  have H := hide h
  clear h
  unfold fst
  by_cases he : e = 0
  · rw [if_pos he]
    subst he
    go_enter Try.func43, Try.ntmps43
    go_wp2
    go_end0
    exact ⟨rfl, Only.setHere 1 _, (unhide H).setErr k⟩
  · rw [if_neg he]
    go_enter Try.func43, Try.ntmps43
    go_wp2
    go_end0
    exact ⟨rfl, Only.refl _ _, unhide H⟩
set_option maxHeartbeats 1000000 in
theorem fail_nil (k : Int) (w : World) : Calls Try.prog 43 #[.pointer none, .int .i64 k] w fun r w' => r = .returned (.tuple #[]) ∧ w' = w := by
  go_enter Try.func43, Try.ntmps43
  go_wp2
  go_end0
  exact ⟨rfl, rfl⟩
set_option maxHeartbeats 1000000 in
/-- get of the m words from o on. -/
theorem get_any (c g n o m : Nat) (L : List Int) (e i : Int) (w : World) (h : Ar c g n w L e) (hm : o + m ≤ n) :
    Calls Try.prog 37 #[.pointer (some ⟨c, 0, none⟩), .slice (some ⟨g, o, none⟩) m m, .int .i64 i] w fun r w' => r = .returned (.int .i64 (getI L o m i)) ∧ Only c w w' ∧ Ar c g n w' L (getE m i e) := by
  have H := hide h
  unfold getI getE
  by_cases hi : inR m i
  · rw [if_pos hi, if_pos hi]
    obtain ⟨k, rfl⟩ : ∃ k : Nat, i = (k : Int) := ⟨i.toNat, by unfold inR at hi; omega⟩
    have hk : k < m := by unfold inR at hi; omega
    have hcell := h.word (o + k) (by omega)
    have hd : decide (inR m (k : Int)) = true := decide_eq_true hi
    have HD := hide hd
    clear h hd hi
    go_enter Try.func37, Try.ntmps37
    go_wp2_with fail
    refine (has_any _ _ _ _ _).mono ?_
    rw [unhide HD]
    rintro e' w' ⟨rfl, rfl⟩
    go_wp2
    go_ret
    exact ⟨rfl, Only.refl _ _, unhide H⟩
  · rw [if_neg hi, if_neg hi]
    have hd : decide (inR m i) = false := decide_eq_false hi
    have HD := hide hd
    clear h hd hi
    go_enter Try.func37, Try.ntmps37
    go_wp2_with fail
    refine (has_any _ _ _ _ _).mono ?_
    rw [unhide HD]
    rintro e' w' ⟨rfl, rfl⟩
    go_wp2_with fail
    refine (fail_any c g n L e 1 _ (unhide H)).mono ?_
    rintro e' w' ⟨rfl, ho, ha⟩
    have HO := hide ho
    have HA := hide ha
    clear ho ha
    go_wp2
    go_ret
    exact ⟨rfl, unhide HO, unhide HA⟩
set_option maxHeartbeats 1000000 in
theorem get_nil (i : Int) (w : World) : Calls Try.prog 37 #[.pointer none, .slice none 0 0, .int .i64 i] w fun r w' => r = .returned (.int .i64 0) ∧ w' = w := by
  have hd : decide (inR 0 i) = false := decide_eq_false (by unfold inR; omega)
  have HD := hide hd
  clear hd
  go_enter Try.func37, Try.ntmps37
  go_wp2_with fail
  refine (has_any _ _ _ _ _).mono ?_
  rw [unhide HD]
  rintro e' w' ⟨rfl, rfl⟩
  go_wp2_with fail
  refine (fail_nil 1 _).mono ?_
  rintro e' w' ⟨rfl, rfl⟩
  go_wp2
  go_ret
  exact ⟨rfl, rfl⟩
set_option maxHeartbeats 1000000 in
theorem put_any (c g n o m : Nat) (L : List Int) (e i x : Int) (w : World) (h : Ar c g n w L e) (hm : o + m ≤ n) :
    Calls Try.prog 33 #[.pointer (some ⟨c, 0, none⟩), .slice (some ⟨g, o, none⟩) m m, .int .i64 i, .int .i64 x] w fun r w' => r = .returned (.tuple #[]) ∧ Two c g w w' ∧ Ar c g n w' (putL L o m i x) (putE m i x e) := by
  have H := hide h
  unfold putL putE
  by_cases hi : inR m i
  · by_cases hx : okW x
    · rw [if_pos ⟨hi, hx⟩, if_pos hi, if_pos hx]
      obtain ⟨k, rfl⟩ : ∃ k : Nat, i = (k : Int) := ⟨i.toNat, by unfold inR at hi; omega⟩
      have hk : k < m := by unfold inR at hi; omega
      have hcell := h.word (o + k) (by omega)
      have hfree : w.frozen? ⟨g, o + k, none⟩ = false := h.row.free (o + k)
      have HD := hide (show decide (inR m (k : Int)) = true from decide_eq_true hi)
      have HX := hide (show decide (okW x) = true from decide_eq_true hx)
      clear h hi hx
      go_enter Try.func33, Try.ntmps33
      go_wp2_with fail
      refine (has_any _ _ _ _ _).mono ?_
      rw [unhide HD]
      rintro e' w' ⟨rfl, rfl⟩
      go_wp2_with fail
      refine (isword_any _ _).mono ?_
      rw [unhide HX]
      rintro e' w' ⟨rfl, rfl⟩
      go_wp2
      go_end0
      exact ⟨rfl, Two.of_right (Only.setHere _ _), (unhide H).setWord _ x⟩
    · rw [if_neg (fun h => hx h.2), if_pos hi, if_neg hx]
      have HD := hide (show decide (inR m i) = true from decide_eq_true hi)
      have HX := hide (show decide (okW x) = false from decide_eq_false hx)
      clear h hi hx
      go_enter Try.func33, Try.ntmps33
      go_wp2_with fail
      refine (has_any _ _ _ _ _).mono ?_
      rw [unhide HD]
      rintro e' w' ⟨rfl, rfl⟩
      go_wp2_with fail
      refine (isword_any _ _).mono ?_
      rw [unhide HX]
      rintro e' w' ⟨rfl, rfl⟩
      go_wp2_with fail
      refine (fail_any c g n L e 16 _ (unhide H)).mono ?_
      rintro e' w' ⟨rfl, ho, ha⟩
      have HO := hide ho
      have HA := hide ha
      clear ho ha
      go_wp2
      go_end0
      exact ⟨rfl, Two.of_left (unhide HO), unhide HA⟩
  · rw [if_neg (fun h => hi h.1), if_neg hi]
    have HD := hide (show decide (inR m i) = false from decide_eq_false hi)
    clear h hi
    go_enter Try.func33, Try.ntmps33
    go_wp2_with fail
    refine (has_any _ _ _ _ _).mono ?_
    rw [unhide HD]
    rintro e' w' ⟨rfl, rfl⟩
    go_wp2_with fail
    refine (fail_any c g n L e 1 _ (unhide H)).mono ?_
    rintro e' w' ⟨rfl, ho, ha⟩
    have HO := hide ho
    have HA := hide ha
    clear ho ha
    go_wp2
    go_end0
    exact ⟨rfl, Two.of_left (unhide HO), unhide HA⟩
set_option maxHeartbeats 1000000 in
theorem put_nil (i x : Int) (w : World) : Calls Try.prog 33 #[.pointer none, .slice none 0 0, .int .i64 i, .int .i64 x] w fun r w' => r = .returned (.tuple #[]) ∧ w' = w := by
  have HD := hide (show decide (inR 0 i) = false from decide_eq_false (by unfold inR; omega))
  go_enter Try.func33, Try.ntmps33
  go_wp2_with fail
  refine (has_any _ _ _ _ _).mono ?_
  rw [unhide HD]
  rintro e' w' ⟨rfl, rfl⟩
  go_wp2_with fail
  refine (fail_nil 1 _).mono ?_
  rintro e' w' ⟨rfl, rfl⟩
  go_wp2
  go_end0
  exact ⟨rfl, rfl⟩
set_option maxHeartbeats 1000000 in
theorem len_any (c g n : Nat) (L : List Int) (e : Int) (w : World) (h : Ar c g n w L e) : Calls Try.prog 30 #[.pointer (some ⟨c, 0, none⟩)] w fun e w' => e = .returned (.int .i64 (n : Int)) ∧ w' = w := by
  have H := hide h
  clear h
  go_enter Try.func30, Try.ntmps30
  go_wp2_with fail
  refine (row_any c g n L e _ (unhide H)).mono ?_
  rintro e' w' ⟨rfl, rfl⟩
  go_wp2
  go_ret
  exact ⟨rfl, rfl⟩
set_option maxHeartbeats 1000000 in
theorem len_nil (w : World) : Calls Try.prog 30 #[.pointer none] w fun e w' => e = .returned (.int .i64 0) ∧ w' = w := by
  go_enter Try.func30, Try.ntmps30
  go_wp2_with fail
  refine (row_nil _).mono ?_
  rintro e' w' ⟨rfl, rfl⟩
  go_wp2
  go_ret
  exact ⟨rfl, rfl⟩
set_option maxHeartbeats 1000000 in
theorem aget_any (c g n : Nat) (L : List Int) (e i : Int) (w : World) (h : Ar c g n w L e) :
    Calls Try.prog 18 #[.pointer (some ⟨c, 0, none⟩), .int .i64 i] w fun r w' => r = .returned (.int .i64 (getI L 0 n i)) ∧ Only c w w' ∧ Ar c g n w' L (getE n i e) := by
  have H := hide h
  clear h
  go_enter Try.func18, Try.ntmps18
  go_wp2_with fail
  refine (row_any c g n L e _ (unhide H)).mono ?_
  rintro e' w' ⟨rfl, rfl⟩
  go_wp2_with fail
  refine (get_any c g n 0 n L e i _ (unhide H) (by omega)).mono ?_
  rintro e' w' ⟨rfl, ho, ha⟩
  have HO := hide ho
  have HA := hide ha
  clear ho ha
  go_wp2
  go_ret
  exact ⟨rfl, unhide HO, unhide HA⟩
set_option maxHeartbeats 1000000 in
theorem aget_nil (i : Int) (w : World) : Calls Try.prog 18 #[.pointer none, .int .i64 i] w fun r w' => r = .returned (.int .i64 0) ∧ w' = w := by
  go_enter Try.func18, Try.ntmps18
  go_wp2_with fail
  refine (row_nil _).mono ?_
  rintro e' w' ⟨rfl, rfl⟩
  go_wp2_with fail
  refine (get_nil i _).mono ?_
  rintro e' w' ⟨rfl, rfl⟩
  go_wp2
  go_ret
  exact ⟨rfl, rfl⟩
set_option maxHeartbeats 1000000 in
theorem aput_any (c g n : Nat) (L : List Int) (e i x : Int) (w : World) (h : Ar c g n w L e) :
    Calls Try.prog 14 #[.pointer (some ⟨c, 0, none⟩), .int .i64 i, .int .i64 x] w fun r w' => r = .returned (.tuple #[]) ∧ Two c g w w' ∧ Ar c g n w' (putL L 0 n i x) (putE n i x e) := by
  have H := hide h
  clear h
  go_enter Try.func14, Try.ntmps14
  go_wp2_with fail
  refine (row_any c g n L e _ (unhide H)).mono ?_
  rintro e' w' ⟨rfl, rfl⟩
  go_wp2_with fail
  refine (put_any c g n 0 n L e i x _ (unhide H) (by omega)).mono ?_
  rintro e' w' ⟨rfl, ho, ha⟩
  have HO := hide ho
  have HA := hide ha
  clear ho ha
  go_wp2
  go_end0
  exact ⟨rfl, unhide HO, unhide HA⟩
set_option maxHeartbeats 1000000 in
theorem aput_nil (i x : Int) (w : World) : Calls Try.prog 14 #[.pointer none, .int .i64 i, .int .i64 x] w fun r w' => r = .returned (.tuple #[]) ∧ w' = w := by
  go_enter Try.func14, Try.ntmps14
  go_wp2_with fail
  refine (row_nil _).mono ?_
  rintro e' w' ⟨rfl, rfl⟩
  go_wp2_with fail
  refine (put_nil i x _).mono ?_
  rintro e' w' ⟨rfl, rfl⟩
  go_wp2
  go_end0
  exact ⟨rfl, rfl⟩
set_option maxHeartbeats 1000000 in
theorem err_any (c g n : Nat) (L : List Int) (e : Int) (w : World) (h : Ar c g n w L e) : Calls Try.prog 28 #[.pointer (some ⟨c, 0, none⟩)] w fun r w' => r = .returned (.int .i64 e) ∧ w' = w := by
  have hc := h.err
  go_enter Try.func28, Try.ntmps28
  go_wp2
  go_ret
  exact ⟨rfl, rfl⟩
set_option maxHeartbeats 1000000 in
theorem err_nil (w : World) : Calls Try.prog 28 #[.pointer none] w fun r w' => r = .returned (.int .i64 1) ∧ w' = w := by
  go_enter Try.func28, Try.ntmps28
  go_wp2
  go_ret
  exact ⟨rfl, rfl⟩
end Go.Proofs.Ytbekechjphangaa
