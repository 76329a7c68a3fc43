/- CrcParts returns true. -/
import Derived.Test.YtaplpknjgonolaaTell
namespace Go.Proofs.Ytaplpknjgonolaa
open Go.RowKit
set_option linter.unusedVariables false

theorem LiesS.alloc {W : World} {a : Option Addr} {ss : List ByteArray} (h : LiesS W a ss) (o : Obj) : LiesS (W.alloc o) a ss := by
  rcases h with h | ⟨b, off, ha, hlt, hc⟩
  · exact .inl h
  · exact .inr ⟨b, off, ha, by simp; omega, fun j hj => by rw [World.cell?_alloc_past _ _ _ hlt]; exact hc j hj⟩
theorem LiesS.drew {W : World} {a : Option Addr} {ss : List ByteArray} (h : LiesS W a ss) : LiesS W.drew a ss := h
theorem LiesS.below {W W' : World} {a : Option Addr} {ss : List ByteArray} (h : LiesS W a ss) (hb : Below W.heap.size W W') : LiesS W' a ss := by
  rcases h with h | ⟨b, off, ha, hlt, hc⟩
  · exact .inl h
  · exact .inr ⟨b, off, ha, Nat.lt_of_lt_of_le hlt hb.size, fun j hj => by rw [hb.cell (p := ⟨b, off + j, none⟩) hlt]; exact hc j hj⟩
theorem liesS_at (w : World) (ss : List ByteArray) (n : Nat) (hn : n = w.heap.size) : LiesS (w.alloc (.cells (ss.map Value.string).toArray 9)) (some ⟨n, 0, none⟩) ss := by
  subst hn
  exact liesS_new w ss
theorem liesS_nil (W : World) (a : Option Addr) : LiesS W a [] := .inl rfl
theorem liesS_got (w : World) (ss : List ByteArray) (n : Nat) (c : Array Value) (hn : n = w.heap.size) (hc : c = (ss.map Value.string).toArray) : LiesS (w.alloc (.cells c 9)) (some ⟨n, 0, none⟩) ss := by
  subst hc
  exact liesS_at w ss n hn
theorem mod_at1 (t : Int) (n : Nat) (h2 : n ≤ 100000) : ∃ i : Nat, (wrap64 (t.tmod ((n : Int) + 1) + ((n : Int) + 1))).tmod ((n : Int) + 1) = (i : Int) ∧ i ≤ n := by
  have h := mod_bd t ((n : Int) + 1) (by omega) (by omega)
  exact ⟨((wrap64 (t.tmod ((n : Int) + 1) + ((n : Int) + 1))).tmod ((n : Int) + 1)).toNat, by omega, by omega⟩
/-- A sum, its texts told. -/
def Sums (ss : List ByteArray) (n z : Nat) : Prop := ∀ (W : World) (a : Option Addr), LiesS W a ss → Calls Try.prog 11 #[.slice a n n] W fun e w' => e = .returned (.int .u32 (z : Int)) ∧ Below W.heap.size W w'
theorem Sums.go {ss : List ByteArray} {n z : Nat} (h : Hid (Sums ss n z)) {R : Ending → World → Prop} (W : World) (a : Option Addr) (hl : LiesS W a ss) (k : ∀ e w', (e = .returned (.int .u32 (z : Int)) ∧ Below W.heap.size W w') → R e w') : Calls Try.prog 11 #[.slice a n n] W R := Calls.mono (h W a hl) k
theorem sums_of (ss : List ByteArray) (n z : Nat) (hn : ss.length = n) (hz : sumN (cat ss) = z) (hs : ∀ s ∈ ss, s.size ≤ 1000000) (h4 : n ≤ 1000000) : Sums ss n z := by
  intro W a hl
  rw [← hz]
  exact sum_any a n ss n hn W hl hs h4
theorem cut_two (t : ByteArray) (a : Nat) (h : a ≤ t.size) : B (t.extract 0 a) ++ B (t.extract a t.size) = B t := by
  rw [B_extract, B_extract, List.drop_zero, List.take_of_length_le (l := B t) (i := t.size) (by rw [B_len]; omega), List.take_append_drop]
theorem cut_three (t : ByteArray) (a b : Nat) (h : a ≤ b) (h2 : b ≤ t.size) : B (t.extract 0 a) ++ (B (t.extract a b) ++ B (t.extract b t.size)) = B t := by
  rw [← cut_two t b h2, ← List.append_assoc]
  congr 1
  rw [B_extract, B_extract, B_extract, List.drop_zero, List.drop_zero]
  have := List.take_append_drop a ((B t).take b)
  rw [List.take_take, Nat.min_eq_left h] at this
  exact this

theorem hb_drew {w W : World} (h : Hid (Below w.heap.size w W)) : Hid (Below w.heap.size w W.drew) := (unhide h).trans ⟨rfl, rfl, rfl, Nat.le_refl _, fun _ _ => rfl⟩
theorem hb_alloc {w W : World} (h : Hid (Below w.heap.size w W)) (o : Obj) : Hid (Below w.heap.size w (W.alloc o)) := (unhide h).alloc (unhide h).size _
theorem hb_call {w W W' : World} (h : Hid (Below w.heap.size w W)) (hb : Below W.heap.size W W') : Hid (Below w.heap.size w W') := below_trans (unhide h) hb

set_option maxRecDepth 100000 in
set_option maxHeartbeats 1600000 in
theorem parts_walk (s : ByteArray) (p q : Int) (w : World) (hp : In64 p) (hq : In64 q) : Calls Try.prog 4 #[.string s, .agg #[.int .i64 p, .int .i64 q]] w fun e w' => e = .returned (.bool true) ∧ Below w.heap.size w w' := by
  obtain ⟨t, ht⟩ : ∃ t, shortB s = t := ⟨_, rfl⟩
  have htl : t.size ≤ 60 := by rw [← ht]; exact shortB_le s
  obtain ⟨a, ha, hal⟩ := mod_at1 p t.size (by omega)
  obtain ⟨b, hb, hbl⟩ := mod_at1 q t.size (by omega)
  obtain ⟨z, hz⟩ : ∃ z, sumN (B t) = z := ⟨_, rfl⟩
  have HZ := hide hz
  have HT := hide ht
  have hn0 : ¬ (t.size : Int) + 1 = 0 := by omega
  clear ht hz
  go_enter Try.func4, Try.ntmps4
  go_wp2_with fail
  refine (awake_any _).mono ?_
  rintro e w1 ⟨rfl, hB⟩
  have hbw : Below w.heap.size w w1 := ((Below.refl _ w).alloc (Nat.le_refl _) _).trans (hB.mono (by simp))
  have c0 : w1.cell? ⟨w.heap.size, 0, none⟩ = some (.int .i64 p) := by
    rw [hB.cell (p := ⟨w.heap.size, 0, none⟩) (by simp), World.cell?_alloc_at _ _ _ _ rfl]; rfl
  have c1 : w1.cell? ⟨w.heap.size, 1, none⟩ = some (.int .i64 q) := by
    rw [hB.cell (p := ⟨w.heap.size, 1, none⟩) (by simp), World.cell?_alloc_at _ _ _ _ rfl]; rfl
  have HB1 := hide hbw
  clear hB hbw
  go_wp2_with fail
  refine (short_any s _).mono ?_
  rintro e w1 ⟨rfl, rfl⟩
  rw [unhide HT]
  by_cases hab : b < a
  · have hab' : (b : Int) < a := by omega
    have hal' : (a : Int) ≤ t.size := by omega
    have K3 : Hid (Sums [t.extract 0 b, t.extract b a, t.extract a t.size] 3 z) := sums_of _ _ _ rfl (by
      rw [← unhide HZ]
      congr 1
      have := cut_three t b a (by omega) hal
      simpa [cat] using this) (by
      intro x hx
      simp at hx
      rcases hx with rfl | rfl | rfl <;> rw [ByteArray.size_extract] <;> omega) (by omega)
    have K1 : Hid (Sums [t] 1 z) := sums_of _ _ _ rfl (by rw [← unhide HZ]; congr 1; simp [cat]) (by intro x hx; simp at hx; subst hx; omega) (by omega)
    go_wp2
    clear c0 c1 ha hb hn0 hp hq HZ HT
    have hle : b ≤ a := by omega
    clear hab hab'
    go_region_held3 (fun w' => Hid (Below w.heap.size w w'))
      (first | exact hb_drew HB1 | exact hb_alloc (by assumption) _ | (refine hb_call ?_ (by assumption); assumption))
      (first | (go_at_call 11; (with_reducible refine Sums.go K3 _ _ ?lies ?_); (case lies => with_reducible (repeat (first | ((refine liesS_got _ _ _ _ ?_ ?_) <;> (simp; done)) | refine LiesS.drew ?_ | refine LiesS.alloc ?_ _ | refine LiesS.below ?_ (by assumption)))); rintro e wt ⟨rfl, hbt⟩) | (go_at_call 11; (with_reducible refine Sums.go K1 _ _ ?lies ?_); (case lies => with_reducible (repeat (first | ((refine liesS_got _ _ _ _ ?_ ?_) <;> (simp; done)) | refine LiesS.drew ?_ | refine LiesS.alloc ?_ _ | refine LiesS.below ?_ (by assumption)))); rintro e wt ⟨rfl, hbt⟩))
    all_goals (go_wp2; go_ret; exact ⟨rfl, unhide (by assumption)⟩)
  · have hab' : ¬ (b : Int) < a := by omega
    have hbl' : (b : Int) ≤ t.size := by omega
    obtain ⟨z0, hz0⟩ : ∃ z0, sumN [] = z0 := ⟨_, rfl⟩
    have K4 : Hid (Sums [t.extract 0 a, t.extract a b, ⟨#[]⟩, t.extract b t.size] 4 z) := sums_of _ _ _ rfl (by
      rw [← unhide HZ]
      congr 1
      have := cut_three t a b (by omega) hbl
      have he : B ⟨#[]⟩ = [] := rfl
      simpa [cat, he] using this) (by
      intro x hx
      simp at hx
      rcases hx with rfl | rfl | rfl | rfl
      · rw [ByteArray.size_extract]; omega
      · rw [ByteArray.size_extract]; omega
      · decide
      · rw [ByteArray.size_extract]; omega) (by omega)
    have K1 : Hid (Sums [t] 1 z) := sums_of _ _ _ rfl (by rw [← unhide HZ]; congr 1; simp [cat]) (by intro x hx; simp at hx; subst hx; omega) (by omega)
    have K0 : Hid (Sums [] 0 z0) := sums_of _ _ _ rfl hz0 (by intro x hx; simp at hx) (by omega)
    have KE : Hid (Sums [⟨#[]⟩] 1 z0) := sums_of _ _ _ rfl hz0 (by intro x hx; simp at hx; subst hx; decide) (by omega)
    go_wp2
    clear c0 c1 ha hb hn0 hp hq HZ HT hz0
    have hle : a ≤ b := by omega
    clear hab hab'
    go_region_held3 (fun w' => Hid (Below w.heap.size w w'))
      (first | exact hb_drew HB1 | exact hb_alloc (by assumption) _ | (refine hb_call ?_ (by assumption); assumption))
      (first | (go_at_call 11; (with_reducible refine Sums.go K4 _ _ ?lies ?_); (case lies => with_reducible (repeat (first | ((refine liesS_got _ _ _ _ ?_ ?_) <;> (simp; done)) | refine LiesS.drew ?_ | refine LiesS.alloc ?_ _ | refine LiesS.below ?_ (by assumption)))); rintro e wt ⟨rfl, hbt⟩) | (go_at_call 11; (with_reducible refine Sums.go K0 _ _ (liesS_nil _ _) ?_); rintro e wt ⟨rfl, hbt⟩) | (go_at_call 11; (with_reducible refine Sums.go K1 _ _ ?lies ?_); (case lies => with_reducible (repeat (first | ((refine liesS_got _ _ _ _ ?_ ?_) <;> (simp; done)) | refine LiesS.drew ?_ | refine LiesS.alloc ?_ _ | refine LiesS.below ?_ (by assumption)))); rintro e wt ⟨rfl, hbt⟩) | (go_at_call 11; (with_reducible refine Sums.go KE _ _ ?lies ?_); (case lies => with_reducible (repeat (first | ((refine liesS_got _ _ _ _ ?_ ?_) <;> (simp; done)) | refine LiesS.drew ?_ | refine LiesS.alloc ?_ _ | refine LiesS.below ?_ (by assumption)))); rintro e wt ⟨rfl, hbt⟩))
    all_goals (go_wp2; go_ret; exact ⟨rfl, unhide (by assumption)⟩)
end Go.Proofs.Ytaplpknjgonolaa
