/- The document's arena: contracts of New, trouble, Get, Put, Set, May. -/
import Derived.Test.YtbekechjphangaaSet
import Derived.Laws.AppendOwnNone
namespace Go.Proofs.Ytbekechjphangaa
open Go.RowKit
set_option linter.unusedVariables false

/-- The document's arena of n words L, its trouble e, in block d; all its blocks lie from B on. -/
def Rg (X : Nat → Prop) (B d n : Nat) (w : World) (L : List Int) (e : Int) : Prop := ∃ h cap rest, ¬ X h ∧ B ≤ d ∧ B ≤ h ∧ d ≠ h ∧ L.length = n ∧ Cells w d [.slice (some ⟨h, 0, none⟩) n cap, .int .i64 e] ∧ Cells w h (ints L ++ rest)
theorem Rg.below {X : Nat → Prop} {B d n : Nat} {w w' : World} {L : List Int} {e : Int} (h : Rg X B d n w L e) (hb : Below w.heap.size w w') : Rg X B d n w' L e := by
  obtain ⟨g, cap, rest, hX, h1, h2, h3, h4, h5, h6⟩ := h
  exact ⟨g, cap, rest, hX, h1, h2, h3, h4, h5.below hb, h6.below hb⟩
theorem Rg.drew {X : Nat → Prop} {B d n : Nat} {w : World} {L : List Int} {e : Int} (h : Rg X B d n w L e) : Rg X B d n w.drew L e := h
theorem Rg.two {X : Nat → Prop} {B d n p q : Nat} {w w' : World} {L : List Int} {e : Int} (h : Rg X B d n w L e) (ht : Two p q w w') (hp : p < B) (hq : q < B) : Rg X B d n w' L e := by
  obtain ⟨g, cap, rest, hX, h1, h2, h3, h4, h5, h6⟩ := h
  exact ⟨g, cap, rest, hX, h1, h2, h3, h4, h5.two ht (by omega) (by omega), h6.two ht (by omega) (by omega)⟩
theorem Rg.size {X : Nat → Prop} {B d n : Nat} {w : World} {L : List Int} {e : Int} (h : Rg X B d n w L e) : B < w.heap.size := by
  obtain ⟨g, cap, rest, hX, h1, h2, h3, h4, h5, h6⟩ := h
  exact Nat.lt_of_le_of_lt h1 h5.lt
theorem Rg.err {X : Nat → Prop} {B d n : Nat} {w : World} {L : List Int} {e : Int} (h : Rg X B d n w L e) : w.cell? ⟨d, 1, none⟩ = some (.int .i64 e) := by
  obtain ⟨g, cap, rest, hX, h1, h2, h3, h4, h5, h6⟩ := h
  exact h5.cell 1 _ rfl
theorem lies_rest {w : World} {g : Nat} {L : List Int} {rest : List Value} (h : Cells w g (ints L ++ rest)) : Lies w (some ⟨g, 0, none⟩) L := by
  refine .inr ⟨g, 0, rfl, h.lt, fun j hj => ?_⟩
  rw [Nat.zero_add]
  exact h.cell j _ (by rw [List.getElem?_append_left (by rw [ints_len]; exact hj)]; exact ints_at L j hj)
theorem Rg.open {X : Nat → Prop} {B d n : Nat} {w : World} {L : List Int} {e : Int} (h : Rg X B d n w L e) : ∃ g cap, w.cell? ⟨d, 0, none⟩ = some (.slice (some ⟨g, 0, none⟩) n cap) ∧ Lies w (some ⟨g, 0, none⟩) L := by
  obtain ⟨g, cap, rest, hX, h1, h2, h3, h4, h5, h6⟩ := h
  exact ⟨g, cap, h5.cell 0 _ rfl, lies_rest h6⟩
theorem Rg.len {X : Nat → Prop} {B d n : Nat} {w : World} {L : List Int} {e : Int} (h : Rg X B d n w L e) : L.length = n := by
  obtain ⟨g, cap, rest, hX, h1, h2, h3, h4, h5, h6⟩ := h
  exact h4
theorem Rg.free {X : Nat → Prop} {B d n : Nat} {w : World} {L : List Int} {e : Int} (h : Rg X B d n w L e) (i : Nat) : w.frozen? ⟨d, i, none⟩ = false := by
  obtain ⟨g, cap, rest, hX, h1, h2, h3, h4, h5, h6⟩ := h
  exact h5.free i
theorem Rg.setErr {X : Nat → Prop} {B d n : Nat} {w : World} {L : List Int} {e : Int} (h : Rg X B d n w L e) (k : Int) : Rg X B d n (w.setCell ⟨d, 1, none⟩ (.int .i64 k)) L k := by
  obtain ⟨g, cap, rest, hX, h1, h2, h3, h4, h5, h6⟩ := h
  exact ⟨g, cap, rest, hX, h1, h2, h3, h4, h5.set 1 _, h6.only (Only.setHere 1 _) (fun e => h3 e.symm)⟩
theorem Rg.base {X : Nat → Prop} {B d n : Nat} {w : World} {L : List Int} {e : Int} (h : Rg X B d n w L e) : B ≤ d := by
  obtain ⟨g, cap, rest, hX, h1, h2, h3, h4, h5, h6⟩ := h
  exact h1
theorem Rg.setRow {X : Nat → Prop} {B d n g cap : Nat} {w : World} {L L' : List Int} {e : Int} {rest : List Value} (h : Rg X B d n w L e) (hXg : ¬ X g) (hg : B ≤ g) (hne : d ≠ g) (hc : Cells w g (ints L' ++ rest)) (hl : L'.length = n) : Rg X B d n (w.setCell ⟨d, 0, none⟩ (.slice (some ⟨g, 0, none⟩) n cap)) L' e := by
  obtain ⟨g', cap', rest', hX, h1, h2, h3, h4, h5, h6⟩ := h
  exact ⟨g, cap, rest, hXg, h1, hg, hne, hl, h5.set 0 _, hc.only (Only.setHere 0 _) (fun e => hne e.symm)⟩
theorem Rg.other {X Y : Nat → Prop} {B d n : Nat} {w : World} {L : List Int} {e : Int} (h : Rg X B d n w L e) (hY : ∀ k, k < w.heap.size → Y k → X k) : Rg Y B d n w L e := by
  obtain ⟨g, cap, rest, hX, h1, h2, h3, h4, h5, h6⟩ := h
  exact ⟨g, cap, rest, fun h => hX (hY g h6.lt h), h1, h2, h3, h4, h5, h6⟩
theorem ints_app_set (L : List Int) (rest : List Value) (i : Nat) (x : Int) (h : i < L.length) : (ints L ++ rest).set i (.int .i64 x) = ints (L.set i x) ++ rest := by
  rw [List.set_append_left _ _ (by rw [ints_len]; exact h), ints_set]
theorem below_set {B d i : Nat} {w : World} (u : Value) (h : B ≤ d) : Below B w (w.setCell ⟨d, i, none⟩ u) := (Below.refl B w).setCell h u

set_option maxHeartbeats 1000000 in
theorem rword_any (x : Int) (w : World) : Calls Try.prog 35 #[.int .i64 x] w fun e w' => e = .returned (.bool (decide (okW x))) ∧ w' = w := by
  by_cases h1 : -2147483648 ≤ x
  · by_cases h2 : x < 2147483648
    · rw [decide_eq_true (show okW x from ⟨h1, by omega⟩)]
      go_enter Try.func35, Try.ntmps35
      go_wp2
      go_ret
      exact ⟨rfl, rfl⟩
    · rw [decide_eq_false (show ¬ okW x from fun h => by have := h.2; omega)]
      go_enter Try.func35, Try.ntmps35
      go_wp2
      go_ret
      exact ⟨rfl, rfl⟩
  · rw [decide_eq_false (show ¬ okW x from fun h => h1 h.1)]
    go_enter Try.func35, Try.ntmps35
    go_wp2
    go_ret
    exact ⟨rfl, rfl⟩
set_option maxHeartbeats 1000000 in
theorem rtrouble_any (X : Nat → Prop) (B d n : Nat) (L : List Int) (e k : Int) (w : World) (h : Rg X B d n w L e) : Calls Try.prog 36 #[.pointer (some ⟨d, 0, none⟩), .int .i64 k] w fun r w' => r = .returned (.tuple #[]) ∧ Only d w w' ∧ Rg X B d n w' L (fst e k) := by
  have hc := h.err
  have hf := h.free 1
  have H := hide h
  clear h
  unfold fst
  by_cases he : e = 0
  · rw [if_pos he]
    subst he
    go_enter Try.func36, Try.ntmps36
    go_wp2
    go_end0
    exact ⟨rfl, Only.setHere _ _, (unhide H).setErr k⟩
  · rw [if_neg he]
    go_enter Try.func36, Try.ntmps36
    go_wp2
    go_end0
    exact ⟨rfl, Only.refl _ _, unhide H⟩
set_option maxRecDepth 100000 in
set_option maxHeartbeats 1000000 in
theorem rget_any (X : Nat → Prop) (B d n o m : Nat) (L : List Int) (e i : Int) (w : World) (h : Rg X B d n w L e) (hm : o + m ≤ n) (hn : n ≤ 4096) :
    Calls Try.prog 19 #[.pointer (some ⟨d, 0, none⟩), .int .i64 (o : Int), .int .i64 (m : Int), .int .i64 i] w fun r w' => r = .returned (.int .i64 (getI L o m i)) ∧ Only d w w' ∧ Rg X B d n w' L (getE m i e) := by
  have H := hide h
  unfold getI getE
  by_cases hi : inR m i
  · rw [if_pos hi, if_pos hi]
    obtain ⟨k, rfl⟩ : ∃ k : Nat, i = (k : Int) := ⟨i.toNat, by unfold inR at hi; omega⟩
    have hk : k < m := by unfold inR at hi; omega
    obtain ⟨g, cap, hc, hl⟩ := h.open
    have hlen := h.len
    obtain ⟨g', off, hg', _, hcell⟩ := hl.some (by intro e; rw [e] at hlen; simp at hlen; omega)
    cases hg'
    have hw := hcell (o + k) (by omega)
    rw [Nat.zero_add] at hw
    rw [Int.toNat_natCast]
    clear hcell hl hlen hi h
    go_enter Try.func19, Try.ntmps19
    go_wp2
    go_ret
    exact ⟨rfl, Only.refl _ _, unhide H⟩
  · rw [if_neg hi, if_neg hi]
    by_cases h0 : i < 0
    · clear hi h
      go_enter Try.func19, Try.ntmps19
      go_wp2_with fail
      refine (rtrouble_any X B d n L e 1 _ (unhide H)).mono ?_
      rintro e' w' ⟨rfl, hb, hr⟩
      have HB := hide hb
      have HR := hide hr
      clear hb hr
      go_wp2
      go_ret
      exact ⟨rfl, unhide HB, unhide HR⟩
    · have h1 : (m : Int) ≤ i := by unfold inR at hi; omega
      clear hi h
      go_enter Try.func19, Try.ntmps19
      go_wp2_with fail
      refine (rtrouble_any X B d n L e 1 _ (unhide H)).mono ?_
      rintro e' w' ⟨rfl, hb, hr⟩
      have HB := hide hb
      have HR := hide hr
      clear hb hr
      go_wp2
      go_ret
      exact ⟨rfl, unhide HB, unhide HR⟩
set_option maxRecDepth 100000 in
set_option maxHeartbeats 1000000 in
theorem rput_any (X : Nat → Prop) (B d n o m : Nat) (L : List Int) (e i x : Int) (w : World) (h : Rg X B d n w L e) (hm : o + m ≤ n) (hn : n ≤ 4096) :
    Calls Try.prog 17 #[.pointer (some ⟨d, 0, none⟩), .int .i64 (o : Int), .int .i64 (m : Int), .int .i64 i, .int .i64 x] w fun r w' => r = .returned (.tuple #[]) ∧ Below B w w' ∧ Rg X B d n w' (putL L o m i x) (putE m i x e) ∧ (∀ k l, X k → k ≠ d → Cells w k l → Cells w' k l) := by
  have H := hide h
  unfold putL putE
  by_cases hi : inR m i
  · by_cases hx : okW x
    · rw [if_pos ⟨hi, hx⟩, if_pos hi, if_pos hx]
      obtain ⟨k, rfl⟩ : ∃ k : Nat, i = (k : Int) := ⟨i.toNat, by unfold inR at hi; omega⟩
      have hk : k < m := by unfold inR at hi; omega
      obtain ⟨g, cap, rest, hX, h1, h2, h3, h4, h5, h6⟩ := h
      have hc : w.cell? ⟨d, 0, none⟩ = some (.slice (some ⟨g, 0, none⟩) n cap) := h5.cell 0 _ rfl
      have hw : w.cell? ⟨g, o + k, none⟩ = some (.int .i64 (L.getD (o + k) 0)) := h6.cell (o + k) _ (by rw [List.getElem?_append_left (by rw [ints_len]; omega)]; exact ints_at L _ (by omega))
      have hf : w.frozen? ⟨g, o + k, none⟩ = false := h6.free _
      have HX := hide (show decide (okW x) = true from decide_eq_true hx)
      have HE : Hid (∀ w', w' = w.setCell ⟨g, o + k, none⟩ (.int .i64 x) → Below B w w' ∧ Rg X B d n w' (L.set (o + k) x) e ∧ (∀ k l, X k → k ≠ d → Cells w k l → Cells w' k l)) := by
        rintro _ rfl
        refine ⟨below_set _ h2, ⟨g, cap, rest, hX, h1, h2, h3, by rw [List.length_set]; exact h4, h5.only (Only.setHere _ _) h3, ?_⟩, fun k l hk _ hc => hc.only (Only.setHere _ _) (fun e => hX (e ▸ hk))⟩
        rw [← ints_app_set _ _ _ _ (by omega)]
        exact h6.set _ _
      rw [Int.toNat_natCast]
      clear hi hx h1 h2 h3 h4 h5 h6
      go_enter Try.func17, Try.ntmps17
      go_wp2_with fail
      refine (rword_any _ _).mono ?_
      rw [unhide HX]
      rintro e' w' ⟨rfl, rfl⟩
      go_wp2
      go_end0
      exact ⟨rfl, unhide HE _ rfl⟩
    · rw [if_neg (fun h => hx h.2), if_pos hi, if_neg hx]
      have h0 : 0 ≤ i := hi.1
      have h1 : i < (m : Int) := hi.2
      have HX := hide (show decide (okW x) = false from decide_eq_false hx)
      clear h hi hx
      go_enter Try.func17, Try.ntmps17
      go_wp2_with fail
      refine (rword_any _ _).mono ?_
      rw [unhide HX]
      rintro e' w' ⟨rfl, rfl⟩
      go_wp2_with fail
      refine (rtrouble_any X B d n L e 16 _ (unhide H)).mono ?_
      rintro e' w' ⟨rfl, hb, hr⟩
      have HB := hide hb
      have HR := hide hr
      clear hb hr
      go_wp2
      go_end0
      exact ⟨rfl, (unhide HB).below (unhide H).base (Nat.le_of_lt (unhide H).size), unhide HR, fun k l _ hkd hc => hc.only (unhide HB) hkd⟩
  · rw [if_neg (fun h => hi h.1), if_neg hi]
    obtain ⟨dd, hdd⟩ : ∃ dd, decide (okW x) = dd := ⟨_, rfl⟩
    have HX := hide hdd
    clear hdd
    by_cases h0 : i < 0
    case' neg => have h1 : (m : Int) ≤ i := by unfold inR at hi; omega
    all_goals (
      clear h hi
      go_enter Try.func17, Try.ntmps17
      go_wp2_with fail
      refine (rword_any _ _).mono ?_
      rw [unhide HX]
      rintro e' w' ⟨rfl, rfl⟩
      go_wp2_with fail
      refine (rtrouble_any X B d n L e 1 _ (unhide H)).mono ?_
      rintro e' w' ⟨rfl, hb, hr⟩
      have HB := hide hb
      have HR := hide hr
      clear hb hr
      go_wp2
      go_end0
      exact ⟨rfl, (unhide HB).below (unhide H).base (Nat.le_of_lt (unhide H).size), unhide HR, fun k l _ hkd hc => hc.only (unhide HB) hkd⟩)
set_option maxHeartbeats 1000000 in
theorem rnew_any (X : Nat → Prop) (n : Nat) (hn : n ≤ 4096) (w : World) (hX : ¬ X w.heap.size) : Calls Try.prog 10 #[.int .i64 (n : Int)] w fun r w' => ∃ d, r = .returned (.pointer (some ⟨d, 0, none⟩)) ∧ Rg X w.heap.size d n w' (List.replicate n 0) 0 ∧ Below w.heap.size w w' := by
  obtain ⟨i0, hi, hz0, hz1, hz2⟩ := info_parts Try.info3
  go_enter Try.func10, Try.ntmps10
  go_wp2_with (at_make; refine wpList_make_full _ rfl _ _ 41 rfl w.heap.size 3 i0 (.int .i64 0) 1 Try.underlying41 hi hz0 hz1 _ _ _ _ n rfl rfl rfl rfl ?m1 ?m2 ?m3 ?_)
  case m1 => rw [hz2]; omega
  case m2 => unfold maxLen; omega
  case m3 => exact Nat.le_refl _
  intro w1 hown hgr
  rw [ints_zero] at hown
  have HO := hide (own_cells hown)
  have HB := hide ((Below.refl w.heap.size w).grown hgr (Nat.le_refl _) (fun _ h => by cases h))
  clear hown hgr
  go_wp2
  go_ret
  have hlt := (unhide HO).lt
  refine ⟨_, rfl, ⟨w.heap.size, n, [], hX, (unhide HB).size, Nat.le_refl _, by omega, by simp, cells_new w1 [_, _] 45, by rw [List.append_nil]; exact (unhide HO).alloc _⟩, (unhide HB).alloc (unhide HB).size _⟩
set_option maxHeartbeats 1000000 in
theorem may_any (X : Nat → Prop) (B d n : Nat) (L : List Int) (e at_ m : Int) (w : World) (h : Rg X B d n w L e) (hn : n ≤ 4096) (hat : In64 at_) (hm : In64 m) :
    Calls Try.prog 12 #[.pointer (some ⟨d, 0, none⟩), .int .i64 at_, .int .i64 m] w fun r w' => r = .returned (.bool (decide (0 ≤ at_ ∧ 0 ≤ m ∧ at_ + m ≤ n))) ∧ w' = w := by
  obtain ⟨hat1, hat2⟩ := hat
  obtain ⟨hm1, hm2⟩ := hm
  obtain ⟨g, cap, hc, _⟩ := h.open
  clear h
  obtain ⟨dd, hdd⟩ : ∃ dd, decide (0 ≤ at_ ∧ 0 ≤ m ∧ at_ + m ≤ (n : Int)) = dd := ⟨_, rfl⟩
  rw [hdd]
  have HD := hide hdd
  clear hdd
  by_cases h1 : 0 ≤ at_
  · by_cases h2 : 0 ≤ m
    · by_cases h3 : at_ ≤ (n : Int)
      · by_cases h4 : m ≤ (n : Int) - at_
        · obtain rfl : dd = true := by rw [← unhide HD]; exact decide_eq_true (by omega)
          go_enter Try.func12, Try.ntmps12
          go_wp2
          go_ret
          exact ⟨rfl, rfl⟩
        · obtain rfl : dd = false := by rw [← unhide HD]; exact decide_eq_false (by omega)
          go_enter Try.func12, Try.ntmps12
          go_wp2
          go_ret
          exact ⟨rfl, rfl⟩
      · obtain rfl : dd = false := by rw [← unhide HD]; exact decide_eq_false (by omega)
        go_enter Try.func12, Try.ntmps12
        go_wp2
        go_ret
        exact ⟨rfl, rfl⟩
    · obtain rfl : dd = false := by rw [← unhide HD]; exact decide_eq_false (by omega)
      go_enter Try.func12, Try.ntmps12
      go_wp2
      go_ret
      exact ⟨rfl, rfl⟩
  · obtain rfl : dd = false := by rw [← unhide HD]; exact decide_eq_false (by omega)
    go_enter Try.func12, Try.ntmps12
    go_wp2
    go_ret
    exact ⟨rfl, rfl⟩
end Go.Proofs.Ytbekechjphangaa
