/- spin.Add of one, two, three rows, and Less: what they answer. -/
import Derived.Test.YtcnpbkgnoeoccaaDoorSum
namespace Go.Proofs.YtcnpbkgnoeoccaaDoor
open Go.RowKit
set_option linter.unusedVariables false

theorem add_none (w : World) : Calls Tryd.prog 14 #[.slice none 0 0] w fun e w' => e = .returned (.slice none 0 0) ∧ Below w.heap.size w w' := by
  have h : Calls Tryd.prog 27 #[.slice none 0 0] w fun e w' => e = .returned (.slice none 0 0) ∧ w' = w := by
    go_enter Tryd.func27, Tryd.ntmps27
    go_wp2
    go_ret
    exact ⟨rfl, rfl⟩
  have H := hide h
  clear h
  go_enter Tryd.func14, Tryd.ntmps14
  go_wp2_with fail
  refine (unhide H).mono ?_
  rintro e w1 ⟨rfl, rfl⟩
  go_wp2
  go_ret
  exact ⟨rfl, Below.refl _ _⟩

theorem add_some (b m cap : Nat) (rs : List Rr) (n : Nat) (w : World) (hl : LiesR w b rs) (hm : rs.length = m) (h0 : 0 < m) (hmx : m ≤ 1000000) (hn : (rs.getD 0 (none, 0, [])).2.2.length = n) (hnx : n ≤ 1000000) :
    Calls Tryd.prog 14 #[.slice (some ⟨b, 0, none⟩) m cap] w fun e w' => ∃ a l c, e = .returned (.slice a l c) ∧ (sumR rs).length = l ∧ Lies w' a (sumR rs) ∧ Below w.heap.size w w' := by
  have H := hide (sum_some b m cap rs n w hl hm h0 hmx hn hnx)
  clear hl hm hn
  go_enter Tryd.func14, Tryd.ntmps14
  go_wp2_with fail
  refine (unhide H).mono ?_
  rintro e w1 ⟨a, l, c, rfl, hl, hla, hb⟩
  have H1 := hide hl
  have H2 := hide hla
  have H3 := hide hb
  clear hl hla hb
  go_wp2
  go_ret
  exact ⟨a, l, c, rfl, unhide H1, unhide H2, unhide H3⟩

theorem liesR_new (w : World) (rs : List Rr) (t : TypeId) (h : ∀ r ∈ rs, Lies w r.1 r.2.2) : LiesR (w.alloc (.cells (rs.map rowV).toArray t)) w.heap.size rs := by
  refine ⟨by simp, fun j hj => ⟨?_, ?_⟩⟩
  · refine (cells_new w (rs.map rowV) t).cell j _ ?_
    simp [List.getD_eq_getElem?_getD, List.getElem?_eq_getElem hj]
  · refine (h _ ?_).below ((Below.refl _ w).alloc (Nat.le_refl _) _)
    simp [List.getD_eq_getElem?_getD, List.getElem?_eq_getElem hj]

/-- The sum of two, of three rows: none, if their sizes differ. -/
def sum2 (xs ys : List Int) : List Int := if ys.length = xs.length then add2 xs ys else []
def sum3 (xs ys zs : List Int) : List Int := if ys.length = xs.length ∧ zs.length = xs.length then add2 (add2 xs ys) zs else []
theorem sumR_one (a : Option Addr) (ca : Nat) (xs : List Int) (hs : Small xs) : sumR [(a, ca, xs)] = xs := by
  unfold sumR
  rw [if_pos (by intro r hr; simp at hr; subst hr; rfl)]
  exact add2_zero _ xs rfl hs
theorem sumR_two (a b : Option Addr) (ca cb : Nat) (xs ys : List Int) (hs : Small xs) : sumR [(a, ca, xs), (b, cb, ys)] = sum2 xs ys := by
  unfold sumR sum2
  by_cases c : ys.length = xs.length
  · rw [if_pos c, if_pos (by intro r hr; simp at hr; rcases hr with rfl | rfl; exact rfl; exact c)]
    show add2 (add2 (List.replicate xs.length 0) xs) ys = _
    rw [add2_zero _ xs rfl hs]
  · rw [if_neg c, if_neg (fun h => c (h (b, cb, ys) (by simp)))]
theorem sumR_three (a b d : Option Addr) (ca cb cd : Nat) (xs ys zs : List Int) (hs : Small xs) : sumR [(a, ca, xs), (b, cb, ys), (d, cd, zs)] = sum3 xs ys zs := by
  unfold sumR sum3
  by_cases c : ys.length = xs.length ∧ zs.length = xs.length
  · rw [if_pos c, if_pos (by intro r hr; simp at hr; rcases hr with rfl | rfl | rfl; exact rfl; exact c.1; exact c.2)]
    show add2 (add2 (add2 (List.replicate xs.length 0) xs) ys) zs = _
    rw [add2_zero _ xs rfl hs]
  · rw [if_neg c, if_neg (fun h => c ⟨h (b, cb, ys) (by simp), h (d, cd, zs) (by simp)⟩)]

/-- What a call told: a row, in a world in which all that was there is as it was. -/
def Told (xs : List Int) (w : World) (e : Ending) (w' : World) : Prop := ∃ a l c, e = .returned (.slice a l c) ∧ xs.length = l ∧ Lies w' a xs ∧ Below w.heap.size w w'

theorem add_one (a : Option Addr) (n ca : Nat) (xs : List Int) (w w0 : World) (hb : Below w.heap.size w w0) (ha : Lies w a xs) (hs : Small xs) (hn : xs.length = n) (hnx : n ≤ 1000000) :
    Calls Tryd.prog 14 #[.slice (some ⟨w0.heap.size, 0, none⟩) 1 1] (w0.alloc (.cells #[.slice a n ca] 22)) (Told xs w) := by
  subst hn
  refine (add_some w0.heap.size 1 1 [(a, ca, xs)] xs.length _ (liesR_new w0 [(a, ca, xs)] 22 (by intro r hr; simp at hr; subst hr; exact ha.below hb)) rfl (by decide) (by decide) rfl hnx).mono ?_
  rintro e w1 ⟨p, l, c, rfl, h1, h2, h3⟩
  rw [sumR_one a ca xs hs] at h1 h2
  exact ⟨p, l, c, rfl, h1, h2, (hb.alloc hb.size _).trans (h3.mono (by have := hb.size; simp; omega))⟩
theorem add_two (a b : Option Addr) (n m ca cb : Nat) (xs ys : List Int) (w w0 : World) (hb : Below w.heap.size w w0) (ha : Lies w a xs) (hy : Lies w b ys) (hs : Small xs) (hn : xs.length = n) (hm : ys.length = m) (hnx : n ≤ 1000000) :
    Calls Tryd.prog 14 #[.slice (some ⟨w0.heap.size, 0, none⟩) 2 2] (w0.alloc (.cells #[.slice a n ca, .slice b m cb] 22)) (Told (sum2 xs ys) w) := by
  subst hn hm
  refine (add_some w0.heap.size 2 2 [(a, ca, xs), (b, cb, ys)] xs.length _ (liesR_new w0 [(a, ca, xs), (b, cb, ys)] 22 (by intro r hr; simp at hr; rcases hr with rfl | rfl; exact ha.below hb; exact hy.below hb)) rfl (by decide) (by decide) rfl hnx).mono ?_
  rintro e w1 ⟨p, l, c, rfl, h1, h2, h3⟩
  rw [sumR_two a b ca cb xs ys hs] at h1 h2
  exact ⟨p, l, c, rfl, h1, h2, (hb.alloc hb.size _).trans (h3.mono (by have := hb.size; simp; omega))⟩
theorem add_three (a b d : Option Addr) (n m q ca cb cd : Nat) (xs ys zs : List Int) (w w0 : World) (hb : Below w.heap.size w w0) (ha : Lies w a xs) (hy : Lies w b ys) (hz : Lies w d zs) (hs : Small xs) (hn : xs.length = n) (hm : ys.length = m) (hq : zs.length = q) (hnx : n ≤ 1000000) :
    Calls Tryd.prog 14 #[.slice (some ⟨w0.heap.size, 0, none⟩) 3 3] (w0.alloc (.cells #[.slice a n ca, .slice b m cb, .slice d q cd] 22)) (Told (sum3 xs ys zs) w) := by
  subst hn hm hq
  refine (add_some w0.heap.size 3 3 [(a, ca, xs), (b, cb, ys), (d, cd, zs)] xs.length _ (liesR_new w0 [(a, ca, xs), (b, cb, ys), (d, cd, zs)] 22 (by intro r hr; simp at hr; rcases hr with rfl | rfl | rfl; exact ha.below hb; exact hy.below hb; exact hz.below hb)) rfl (by decide) (by decide) rfl hnx).mono ?_
  rintro e w1 ⟨p, l, c, rfl, h1, h2, h3⟩
  rw [sumR_three a b d ca cb cd xs ys zs hs] at h1 h2
  exact ⟨p, l, c, rfl, h1, h2, (hb.alloc hb.size _).trans (h3.mono (by have := hb.size; simp; omega))⟩

def less2 (xs ys : List Int) : List Int := if ys.length = xs.length then lessL xs ys else []
theorem less_any (a b : Option Addr) (n m ca cb : Nat) (xs ys : List Int) (w : World) (ha : Lies w a xs) (hy : Lies w b ys) (hs : Small xs) (hsy : Small ys) (hn : xs.length = n) (hm : ys.length = m) (hnx : n ≤ 1000000) (hmx : m ≤ 1000000) :
    Calls Tryd.prog 15 #[.slice a n ca, .slice b m cb] w (Told (less2 xs ys) w) := by
  have HA := hide ha
  have HY := hide hy
  have HN := hide hn
  have HM := hide hm
  have HE := hide (show sum2 xs (turnL ys (m : Int)) = less2 xs ys by unfold sum2 less2 lessL; rw [turn_len, hm])
  clear ha hy hn hm
  go_enter Tryd.func15, Tryd.ntmps15
  go_wp2_with fail
  refine (sturn_any b cb ys m (m : Int) _ (unhide HY) hsy (unhide HM) hmx (by unfold In64; omega)).mono ?_
  rintro e w1 ⟨g, rfl, hg, hc, hb⟩
  have HT := hide hc.lies
  have HB := hide hb
  clear hg hc hb
  go_wp2_with fail
  refine (add_two a (some ⟨g, 0, none⟩) n m ca m xs (turnL ys (m : Int)) w1 w1 (Below.refl _ _) ((unhide HA).below (unhide HB)) (unhide HT) hs (unhide HN) (by rw [turn_len]; exact unhide HM) hnx).mono ?_
  rintro e w2 ⟨p, l, c, rfl, h1, h2, h3⟩
  rw [unhide HE] at h1 h2
  have H1 := hide h1
  have H2 := hide h2
  have H3 := hide (below_trans (unhide HB) h3)
  clear h1 h2 h3
  go_wp2
  go_ret
  exact ⟨p, l, c, rfl, unhide H1, unhide H2, unhide H3⟩
theorem turn_told (a : Option Addr) (cap : Nat) (xs : List Int) (n : Nat) (k : Int) (w : World) (hl : Lies w a xs) (hs : Small xs) (hn : xs.length = n) (hm : n ≤ 1000000) (hk : In64 k) :
    Calls Tryd.prog 13 #[.slice a n cap, .int .i64 k] w (Told (turnL xs k) w) := by
  refine (sturn_any a cap xs n k w hl hs hn hm hk).mono ?_
  rintro e w1 ⟨g, rfl, hg, hc, hb⟩
  exact ⟨_, n, n, rfl, by rw [turn_len]; exact hn, hc.lies, hb⟩
end Go.Proofs.YtcnpbkgnoeoccaaDoor
