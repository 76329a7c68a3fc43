/- The chapter's example. -/
import Derived.Test.YtclikkhaaiihdaaPushes
namespace Go.Proofs.Ytclikkhaaiihdaa
open Go.RowKit
set_option linter.unusedVariables false

def wakeL : Nat → List Int
  | 0 => List.replicate 7 0
  | k + 1 => layTo (wakeL k) (0 + (atI (k : Int) 3 2).toNat) [(k : Int), (k : Int)] 2
theorem wake_row : rowL (wakeL 4) (0 + (atI 1 3 2).toNat) 2 = [1, 1] := by decide

/-- A loop and its arena, all of it from block B on. -/
structure Own (B l b c g o m n d R : Nat) (cnt : Int) (w : World) (L : List Int) : Prop where
  lo : Lo l b c g o m (d : Int) R cnt w
  ar : Ar c g n w L 0
  hm : o + m ≤ n
  lb : l ≠ b
  lc : l ≠ c
  lg : l ≠ g
  bg : b ≠ g
  ge : B ≤ l ∧ B ≤ b ∧ B ≤ c ∧ B ≤ g
  c0 : 0 ≤ cnt
theorem Own.below {B l b c g o m n d R : Nat} {cnt : Int} {w w' : World} {L : List Int} (h : Own B l b c g o m n d R cnt w L) (hb : Below w.heap.size w w') : Own B l b c g o m n d R cnt w' L :=
  ⟨h.lo.below hb, h.ar.below hb, h.hm, h.lb, h.lc, h.lg, h.bg, h.ge, h.c0⟩
theorem own_made {B b c g o m n d R : Nat} {w1 w2 w3 : World} {L : List Int} (hl : Lo w2.heap.size b c g o m (d : Int) R 0 w3) (ha : Ar c g n w2 L 0) (hb : Below w2.heap.size w2 w3) (hp : Pt b c g o m w2) (hm : o + m ≤ n) (hbg : b ≠ g) (hge : B ≤ b ∧ B ≤ c ∧ B ≤ g) (hB : B ≤ w2.heap.size) : Own B w2.heap.size b c g o m n d R 0 w3 L :=
  ⟨hl, ha.below hb, hm, Nat.ne_of_gt (Cells.lt hp), Nat.ne_of_gt ha.me.lt, Nat.ne_of_gt ha.row.lt, hbg, ⟨hB, hge⟩, Int.le_refl _⟩
/-- What a frame that is pushed does. -/
def pushL (L : List Int) (o R d : Nat) (cnt : Int) (xs : List Int) : List Int := layTo L (o + (atI cnt R d).toNat) xs d
theorem Own.push {B l b c g o m n d R cap : Nat} {cnt : Int} {w : World} {L xs : List Int} {a : Option Addr} (h : Own B l b c g o m n d R cnt w L) (h1 : cnt ≤ 9223372036854775000) (hl : Lies w a xs) (hxl : xs.length = d) (hx : ∀ j, j < d → okW (xs.getD j 0)) (hna : xs ≠ [] → ∀ p, a = some p → p.block ≠ g) :
    Calls Try.prog 19 #[.pointer (some ⟨l, 0, none⟩), .slice a d cap] w fun r w' => r = .returned (.int .i64 0) ∧ Own B l b c g o m n d R (cnt + 1) w' (pushL L o R d cnt xs) ∧ But (fun k => k = l ∨ k = g) w w' :=
  (lpush_ok l b c g o m n R d cap cnt a xs L w h.lo h.ar h.hm h.c0 h1 hl hxl hx h.lb h.lc h.lg h.bg hna).mono (fun r w' ⟨q1, q2, q3, q4⟩ => ⟨q1, ⟨q2, q3, h.hm, h.lb, h.lc, h.lg, h.bg, h.ge, by have := h.c0; omega⟩, q4⟩)
theorem But.lg_below {B l g : Nat} {w w' : World} (h : But (fun k => k = l ∨ k = g) w w') (h1 : B ≤ l) (h2 : B ≤ g) (h3 : B ≤ w.heap.size) : Below B w w' :=
  h.below (fun k hk => by rcases hk with rfl | rfl <;> assumption) h3

set_option maxHeartbeats 4000000 in
theorem wake_any (w : World) : Calls Try.prog 8 #[] w fun r w' => r = .returned (.bool true) ∧ Below w.heap.size w w' := by
  go_enter Try.func8, Try.ntmps8
  go_wp2_with fail
  refine (new_any 7 (by decide) _).mono ?_
  rintro e' w1 ⟨c, g, rfl, hc, hg, ha, hb⟩
  have HA := hide ha
  have HB := hide hb
  have HCG := hide (And.intro hc hg)
  clear ha hb hc hg
  go_wp2_with fail
  refine (part_yes c g 7 0 7 _ 0 _ (unhide HA) (by decide) (by decide)).mono ?_
  rintro e' w2 ⟨o, rfl, hpt, hom, ho, hb⟩
  obtain rfl : o = 0 := ho (by decide)
  have HP := hide hpt
  have HA2 := hide ((unhide HA).below hb)
  have HB2 := hide (below_trans (unhide HB) hb)
  have HG1 := hide (unhide HA).row.lt
  have HS1 := hide (unhide HB).size
  clear hpt hom ho hb HB HA
  go_wp2_with fail
  refine (lnew_yes _ c g 0 7 2 3 _ (unhide HP) (by decide) (by decide) (by decide) rfl (by decide)).mono ?_
  rintro e' w3 ⟨rfl, hlo, hb⟩
  have HW := hide (own_made (B := w.heap.size) (w1 := w) hlo (unhide HA2) hb (unhide HP) (by decide) (Nat.ne_of_gt (unhide HG1)) ⟨(unhide HS1), unhide HCG⟩ (unhide HB2).size)
  have HB3 := hide (below_trans (unhide HB2) hb)
  clear hlo hb HA2 HB2 HP
  generalize w2.heap.size = l at *
  generalize w1.heap.size = b at *
  go_wp2
  go_loopw [2] (fun iv wr => ∃ k : Nat, k ≤ 4 ∧ iv = .int .i64 (k : Int) ∧ Hid (Own w.heap.size l b c g 0 7 7 2 3 (k : Int) wr (wakeL k)) ∧ Hid (Below w.heap.size w wr)) (fun iv _ => 4 - (intOf iv).toNat)
  case atStart => exact ⟨0, by omega, rfl, HW, HB3⟩
  case round =>
    obtain ⟨k, hk, rfl, HWr, HBr⟩ := hrel
    by_cases hlt : k < 4
    · clear HW HB3
      go_wp2_with fail
      obtain ⟨w4, hw4⟩ : ∃ w4, w4 = wr.alloc (.cells #[.int .i64 (k : Int), .int .i64 (k : Int)] 3) := ⟨_, rfl⟩
      have hb4 : Below wr.heap.size wr w4 := by rw [hw4]; exact (Below.refl _ _).alloc (Nat.le_refl _) _
      have HB4 := hide (below_trans (unhide HBr) hb4)
      have hl4 : Lies w4 (some ⟨wr.heap.size, 0, none⟩) [(k : Int), (k : Int)] := by rw [hw4]; exact (cells_new wr (ints [(k : Int), (k : Int)]) 3).lies
      have hg : wr.heap.size ≠ g := Nat.ne_of_gt (unhide HWr).ar.row.lt
      rw [← hw4]
      clear hw4
      refine (((unhide HWr).below hb4).push (by omega) hl4 rfl (by intro j hj; match j, hj with | 0, _ => (constructor <;> (simp only [List.getD_cons_zero]; omega)) | 1, _ => (constructor <;> (show _ ≤ _; simp only [List.getD_cons_zero, List.getD_cons_succ]; omega))) (fun _ p hp => by cases hp; exact hg)).mono ?_
      rintro e' w5 ⟨rfl, ho, hbt⟩
      have HW5 := hide ho
      have HB5 := hide ((unhide HB4).trans (hbt.lg_below (unhide HWr).ge.1 (unhide HWr).ge.2.2.2 (unhide HB4).size))
      clear ho hbt hl4 hb4 hg
      go_wp2
      go_roundw
      case rel => exact ⟨k + 1, by omega, by simp, HW5, HB5⟩
      case measure => simp [intOf]; omega
    · obtain rfl : k = 4 := by omega
      clear HW HB3
      go_wp2_with fail
      refine (lget_yes l b c g 0 7 7 3 2 4 1 (wakeL 4) _ (unhide HWr).lo (unhide HWr).ar (unhide HWr).hm (by decide) (by decide) (by decide)).mono ?_
      rintro e' w5 ⟨q, rfl, hq, hcq, hb5⟩
      rw [show (2 : Int).toNat = 2 from rfl, wake_row] at hcq
      have HW5 := hide ((unhide HWr).below hb5)
      have HB5 := hide (below_trans (unhide HBr) hb5)
      have HCq := hide hcq
      clear hq hcq hb5
      go_wp2_with fail
      refine (lroom_any l b c g 0 7 3 2 4 _ (unhide HW5).lo).mono ?_
      rintro e' w6 ⟨rfl, n6, rfl⟩
      go_wp2_with fail
      refine (loldest_any l b c g 0 7 3 2 4 _ ((unhide HW5).lo.below (below_drewN _ _)) (by decide) (by decide)).mono ?_
      rintro e' w7 ⟨rfl, n7, rfl⟩
      have hold : oldI 4 3 = 1 := by decide
      have c1 := (unhide HCq).cell 1 _ rfl
      go_wp2
      go_ret
      exact ⟨by simp, below_trans (unhide HB5) (below_drewN _ _)⟩
end Go.Proofs.Ytclikkhaaiihdaa
