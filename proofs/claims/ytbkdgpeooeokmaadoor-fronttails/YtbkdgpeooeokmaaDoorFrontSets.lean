/- Package front: Set. -/
import Derived.Test.YtbkdgpeooeokmaaDoorFrontSet
import Derived.Deep.QuietTactic
import Derived.BigQuiet
namespace Go.Proofs.YtbkdgpeooeokmaaDoor
open Go.RowKit
set_option linter.unusedVariables false

set_option maxRecDepth 100000 in
theorem set_nil (cnt last : Int) (w : World) :
    Calls Tryd.prog 18 #[.pointer none, .agg #[.int .i64 cnt, .int .i64 last, .slice none 0 0]] w fun e w' => e = .returned (.int .i64 1) ∧ Below w.heap.size w w' := by
  obtain ⟨W0, hW0⟩ : ∃ W0, w.alloc (.cells #[.int .i64 cnt, .int .i64 last, .slice none 0 0] 40) = W0 := ⟨_, rfl⟩
  have HB := hide (show Below w.heap.size w W0 by rw [← hW0]; exact alloc_below w _)
  go_enter Tryd.func18, Tryd.ntmps18
  go_wp2_with fail
  clear hW0
  go_quiet ((go_at_call 23; exact Calls.quiet_of_same (made_nil _)))
  go_wp2
  go_ret
  exact ⟨rfl, (unhide HB).trans ((below_drewN W0 _).mono (unhide HB).size)⟩

set_option maxRecDepth 100000 in
set_option maxHeartbeats 4000000 in
theorem set_low (c n p B C : Nat) (pre : Int) (hs : Spc n p B C pre) (t : StD) (w : World) (hst : Stm c n p B C pre t w) (cnt last : Int) (a : Option Addr) (m cap : Nat) (R : List Int) (hl : Lies w a R) (hm : R.length = m) (hm2 : m ≤ 1000000) (hk : Slot a m cap) (hc : In64 cnt) :
    Calls Tryd.prog 18 #[.pointer (some ⟨c, 0, none⟩), .agg #[.int .i64 cnt, .int .i64 last, .slice a m cap]] w fun e w' =>
      (mayT n p cnt last R → e = .returned (.int .i64 0) ∧ StmL w.heap.size c n p B C pre ⟨cnt.toNat, last, R⟩ w' ∧ Only c w w') ∧ (¬ mayT n p cnt last R → e = .returned (.int .i64 1) ∧ Below w.heap.size w w') := by
  obtain ⟨a0, m0, cap0, hcc, _⟩ := hst
  obtain ⟨F, hF⟩ : ∃ F, w.heap.size = F := ⟨_, rfl⟩
  obtain ⟨W0, hW0⟩ : ∃ W0, w.alloc (.cells #[.int .i64 cnt, .int .i64 last, .slice a m cap] 40) = W0 := ⟨_, rfl⟩
  have HB := hide (show Below w.heap.size w W0 by rw [← hW0]; exact alloc_below w _)
  have HT := hide (show Cells W0 F [.int .i64 cnt, .int .i64 last, .slice a m cap] by rw [← hW0, ← hF]; exact cells_new w [.int .i64 cnt, .int .i64 last, .slice a m cap] _)
  have HC := hide (hcc.below (unhide HB))
  have HL := hide (hl.below (unhide HB))
  have HS := hide hs
  have HM := hide hm
  have HK := hide hk
  have HIN := hide hc
  have HLT := hide hcc.lt
  have HMA : Hid (∀ w, Below W0.heap.size W0 w → Calls Tryd.prog 23 #[.pointer (some ⟨c, 0, none⟩)] w fun e w' => e = .returned (.bool true) ∧ Below w.heap.size w w') := fun w hb => made_yes c n p B C pre hs _ _ _ w ((unhide HC).below hb)
  obtain ⟨v, hv⟩ : ∃ v, decide (mayT n p cnt last R) = v := ⟨_, rfl⟩
  have HMH : Hid (∀ w, Below W0.heap.size W0 w → Calls Tryd.prog 31 #[.agg #[.int .i64 (n : Int), .int .i64 (p : Int), .int .i64 (B : Int), .int .i64 (C : Int), .int .i64 pre], .agg #[.int .i64 cnt, .int .i64 last, .slice a m cap]] w fun e w' => e = .returned (.bool v) ∧ Below w.heap.size w w') := fun w hb => by
    rw [← hv]; exact mayhave_any n p B C pre hs cnt last a m cap R w ((unhide HL).below hb) hm (by omega) hc
  have HV := hide hv
  have keep : ∀ {w' : World}, Below W0.heap.size W0 w' → w'.cell? ⟨c, 0, none⟩ = some (.int .i64 (n : Int)) ∧ w'.cell? ⟨c, 1, none⟩ = some (.int .i64 (p : Int)) ∧ w'.cell? ⟨c, 2, none⟩ = some (.int .i64 (B : Int)) ∧ w'.cell? ⟨c, 3, none⟩ = some (.int .i64 (C : Int)) ∧ w'.cell? ⟨c, 4, none⟩ = some (.int .i64 pre) ∧ w'.cell? ⟨F, 0, none⟩ = some (.int .i64 cnt) ∧ w'.cell? ⟨F, 1, none⟩ = some (.int .i64 last) ∧ w'.cell? ⟨F, 2, none⟩ = some (.slice a m cap) := fun hb => by
    have h := (unhide HC).below hb
    have h' := (unhide HT).below hb
    exact ⟨h.cell 0 _ rfl, h.cell 1 _ rfl, h.cell 2 _ rfl, h.cell 3 _ rfl, h.cell 4 _ rfl, h'.cell 0 _ rfl, h'.cell 1 _ rfl, h'.cell 2 _ rfl⟩
  have keep0 := keep (Below.refl _ _)
  have hbd : Below W0.heap.size W0 W0.drew := ⟨rfl, rfl, rfl, Nat.le_refl _, fun _ _ => rfl⟩
  have HFE := hide hF
  clear hcc hl hm hk hc hs hv
  go_enter Tryd.func18, Tryd.ntmps18
  go_wp2_with fail
  clear hW0 hF
  go_region_held3 (fun w' => w'.cell? ⟨c, 0, none⟩ = some (.int .i64 (n : Int)) ∧ w'.cell? ⟨c, 1, none⟩ = some (.int .i64 (p : Int)) ∧ w'.cell? ⟨c, 2, none⟩ = some (.int .i64 (B : Int)) ∧ w'.cell? ⟨c, 3, none⟩ = some (.int .i64 (C : Int)) ∧ w'.cell? ⟨c, 4, none⟩ = some (.int .i64 pre) ∧ w'.cell? ⟨F, 0, none⟩ = some (.int .i64 cnt) ∧ w'.cell? ⟨F, 1, none⟩ = some (.int .i64 last) ∧ w'.cell? ⟨F, 2, none⟩ = some (.slice a m cap))
    (first | exact keep0 | exact keep hbM | exact keep hbD)
    (first
      | (go_at_call 31; go_must (with_reducible refine (unhide HMH w3 hbD).mono ?_); rintro e w4 ⟨rfl, hb4⟩; have hbM := below_trans hbD hb4)
      | (go_at_call 23; go_must (with_reducible refine (unhide HMA W0.drew hbd).mono ?_); rintro e w3 ⟨rfl, hb3⟩; have hbD := spin_undrew hb3))
  have HB4 := hide hbM
  clear hbM hbD hb3 hb4 keep0
  cases v
  · have hno : ¬ mayT n p cnt last R := of_decide_eq_false (unhide HV)
    have HNO := hide hno
    clear hno keep
    go_wp2
    go_ret
    exact ⟨fun h => absurd h (unhide HNO), fun _ => ⟨rfl, below_trans (unhide HB) (unhide HB4)⟩⟩
  · have HYES := hide (of_decide_eq_true (unhide HV))
    obtain ⟨y0, y1, y2, y3, y4, y5, y6, y7⟩ := keep (unhide HB4)
    clear keep
    go_wp2_with fail
    refine (copied_any cnt last a m cap R w4 ((unhide HL).below (unhide HB4)) (unhide HM) hm2 (unhide HK)).mono ?_
    rintro e w5 ⟨a5, c5, rfl, ho5, hb5⟩
    rw [unhide HM] at ho5
    obtain ⟨a6, c6, e6, h61, h62, h63, h64, h65, h66⟩ := owned_slot ho5
    injection e6 with e61 _ e63
    subst e61 e63
    rw [unhide HM]
    have HC5 := hide ((unhide HC).below (below_trans (unhide HB4) hb5))
    have HR5 := hide (And.intro h61 (And.intro h64 (And.intro h65 h66)))
    have HB5 := hide (below_trans (below_trans (unhide HB) (unhide HB4)) hb5)
    have HSZ5 := hide (show c < w4.heap.size by have := (unhide HC).lt; have := (unhide HB4).size; omega)
    have k5 := (unhide HC5).cell 5 _ rfl
    have k6 := (unhide HC5).cell 6 _ rfl
    have k7 := (unhide HC5).cell 7 _ rfl
    have z5 := (unhide HC5).free 5
    have z6 := (unhide HC5).free 6
    have z7 := (unhide HC5).free 7
    clear ho5 hb5 h61 h62 h63 h64 h65 h66 y0 y1 y2 y3 y4 y5 y6 y7
    go_wp2_with fail
    clear k5 k6 k7 z5 z6 z7
    go_ret
    refine ⟨fun _ => ⟨rfl, ?_, (Only.of_below (unhide HB5)).trans ((((Only.refl c w5).setCell rfl _).setCell rfl _).setCell rfl _)⟩, fun h => absurd (unhide HYES) h⟩
    have hcn : ((cnt.toNat : Nat) : Int) = cnt := by have := (unhide HYES).1; omega
    obtain ⟨r1, r2, r3, r4⟩ := unhide HR5
    refine ⟨a5, m, c5, ?_, r1, r3, r2.only ((((Only.refl c w5).setCell rfl _).setCell rfl _).setCell rfl _) (fun _ q hq => by have := r4 q hq; have := unhide HSZ5; omega), fun q hq => by have := r4 q hq; have := unhide HSZ5; omega, fun q hq => by have := r4 q hq; have := (unhide HB).size; have := (unhide HB4).size; omega⟩
    show Cells _ _ [.int .i64 (n : Int), .int .i64 (p : Int), .int .i64 (B : Int), .int .i64 (C : Int), .int .i64 pre, .int .i64 ((cnt.toNat : Nat) : Int), .int .i64 last, .slice a5 m c5]
    rw [hcn]
    exact (((unhide HC5).set 5 _).set 6 _).set 7 _
theorem set_any (c n p B C : Nat) (pre : Int) (hs : Spc n p B C pre) (t : StD) (w : World) (hst : Stm c n p B C pre t w) (cnt last : Int) (a : Option Addr) (m cap : Nat) (R : List Int) (hl : Lies w a R) (hm : R.length = m) (hm2 : m ≤ 1000000) (hk : Slot a m cap) (hc : In64 cnt) :
    Calls Tryd.prog 18 #[.pointer (some ⟨c, 0, none⟩), .agg #[.int .i64 cnt, .int .i64 last, .slice a m cap]] w fun e w' =>
      (mayT n p cnt last R → e = .returned (.int .i64 0) ∧ Stm c n p B C pre ⟨cnt.toNat, last, R⟩ w' ∧ Only c w w') ∧ (¬ mayT n p cnt last R → e = .returned (.int .i64 1) ∧ Below w.heap.size w w') :=
  (set_low c n p B C pre hs t w hst cnt last a m cap R hl hm hm2 hk hc).mono fun _ _ h => ⟨fun k => ⟨(h.1 k).1, (h.1 k).2.1.stm, (h.1 k).2.2⟩, h.2⟩
end Go.Proofs.YtbkdgpeooeokmaaDoor
