/- Package front: tails that are copied; Tail; Count; samples that are none. -/
import Derived.Test.YtbkdgpeooeokmaaDoorFrontPush
namespace Go.Proofs.YtbkdgpeooeokmaaDoor
open Go.RowKit
set_option linter.unusedVariables false

/-- A tail of its own. -/
def TailC (cnt last : Int) (R : List Int) (w : World) (e : Ending) (w' : World) : Prop := ∃ (a : Option Addr) (c : Nat), e = .returned (.agg #[.int .i64 cnt, .int .i64 last, .slice a R.length c]) ∧ w'.ownsRow w.heap.size 3 1 (.slice a R.length c) R.length (ints R) ∧ Below w.heap.size w w'

set_option maxRecDepth 100000 in
theorem copied_any (cnt last : Int) (a : Option Addr) (m cap : Nat) (R : List Int) (w : World) (hl : Lies w a R) (hm : R.length = m) (hm2 : m ≤ 1000000) (hk : Slot a m cap) :
    Calls Tryd.prog 29 #[.agg #[.int .i64 cnt, .int .i64 last, .slice a m cap]] w (TailC cnt last R w) := by
  subst hm
  obtain ⟨F, hF⟩ : ∃ F, w.heap.size = F := ⟨_, rfl⟩
  obtain ⟨W0, hW0⟩ : ∃ W0, (w.alloc (.cells #[.int .i64 cnt, .int .i64 last, .slice a R.length cap] 40)).alloc (.cells #[.int .i64 0, .int .i64 0, .slice none 0 0] 40) = W0 := ⟨_, rfl⟩
  have HA := hide (show Cells W0 F [.int .i64 cnt, .int .i64 last, .slice a R.length cap] by
    rw [← hW0, ← hF]; exact (cells_new w [.int .i64 cnt, .int .i64 last, .slice a R.length cap] _).alloc _)
  have HR := hide (show Cells W0 (F + 1) [.int .i64 0, .int .i64 0, .slice none 0 0] by
    rw [← hW0, ← hF]
    have := cells_new (w.alloc (.cells #[.int .i64 cnt, .int .i64 last, .slice a R.length cap] 40)) [.int .i64 0, .int .i64 0, .slice none 0 0] 40
    simpa using this)
  have HB := hide (show Below w.heap.size w W0 by rw [← hW0]; exact (alloc_below w _).alloc (by simp) _)
  have HO := hide (owned_any a R.length cap R W0 (hl.below (unhide HB)) rfl hm2 hk)
  have HSZ := hide (show W0.heap.size = F + 1 + 1 by rw [← hW0, ← hF]; simp)
  have HFE := hide hF
  clear hl
  go_enter Tryd.func29, Tryd.ntmps29
  have q2 := (unhide HA).cell 2 _ rfl
  go_wp2_with fail
  clear hW0 hF q2
  refine (unhide HO).mono ?_
  rintro e w1 ⟨v, rfl, ho, hb⟩
  obtain ⟨a1, c1, rfl, _⟩ := owned_slot ho
  have HA1 := hide ((unhide HA).below hb)
  have HR1 := hide ((unhide HR).below hb)
  have HO1 := hide ho
  have HB1 := hide (below_trans (unhide HB) hb)
  have k0 := (unhide HA1).cell 0 _ rfl
  have k1 := (unhide HA1).cell 1 _ rfl
  have k2 := (unhide HA1).cell 2 _ rfl
  have z2 := (unhide HA1).free 2
  have r0 := (unhide HR1).cell 0 _ rfl
  have r1 := (unhide HR1).cell 1 _ rfl
  have r2 := (unhide HR1).cell 2 _ rfl
  have y0 := (unhide HR1).free 0
  have y1 := (unhide HR1).free 1
  have y2 := (unhide HR1).free 2
  clear ho hb HO HA HR
  go_upto_region 2 with fail
  obtain ⟨w2, hw2⟩ : ∃ w2, w1.setCell ⟨F, 2, none⟩ (.slice a1 R.length c1) = w2 := ⟨_, rfl⟩
  rw [hw2]
  have HA2 := hide (show Cells w2 F [.int .i64 cnt, .int .i64 last, .slice a1 R.length c1] by rw [← hw2]; exact (unhide HA1).set 2 _)
  have HR2 := hide (show Cells w2 (F + 1) [.int .i64 0, .int .i64 0, .slice none 0 0] by rw [← hw2]; exact cells_other (unhide HR1) (by omega))
  have HO2 := hide (show w2.ownsRow W0.heap.size 3 1 (.slice a1 R.length c1) R.length (ints R) by rw [← hw2]; exact owns_only2 (unhide HO1) ((Only.refl F w1).setCell rfl _) (by have := unhide HSZ; omega))
  have HB2 := hide (show Below w.heap.size w w2 by rw [← hw2]; exact (unhide HB1).setCell (by have := unhide HFE; show _ ≤ F; omega) _)
  clear hw2 k0 k1 k2 z2 r0 r1 r2 y0 y1 y2 HO1 HA1 HR1 HB1
  have k0 := (unhide HA2).cell 0 _ rfl
  have k1 := (unhide HA2).cell 1 _ rfl
  have k2 := (unhide HA2).cell 2 _ rfl
  have r0 := (unhide HR2).cell 0 _ rfl
  have r1 := (unhide HR2).cell 1 _ rfl
  have r2 := (unhide HR2).cell 2 _ rfl
  have y0 := (unhide HR2).free 0
  have y1 := (unhide HR2).free 1
  have y2 := (unhide HR2).free 2
  go_wp2_with fail
  obtain ⟨w3, hw3⟩ : ∃ w3, ((w2.setCell ⟨F + 1, 0, none⟩ (.int .i64 cnt)).setCell ⟨F + 1, 1, none⟩ (.int .i64 last)).setCell ⟨F + 1, 2, none⟩ (.slice a1 R.length c1) = w3 := ⟨_, rfl⟩
  rw [hw3]
  have hc3 : Cells w3 (F + 1) [.int .i64 cnt, .int .i64 last, .slice a1 R.length c1] := by rw [← hw3]; exact (((unhide HR2).set 0 _).set 1 _).set 2 _
  have HO3 := hide (show w3.ownsRow W0.heap.size 3 1 (.slice a1 R.length c1) R.length (ints R) by rw [← hw3]; exact owns_only2 (unhide HO2) ((((Only.refl (F + 1) w2).setCell rfl _).setCell rfl _).setCell rfl _) (by have := unhide HSZ; omega))
  have HB3 := hide (show Below w.heap.size w w3 by rw [← hw3]; exact (((unhide HB2).setCell (by have := unhide HFE; show _ ≤ F + 1; omega) _).setCell (by have := unhide HFE; show _ ≤ F + 1; omega) _).setCell (by have := unhide HFE; show _ ≤ F + 1; omega) _)
  have e0 := hc3.cell 0 _ rfl
  have e1 := hc3.cell 1 _ rfl
  have e2 := hc3.cell 2 _ rfl
  clear hw3 hc3 k0 k1 k2 r0 r1 r2 y0 y1 y2 HO2 HA2 HR2 HB2
  refine bodyPost_ret (v := .agg #[.int .i64 cnt, .int .i64 last, .slice a1 R.length c1]) (by simp [results, Tryd.results29, go_sem, e0, e1, e2]) rfl ?_
  exact ⟨a1, c1, rfl, owns_lower (unhide HO3) (by have := unhide HSZ; have := unhide HFE; omega), unhide HB3⟩

set_option maxRecDepth 100000 in
theorem tail_any (c n p B C : Nat) (pre : Int) (t : StD) (w : World) (hst : Stm c n p B C pre t w) (hm : t.rest.length ≤ 1000000) :
    Calls Tryd.prog 15 #[.pointer (some ⟨c, 0, none⟩)] w (TailC (t.n : Int) t.last t.rest w) := by
  obtain ⟨a, m, cap, hc, hm0, hk, hl, hb0⟩ := hst
  subst hm0
  obtain ⟨F, hF⟩ : ∃ F, w.heap.size = F := ⟨_, rfl⟩
  obtain ⟨W0, hW0⟩ : ∃ W0, w.alloc (.cells #[.int .i64 0, .int .i64 0, .slice none 0 0] 40) = W0 := ⟨_, rfl⟩
  have HB := hide (show Below w.heap.size w W0 by rw [← hW0]; exact alloc_below w _)
  have HR := hide (show Cells W0 F [.int .i64 0, .int .i64 0, .slice none 0 0] by
    rw [← hW0, ← hF]; exact cells_new w [.int .i64 0, .int .i64 0, .slice none 0 0] _)
  have HC := hide (hc.below (unhide HB))
  have HT := hide (copied_any (t.n : Int) t.last a t.rest.length cap t.rest W0 (hl.below (unhide HB)) rfl hm hk)
  have HFE := hide hF
  clear hc hl hk hb0
  have k5 := (unhide HC).cell 5 _ rfl
  have k6 := (unhide HC).cell 6 _ rfl
  have k7 := (unhide HC).cell 7 _ rfl
  go_enter Tryd.func15, Tryd.ntmps15
  go_wp2_with fail
  have HSZ := hide (show w.heap.size ≤ W0.heap.size by rw [← hW0]; simp)
  clear hW0 hF
  refine (unhide HT).mono ?_
  rintro e w1 ⟨a1, c1, rfl, ho, hb⟩
  have HR1 := hide ((unhide HR).below hb)
  have HO1 := hide ho
  have HB1 := hide (below_trans (unhide HB) hb)
  have HLT := hide (show F < W0.heap.size from (unhide HR).lt)
  have r0 := (unhide HR1).cell 0 _ rfl
  have r1 := (unhide HR1).cell 1 _ rfl
  have r2 := (unhide HR1).cell 2 _ rfl
  have y0 := (unhide HR1).free 0
  have y1 := (unhide HR1).free 1
  have y2 := (unhide HR1).free 2
  clear ho hb HT HR k5 k6 k7
  go_wp2_with fail
  obtain ⟨w3, hw3⟩ : ∃ w3, ((w1.setCell ⟨F, 0, none⟩ (.int .i64 (t.n : Int))).setCell ⟨F, 1, none⟩ (.int .i64 t.last)).setCell ⟨F, 2, none⟩ (.slice a1 t.rest.length c1) = w3 := ⟨_, rfl⟩
  rw [hw3]
  have hc3 : Cells w3 F [.int .i64 (t.n : Int), .int .i64 t.last, .slice a1 t.rest.length c1] := by rw [← hw3]; exact (((unhide HR1).set 0 _).set 1 _).set 2 _
  have HO3 := hide (show w3.ownsRow W0.heap.size 3 1 (.slice a1 t.rest.length c1) t.rest.length (ints t.rest) by rw [← hw3]; exact owns_only2 (unhide HO1) ((((Only.refl F w1).setCell rfl _).setCell rfl _).setCell rfl _) (unhide HLT))
  have HB3 := hide (show Below w.heap.size w w3 by rw [← hw3]; exact (((unhide HB1).setCell (by have := unhide HFE; show _ ≤ F; omega) _).setCell (by have := unhide HFE; show _ ≤ F; omega) _).setCell (by have := unhide HFE; show _ ≤ F; omega) _)
  have e0 := hc3.cell 0 _ rfl
  have e1 := hc3.cell 1 _ rfl
  have e2 := hc3.cell 2 _ rfl
  clear hw3 hc3 r0 r1 r2 y0 y1 y2 HO1 HR1 HB1
  refine bodyPost_ret (v := .agg #[.int .i64 (t.n : Int), .int .i64 t.last, .slice a1 t.rest.length c1]) (by simp [results, Tryd.results15, go_sem, e0, e1, e2]) rfl ?_
  exact ⟨a1, c1, rfl, owns_lower (unhide HO3) (unhide HSZ), unhide HB3⟩
theorem tail_nil (w : World) :
    Calls Tryd.prog 15 #[.pointer none] w fun e w' => e = .returned (.agg #[.int .i64 0, .int .i64 0, .slice none 0 0]) ∧ Below w.heap.size w w' := by
  go_enter Tryd.func15, Tryd.ntmps15
  go_wp2_with fail
  obtain ⟨w3, hw3⟩ : ∃ w3, w.alloc (.cells #[.int .i64 0, .int .i64 0, .slice none 0 0] 40) = w3 := ⟨_, rfl⟩
  rw [hw3]
  have hc3 : Cells w3 w.heap.size [.int .i64 0, .int .i64 0, .slice none 0 0] := by rw [← hw3]; exact cells_new w [.int .i64 0, .int .i64 0, .slice none 0 0] _
  have e0 := hc3.cell 0 _ rfl
  have e1 := hc3.cell 1 _ rfl
  have e2 := hc3.cell 2 _ rfl
  refine bodyPost_ret (v := .agg #[.int .i64 0, .int .i64 0, .slice none 0 0]) (by simp [results, Tryd.results15, go_sem, e0, e1, e2]) rfl ?_
  exact ⟨rfl, by rw [← hw3]; exact alloc_below w _⟩
theorem tail_count (w : World) (x y : Int) (a : Option Addr) (n c : Nat) : (Instr.field 40 (.agg #[.int .i64 x, .int .i64 y, .slice a n c]) 0).run Tryd.prog w = .ok (.int .i64 x) w := by kernel_rfl
set_option maxRecDepth 100000 in
theorem count_any (c n p B C : Nat) (pre : Int) (t : StD) (w : World) (hst : Stm c n p B C pre t w) (hm : t.rest.length ≤ 1000000) :
    Calls Tryd.prog 13 #[.pointer (some ⟨c, 0, none⟩)] w fun e w' => e = .returned (.int .i64 (t.n : Int)) ∧ Below w.heap.size w w' := by
  have HT := hide (tail_any c n p B C pre t w hst hm)
  clear hst
  have hfd := tail_count
  go_enter Tryd.func13, Tryd.ntmps13
  go_wp2_with fail
  refine (unhide HT).mono ?_
  rintro e w1 ⟨a1, c1, rfl, ho, hb⟩
  have HB := hide hb
  clear ho hb HT
  go_wp2
  go_ret
  exact ⟨rfl, unhide HB⟩
set_option maxRecDepth 100000 in
theorem count_nil (w : World) :
    Calls Tryd.prog 13 #[.pointer none] w fun e w' => e = .returned (.int .i64 0) ∧ Below w.heap.size w w' := by
  have hfd := tail_count
  go_enter Tryd.func13, Tryd.ntmps13
  go_wp2_with fail
  refine (tail_nil w).mono ?_
  rintro e w1 ⟨rfl, hb⟩
  have HB := hide hb
  clear hb
  go_wp2
  go_ret
  exact ⟨rfl, unhide HB⟩

set_option maxRecDepth 100000 in
theorem push_nil (a : Option Addr) (m cap : Nat) (w : World) :
    Calls Tryd.prog 11 #[.pointer none, .slice a m cap] w fun e w' => e = .returned (.tuple #[.slice none 0 0, .int .i64 1]) ∧ w' = w := by
  go_enter Tryd.func11, Tryd.ntmps11
  go_wp2_with fail
  refine (made_nil w).mono ?_
  rintro e w1 ⟨rfl, rfl⟩
  go_wp2
  go_ret2
  exact ⟨rfl, rfl⟩
set_option maxRecDepth 100000 in
theorem push_range (c n p B C : Nat) (pre : Int) (hs : Spc n p B C pre) (t : StD) (a : Option Addr) (m cap : Nat) (ys : List Int) (w : World) (hst : Stm c n p B C pre t w) (hl : Lies w a ys) (hm : ys.length = m) (hm2 : m ≤ 1000) (hys : allIn ys (-32768) 32767 = false) :
    Calls Tryd.prog 11 #[.pointer (some ⟨c, 0, none⟩), .slice a m cap] w fun e w' => e = .returned (.tuple #[.slice none 0 0, .int .i64 16]) ∧ Below w.heap.size w w' := by
  obtain ⟨a0, m0, cap0, hc, _⟩ := hst
  have HMK := hide (made_yes c n p B C pre hs _ _ _ w hc)
  have HL := hide hl
  have HM := hide hm
  have HAL := hide hys
  clear hc hl hm hys hs
  go_enter Tryd.func11, Tryd.ntmps11
  go_wp2_with fail
  refine (unhide HMK).mono ?_
  rintro e w1 ⟨rfl, hb1⟩
  have HB1 := hide hb1
  have HL1 := hide ((unhide HL).below hb1)
  clear hb1 HMK
  go_wp2_with fail
  refine (within_any a cap m ys (-32768) 32767 w1 (unhide HL1) (unhide HM) (by omega)).mono ?_
  rintro e w2 ⟨rfl, rfl⟩
  rw [unhide HAL]
  go_wp2
  go_ret2
  exact ⟨rfl, unhide HB1⟩
end Go.Proofs.YtbkdgpeooeokmaaDoor
