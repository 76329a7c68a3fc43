/- CircleTells returns true. -/
import Derived.Test.YtnncemagiobcbaaDoorWake
import Derived.Test.YtnncemagiobcbaaDoorRwin
namespace Go.Proofs.YtnncemagiobcbaaDoor
open Go.RowKit
set_option linter.unusedVariables false

theorem winI_le (n : Int) : (winI n).length ≤ 1000000 := by
  rw [winI_len]; split <;> omega
theorem mod2 (n : Int) : bits .and .i64 n 3 = n % 4 := i64_mask n 3 2 (by decide) (by decide)

/-- Two windows of one length, the program's and the document's, one behind the other: the same. -/
theorem both_windows (n : Int) (l : Nat) (hl : (winI n).length = l) (w w1 w2 : World) (a b : Option Addr) (c c' : Nat) (h1 : Lies w1 a (winI n)) (hb : Below w1.heap.size w1 w2) (h2 : Lies w2 b (winI n)) :
    Calls Tryd.prog 9 #[.slice a l c, .slice b l c'] w2 fun e w' => e = .returned (.bool true) ∧ Below w2.heap.size w2 w' :=
  same_any a b c c' (winI n) l hl (by rw [← hl]; exact winI_le n) w2 (h1.below hb) h2

set_option maxRecDepth 100000 in
set_option maxHeartbeats 1600000 in
theorem tells_walk (k n : Int) (w : World) (hk : In64 k) (hn : In64 n) (hq : Quar w) : Calls Tryd.prog 3 #[.int .i64 k, .int .i64 n] w fun e w' => e = .returned (.bool true) ∧ Below w.heap.size w w' := by
  have HQ := hide hq
  have HK := hide hk
  clear hq
  obtain ⟨l, hl⟩ : ∃ l, (winI n).length = l := ⟨_, rfl⟩
  have HL := hide hl
  clear hl
  obtain ⟨z, hz⟩ : ∃ z, wrap64 (16 * 2 ^ min (IntKind.u64.wrap (bits .and .i64 n 3)).toNat 64) = z := ⟨_, rfl⟩
  have HZ := hide hz
  clear hz
  obtain ⟨m, hm⟩ : ∃ m, (winI z).length = m := ⟨_, rfl⟩
  have HM := hide hm
  clear hm
  go_enter Tryd.func3, Tryd.ntmps3
  go_wp2_with fail
  refine (awake_any _ (unhide HQ)).mono ?_
  rintro e w1 ⟨rfl, hb⟩
  have HB1 := hide hb
  have HQ1 := hide ((unhide HQ).below hb)
  clear hb HQ
  go_wp2_with fail
  refine (window_any n _ (unhide HQ1)).mono ?_
  rintro e w2 ⟨a, ca, rfl, hla, hb⟩
  rw [unhide HL]
  have HLA := hide hla
  have HB2 := hide (below_trans (unhide HB1) hb)
  have HQ2 := hide ((unhide HQ1).below hb)
  clear hb hla HQ1 HB1
  go_wp2_with fail
  refine (rwindow_any n _).mono ?_
  rintro e w3 ⟨b, cb, rfl, hlb, hb⟩
  rw [unhide HL]
  have HSB := hide hb
  have HLB := hide hlb
  have HB3 := hide (below_trans (unhide HB2) hb)
  have HQ3 := hide ((unhide HQ2).below hb)
  clear hb hlb HQ2 HB2
  go_wp2_with fail
  refine (both_windows n l (unhide HL) w _ _ _ _ _ _ (unhide HLA) (unhide HSB) (unhide HLB)).mono ?_
  rintro e w4 ⟨rfl, hb⟩
  have HB4 := hide (below_trans (unhide HB3) hb)
  have HQ4 := hide ((unhide HQ3).below hb)
  clear hb HQ3 HB3 HLA HLB HSB
  go_wp2_with fail
  rw [unhide HZ]
  refine (window_any z _ (unhide HQ4)).mono ?_
  rintro e w5 ⟨a', ca', rfl, hla, hb⟩
  rw [unhide HM]
  have HLA := hide hla
  have HB5 := hide (below_trans (unhide HB4) hb)
  have HQ5 := hide ((unhide HQ4).below hb)
  clear hb hla HQ4 HB4
  go_wp2_with fail
  rw [unhide HZ]
  refine (rwindow_any z _).mono ?_
  rintro e w6 ⟨b', cb', rfl, hlb, hb⟩
  rw [unhide HM]
  have HSB := hide hb
  have HLB := hide hlb
  have HB6 := hide (below_trans (unhide HB5) hb)
  have HQ6 := hide ((unhide HQ5).below hb)
  clear hb hlb HQ5 HB5
  go_wp2_with fail
  refine (both_windows z m (unhide HM) w _ _ _ _ _ _ (unhide HLA) (unhide HSB) (unhide HLB)).mono ?_
  rintro e w7 ⟨rfl, hb⟩
  have HB7 := hide (below_trans (unhide HB6) hb)
  have HQ7 := hide ((unhide HQ6).below hb)
  clear hb HQ6 HB6 HLA HLB HSB
  go_wp2_with fail
  refine (rest_any k _ (unhide HK)).mono ?_
  rintro e w8 ⟨rfl, hb⟩
  have HB8 := hide (below_trans (unhide HB7) hb)
  have HQ8 := hide ((unhide HQ7).below hb)
  clear hb HQ7 HB7
  go_wp2_with fail
  refine (rrest64 k _ (unhide HK)).mono ?_
  rintro e w9 ⟨rfl, rfl⟩
  go_wp2_with fail
  refine (cos_any k _ (unhide HK) (unhide HQ8)).mono ?_
  rintro e w10 ⟨rfl, hb⟩
  have HB10 := hide (below_trans (unhide HB8) hb)
  have HQ10 := hide ((unhide HQ8).below hb)
  clear hb HQ8 HB8
  go_wp2_with fail
  refine (rcos_any k _ (unhide HK)).mono ?_
  rintro e w11 ⟨rfl, hb⟩
  have HB11 := hide (below_trans (unhide HB10) hb)
  have HQ11 := hide ((unhide HQ10).below hb)
  clear hb HQ10 HB10
  go_wp2_with fail
  refine (sin_any k _ (unhide HK) (unhide HQ11)).mono ?_
  rintro e w12 ⟨rfl, hb⟩
  have HB12 := hide (below_trans (unhide HB11) hb)
  have HQ12 := hide ((unhide HQ11).below hb)
  clear hb HQ11 HB11
  go_wp2_with fail
  refine (rsin_any k _ (unhide HK)).mono ?_
  rintro e w13 ⟨rfl, hb⟩
  have HB13 := hide (below_trans (unhide HB12) hb)
  have HQ13 := hide ((unhide HQ12).below hb)
  clear hb HQ12 HB12
  go_wp2
  go_ret
  exact ⟨rfl, unhide HB13⟩
end Go.Proofs.YtnncemagiobcbaaDoor
