/- CrcBack returns true. -/
import Derived.Test.YtaplpknjgonolaaWake
namespace Go.Proofs.Ytaplpknjgonolaa
open Go.RowKit
set_option linter.unusedVariables false

theorem B_inj {a b : ByteArray} (h : B a = B b) : a = b := ByteArray.ext (Array.toList_inj.1 h)
theorem B_extract (s : ByteArray) (a b : Nat) : B (s.extract a b) = ((B s).take b).drop a := by
  unfold B
  rw [ByteArray.data_extract, Array.toList_extract, List.extract_eq_take_drop, List.drop_take]
theorem open_seal (s : ByteArray) : openB (sealB s) = (s, true) := by
  have e : (sealB s).extract 0 ((sealB s).size - 4) = s := by
    apply B_inj
    rw [B_extract, B_seal, size_seal, List.drop_zero, Nat.add_sub_cancel, ← B_len]
    unfold sealL
    rw [List.take_left]
  unfold openB
  rw [if_neg (by rw [size_seal]; omega), e, if_pos rfl]
theorem open_less (f : ByteArray) (h : f.size < 4) : openB f = (⟨#[]⟩, false) := by unfold openB; rw [if_pos h]

set_option maxRecDepth 100000 in
set_option maxHeartbeats 1000000 in
theorem back_walk (s : ByteArray) (w : World) : Calls Try.prog 5 #[.string s] w fun e w' => e = .returned (.bool true) ∧ Below w.heap.size w w' := by
  obtain ⟨t, ht⟩ : ∃ t, shortB s = t := ⟨_, rfl⟩
  have htl : t.size ≤ 60 := by rw [← ht]; exact shortB_le s
  obtain ⟨f, hf⟩ : ∃ f, sealB t = f := ⟨_, rfl⟩
  have hfs : f.size = t.size + 4 := by rw [← hf]; exact size_seal t
  have HO := hide (show openB f = (t, true) by rw [← hf]; exact open_seal t)
  have HO3 := hide (open_less (f.extract 0 3) (by rw [ByteArray.size_extract]; omega))
  have HT := hide ht
  have HF := hide hf
  have HFS := hide hfs
  have HTL := hide htl
  have HX := hide (show (f.extract 0 3).size ≤ 1000000 by rw [ByteArray.size_extract]; omega)
  have h3 : ¬ (f.size : Int) < 3 := by omega
  have h3' : (3 : Int) ≤ f.size := by omega
  have hfi : (f.size : Int) = t.size + 4 := by omega
  clear ht hf hfs
  go_enter Try.func5, Try.ntmps5
  go_wp2_with fail
  refine (awake_any _).mono ?_
  rintro e w1 ⟨rfl, hb⟩
  have HB1 := hide hb
  clear hb
  go_wp2_with fail
  refine (short_any s _).mono ?_
  rintro e w1 ⟨rfl, rfl⟩
  rw [unhide HT]
  go_wp2_with fail
  refine (seal_any t _ (by have := unhide HTL; omega)).mono ?_
  rintro e w2 ⟨rfl, hb⟩
  rw [unhide HF]
  have HB2 := hide (below_trans (unhide HB1) hb)
  clear hb HB1
  go_wp2_with fail
  refine (open_any f _ (by have := unhide HFS; have := unhide HTL; omega)).mono ?_
  rintro e w3 ⟨rfl, hb⟩
  rw [unhide HO]
  have HB3 := hide (below_trans (unhide HB2) hb)
  clear hb HB2
  go_wp2_with fail
  refine (open_any _ _ (unhide HX)).mono ?_
  rintro e w4 ⟨rfl, hb⟩
  rw [unhide HO3]
  have HB4 := hide (below_trans (unhide HB3) hb)
  clear hb HB3
  go_wp2
  go_ret
  exact ⟨rfl, unhide HB4⟩
end Go.Proofs.Ytaplpknjgonolaa
