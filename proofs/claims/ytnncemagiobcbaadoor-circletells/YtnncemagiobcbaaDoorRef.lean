/- The document's Rest, quarter, Cos, Sin, Window, Same: what they answer. -/
import Derived.Test.YtnncemagiobcbaaDoorWin
namespace Go.Proofs.YtnncemagiobcbaaDoor
open Go.RowKit
set_option linter.unusedVariables false

theorem rrest64 (k : Int) (w : World) (hk : In64 k) :
    Calls Tryd.prog 13 #[.int .i64 k] w fun e w' => e = .returned (.int .i64 (k % 64)) ∧ w' = w := by
  go_enter Tryd.func13, Tryd.ntmps13
  go_wp2_with fail
  refine (rrest_any k 64 _ hk (by decide) (by decide)).mono ?_
  rintro e w1 ⟨rfl, rfl⟩
  go_wp2
  go_ret
  exact ⟨rfl, rfl⟩

theorem quar_list (k : Nat) (h : k ≤ 16) : ([.int .i64 16384, .int .i64 16305, .int .i64 16069, .int .i64 15679, .int .i64 15137, .int .i64 14449, .int .i64 13623, .int .i64 12665, .int .i64 11585, .int .i64 10394, .int .i64 9102, .int .i64 7723, .int .i64 6270, .int .i64 4756, .int .i64 3196, .int .i64 1606, .int .i64 0] : List Value)[k]? = some (.int .i64 (quarAt k)) := by
  show (quarL.map (Value.int .i64))[k]? = _
  have hl : quarL.length = 17 := by decide +kernel
  rw [List.getElem?_map, List.getElem?_eq_getElem (by omega)]
  unfold quarAt
  rw [List.getD_eq_getElem?_getD, List.getElem?_eq_getElem (by omega)]
  rfl

theorem rquarter_any (k : Nat) (w : World) (h : k ≤ 16) :
    Calls Tryd.prog 24 #[.int .i64 k] w fun e w' => e = .returned (.int .i64 (quarAt k)) ∧ Below w.heap.size w w' := by
  have hl := quar_list k h
  go_enter Tryd.func24, Tryd.ntmps24
  go_wp2
  go_ret
  exact ⟨rfl, (Below.refl _ _).alloc (Nat.le_refl _) _⟩

theorem rcos_low (r : Int) (k : Nat) (w : World) (hr : In64 r) (hk : r % 64 = k) (h : k ≤ 32) :
    Calls Tryd.prog 15 #[.int .i64 r] w fun e w' => e = .returned (.int .i64 (cosAt k)) ∧ Below w.heap.size w w' := by
  have HK := hide hk
  clear hk
  by_cases c : k ≤ 16
  · have HV := hide (cos_small k c)
    go_enter Tryd.func15, Tryd.ntmps15
    go_wp2_with fail
    refine (rrest64 r _ hr).mono ?_
    rintro e w1 ⟨rfl, rfl⟩
    rw [unhide HK]
    go_wp2_with fail
    refine (rquarter_any k _ c).mono ?_
    rintro e w2 ⟨rfl, hb⟩
    go_wp2
    go_ret
    exact ⟨ret_int (unhide HV).symm, hb⟩
  · obtain ⟨j, hj, rfl⟩ : ∃ j : Nat, j ≤ 16 ∧ k = 32 - j := ⟨32 - k, by omega, by omega⟩
    have HV := hide (cos_half j hj)
    have hb := quar_bd j hj
    have e1 : (32 : Int) - ((32 - j : Nat) : Int) = j := by omega
    have E1 := hide e1
    clear e1
    go_enter Tryd.func15, Tryd.ntmps15
    go_wp2_with fail
    refine (rrest64 r _ hr).mono ?_
    rintro e w1 ⟨rfl, rfl⟩
    rw [unhide HK]
    go_wp2_with fail
    rw [unhide E1]
    refine (rquarter_any j _ hj).mono ?_
    rintro e w2 ⟨rfl, hb2⟩
    go_wp2
    go_ret
    exact ⟨ret_int (unhide HV).symm, hb2⟩

theorem rcos_any (r : Int) (w : World) (hr : In64 r) :
    Calls Tryd.prog 15 #[.int .i64 r] w fun e w' => e = .returned (.int .i64 (cosI r)) ∧ Below w.heap.size w w' := by
  obtain ⟨k, hk⟩ : ∃ k : Nat, r % 64 = k := ⟨(r % 64).toNat, by omega⟩
  have h64 : k < 64 := by omega
  have HV := hide (show cosAt k = cosI r by unfold cosI; congr 1; omega)
  by_cases c : k ≤ 32
  · rw [← unhide HV]
    exact rcos_low r k w hr hk c
  · obtain ⟨j, hj, hj1, rfl⟩ : ∃ j : Nat, j ≤ 31 ∧ 1 ≤ j ∧ k = 64 - j := ⟨64 - k, by omega, by omega, by omega⟩
    have HW := hide (cos_back j hj hj1)
    have e1 : (64 : Int) - ((64 - j : Nat) : Int) = j := by omega
    have E1 := hide e1
    have HK := hide hk
    clear e1 hk
    go_enter Tryd.func15, Tryd.ntmps15
    go_wp2_with fail
    refine (rrest64 r _ hr).mono ?_
    rintro e w1 ⟨rfl, rfl⟩
    rw [unhide HK]
    go_wp2_with fail
    rw [unhide E1]
    refine (rcos_low j j _ (by unfold In64; omega) (by omega) (by omega)).mono ?_
    rintro e w2 ⟨rfl, hb2⟩
    go_wp2
    go_ret
    exact ⟨ret_int ((unhide HW).symm.trans (unhide HV)), hb2⟩

theorem rsin_any (k : Int) (w : World) (hk : In64 k) :
    Calls Tryd.prog 17 #[.int .i64 k] w fun e w' => e = .returned (.int .i64 (sinI k)) ∧ Below w.heap.size w w' := by
  have HV := hide (sinI_mod k)
  have h1 : 0 ≤ k % 64 := by omega
  have h2 : k % 64 < 64 := by omega
  go_enter Tryd.func17, Tryd.ntmps17
  go_wp2_with fail
  refine (rrest64 k _ hk).mono ?_
  rintro e w1 ⟨rfl, rfl⟩
  go_wp2_with fail
  refine (rcos_any (k % 64 - 16) _ (by unfold In64; omega)).mono ?_
  rintro e w2 ⟨rfl, hb2⟩
  go_wp2
  go_ret
  exact ⟨ret_int (unhide HV), hb2⟩
end Go.Proofs.YtnncemagiobcbaaDoor
