/- circle.Rest, Cos, Sin: what they answer. -/
import Derived.Test.YtnncemagiobcbaaDoorPlain
namespace Go.Proofs.YtnncemagiobcbaaDoor
open Go.RowKit
set_option linter.unusedVariables false

theorem told_any (k : Nat) (w : World) (h : k ≤ 16) (hq : Quar w) :
    Calls Tryd.prog 23 #[.int .i64 k] w fun e w' => e = .returned (.int .i64 (quarAt k)) ∧ w' = w := by
  have hc := hq.2 k (by omega)
  obtain ⟨z, hz⟩ : ∃ z, z = quarAt k := ⟨_, rfl⟩
  rw [← hz] at hc ⊢
  have HZ := hide hz
  clear hq hz
  go_enter Tryd.func23, Tryd.ntmps23
  go_wp2
  go_ret
  exact ⟨rfl, rfl⟩

theorem rest_any (k : Int) (w : World) (hk : In64 k) :
    Calls Tryd.prog 12 #[.int .i64 k] w fun e w' => e = .returned (.int .i64 (k % 64)) ∧ Below w.heap.size w w' := by
  have HV := hide (remI_pos k 64 (by decide))
  go_enter Tryd.func12, Tryd.ntmps12
  go_wp2_with fail
  refine (parts_any k 64 _ hk (by constructor <;> decide)).mono ?_
  rintro e w1 ⟨rfl, hb⟩
  go_wp2
  go_ret
  exact ⟨ret_int (unhide HV), hb⟩

theorem turned_low (k : Nat) (w : World) (h : k ≤ 32) (hq : Quar w) :
    Calls Tryd.prog 22 #[.int .i64 k, .func (.func 23) #[] #[]] w fun e w' => e = .returned (.int .i64 (cosAt k)) ∧ w' = w := by
  by_cases c : k ≤ 16
  · have HV := hide (cos_small k c)
    go_enter Tryd.func22, Tryd.ntmps22
    go_wp2_with fail
    refine (told_any k _ c hq).mono ?_
    rintro e w1 ⟨rfl, rfl⟩
    go_wp2
    go_ret
    exact ⟨ret_int (unhide HV).symm, rfl⟩
  · obtain ⟨j, hj, rfl⟩ : ∃ j : Nat, j ≤ 16 ∧ k = 32 - j := ⟨32 - k, by omega, by omega⟩
    have HV := hide (cos_half j hj)
    have hb := quar_bd j hj
    have e1 : (32 : Int) - ((32 - j : Nat) : Int) = j := by omega
    have E1 := hide e1
    clear e1
    go_enter Tryd.func22, Tryd.ntmps22
    go_wp2_with fail
    rw [unhide E1]
    refine (told_any j _ hj hq).mono ?_
    rintro e w1 ⟨rfl, rfl⟩
    go_wp2
    go_ret
    exact ⟨ret_int (unhide HV).symm, rfl⟩

theorem turned_any (k : Nat) (w : World) (h : k < 64) (hq : Quar w) :
    Calls Tryd.prog 22 #[.int .i64 k, .func (.func 23) #[] #[]] w fun e w' => e = .returned (.int .i64 (cosAt k)) ∧ w' = w := by
  by_cases c : k ≤ 32
  · exact turned_low k w c hq
  · obtain ⟨j, hj, hj1, rfl⟩ : ∃ j : Nat, j ≤ 31 ∧ 1 ≤ j ∧ k = 64 - j := ⟨64 - k, by omega, by omega, by omega⟩
    have HV := hide (cos_back j hj hj1)
    have e1 : (64 : Int) - ((64 - j : Nat) : Int) = j := by omega
    have E1 := hide e1
    clear e1
    go_enter Tryd.func22, Tryd.ntmps22
    go_wp2_with fail
    rw [unhide E1]
    refine (turned_low j _ (by omega) hq).mono ?_
    rintro e w1 ⟨rfl, rfl⟩
    go_wp2
    go_ret
    exact ⟨ret_int (unhide HV).symm, rfl⟩

theorem cos_any (k : Int) (w : World) (hk : In64 k) (hq : Quar w) :
    Calls Tryd.prog 14 #[.int .i64 k] w fun e w' => e = .returned (.int .i64 (cosI k)) ∧ Below w.heap.size w w' := by
  obtain ⟨r, hr⟩ : ∃ r : Nat, k % 64 = r := ⟨(k % 64).toNat, by omega⟩
  have h64 : r < 64 := by omega
  have HV := hide (show cosAt r = cosI k by unfold cosI; congr 1; omega)
  have HR := hide hr
  clear hr
  go_enter Tryd.func14, Tryd.ntmps14
  go_wp2_with fail
  refine (rest_any k _ hk).mono ?_
  rintro e w1 ⟨rfl, hb⟩
  go_wp2_with fail
  rw [unhide HR]
  refine (turned_any r _ h64 (hq.below hb)).mono ?_
  rintro e w2 ⟨rfl, rfl⟩
  go_wp2
  go_ret
  exact ⟨ret_int (unhide HV), hb⟩

theorem sin_any (k : Int) (w : World) (hk : In64 k) (hq : Quar w) :
    Calls Tryd.prog 16 #[.int .i64 k] w fun e w' => e = .returned (.int .i64 (sinI k)) ∧ Below w.heap.size w w' := by
  have HV := hide (sinI_mod k)
  have h1 : 0 ≤ k % 64 := by omega
  have h2 : k % 64 < 64 := by omega
  go_enter Tryd.func16, Tryd.ntmps16
  go_wp2_with fail
  refine (rest_any k _ hk).mono ?_
  rintro e w1 ⟨rfl, hb⟩
  go_wp2_with fail
  refine (cos_any (k % 64 - 16) _ (by unfold In64; omega) (hq.below hb)).mono ?_
  rintro e w2 ⟨rfl, hb2⟩
  go_wp2
  go_ret
  exact ⟨ret_int (unhide HV), below_trans hb hb2⟩
end Go.Proofs.YtnncemagiobcbaaDoor
