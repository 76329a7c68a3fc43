/- CircleWindow returns true. -/
import Derived.Test.YtnncemagiobcbaaDoorWake
import Derived.Deep.QuietTactic
import Derived.BigQuiet
namespace Go.Proofs.YtnncemagiobcbaaDoor
open Go.RowKit
set_option linter.unusedVariables false

theorem and7 (n : Int) : bits .and .i64 n 7 = n % 8 := i64_mask n 7 3 (by decide) (by decide)
theorem and15 (n : Int) : bits .and .i64 n 15 = n % 16 := i64_mask n 15 4 (by decide) (by decide)
theorem and31 (n : Int) : bits .and .i64 n 31 = n % 32 := mod5 n
theorem drewn_below {B : Nat} {a w : World} (h : Below B a w) (n : Nat) : Below B a (w.drewN n) := h.trans ⟨rfl, rfl, rfl, Nat.le_refl _, fun _ _ => rfl⟩
theorem and1 (n : Int) : bits .and .i64 n 1 = n % 2 := i64_mask n 1 1 (by decide) (by decide)
theorem shl_which (x n : Int) (r : Nat) (h : x % 2 = r) (hn : 16 * 2 ^ r = n) (hr : r < 2) : wrap64 (16 * 2 ^ min (IntKind.u64.wrap (bits .and .i64 x 1)).toNat 64) = n := by
  rw [and1, h, IntKind.wrap_u64]
  have e : ((r : Int) % 18446744073709551616).toNat = r := by omega
  rw [e, Nat.min_eq_left (by omega), hn]
  subst hn
  match r, hr with
  | 0, _ => exact w64_in (by constructor <;> decide)
  | 1, _ => exact w64_in (by constructor <;> decide)

theorem facts16 (t : Nat) (h : t < 16) : win32.getD (2 * t) 0 = win16.getD t 0 ∧ win16.getD ((16 - t) % 16) 0 = win16.getD t 0 ∧ win16.getD (t % 8) 0 < win16.getD (t % 8 + 1) 0 ∧ 17693 ≤ win16.getD t 0 + win16.getD ((t + 8) % 16) 0 ∧ win16.getD t 0 + win16.getD ((t + 8) % 16) 0 ≤ 17695 ∧ 0 ≤ win16.getD t 0 ∧ win16.getD t 0 ≤ 16384 ∧ 0 ≤ win16.getD ((t + 8) % 16) 0 ∧ win16.getD ((t + 8) % 16) 0 ≤ 16384 := by
  have : ∀ t, t < 16 → win32.getD (2 * t) 0 = win16.getD t 0 ∧ win16.getD ((16 - t) % 16) 0 = win16.getD t 0 ∧ win16.getD (t % 8) 0 < win16.getD (t % 8 + 1) 0 ∧ 17693 ≤ win16.getD t 0 + win16.getD ((t + 8) % 16) 0 ∧ win16.getD t 0 + win16.getD ((t + 8) % 16) 0 ≤ 17695 ∧ 0 ≤ win16.getD t 0 ∧ win16.getD t 0 ≤ 16384 ∧ 0 ≤ win16.getD ((t + 8) % 16) 0 ∧ win16.getD ((t + 8) % 16) 0 ≤ 16384 := by decide +kernel
  exact this t h

theorem facts32 (t : Nat) (h : t < 32) : win64.getD (2 * t) 0 = win32.getD t 0 ∧ win32.getD ((32 - t) % 32) 0 = win32.getD t 0 ∧ win32.getD (t % 16) 0 < win32.getD (t % 16 + 1) 0 ∧ 17693 ≤ win32.getD t 0 + win32.getD ((t + 16) % 32) 0 ∧ win32.getD t 0 + win32.getD ((t + 16) % 32) 0 ≤ 17695 ∧ 0 ≤ win32.getD t 0 ∧ win32.getD t 0 ≤ 16384 ∧ 0 ≤ win32.getD ((t + 16) % 32) 0 ∧ win32.getD ((t + 16) % 32) 0 ≤ 16384 := by
  have : ∀ t, t < 32 → win64.getD (2 * t) 0 = win32.getD t 0 ∧ win32.getD ((32 - t) % 32) 0 = win32.getD t 0 ∧ win32.getD (t % 16) 0 < win32.getD (t % 16 + 1) 0 ∧ 17693 ≤ win32.getD t 0 + win32.getD ((t + 16) % 32) 0 ∧ win32.getD t 0 + win32.getD ((t + 16) % 32) 0 ≤ 17695 ∧ 0 ≤ win32.getD t 0 ∧ win32.getD t 0 ≤ 16384 ∧ 0 ≤ win32.getD ((t + 16) % 32) 0 ∧ win32.getD ((t + 16) % 32) 0 ≤ 16384 := by decide +kernel
  exact this t h

set_option maxRecDepth 100000 in
set_option maxHeartbeats 3200000 in
theorem windw_16 (x at_ : Int) (w : World) (hx : x % 2 = 0) (hq : Quar w) : Calls Tryd.prog 6 #[.int .i64 x, .int .i64 at_] w fun e w' => e = .returned (.bool true) ∧ Below w.heap.size w w' := by
  have HQ := hide hq
  have HN := hide (shl_which x 16 0 hx (by decide) (by decide))
  clear hq hx
  obtain ⟨t, ht, ht2⟩ : ∃ t : Nat, bits .and .i64 at_ 15 = t ∧ t < 16 := ⟨(at_ % 16).toNat, by rw [and15]; omega, by omega⟩
  obtain ⟨u, hu, hu2, hu3⟩ : ∃ u : Nat, bits .and .i64 (16 - (t : Int)) 15 = u ∧ u = (16 - t) % 16 ∧ u < 16 := ⟨(16 - t) % 16, by rw [and15]; omega, rfl, by omega⟩
  obtain ⟨h, hh, hh2, hh3⟩ : ∃ h : Nat, bits .and .i64 (t : Int) 7 = h ∧ h = t % 8 ∧ h < 8 := ⟨t % 8, by rw [and7]; omega, rfl, by omega⟩
  obtain ⟨o, ho, ho2, ho3⟩ : ∃ o : Nat, bits .and .i64 ((t : Int) + 8) 15 = o ∧ o = (t + 8) % 16 ∧ o < 16 := ⟨(t + 8) % 16, by rw [and15]; omega, rfl, by omega⟩
  have hf := facts16 t ht2
  rw [← hu2, ← hh2, ← ho2] at hf
  have HF := hide hf
  clear hf hu2 hh2 ho2
  go_enter Tryd.func6, Tryd.ntmps6
  go_wp2_with fail
  refine (awake_any _ (unhide HQ)).mono ?_
  rintro e w1 ⟨rfl, hb⟩
  have HB1 := hide hb
  have HQ1 := hide ((unhide HQ).below hb)
  clear hb HQ
  go_wp2_with fail
  rw [unhide HN]
  refine (win_16 _ (unhide HQ1)).mono ?_
  rintro e w2 ⟨a, ca, rfl, hla, hb⟩
  rw [winOf16] at hla
  have HLA := hide hla
  have HB2 := hide (below_trans (unhide HB1) hb)
  have HQ2 := hide ((unhide HQ1).below hb)
  clear hb hla HQ1 HB1
  go_wp2_with fail
  refine (win_32 _ (unhide HQ2)).mono ?_
  rintro e w3 ⟨b, cb, rfl, hlb, hb⟩
  rw [winOf32] at hlb
  have HB3 := hide (below_trans (unhide HB2) hb)
  obtain ⟨ba, oa, rfl, _, hca⟩ := ((unhide HLA).below hb).some (by decide)
  obtain ⟨bb, ob, rfl, _, hcb⟩ := hlb.some (by decide)
  have c1 := hca t ht2
  have c2 := hcb (2 * t) (by show 2 * t < 32; omega)
  have c3 := hca u hu3
  have c4 := hca h (by show h < 16; omega)
  have c5 : w3.cell? ⟨ba, oa + (h + 1), none⟩ = _ := hca (h + 1) (by show h + 1 < 16; omega)
  have c6 : w3.cell? ⟨ba, oa, none⟩ = some (.int .i64 1310) := hca 0 (by decide)
  have c7 : w3.cell? ⟨ba, oa + 8, none⟩ = some (.int .i64 16384) := hca 8 (by decide)
  have c8 := hca o ho3
  have hf := unhide HF
  rw [hf.1] at c2
  rw [hf.2.1] at c3
  replace hf := hf.2.2
  clear hb hlb HQ2 HB2 HLA hca hcb HF
  generalize win16.getD t 0 = z1 at c1 c2 c3 hf
  generalize win16.getD h 0 = z2 at c4 hf
  generalize win16.getD (h + 1) 0 = z3 at c5 hf
  generalize win16.getD o 0 = z4 at c8 hf
  obtain ⟨f1, f2, f3, f4, f5, f6, f7⟩ := hf
  have g1 : ((t : Nat) : Int) < 16 := by omega
  have g2 : ((u : Nat) : Int) < 16 := by omega
  have g3 : ((h : Nat) : Int) + 1 < 16 := by omega
  have g4 : ((o : Nat) : Int) < 16 := by omega
  have g5 : 2 * ((t : Nat) : Int) < 32 := by omega
  go_wp2
  go_quiet (fail)
  go_wp2
  go_quiet (fail)
  go_wp2
  go_ret
  exact ⟨rfl, drewn_below (drewn_below (unhide HB3) _) _⟩

set_option maxRecDepth 100000 in
set_option maxHeartbeats 3200000 in
theorem windw_32 (x at_ : Int) (w : World) (hx : x % 2 = 1) (hq : Quar w) : Calls Tryd.prog 6 #[.int .i64 x, .int .i64 at_] w fun e w' => e = .returned (.bool true) ∧ Below w.heap.size w w' := by
  have HQ := hide hq
  have HN := hide (shl_which x 32 1 hx (by decide) (by decide))
  clear hq hx
  obtain ⟨t, ht, ht2⟩ : ∃ t : Nat, bits .and .i64 at_ 31 = t ∧ t < 32 := ⟨(at_ % 32).toNat, by rw [and31]; omega, by omega⟩
  obtain ⟨u, hu, hu2, hu3⟩ : ∃ u : Nat, bits .and .i64 (32 - (t : Int)) 31 = u ∧ u = (32 - t) % 32 ∧ u < 32 := ⟨(32 - t) % 32, by rw [and31]; omega, rfl, by omega⟩
  obtain ⟨h, hh, hh2, hh3⟩ : ∃ h : Nat, bits .and .i64 (t : Int) 15 = h ∧ h = t % 16 ∧ h < 16 := ⟨t % 16, by rw [and15]; omega, rfl, by omega⟩
  obtain ⟨o, ho, ho2, ho3⟩ : ∃ o : Nat, bits .and .i64 ((t : Int) + 16) 31 = o ∧ o = (t + 16) % 32 ∧ o < 32 := ⟨(t + 16) % 32, by rw [and31]; omega, rfl, by omega⟩
  have hf := facts32 t ht2
  rw [← hu2, ← hh2, ← ho2] at hf
  have HF := hide hf
  clear hf hu2 hh2 ho2
  go_enter Tryd.func6, Tryd.ntmps6
  go_wp2_with fail
  refine (awake_any _ (unhide HQ)).mono ?_
  rintro e w1 ⟨rfl, hb⟩
  have HB1 := hide hb
  have HQ1 := hide ((unhide HQ).below hb)
  clear hb HQ
  go_wp2_with fail
  rw [unhide HN]
  refine (win_32 _ (unhide HQ1)).mono ?_
  rintro e w2 ⟨a, ca, rfl, hla, hb⟩
  rw [winOf32] at hla
  have HLA := hide hla
  have HB2 := hide (below_trans (unhide HB1) hb)
  have HQ2 := hide ((unhide HQ1).below hb)
  clear hb hla HQ1 HB1
  go_wp2_with fail
  refine (win_64 _ (unhide HQ2)).mono ?_
  rintro e w3 ⟨b, cb, rfl, hlb, hb⟩
  rw [winOf64] at hlb
  have HB3 := hide (below_trans (unhide HB2) hb)
  obtain ⟨ba, oa, rfl, _, hca⟩ := ((unhide HLA).below hb).some (by decide)
  obtain ⟨bb, ob, rfl, _, hcb⟩ := hlb.some (by decide)
  have c1 := hca t ht2
  have c2 := hcb (2 * t) (by show 2 * t < 64; omega)
  have c3 := hca u hu3
  have c4 := hca h (by show h < 32; omega)
  have c5 : w3.cell? ⟨ba, oa + (h + 1), none⟩ = _ := hca (h + 1) (by show h + 1 < 32; omega)
  have c6 : w3.cell? ⟨ba, oa, none⟩ = some (.int .i64 1310) := hca 0 (by decide)
  have c7 : w3.cell? ⟨ba, oa + 16, none⟩ = some (.int .i64 16384) := hca 16 (by decide)
  have c8 := hca o ho3
  have hf := unhide HF
  rw [hf.1] at c2
  rw [hf.2.1] at c3
  replace hf := hf.2.2
  clear hb hlb HQ2 HB2 HLA hca hcb HF
  generalize win32.getD t 0 = z1 at c1 c2 c3 hf
  generalize win32.getD h 0 = z2 at c4 hf
  generalize win32.getD (h + 1) 0 = z3 at c5 hf
  generalize win32.getD o 0 = z4 at c8 hf
  obtain ⟨f1, f2, f3, f4, f5, f6, f7⟩ := hf
  have g1 : ((t : Nat) : Int) < 32 := by omega
  have g2 : ((u : Nat) : Int) < 32 := by omega
  have g3 : ((h : Nat) : Int) + 1 < 32 := by omega
  have g4 : ((o : Nat) : Int) < 32 := by omega
  have g5 : 2 * ((t : Nat) : Int) < 64 := by omega
  go_wp2
  go_quiet (fail)
  go_wp2
  go_quiet (fail)
  go_wp2
  go_ret
  exact ⟨rfl, drewn_below (drewn_below (unhide HB3) _) _⟩

theorem windw_walk (x at_ : Int) (w : World) (hq : Quar w) : Calls Tryd.prog 6 #[.int .i64 x, .int .i64 at_] w fun e w' => e = .returned (.bool true) ∧ Below w.heap.size w w' := by
  by_cases h : x % 2 = 0
  · exact windw_16 x at_ w h hq
  · exact windw_32 x at_ w (by omega) hq
end Go.Proofs.YtnncemagiobcbaaDoor
