/- Contracts of logs.Root and of the document's Root. -/
import Derived.Test.YtbommgfoahopfaaLog
namespace Go.Proofs.Ytbommgfoahopfaa
open Go.RowKit
set_option linter.unusedVariables false

def rootI (x : Int) : Int := rootN x.toNat

theorem great_any (r x : Int) (b : Nat) (w : World) (h0 : 0 ≤ r) (h1 : r ≤ 4294967295) (hc : w.cell? ⟨b, 0, none⟩ = some (.int .u64 x)) :
    Calls Try.prog 20 #[.int .u64 r, .pointer (some ⟨b, 0, none⟩)] w fun e w' => e = .returned (.bool (decide (x < r * r))) ∧ w' = w := by
  have q1 : 0 ≤ r * r := Int.mul_nonneg h0 h0
  have q2 : r * r ≤ 4294967295 * 4294967295 := Int.mul_le_mul h1 h1 h0 (by decide)
  go_enter Try.func20, Try.ntmps20
  go_wp2
  go_ret
  exact ⟨rfl, rfl⟩

def RtInv (n k : Nat) (R : Int) : Prop := ∃ a : Nat, R = ((2 ^ (32 - k) * a : Nat) : Int) ∧ (2 ^ (32 - k) * a) * (2 ^ (32 - k) * a) ≤ n ∧ n < (2 ^ (32 - k) * a + 2 ^ (32 - k)) * (2 ^ (32 - k) * a + 2 ^ (32 - k)) ∧ 2 ^ (32 - k) * a + 2 ^ (32 - k) ≤ 4294967296

theorem rt_start (n : Nat) (h : n < 18446744073709551616) : RtInv n 0 0 := ⟨0, rfl, by simp, by simpa using h, by simp⟩
theorem rt_last (n : Nat) (R : Int) (h : RtInv n 32 R) : (rootN n : Int) = R := by
  obtain ⟨a, rfl, h1, h2, h3⟩ := h
  simp at h1 h2 ⊢
  exact congrArg _ (rootN_eq n a h1 h2)
theorem rt_step (n k : Nat) (R : Int) (hk : k < 32) (h : RtInv n k R) : ∃ W : Int, bits .or .u64 R (IntKind.u64.wrap (2 ^ (31 - k))) = W ∧ 0 ≤ W ∧ W ≤ 4294967295 ∧
    ((n : Int) < W * W → RtInv n (k + 1) R) ∧ (W * W ≤ (n : Int) → RtInv n (k + 1) W) := by
  obtain ⟨a, rfl, h1, h2, h3⟩ := h
  have e : 2 ^ (32 - k) = 2 * 2 ^ (31 - k) := by rw [show 32 - k = 31 - k + 1 by omega, Nat.pow_succ, Nat.mul_comm]
  have p := Nat.two_pow_pos (31 - k)
  have hp : 2 ^ (31 - k) ≤ 2147483648 := Nat.pow_le_pow_right (n := 2) (by decide) (show 31 - k ≤ 31 by omega)
  have ew : IntKind.u64.wrap (2 ^ (31 - k)) = ((2 ^ (31 - k) : Nat) : Int) := by
    rw [IntKind.wrap_u64, show ((2 : Int) ^ (31 - k)) = ((2 ^ (31 - k) : Nat) : Int) by simp]
    omega
  rw [ew, u64_or_add a (2 ^ (31 - k)) (32 - k) (by omega) (by omega)]
  unfold RtInv
  rw [show 32 - (k + 1) = 31 - k by omega]
  rw [e] at h1 h2 h3 ⊢
  generalize 2 ^ (31 - k) = q at *
  have r1 : 2 * q * a = q * (2 * a) := by grind
  have r2 : 2 * q * a + q = q * (2 * a + 1) := by grind
  have e3 : 2 * q * a + q + q = 2 * q * a + 2 * q := by omega
  refine ⟨_, rfl, by omega, by omega, fun h => ?_, fun h => ?_⟩
  · refine ⟨2 * a, by rw [r1], ?_, ?_, ?_⟩
    · rw [← r1]; exact h1
    · rw [← r1]
      have : (n : Int) < ((2 * q * a + q : Nat) : Int) * ((2 * q * a + q : Nat) : Int) := h
      rw [← Int.natCast_mul] at this
      exact Int.ofNat_lt.1 this
    · rw [← r1]; omega
  · refine ⟨2 * a + 1, by rw [r2], ?_, ?_, ?_⟩
    · rw [← r2]
      have : ((2 * q * a + q : Nat) : Int) * ((2 * q * a + q : Nat) : Int) ≤ (n : Int) := h
      rw [← Int.natCast_mul] at this
      exact Int.ofNat_le.1 this
    · rw [← r2, e3]; exact h2
    · rw [← r2, e3]; exact h3

set_option maxHeartbeats 1000000 in
theorem built_any (x : Int) (b : Nat) (w : World) (hx : U64 x) (hc : w.cell? ⟨b, 0, none⟩ = some (.int .u64 x)) :
    Calls Try.prog 19 #[.func (.func 20) #[] #[.pointer (some ⟨b, 0, none⟩)]] w fun e w' => e = .returned (.int .i64 (rootI x)) ∧ w' = w := by
  obtain ⟨h0, h1⟩ := hx
  go_enter Try.func19, Try.ntmps19
  go_wp2
  go_loopw [3, 6] (fun r i wr => ∃ (k : Nat) (R : Int), k ≤ 32 ∧ i = .int .i64 k ∧ r = .int .u64 R ∧ 0 ≤ R ∧ R ≤ 4294967295 ∧ Hid (RtInv x.toNat k R) ∧ wr = w) (fun _ i _ => 32 - (intOf i).toNat)
  case atStart => exact ⟨0, 0, by omega, rfl, rfl, by omega, by omega, rt_start _ (by omega), rfl⟩
  case round =>
    obtain ⟨k, R, hk, rfl, rfl, hR0, hR1, HR, rfl⟩ := hrel
    by_cases hlt : k < 32
    · have hlt' : (k : Int) < 32 := by omega
      obtain ⟨W, hW, hW0, hW1, hA, hB⟩ := rt_step _ k R hlt (unhide HR)
      rw [show ((x.toNat : Nat) : Int) = x by omega] at hA hB
      have H1 := hide hW
      have H2 := hide hA
      have H3 := hide hB
      clear hW hA hB
      go_wp2_with fail
      rw [unhide H1]
      refine (great_any W x b _ hW0 hW1 hc).mono ?_
      rintro e w1 ⟨rfl, rfl⟩
      by_cases c : x < W * W
      · have H4 := hide ((unhide H2) c)
        clear H2 H3 H1
        go_wp2
        go_roundw
        case rel => exact ⟨k + 1, R, by omega, by go_num, rfl, hR0, hR1, H4, trivial⟩
        case measure => simp [intOf]; omega
      · have H4 := hide ((unhide H3) (by omega))
        rw [show decide (x < W * W) = false from decide_eq_false c]
        clear H2 H3 H1 c
        go_wp2
        go_roundw
        case rel => exact ⟨k + 1, W, by omega, by go_num, rfl, hW0, hW1, H4, trivial⟩
        case measure => simp [intOf]; omega
    · have e : k = 32 := by omega
      subst e
      have HE := hide (rt_last _ R (unhide HR))
      clear HR
      go_wp2
      go_ret
      exact ⟨ret_int (unhide HE).symm, rfl⟩

set_option maxHeartbeats 1000000 in
theorem root_any (x : Int) (w : World) (hx : U64 x) :
    Calls Try.prog 13 #[.int .u64 x] w fun e w' => e = .returned (.int .i64 (rootI x)) ∧ Below w.heap.size w w' := by
  have hmf : ∀ (fn : Fn) (first cap : Array Value) (w : World), (Instr.makeFunc fn first cap).run Try.prog w = .ok (.func fn first cap) w := fun _ _ _ _ => rfl
  go_enter Try.func13, Try.ntmps13
  go_wp2_with fail
  refine (built_any x w.heap.size _ hx ?_).mono ?_
  · rw [World.cell?_alloc_at _ _ _ _ rfl]; rfl
  rintro e w1 ⟨rfl, rfl⟩
  go_wp2
  go_ret
  exact ⟨rfl, (Below.refl _ w).alloc (Nat.le_refl _) _⟩

theorem rootI_eq (x L : Int) (h0 : 0 ≤ L) (h1 : L * L ≤ x) (h2 : x < (L + 1) * (L + 1)) : rootI x = L := by
  obtain ⟨l, rfl⟩ : ∃ l : Nat, L = l := ⟨L.toNat, by omega⟩
  obtain ⟨n, rfl⟩ : ∃ n : Nat, x = n := ⟨x.toNat, by have := Int.mul_nonneg h0 h0; omega⟩
  unfold rootI
  rw [Int.toNat_natCast, rootN_eq n l (by rw [← Int.natCast_mul] at h1; omega) (by
    rw [show ((l : Int) + 1) = ((l + 1 : Nat) : Int) by simp, ← Int.natCast_mul] at h2
    exact Int.ofNat_lt.1 h2)]

set_option maxHeartbeats 1000000 in
theorem rroot_any (x : Int) (w : World) (hx : U64 x) :
    Calls Try.prog 14 #[.int .u64 x] w fun e w' => e = .returned (.int .i64 (rootI x)) ∧ w' = w := by
  obtain ⟨h0, h1⟩ := hx
  go_enter Try.func14, Try.ntmps14
  go_wp2
  go_loopw [3, 4] (fun l h wr => ∃ L H : Int, l = .int .u64 L ∧ h = .int .u64 H ∧ 0 ≤ L ∧ L < H ∧ H ≤ 4294967296 ∧ Hid (L * L ≤ x) ∧ Hid (x < H * H) ∧ wr = w) (fun l h _ => (intOf h - intOf l).toNat)
  case atStart => exact ⟨0, 4294967296, rfl, rfl, by omega, by omega, by omega, hide (by omega), hide (by omega), rfl⟩
  case round =>
    obtain ⟨L, H, rfl, rfl, hL0, hLH, hH, H1, H2, rfl⟩ := hrel
    by_cases hlt : 1 < H - L
    · have hm : 0 ≤ (L + H) / 2 ∧ (L + H) / 2 ≤ 4294967295 ∧ L < (L + H) / 2 ∧ (L + H) / 2 < H := by omega
      obtain ⟨m0, m1, m2, m3⟩ := hm
      have q1 : 0 ≤ (L + H) / 2 * ((L + H) / 2) := Int.mul_nonneg m0 m0
      have q2 : (L + H) / 2 * ((L + H) / 2) ≤ 4294967295 * 4294967295 := Int.mul_le_mul m1 m1 m0 (by decide)
      by_cases c : (L + H) / 2 * ((L + H) / 2) ≤ x
      · go_wp2
        go_roundw
        case rel => exact ⟨_, _, rfl, rfl, by omega, by omega, by omega, hide c, H2, trivial⟩
        case measure => simp [intOf]; omega
      · have c' : x < (L + H) / 2 * ((L + H) / 2) := by omega
        clear c
        go_wp2
        go_roundw
        case rel => exact ⟨_, _, rfl, rfl, by omega, by omega, by omega, H1, hide c', trivial⟩
        case measure => simp [intOf]; omega
    · have e : H = L + 1 := by omega
      subst e
      have HE := hide (rootI_eq x L hL0 (unhide H1) (unhide H2))
      go_wp2
      go_ret
      exact ⟨ret_int (unhide HE).symm, rfl⟩
end Go.Proofs.Ytbommgfoahopfaa
