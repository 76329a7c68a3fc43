/- Contracts of logs.Log and of the document's Log. -/
import Derived.Test.YtbommgfoahopfaaBits
namespace Go.Proofs.Ytbommgfoahopfaa
open Go.RowKit
set_option linter.unusedVariables false

def nrmI (x : Int) : Int := nrm x.toNat
def logI (x : Int) : Int := logN x.toNat
theorem blI_pos (x : Int) (h : 0 < x) : 1 ≤ blI x := by
  have := (bl_ge x.toNat (by omega)).2
  unfold blI; omega

theorem nrm_moved (x : Nat) (h0 : x ≠ 0) (h1 : x < 18446744073709551616) : x * 2 ^ (64 - bl x) % 18446744073709551616 / 4294967296 = nrm x := by
  have hb := bl_le x 64 h1
  have h2 := bl_lt x
  have h3 := (bl_ge x h0).2
  have e : 2 ^ bl x * 2 ^ (64 - bl x) = 18446744073709551616 := by rw [← Nat.pow_add, show bl x + (64 - bl x) = 64 by omega]
  have h4 := (Nat.mul_lt_mul_right (Nat.two_pow_pos (64 - bl x))).2 h2
  rw [Nat.mod_eq_of_lt (by omega), show (4294967296 : Nat) = 2 ^ 32 by decide, shift_div]
  unfold nrm
  by_cases c : bl x ≤ 32
  · rw [if_pos (by omega), if_pos c, show 64 - bl x - 32 = 32 - bl x by omega]
  · rw [if_neg (by omega), if_neg c, show 32 - (64 - bl x) = bl x - 32 by omega]
theorem nrmI_moved (x : Int) (hx : U64 x) (h0 : 0 < x) : IntKind.u64.wrap (x * 2 ^ (64 - blI x).toNat) / 4294967296 = nrmI x := by
  obtain ⟨n, rfl⟩ : ∃ n : Nat, x = n := ⟨x.toNat, by omega⟩
  have h := nrm_moved n (by omega) (by have := hx.2; omega)
  unfold nrmI blI
  rw [Int.toNat_natCast, ← h, IntKind.wrap_u64, show (64 - (bl n : Int)).toNat = 64 - bl n by omega]
  simp

set_option maxHeartbeats 1000000 in
theorem moved_any (x : Int) (w : World) (hx : U64 x) (hp : 0 < x) :
    Calls Try.prog 18 #[.int .u64 x] w fun e w' => e = .returned (.int .u64 (nrmI x)) ∧ w' = w := by
  obtain ⟨b0, b1⟩ := blI_64 x hx
  have b2 := blI_pos x hp
  go_enter Try.func18, Try.ntmps18
  go_wp2_with fail
  refine (zeros_any x _ hx).mono ?_
  rintro e w' ⟨rfl, rfl⟩
  go_wp2
  go_ret
  exact ⟨ret_int (nrmI_moved x hx hp), rfl⟩

theorem i64_or_add (a b k : Nat) (hb : b < 2 ^ k) (hs : 2 ^ k * a + b < 9223372036854775808) : bits .or .i64 ((2 ^ k * a : Nat) : Int) (b : Int) = ((2 ^ k * a + b : Nat) : Int) := by
  have key : (BitVec.ofInt 64 ((2 ^ k * a : Nat) : Int) ||| BitVec.ofInt 64 (b : Int)).toNat = 2 ^ k * a + b := by
    rw [BitVec.toNat_or, BitVec.toNat_ofInt, BitVec.toNat_ofInt, Nat.two_pow_add_eq_or_of_lt hb a]
    congr 1 <;> omega
  show IntKind.i64.wrap ((BitVec.ofInt 64 ((2 ^ k * a : Nat) : Int) ||| BitVec.ofInt 64 (b : Int)).toNat : Nat) = _
  rw [key, IntKind.wrap_i64]
  omega
theorem u64_or_add (a b k : Nat) (hb : b < 2 ^ k) (hs : 2 ^ k * a + b < 18446744073709551616) : bits .or .u64 ((2 ^ k * a : Nat) : Int) (b : Int) = ((2 ^ k * a + b : Nat) : Int) := by
  have key : (BitVec.ofInt 64 ((2 ^ k * a : Nat) : Int) ||| BitVec.ofInt 64 (b : Int)).toNat = 2 ^ k * a + b := by
    rw [BitVec.toNat_or, BitVec.toNat_ofInt, BitVec.toNat_ofInt, Nat.two_pow_add_eq_or_of_lt hb a]
    congr 1 <;> omega
  show IntKind.u64.wrap ((BitVec.ofInt 64 ((2 ^ k * a : Nat) : Int) ||| BitVec.ofInt 64 (b : Int)).toNat : Nat) = _
  rw [key, IntKind.wrap_u64]
  omega
theorem or_digit (l d : Int) (h0 : 0 ≤ l) (h1 : l < 100000) (hd : d = 0 ∨ d = 1) : bits .or .i64 (l * 2) d = l * 2 + d := by
  obtain ⟨a, rfl⟩ : ∃ a : Nat, l = a := ⟨l.toNat, by omega⟩
  obtain ⟨b, rfl⟩ : ∃ b : Nat, d = b := ⟨d.toNat, by omega⟩
  have := i64_or_add a b 1 (by omega) (by omega)
  rw [show ((2 ^ 1 * a : Nat) : Int) = (a : Int) * 2 by omega] at this
  rw [this]; omega

/-- What the digits' loop keeps: the logarithm's first k digits behind its whole part. -/
def lg (n k : Nat) : Int := ((bl n - 1) * 2 ^ k + digs k (nrm n) : Nat)
def mI (n k : Nat) : Int := ms k (nrm n)
theorem lg_zero (n : Nat) (h : n ≠ 0) : lg n 0 = (bl n : Int) - 1 := by
  have := (bl_ge n h).2
  unfold lg; simp [digs]; omega
theorem lg_last (n : Nat) (h : n ≠ 0) : lg n 8 = logN n := by
  rw [logN_pos n h]
  unfold lg
  rw [Nat.mul_comm]
theorem lg_bd (n k : Nat) (hn : n < 18446744073709551616) (hk : k ≤ 8) : 0 ≤ lg n k ∧ lg n k < 17000 := by
  have h1 := digs_lt k (nrm n)
  have h2 := bl_le n 64 hn
  have h3 := Nat.pow_le_pow_right (n := 2) (by decide) hk
  have h4 : (bl n - 1) * 2 ^ k ≤ 63 * 2 ^ 8 := Nat.mul_le_mul (by omega) h3
  unfold lg
  omega
theorem mI_bd (n k : Nat) (h : n ≠ 0) : 2147483648 ≤ mI n k ∧ mI n k < 4294967296 := by
  have h1 := nrm_bd n h
  have h2 := ms_bd k _ h1.1 h1.2
  unfold mI; omega
theorem lg_step (n k : Nat) (h : n ≠ 0) :
    (4294967296 ≤ mI n k * mI n k / 2147483648 ∧ mI n (k + 1) = mI n k * mI n k / 2147483648 / 2 ∧ lg n (k + 1) = lg n k * 2 + 1) ∨
    (mI n k * mI n k / 2147483648 < 4294967296 ∧ mI n (k + 1) = mI n k * mI n k / 2147483648 ∧ lg n (k + 1) = lg n k * 2 + 0) := by
  have e1 : lg n (k + 1) = lg n k * 2 + (dg (ms k (nrm n)) : Nat) := by
    unfold lg
    rw [show digs (k + 1) (nrm n) = digs k (nrm n) * 2 + dg (ms k (nrm n)) from rfl, Nat.pow_succ, ← Nat.mul_assoc]
    omega
  have e2 : mI n (k + 1) = (nx (ms k (nrm n)) : Nat) := rfl
  have e3 : mI n k = (ms k (nrm n) : Nat) := rfl
  rw [e1, e2, e3]
  generalize ms k (nrm n) = m
  have e4 : (m : Int) * (m : Int) / 2147483648 = ((m * m / 2147483648 : Nat) : Int) := by
    rw [Int.natCast_ediv, Int.natCast_mul]; rfl
  rw [e4]
  unfold dg nx
  split
  · left; omega
  · right; omega

set_option maxHeartbeats 4000000 in
theorem log_any (x : Int) (w : World) (hx : U64 x) :
    Calls Try.prog 11 #[.int .u64 x] w fun e w' => e = .returned (.int .i64 (logI x)) ∧ w' = w := by
  obtain ⟨h0, h1⟩ := hx
  by_cases hz : x = 0
  · subst hz
    go_enter Try.func11, Try.ntmps11
    go_wp2
    go_ret
    exact ⟨rfl, rfl⟩
  · obtain ⟨n, rfl⟩ : ∃ n : Nat, x = n := ⟨x.toNat, by omega⟩
    have hn : n ≠ 0 := by omega
    have hn1 : n < 18446744073709551616 := by omega
    have hb := blI_64 n ⟨h0, h1⟩
    have HB := hide (show blI n - 1 = lg n 0 by rw [lg_zero n hn]; rfl)
    have HM := hide (show nrmI n = mI n 0 from rfl)
    have HL := hide (show lg n 8 = logI n from lg_last n hn)
    have hz' : ¬ ((n : Int) = 0) := by omega
    go_enter Try.func11, Try.ntmps11
    go_wp2_with fail
    refine (bits_any n _ ⟨h0, h1⟩).mono ?_
    rintro e w1 ⟨rfl, rfl⟩
    go_wp2_with fail
    refine (moved_any n _ ⟨h0, h1⟩ (by omega)).mono ?_
    rintro e w2 ⟨rfl, rfl⟩
    go_wp2
    go_loopw [3, 4, 13] (fun l m i wr => ∃ k : Nat, k ≤ 8 ∧ i = .int .i64 k ∧ m = .int .u64 (mI n k) ∧ l = .int .i64 (lg n k) ∧ wr = w2) (fun _ _ i _ => 8 - (intOf i).toNat)
    case atStart => exact ⟨0, by omega, rfl, by rw [← unhide HM], by rw [← unhide HB], rfl⟩
    case round =>
      obtain ⟨k, hk, rfl, rfl, rfl, rfl⟩ := hrel
      by_cases hlt : k < 8
      · obtain ⟨m1, m2⟩ := mI_bd n k hn
        obtain ⟨l1, l2⟩ := lg_bd n k hn1 hk
        have hstep := lg_step n k hn
        have hlt' : (k : Int) < 8 := by omega
        generalize hMM : mI n k = M at *
        generalize hLL : lg n k = L at *
        have q1 : 2147483648 * 2147483648 ≤ M * M := Int.mul_le_mul m1 m1 (by decide) (by omega)
        have q2 : M * M ≤ 4294967295 * 4294967295 := Int.mul_le_mul (by omega) (by omega) (by omega) (by decide)
        rcases hstep with ⟨c1, c2, c3⟩ | ⟨c1, c2, c3⟩
        · have hd : M * M / 2147483648 / 4294967296 = 1 := by omega
          have H2 := hide c2
          have H3 := hide c3
          have HO := hide (or_digit L 1 l1 (by omega) (.inr rfl))
          clear c2 c3 hb
          go_wp2
          rw [unhide HO]
          go_roundw
          case rel => exact ⟨k + 1, by omega, by go_num, by rw [unhide H2], by rw [unhide H3], trivial⟩
          case measure => simp [intOf]; omega
        · have hd : M * M / 2147483648 / 4294967296 = 0 := by omega
          have H2 := hide c2
          have H3 := hide c3
          have HO := hide (or_digit L 0 l1 (by omega) (.inl rfl))
          clear c2 c3 hb
          go_wp2
          rw [unhide HO]
          go_roundw
          case rel => exact ⟨k + 1, by omega, by go_num, by rw [unhide H2], by rw [unhide H3], trivial⟩
          case measure => simp [intOf]; omega
      · have e : k = 8 := by omega
        subst e
        go_wp2
        go_ret
        exact ⟨ret_int (unhide HL), rfl⟩

theorem nrm_half (y : Nat) (h : 4294967296 ≤ y) : nrm (y / 2) = nrm y := by
  have h1 := bl_half y (by omega)
  have h2 : 33 ≤ bl y := by
    rcases Nat.lt_or_ge (bl y) 33 with c | c
    · have := bl_lt y
      have := Nat.pow_le_pow_right (n := 2) (by decide) (show bl y ≤ 32 by omega)
      omega
    · exact c
  unfold nrm
  rw [if_neg (show ¬ bl y ≤ 32 by omega)]
  by_cases c : bl (y / 2) ≤ 32
  · rw [if_pos c, show 32 - bl (y / 2) = 0 by omega, show bl y - 32 = 1 by omega]
    simp
  · rw [if_neg c, Nat.div_div_eq_div_mul, show bl y - 32 = bl (y / 2) - 32 + 1 by omega, Nat.pow_succ, Nat.mul_comm 2]
theorem nrm_self (y : Nat) (h : 2147483648 ≤ y) (h1 : y < 4294967296) : nrm y = y := by
  have := bl_eq y 31 (by omega) (by omega)
  unfold nrm
  rw [this]; simp

def msI (v : Int) (k : Nat) : Int := ms k v.toNat
def dgI (v : Int) (k : Nat) : Int := digs k v.toNat
theorem msI_bd (v : Int) (k : Nat) (h0 : 2147483648 ≤ v) (h1 : v < 4294967296) : 2147483648 ≤ msI v k ∧ msI v k < 4294967296 := by
  have := ms_bd k v.toNat (by omega) (by omega)
  unfold msI; omega
theorem dgI_bd (v : Int) (k : Nat) (hk : k ≤ 8) : 0 ≤ dgI v k ∧ dgI v k < 256 := by
  have l1 := digs_lt k v.toNat
  have l2 := Nat.pow_le_pow_right (n := 2) (by decide) hk
  unfold dgI; omega
theorem dgI_step (v : Int) (k : Nat) :
    (4294967296 ≤ msI v k * msI v k / 2147483648 ∧ msI v (k + 1) = msI v k * msI v k / 2147483648 / 2 ∧ dgI v (k + 1) = dgI v k * 2 + 1) ∨
    (msI v k * msI v k / 2147483648 < 4294967296 ∧ msI v (k + 1) = msI v k * msI v k / 2147483648 ∧ dgI v (k + 1) = dgI v k * 2) := by
  have e1 : dgI v (k + 1) = dgI v k * 2 + (dg (ms k v.toNat) : Nat) := by
    unfold dgI
    rw [show digs (k + 1) v.toNat = digs k v.toNat * 2 + dg (ms k v.toNat) from rfl]
    omega
  have e2 : msI v (k + 1) = (nx (ms k v.toNat) : Nat) := rfl
  have e3 : msI v k = (ms k v.toNat : Nat) := rfl
  rw [e1, e2, e3]
  generalize ms k v.toNat = m
  have e4 : (m : Int) * (m : Int) / 2147483648 = ((m * m / 2147483648 : Nat) : Int) := by
    rw [Int.natCast_ediv, Int.natCast_mul]; rfl
  rw [e4]
  unfold dg nx
  split
  · left; omega
  · right; omega

set_option maxRecDepth 100000 in
set_option maxHeartbeats 4000000 in
theorem rlog_any (x : Int) (w : World) (hx : U64 x) :
    Calls Try.prog 12 #[.int .u64 x] w fun e w' => e = .returned (.int .i64 (logI x)) ∧ w' = w := by
  obtain ⟨h0, h1⟩ := hx
  by_cases hz : x = 0
  · subst hz
    go_enter Try.func12, Try.ntmps12
    go_wp2
    go_ret
    exact ⟨rfl, rfl⟩
  · obtain ⟨n, rfl⟩ : ∃ n : Nat, x = n := ⟨x.toNat, by omega⟩
    have hn : n ≠ 0 := by omega
    have hn1 : n < 18446744073709551616 := by omega
    obtain ⟨hb1, hb2⟩ := blI_64 n ⟨h0, h1⟩
    have hz' : ¬ ((n : Int) = 0) := by omega
    have HL := hide (show 256 * (blI n - 1) + ((digs 8 (nrm n) : Nat) : Int) = logI n by
      have := (bl_ge n hn).2
      unfold logI blI; rw [Int.toNat_natCast, logN_pos n hn]; omega)
    have HR := hide (nrm_bd n hn)
    go_enter Try.func12, Try.ntmps12
    go_wp2_with fail
    refine (rbits_any n _ ⟨h0, h1⟩).mono ?_
    rintro e w1 ⟨rfl, rfl⟩
    generalize hR : nrm n = R at *
    have hR' := hide hR
    clear hR
    go_wp2
    go_loopw [4] (fun m wr => ∃ Y : Int, m = .int .u64 Y ∧ 0 < Y ∧ Y ≤ 18446744073709551615 ∧ Hid (nrm Y.toNat = R) ∧ wr = w1) (fun m _ => (2147483648 - intOf m).toNat)
    case atStart => exact ⟨n, rfl, by omega, h1, hR', rfl⟩
    case round =>
      obtain ⟨Y, rfl, hY0, hY1, hY2, rfl⟩ := hrel
      by_cases hlt : Y < 2147483648
      · have H2 := hide (show nrm (Y * 2).toNat = R by
          rw [show (Y * 2).toNat = 2 * Y.toNat by omega, nrm_twice Y.toNat (by omega)]; exact unhide hY2)
        go_wp2
        go_roundw
        case rel => exact ⟨Y * 2, rfl, by omega, by omega, H2, trivial⟩
        case measure => simp [intOf]; omega
      · obtain ⟨w2, rfl⟩ : ∃ w2, w2 = wr := ⟨_, rfl⟩
        have hlt' : 2147483648 ≤ Y := by omega
        clear hlt hz hY0
        go_wp2
        go_loopw [4] (fun m wr => ∃ Y : Int, m = .int .u64 Y ∧ 2147483648 ≤ Y ∧ Y ≤ 18446744073709551615 ∧ Hid (nrm Y.toNat = R) ∧ wr = w2) (fun m _ => (intOf m).toNat)
        case atStart => exact ⟨Y, rfl, by omega, hY1, hY2, rfl⟩
        case round =>
          clear hY1 hY2 hlt'
          obtain ⟨V, rfl, hV0, hV1, hV2, rfl⟩ := hrel
          by_cases hlt : 4294967296 ≤ V
          · have H2 := hide (show nrm (V / 2).toNat = R by
              rw [show (V / 2).toNat = V.toNat / 2 by omega, nrm_half V.toNat (by omega)]; exact unhide hV2)
            go_wp2
            go_roundw
            case rel => exact ⟨V / 2, rfl, by omega, by omega, H2, trivial⟩
            case measure => simp [intOf]; omega
          · have HE := hide (show R = V.toNat by rw [← unhide hV2]; exact nrm_self V.toNat (by omega) (by omega))
            rw [show R = V.toNat from unhide HE] at HL
            clear hV2 hR' HR
            have hlt' : V < 4294967296 := by omega
            clear hlt hV1
            obtain ⟨w3, rfl⟩ : ∃ w3, w3 = wr := ⟨_, rfl⟩
            go_wp2
            go_loopw [4, 5, 6] (fun m d i wr => ∃ k : Nat, k ≤ 8 ∧ i = .int .i64 k ∧ m = .int .u64 (msI V k) ∧ d = .int .i64 (dgI V k) ∧ wr = w3) (fun _ _ i _ => 8 - (intOf i).toNat)
            case atStart => exact ⟨0, by omega, rfl, by rw [show msI V 0 = V by unfold msI ms; omega], rfl, rfl⟩
            case round =>
              obtain ⟨k, hk, rfl, rfl, rfl, rfl⟩ := hrel
              by_cases hl8 : k < 8
              · have hl8' : (k : Int) < 8 := by omega
                obtain ⟨m1, m2⟩ := msI_bd V k hV0 hlt'
                obtain ⟨l1, l2⟩ := dgI_bd V k hk
                have hstep := dgI_step V k
                generalize hMM : msI V k = M at *
                generalize hLL : dgI V k = L at *
                clear hMM hLL
                have q1 : 2147483648 * 2147483648 ≤ M * M := Int.mul_le_mul m1 m1 (by decide) (by omega)
                have q2 : M * M ≤ 4294967295 * 4294967295 := Int.mul_le_mul (by omega) (by omega) (by omega) (by decide)
                rcases hstep with ⟨c1, c2, c3⟩ | ⟨c1, c2, c3⟩
                all_goals
                  have H2 := hide c2
                  have H3 := hide c3
                  clear c2 c3
                  go_wp2
                  go_roundw
                  case rel => exact ⟨k + 1, by omega, by go_num, by rw [unhide H2], by rw [unhide H3], trivial⟩
                  case measure => simp [intOf]; omega
              · have e : k = 8 := by omega
                subst e
                obtain ⟨l3, l4⟩ := dgI_bd V 8 (Nat.le_refl _)
                go_wp2
                go_ret
                exact ⟨ret_int (unhide HL), rfl⟩
end Go.Proofs.Ytbommgfoahopfaa
