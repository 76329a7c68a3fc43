/- CrcBurst returns true. -/
import Derived.Test.YtaplpknjgonolaaTell
namespace Go.Proofs.Ytaplpknjgonolaa
open Go.RowKit
set_option linter.unusedVariables false

theorem mod_at8 (t : Int) (n : Nat) (h1 : 1 ≤ n) (h2 : n ≤ 100000) : ∃ i : Nat, (wrap64 (t.tmod (8 * (n : Int)) + 8 * (n : Int))).tmod (8 * (n : Int)) = (i : Int) ∧ i < 8 * n := by
  have h := mod_bd t (8 * (n : Int)) (by omega) (by omega)
  exact ⟨((wrap64 (t.tmod (8 * (n : Int)) + 8 * (n : Int))).tmod (8 * (n : Int))).toNat, by omega, by omega⟩
/-- The low bits of a number, one more of them. -/
theorem low_succ (x k : Nat) : x % 2 ^ (k + 1) = x % 2 ^ k ^^^ ((x / 2 ^ k % 2) <<< k) := by
  apply Nat.eq_of_testBit_eq
  intro i
  rw [Nat.testBit_xor, Nat.testBit_mod_two_pow, Nat.testBit_mod_two_pow, Nat.testBit_shiftLeft]
  by_cases h : i < k
  · simp [h, show i < k + 1 by omega, show ¬ k ≤ i by omega]
  · by_cases e : i = k
    · subst e
      simp [Nat.testBit_eq_decide_div_mod_eq]
    · simp [h, show ¬ i < k + 1 by omega]
      intro _
      rw [Nat.testBit_eq_decide_div_mod_eq]
      have : x / 2 ^ k % 2 / 2 ^ (i - k) = 0 := by
        apply Nat.div_eq_of_lt
        have h1 : 2 ^ 1 ≤ 2 ^ (i - k) := Nat.pow_le_pow_right (by decide) (by omega)
        omega
      rw [this]
      rfl
/-- The byte with bit m alone. -/
def bitB (m : Nat) : UInt8 := UInt8.ofNat (2 ^ m)
theorem bitB_nat (m : Nat) (h : m < 8) : (bitB m).toNat = 2 ^ m := by
  unfold bitB
  rw [UInt8.toNat_ofNat']
  apply Nat.mod_eq_of_lt
  exact Nat.pow_lt_pow_right (by decide) h
theorem turn_byte (c : UInt8) (m : Nat) (h : m < 8) : bits .xor .u8 (c.toNat : Int) (2 ^ m % 256) = ((c ^^^ bitB m).toNat : Int) := by
  have h1 : 2 ^ m < 256 := Nat.pow_lt_pow_right (n := 8) (a := 2) (by decide) h
  have e : ((2 : Int) ^ m % 256) = ((2 ^ m : Nat) : Int) := by
    rw [Int.natCast_pow]
    apply Int.emod_eq_of_lt
    · exact Int.pow_nonneg (by decide)
    · have : ((2 ^ m : Nat) : Int) < 256 := by omega
      rw [Int.natCast_pow] at this
      exact this
  rw [e, u8_xor_nat c.toNat (2 ^ m) (byte_lt c) h1, UInt8.toNat_xor, bitB_nat m h]
theorem turn_num (l : List UInt8) (a : Nat) (h : a / 8 < l.length) : numN (l.set (a / 8) (l[a / 8] ^^^ bitB (a % 8))) = numN l ^^^ (1 <<< a) := by
  rw [num_set l (a / 8) _ h, bitB_nat _ (by omega)]
  congr 1
  rw [← Nat.one_shiftLeft, ← Nat.shiftLeft_add]
  congr 1
  omega
theorem low_one (x k : Nat) (h : x / 2 ^ k % 2 = 1) : x % 2 ^ (k + 1) = x % 2 ^ k ^^^ (1 <<< k) := by rw [low_succ, h]
theorem low_not (x k : Nat) (h : ¬ x / 2 ^ k % 2 = 1) : x % 2 ^ (k + 1) = x % 2 ^ k := by
  rw [low_succ, show x / 2 ^ k % 2 = 0 by omega]
  simp
theorem low_pos (x k : Nat) (h : x / 2 ^ k % 2 = 1) : x % 2 ^ (k + 1) ≠ 0 := by
  rw [Nat.mod_pow_succ, h]
  have := Nat.two_pow_pos k
  omega
theorem num_next (l : List UInt8) (N x k a : Nat) (hl : (a + k) / 8 < l.length) (hn : numN l = N ^^^ ((x % 2 ^ k) <<< a)) (h : x / 2 ^ k % 2 = 1) :
    numN (l.set ((a + k) / 8) (l[(a + k) / 8] ^^^ bitB ((a + k) % 8))) = N ^^^ ((x % 2 ^ (k + 1)) <<< a) := by
  rw [turn_num l (a + k) hl, hn, low_one x k h, Nat.shiftLeft_xor_distrib, Nat.xor_assoc, ← Nat.shiftLeft_add, Nat.add_comm k a]
theorem open_burst (t : ByteArray) (l : List UInt8) (at_ wd : Nat) (hl : l.length = (sealB t).size) (hn : numN l = numN (B (sealB t)) ^^^ (wd <<< at_)) (hw : wd < 4294967296) (h0 : wd ≠ 0) (ha : at_ < 8 * l.length) :
    openB ⟨l.toArray⟩ = (⟨#[]⟩, false) := by
  unfold openB
  split
  · rfl
  · rw [if_neg]
    intro e
    have e' := congrArg B e
    rw [B_seal] at e'
    exact burst_found (B t) l _ at_ wd (by rw [hl, ← B_seal, B_len]) hn hw h0 ha e'
theorem text_le (l : List UInt8) (n : Nat) (h : l.length = n) (h2 : n ≤ 1000000) : (ByteArray.mk l.toArray).size ≤ 1000000 := by
  show l.toArray.size ≤ _
  rw [List.size_toArray, h]
  exact h2
theorem bit_one (x k : Nat) (hx : x < 4294967296) (hk : k < 32) : bits .and .u32 ((x : Int) / 2 ^ k) 1 = ((x / 2 ^ k % 2 : Nat) : Int) := by
  have h := u32_and_nat (x / 2 ^ k) 1 (Nat.lt_of_le_of_lt (Nat.div_le_self _ _) hx) (by decide)
  rw [nat_mask1] at h
  rw [← h]
  congr 1

set_option maxRecDepth 100000 in
set_option maxHeartbeats 1600000 in
theorem burst_walk (s : ByteArray) (p : Int) (wd : Nat) (w : World) (hp : In64 p) (hwd : wd < 4294967296) : Calls Try.prog 6 #[.string s, .int .i64 p, .int .u32 (wd : Int)] w fun e w' => e = .returned (.bool true) ∧ Below w.heap.size w w' := by
  obtain ⟨t, ht⟩ : ∃ t, shortB s = t := ⟨_, rfl⟩
  have htl : t.size ≤ 60 := by rw [← ht]; exact shortB_le s
  obtain ⟨f, hf⟩ : ∃ f, sealB t = f := ⟨_, rfl⟩
  have hfs : f.size = t.size + 4 := by rw [← hf]; exact size_seal t
  obtain ⟨at_, hat, hatl⟩ := mod_at8 p f.size (by omega) (by omega)
  have HT := hide ht
  have HF := hide hf
  have HTL := hide htl
  have HWD := hide hwd
  have hf4 : 4 ≤ f.size := by omega
  have hf64 : f.size ≤ 64 := by omega
  have hf4' : ¬ (f.size : Int) < 4 := by omega
  clear ht hf hfs htl
  go_enter Try.func6, Try.ntmps6
  go_wp2_with fail
  refine (awake_any _).mono ?_
  rintro e w1 ⟨rfl, hb⟩
  have HB1 := hide hb
  clear hb
  go_wp2_with fail
  refine (short_any s _).mono ?_
  rintro e w1 ⟨rfl, rfl⟩
  rw [unhide HT]
  go_wp2_with fail
  refine (seal_any t _ (by have := unhide HTL; omega)).mono ?_
  rintro e w2 ⟨rfl, hb⟩
  rw [unhide HF]
  obtain ⟨C, W, hconv, hbW, hrow⟩ := bytes_of f w2
  have hb2 := below_trans (unhide HB1) hb
  have HGL := hide hb2.size
  have HB2 := hide (below_trans hb2 hbW)
  obtain ⟨g, hg⟩ : ∃ g, w2.heap.size = g := ⟨_, rfl⟩
  rw [hg] at hconv hrow HGL
  have HR := hide hrow
  clear hb hb2 hbW HB1 hg hrow
  go_wp2
  clear hconv hat
  go_loopw [11, 12] (fun b i wr => ∃ (k : Nat) (l : List UInt8), k ≤ 32 ∧ b = .bool (decide (wd % 2 ^ k ≠ 0)) ∧ i = .int .i64 (k : Int) ∧ l.length = f.size ∧ Hid (RowB wr g l) ∧ Hid (Below w.heap.size w wr) ∧ Hid (numN l = numN (B f) ^^^ ((wd % 2 ^ k) <<< at_))) (fun _ i _ => 32 - (intOf i).toNat)
  case atStart => exact ⟨0, B f, by omega, by simp [Nat.mod_one], rfl, B_len f, HR, HB2, by show numN (B f) = _; simp [Nat.mod_one]⟩
  case round =>
    obtain ⟨k, l, hk, rfl, rfl, hll, HR, HB, HN⟩ := hrel
    have hE : ∀ (k : Nat) (l : List UInt8), True := fun _ _ => trivial
    by_cases hc : k < 32 ∧ at_ + k < 8 * f.size
    · obtain ⟨hk32, hka⟩ := hc
      have hk32' : (k : Int) < 32 := by omega
      have hka' : (at_ : Int) + k < 8 * f.size := by omega
      have hka'' : (at_ : Int) + k ≤ 512 := by omega
      by_cases hbit : wd / 2 ^ k % 2 = 1
      · have hJ : (at_ + k) / 8 < l.length := by omega
        have hb1 := bit_one wd k hwd (by omega)
        rw [hbit] at hb1
        have e0 := (unhide HR).cell _ hJ
        have e1 := (unhide HR).free _ hJ
        obtain ⟨c, hc⟩ : ∃ c, l[(at_ + k) / 8] = c := ⟨_, rfl⟩
        rw [hc] at e0
        have hxx := turn_byte c ((at_ + k) % 8) (by omega)
        have HN' := hide (num_next l _ wd k at_ hJ (unhide HN) hbit)
        have HR' := hide ((unhide HR).set ((at_ + k) / 8) (c ^^^ bitB ((at_ + k) % 8)) hJ)
        rw [hc] at HN'
        have HD := hide (low_pos wd k hbit)
        clear HN hc
        go_wp2
        go_roundw
        case rel => exact ⟨k + 1, _, by omega, by simp [unhide HD], rfl, by rw [List.length_set]; exact hll, HR', hide ((unhide HB).setCell (unhide HGL) _), HN'⟩
        case measure => simp [intOf]; omega
      · have hb1 := bit_one wd k hwd (by omega)
        rw [show wd / 2 ^ k % 2 = 0 by omega] at hb1
        have HD := hide (low_not wd k hbit)
        go_wp2
        go_roundw
        case rel => exact ⟨k + 1, l, by omega, by rw [unhide HD], rfl, hll, HR, HB, by show numN l = _; rw [unhide HD]; exact unhide HN⟩
        case measure => simp [intOf]; omega
    · have hend : (k < 32 ∧ ¬ (at_ : Int) + k < 8 * f.size) ∨ k = 32 := by omega
      obtain ⟨x, hx⟩ : ∃ x, wd % 2 ^ k = x := ⟨_, rfl⟩
      have HX : Hid (x < 4294967296) := by show x < 4294967296; rw [← hx]; exact Nat.lt_of_le_of_lt (Nat.mod_le _ _) hwd
      rw [hx] at HN
      have hkk : (k : Int) ≤ 32 := by omega
      have hatl' : (at_ : Int) < 8 * f.size := by omega
      have hat512 : (at_ : Int) ≤ 512 := by omega
      rw [hx]
      have HA := hide hatl
      clear hx hwd hc hatl hE
      by_cases h0 : x = 0
      · subst h0
        have hJ : at_ / 8 < l.length := by have := unhide HA; omega
        have e0 := (unhide HR).cell _ hJ
        have e1 := (unhide HR).free _ hJ
        obtain ⟨c, hc⟩ : ∃ c, l[at_ / 8] = c := ⟨_, rfl⟩
        rw [hc] at e0
        have hxx := turn_byte c (at_ % 8) (by omega)
        obtain ⟨d, hd⟩ : ∃ d, c ^^^ bitB (at_ % 8) = d := ⟨_, rfl⟩
        rw [hd] at hxx
        have HN' : Hid (numN (l.set (at_ / 8) d) = numN (B f) ^^^ (1 <<< at_)) := by
          show _ = _
          rw [← hd, ← hc, turn_num l at_ hJ, unhide HN]
          simp
        have hr' := (unhide HR).set (at_ / 8) d hJ
        have hcv := text_of hr' f.size C (by rw [List.length_set]; exact hll)
        have HL' : Hid ((l.set (at_ / 8) d).length = f.size) := by show _ = _; rw [List.length_set]; exact hll
        have HB' : Hid (Below w.heap.size w (wr.setCell ⟨g, at_ / 8, none⟩ (.int .u8 (d.toNat : Int)))) := (unhide HB).setCell (unhide HGL) _
        have HO : Hid (openB ⟨(l.set (at_ / 8) d).toArray⟩ = (⟨#[]⟩, false)) :=
          open_burst t _ at_ 1 (by rw [unhide HL', unhide HF]) (by rw [unhide HF]; exact unhide HN') (by decide) (by decide) (by rw [unhide HL']; exact unhide HA)
        clear HN hc hr' HR HB hd
        rcases hend with ⟨h1, h2⟩ | rfl
        · go_wp2_with fail
          refine (open_any _ _ (text_le _ _ (unhide HL') (by omega))).mono ?_
          rintro e w3 ⟨rfl, hb⟩
          rw [unhide HO]
          have HB4 := hide (below_trans (unhide HB') hb)
          clear hb hcv
          go_wp2
          go_ret
          exact ⟨rfl, unhide HB4⟩
        · go_wp2_with fail
          refine (open_any _ _ (text_le _ _ (unhide HL') (by omega))).mono ?_
          rintro e w3 ⟨rfl, hb⟩
          rw [unhide HO]
          have HB4 := hide (below_trans (unhide HB') hb)
          clear hb hcv
          go_wp2
          go_ret
          exact ⟨rfl, unhide HB4⟩
      · have hd : (decide (x ≠ 0)) = true := by simp [h0]
        rw [hd]
        have hcv := text_of (unhide HR) f.size C hll
        have HO : Hid (openB ⟨l.toArray⟩ = (⟨#[]⟩, false)) :=
          open_burst t _ at_ x (by rw [hll, unhide HF]) (by rw [unhide HF]; exact unhide HN) (unhide HX) h0 (by rw [hll]; exact unhide HA)
        have HL' : Hid (l.length = f.size) := hll
        have HB' := HB
        clear HN HR HB hd
        rcases hend with ⟨h1, h2⟩ | rfl
        · go_wp2_with fail
          refine (open_any _ _ (text_le _ _ (unhide HL') (by omega))).mono ?_
          rintro e w3 ⟨rfl, hb⟩
          rw [unhide HO]
          have HB4 := hide (below_trans (unhide HB') hb)
          clear hb hcv
          go_wp2
          go_ret
          exact ⟨rfl, unhide HB4⟩
        · go_wp2_with fail
          refine (open_any _ _ (text_le _ _ (unhide HL') (by omega))).mono ?_
          rintro e w3 ⟨rfl, hb⟩
          rw [unhide HO]
          have HB4 := hide (below_trans (unhide HB') hb)
          clear hb hcv
          go_wp2
          go_ret
          exact ⟨rfl, unhide HB4⟩

theorem burst_came (s : ByteArray) (p x : Int) (w : World) (hp : In64 p) (hx : 0 ≤ x ∧ x ≤ 4294967295) : Calls Try.prog 6 #[.string s, .int .i64 p, .int .u32 x] w fun e w' => e = .returned (.bool true) ∧ Below w.heap.size w w' := by
  obtain ⟨wd, rfl⟩ : ∃ wd : Nat, x = (wd : Int) := ⟨x.toNat, by omega⟩
  exact burst_walk s p wd w hp (by omega)
end Go.Proofs.Ytaplpknjgonolaa
