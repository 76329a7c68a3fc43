/- The walk of TapeBack: what was written is read. -/
import Derived.Test.YtifellblfafhmaaReads
import Derived.Test.YtifellblfafhmaaShort
namespace Go.Proofs.Ytifellblfafhmaa
open Go.RowKit
set_option linter.unusedVariables false

/-- The next bytes are these. -/
theorem take_here {s : ByteArray} {a k : Nat} {l r : List UInt8} (h : (B s).drop a = l ++ r) (hk : l.length = k) (h0 : 0 < k) : takeV a s 0 k = numL l ∧ takeA a s 0 k = a + k ∧ takeE a s 0 k = 0 := by
  have hl := congrArg List.length h
  rw [List.length_drop, B_len, List.length_append] at hl
  obtain ⟨T1, T2, T3⟩ := take_yes (at_ := a) (s := s) (k := k) (by omega)
  rw [T1, T2, T3, h, List.take_append_of_le_length (by omega), List.take_of_length_le (by omega)]
  exact ⟨rfl, rfl, rfl⟩
theorem drop_more {s : ByteArray} {a k : Nat} {l r : List UInt8} (h : (B s).drop a = l ++ r) (hk : l.length = k) : (B s).drop (a + k) = r := by
  rw [← List.drop_drop, h, List.drop_append, List.drop_of_length_le (by omega), hk]
  simp
theorem rowGo_here (s : ByteArray) : ∀ (xs : List Int) (a : Nat) (r : List UInt8), (B s).drop a = xs.flatMap wordL ++ r → rowGo s xs.length a 0 = (xs.map wrap32, a + 4 * xs.length, 0)
  | [], a, r, h => rfl
  | x :: xs, a, r, h => by
    rw [List.flatMap_cons, List.append_assoc] at h
    have h4 : (wordL x).length = 4 := leL_len _ _
    obtain ⟨T1, T2, T3⟩ := take_here h h4 (by omega)
    have ih := rowGo_here s xs (a + 4) r (drop_more h h4)
    show rowGo s (xs.length + 1) a 0 = _
    unfold rowGo
    rw [T1, T2, T3, ih, wordI_of]
    simp
    omega
theorem rowR_here (s : ByteArray) (xs : List Int) (a : Nat) (r : List UInt8) (hx : xs.length ≤ 9) (h : (B s).drop a = rowW xs ++ r) : rowR s a 0 = (xs.map wrap32, a + (rowW xs).length, 0) := by
  have hl := rowW_len xs
  unfold rowW at h
  rw [List.append_assoc] at h
  have h2 : (leL 2 xs.length).length = 2 := leL_len _ _
  obtain ⟨T1, T2, T3⟩ := take_here h h2 (by omega)
  unfold rowR
  rw [T1, T2, T3, numL_le, show xs.length % 256 ^ 2 = xs.length by omega, rowGo_here s xs (a + 2) r (drop_more h h2), hl]
  simp
  omega
theorem rowXs_here (s : ByteArray) (xs : List Int) (a : Nat) (r : List UInt8) (hx : xs.length ≤ 9) (h : (B s).drop a = rowW xs ++ r) : rowXs s a 0 = xs.map wrap32 := by
  unfold rowXs
  rw [rowR_here s xs a r hx h]
  rfl
theorem allB_drop (is : List ItemD) (j : Nat) (h : j < is.length) : (allB is).drop (allB (is.take j)).length = itB is[j] ++ allB (is.drop (j + 1)) := by
  have : allB is = allB (is.take j) ++ (itB is[j] ++ allB (is.drop (j + 1))) := by
    conv => lhs; rw [← List.take_append_drop j is, List.drop_eq_getElem_cons h]
    unfold allB
    rw [List.flatMap_append, List.flatMap_cons]
  rw [this, List.drop_left]
theorem map_getD (xs : List Int) (m : Nat) (h : m < xs.length) : (xs.map wrap32).getD m 0 = wrap32 (xs.getD m 0) := by
  rw [List.getD_eq_getElem?_getD, List.getD_eq_getElem?_getD, List.getElem?_map, List.getElem?_eq_getElem h]
  rfl
theorem and255 (n : Int) : bits .and .i64 n 255 = n % 256 := i64_mask n 255 8 (by decide) (by decide)
theorem and65535 (n : Int) : bits .and .i64 n 65535 = n % 65536 := i64_mask n 65535 16 (by decide) (by decide)
theorem u64N_mod (n : Int) (k : Nat) (h : k = 1 ∨ k = 2 ∨ k = 4 ∨ k = 8) : ((u64N n % 256 ^ k : Nat) : Int) = n % 256 ^ k := by
  unfold u64N
  rcases h with rfl | rfl | rfl | rfl <;> simp <;> omega

set_option maxRecDepth 100000 in
set_option maxHeartbeats 2000000 in
theorem back_walk (a : Option Addr) (len cap : Nat) (is : List ItemD) (w : World) (hl : len ≤ 9223372036854775807) (hm : is.length = min len 30) (hi : LiesI w a is) :
    Calls Try.prog 5 #[.slice a len cap] w fun e w' => e = .returned (.bool true) ∧ Below w.heap.size w w' := by
  have HI := hide hi
  have HM := hide hm
  have H9 := hide hi.nine
  clear hi hm
  go_enter Try.func5, Try.ntmps5
  go_wp2_with fail
  refine (awake_any _).mono ?_
  rintro e w1 ⟨rfl, hb1⟩
  have HB1 := hide hb1
  have hs1 := hb1.size
  clear hb1
  go_wp2
  go_loopw [5] (fun i wr => ∃ (j : Nat), j ≤ is.length ∧ i = .int .i64 (j : Int) ∧ Hid (Wr w1.heap.size wr (allB (is.take j))) ∧ Hid (Below w.heap.size w wr)) (fun i _ => is.length - (intOf i).toNat)
  case atStart => exact ⟨0, by omega, rfl, wr_new w1 30, (unhide HB1).alloc hs1 _⟩
  case round =>
    obtain ⟨j, hj, rfl, HW, HB⟩ := hrel
    have hjm := unhide HM
    have HLen : Hid ((allB (is.take j)).length ≤ 1140) := by
      have h1 := allB_len _ (take_nine (unhide H9) j)
      show _ ≤ _
      rw [List.length_take] at h1
      omega
    by_cases hlt : j < is.length
    · have hj30 : (j : Int) < 30 := by omega
      have hjl : (j : Int) < (len : Int) := by omega
      obtain ⟨b, off, rfl, hb, hat⟩ : ∃ b off, a = some ⟨b, off, none⟩ ∧ b < w.heap.size ∧ ∀ j (h : j < is.length), ItAt w b (off + j * 3) is[j] := by
        rcases unhide HI with h | h
        · rw [h] at hlt; simp at hlt
        · exact h
      have hatj := (hat j hlt).below (unhide HB) hb
      have HNE := hide ((hat j hlt).2.2.2.lies.ne hs1)
      have HSucc := hide (allB_succ is j hlt)
      obtain ⟨q, hq⟩ : ∃ q, is[j] = q := ⟨_, rfl⟩
      rw [hq] at hatj HNE HSucc
      obtain ⟨c0, c1, c2, hit⟩ := hatj
      have HIt := hide hit
      clear hat hit hq hjm
      go_wp2_with fail
      refine (write_any q.k q.n q.a q.len q.cap q.xs _ (unhide HIt) w1.heap.size _ (unhide HW) (unhide HNE) (by have := unhide HLen; omega)).mono ?_
      rintro e w2 ⟨rfl, ho2, hw2⟩
      have HW2 : Hid (Wr w1.heap.size w2 (allB (is.take (j + 1)))) := by
        show Wr _ _ _
        rw [unhide HSucc]
        exact hw2
      have HB2 := hide ((unhide HB).trans (ho2.below (B := w.heap.size) hs1 (unhide HB).size))
      clear ho2 hw2 c0 c1 c2 HIt HW HB
      go_wp2
      go_roundw
      case rel => exact ⟨j + 1, by omega, rfl, HW2, HB2⟩
      case measure => simp [intOf]; omega
    · have HJ := hide (show j = is.length by omega)
      obtain ⟨t, ht⟩ : ∃ t, (⟨(allB (is.take j)).toArray⟩ : ByteArray) = t := ⟨_, rfl⟩
      have HT : Hid (B t = allB is) := by
        show B t = _
        rw [← ht, unhide HJ, List.take_length]
        rfl
      have HTT := hide ht
      have hts : t.size ≤ 1140 := by rw [← B_len, unhide HT]; have := unhide HLen; rwa [unhide HJ, List.take_length] at this
      have HWW : Hid (Wr w1.heap.size wr (allB is)) := by
        have := unhide HW
        rw [unhide HJ, List.take_length] at this
        exact this
      clear ht
      have hb30 : decide ((j : Int) < (len : Int)) = true → decide ((j : Int) < 30) = false := by simp; omega
      by_cases hl30 : (j : Int) < (len : Int)
      case' pos => have hj30 : ¬ ((j : Int) < 30) := by omega
      all_goals
        clear hjm hb30
        go_wp2_with fail
        refine (wtext_any w1.heap.size _ _ (unhide HW) (by have := unhide HLen; omega)).mono ?_
        rw [unhide HTT]
        rintro e w2 ⟨rfl, hb2⟩
        have HB2 := hide (below_trans (unhide HB) hb2)
        have HW2 := hide ((unhide HWW).below hb2)
        have hw12 : w1.heap.size < w2.heap.size := (unhide HW2).lt
        clear hb2 HW HB HTT HWW
        go_wp2_with fail
        refine (read_any _ _).mono ?_
        rintro e w3 ⟨rfl, rfl⟩
        go_wp2
        have hs2 := (unhide HB2).size
        go_loopw [7] (fun i wr => ∃ (p : Nat), p ≤ is.length ∧ i = .int .i64 (p : Int) ∧ Hid (Rd w2.heap.size wr (allB (is.take p)).length t 0) ∧ Hid (Below w2.heap.size w2 wr) ∧ Hid (Below w.heap.size w wr)) (fun i _ => is.length - (intOf i).toNat)
        case atStart => exact ⟨0, by omega, rfl, rd_new w2 t, (Below.refl _ _).alloc (Nat.le_refl _) _, (unhide HB2).alloc hs2 _⟩
        case round =>
          obtain ⟨p, hp, rfl, HR, HWr, HB⟩ := hrel
          have hpm := unhide HM
          by_cases hlt : p < is.length
          · have hp30 : (p : Int) < 30 := by omega
            have hpl : (p : Int) < (len : Int) := by omega
            obtain ⟨b, off, rfl, hb, hat⟩ : ∃ b off, a = some ⟨b, off, none⟩ ∧ b < w.heap.size ∧ ∀ j (h : j < is.length), ItAt w b (off + j * 3) is[j] := by
              rcases unhide HI with h | h
              · rw [h] at hlt; simp at hlt
              · exact h
            have HDr : Hid ((B t).drop (allB (is.take p)).length = itB is[p] ++ allB (is.drop (p + 1))) := by show _ = _; rw [unhide HT]; exact allB_drop is p hlt
            have HA2 : Hid ((allB (is.take (p + 1))).length = (allB (is.take p)).length + (itB is[p]).length) := by show _ = _; rw [allB_succ is p hlt, List.length_append]
            have hA : (allB (is.take p)).length ≤ t.size := by
              have := congrArg List.length (unhide HT)
              rw [B_len] at this
              rw [this]
              have h2 := congrArg List.length (allB_drop is p hlt)
              rw [List.length_drop, List.length_append] at h2
              have h3 : (allB (is.take p)).length + (allB (is.drop p)).length = (allB is).length := by
                rw [← List.length_append]
                unfold allB
                rw [← List.flatMap_append, List.take_append_drop]
              omega
            have HQ9 := hide (unhide H9 is[p] (List.getElem_mem hlt))
            obtain ⟨A2, hA2⟩ : ∃ A2, (allB (is.take (p + 1))).length = A2 := ⟨_, rfl⟩
            rw [hA2] at HA2
            have HA2' := hide hA2
            clear hA2
            generalize (allB (is.take p)).length = A at HR HDr HA2 hA
            have hatj := (hat p hlt).below (unhide HB) hb
            obtain ⟨q, hq⟩ : ∃ q, is[p] = q := ⟨_, rfl⟩
            rw [hq] at hatj HDr HA2 HQ9
            obtain ⟨c0, c1, c2, hit⟩ := hatj
            have HK := hide hit.k64
            have HIt := hide hit
            have HNE2 := hide ((hat p hlt).2.2.2.lies.ne hs2)
            rw [hq] at HNE2
            clear hat hit hq hpm
            go_wp2_with fail
            refine (kind_any q.k q.n q.a q.len q.cap _ (unhide HK)).mono ?_
            rintro e w4 ⟨rfl, hb4⟩
            have HB4' := hide hb4
            have HB4 := hide (below_trans (unhide HB) hb4)
            clear hb4
            obtain ⟨y, hy⟩ : ∃ y, q.k % 5 = y := ⟨_, rfl⟩
            have hy5 : y = 0 ∨ y = 1 ∨ y = 2 ∨ y = 3 ∨ y = 4 := by omega
            rw [hy]
            have HY := hide hy
            clear hy HK
            rcases hy5 with rfl | rfl | rfl | rfl | rfl
            case' inl =>
              have hL : itB q = leL 1 (u64N q.n) := by unfold itB itemL; rw [unhide HY]; rfl
              obtain ⟨T1, T2, T3⟩ := take_here (unhide HDr) (show (itB q).length = 1 by rw [hL, leL_len]) (by omega)
              rw [hL, numL_le] at T1
              have hA2 : A + 1 = A2 := by rw [unhide HA2, hL, leL_len]
              rw [hA2] at T2
              have hm := u64N_mod q.n 1 (by omega)
              obtain ⟨V, hV⟩ : ∃ V, u64N q.n % 256 ^ 1 = V := ⟨_, rfl⟩
              rw [hV] at T1 hm
              have hand : bits .and .i64 q.n 255 = (V : Int) := by rw [and255, hm]; rfl
              have HT := hide (And.intro T1 (And.intro T2 T3))
              clear hL T1 T2 T3 hA2 hm hV
              go_wp2_with fail
              refine (rbyte_any w2.heap.size A t 0 _ ((unhide HR).below (unhide HB4')) hA (by omega)).mono ?_
              rw [(unhide HT).1, (unhide HT).2.1, (unhide HT).2.2]
              rintro e w5 ⟨rfl, ho5, hr5⟩
              have HB5 := hide ((unhide HB4).trans (ho5.below (B := w.heap.size) hs2 (unhide HB4).size))
              have HR5 := hide hr5
              have HW5 := hide ((below_trans (unhide HWr) (unhide HB4')).trans (ho5.below (B := w2.heap.size) (Nat.le_refl _) (below_trans (unhide HWr) (unhide HB4')).size))
              clear ho5 hr5 HR HWr c0 c1 c2
              go_wp2
            case' inr.inl =>
              have hL : itB q = leL 2 (u64N q.n) := by unfold itB itemL; rw [unhide HY]; rfl
              obtain ⟨T1, T2, T3⟩ := take_here (unhide HDr) (show (itB q).length = 2 by rw [hL, leL_len]) (by omega)
              rw [hL, numL_le] at T1
              have hA2 : A + 2 = A2 := by rw [unhide HA2, hL, leL_len]
              rw [hA2] at T2
              have hm := u64N_mod q.n 2 (by omega)
              obtain ⟨V, hV⟩ : ∃ V, u64N q.n % 256 ^ 2 = V := ⟨_, rfl⟩
              rw [hV] at T1 hm
              have hand : bits .and .i64 q.n 65535 = (V : Int) := by rw [and65535, hm]; rfl
              have HT := hide (And.intro T1 (And.intro T2 T3))
              clear hL T1 T2 T3 hA2 hm hV
              go_wp2_with fail
              refine (rshort_any w2.heap.size A t 0 _ ((unhide HR).below (unhide HB4')) hA (by omega)).mono ?_
              rw [(unhide HT).1, (unhide HT).2.1, (unhide HT).2.2]
              rintro e w5 ⟨rfl, ho5, hr5⟩
              have HB5 := hide ((unhide HB4).trans (ho5.below (B := w.heap.size) hs2 (unhide HB4).size))
              have HR5 := hide hr5
              have HW5 := hide ((below_trans (unhide HWr) (unhide HB4')).trans (ho5.below (B := w2.heap.size) (Nat.le_refl _) (below_trans (unhide HWr) (unhide HB4')).size))
              clear ho5 hr5 HR HWr c0 c1 c2
              go_wp2
            case' inr.inr.inl =>
              have hL : itB q = leL 4 (u64N q.n) := by unfold itB itemL; rw [unhide HY]; rfl
              obtain ⟨T1, T2, T3⟩ := take_here (unhide HDr) (show (itB q).length = 4 by rw [hL, leL_len]) (by omega)
              rw [hL, numL_le] at T1
              have hA2 : A + 4 = A2 := by rw [unhide HA2, hL, leL_len]
              rw [hA2] at T2
              have hm := u64N_mod q.n 4 (by omega)
              have T1' : wordI (takeV A t 0 4) = wrap32 q.n := by
                rw [T1]
                unfold wordI wrap32
                rw [hm]
                show (q.n % 4294967296 + 2147483648) % 4294967296 - 2147483648 = _
                omega
              have hz64 : wrap64 (wrap32 q.n) = wrap32 q.n := by unfold wrap64 wrap32; omega
              have HT := hide (And.intro T1' (And.intro T2 T3))
              clear hL T1 T1' T2 T3 hA2 hm
              go_wp2_with fail
              refine (rword_any w2.heap.size A t 0 _ ((unhide HR).below (unhide HB4')) hA (by omega)).mono ?_
              rw [(unhide HT).1, (unhide HT).2.1, (unhide HT).2.2]
              rintro e w5 ⟨rfl, ho5, hr5⟩
              have HB5 := hide ((unhide HB4).trans (ho5.below (B := w.heap.size) hs2 (unhide HB4).size))
              have HR5 := hide hr5
              have HW5 := hide ((below_trans (unhide HWr) (unhide HB4')).trans (ho5.below (B := w2.heap.size) (Nat.le_refl _) (below_trans (unhide HWr) (unhide HB4')).size))
              clear ho5 hr5 HR HWr c0 c1 c2
              go_wp2
            case' inr.inr.inr.inl =>
              have hL : itB q = leL 8 (u64N q.n) := by unfold itB itemL; rw [unhide HY]; rfl
              obtain ⟨T1, T2, T3⟩ := take_here (unhide HDr) (show (itB q).length = 8 by rw [hL, leL_len]) (by omega)
              rw [hL, numL_le] at T1
              have hA2 : A + 8 = A2 := by rw [unhide HA2, hL, leL_len]
              rw [hA2] at T2
              have hm := u64N_mod q.n 8 (by omega)
              have hw : IntKind.u64.wrap q.n = ((takeV A t 0 8 : Nat) : Int) := by
                rw [T1, u64N_wrap, Nat.mod_eq_of_lt]
                exact u64N_lt _
              obtain ⟨V, hV⟩ : ∃ V, takeV A t 0 8 = V := ⟨_, rfl⟩
              rw [hV] at hw
              have HT := hide (And.intro hV (And.intro T2 T3))
              clear hL T1 T2 T3 hA2 hm hV
              go_wp2_with fail
              refine (rlong_any w2.heap.size A t 0 _ ((unhide HR).below (unhide HB4')) hA (by omega)).mono ?_
              rw [(unhide HT).1, (unhide HT).2.1, (unhide HT).2.2]
              rintro e w5 ⟨rfl, ho5, hr5⟩
              have HB5 := hide ((unhide HB4).trans (ho5.below (B := w.heap.size) hs2 (unhide HB4).size))
              have HR5 := hide hr5
              have HW5 := hide ((below_trans (unhide HWr) (unhide HB4')).trans (ho5.below (B := w2.heap.size) (Nat.le_refl _) (below_trans (unhide HWr) (unhide HB4')).size))
              clear ho5 hr5 HR HWr c0 c1 c2
              go_wp2
            case' inr.inr.inr.inr =>
              have hL : itB q = rowW q.xs := by unfold itB itemL; rw [unhide HY]; rfl
              have hd := unhide HDr
              rw [hL] at hd
              have hR := rowR_here t q.xs A _ (unhide HQ9) hd
              have hX := rowXs_here t q.xs A _ (unhide HQ9) hd
              have hA2 : A + (rowW q.xs).length = A2 := by rw [unhide HA2, hL]
              rw [hA2] at hR
              have HT : Hid (rowXs t A 0 = q.xs.map wrap32 ∧ (rowR t A 0).2.1 = A2 ∧ (rowR t A 0).2.2 = 0) := ⟨hX, by rw [hR], by rw [hR]⟩
              clear hL hd hR hX hA2
              go_wp2_with fail
              refine (rrow_any w2.heap.size A t 0 _ ((unhide HR).below (unhide HB4')) hA (by omega)).mono ?_
              rw [(unhide HT).1, (unhide HT).2.1, (unhide HT).2.2]
              rintro e w6 ⟨a6, cap6, he6, hl6, hp6, ho6, hr6⟩
              rw [List.length_map, (unhide HIt).nine] at he6
              subst he6
              have hb0 := (show b < w4.heap.size by have := (unhide HB4).size; omega)
              have hbne : b ≠ w2.heap.size := by omega
              have d0 : w6.cell? ⟨b, off + p * 3, none⟩ = some (.int .i64 q.k) := by rw [World.cell?_of_block (ho6.block b hb0 hbne), (unhide HB4').cell (p := ⟨b, off + p * 3, none⟩) (by have := (unhide HB).size; show b < _; omega)]; exact c0
              have d1 : w6.cell? ⟨b, off + p * 3 + 1, none⟩ = some (.int .i64 q.n) := by rw [World.cell?_of_block (ho6.block b hb0 hbne), (unhide HB4').cell (p := ⟨b, off + p * 3 + 1, none⟩) (by have := (unhide HB).size; show b < _; omega)]; exact c1
              have d2 : w6.cell? ⟨b, off + p * 3 + 2, none⟩ = some (.slice q.a q.len q.cap) := by rw [World.cell?_of_block (ho6.block b hb0 hbne), (unhide HB4').cell (p := ⟨b, off + p * 3 + 2, none⟩) (by have := (unhide HB).size; show b < _; omega)]; exact c2
              have HB6 := hide ((unhide HB4).trans (ho6.below (B := w.heap.size) hs2 (unhide HB4).size))
              have HR6 := hide hr6
              have HW6 := hide ((below_trans (unhide HWr) (unhide HB4')).trans (ho6.below (B := w2.heap.size) (Nat.le_refl _) (below_trans (unhide HWr) (unhide HB4')).size))
              have HL6 := hide hl6
              have HX6 := hide (((unhide HIt).lies.below (unhide HB4')).only ho6 (unhide HNE2))
              clear ho6 hr6 HR HWr c0 c1 c2 hl6 hp6 hb0 hbne HB4 HB4'
              go_wp2_with fail
              refine (xs_any q.k q.n q.a q.len q.cap _ (unhide HIt).le (unhide HIt).max (unhide HIt).some).mono ?_
              rintro e w7 ⟨rfl, hb7⟩
              have HB7 := hide (below_trans (unhide HB6) hb7)
              have HR7 := hide ((unhide HR6).below hb7)
              have HW7 := hide (below_trans (unhide HW6) hb7)
              have HL7 := hide ((unhide HL6).below hb7)
              have HX7 := hide ((unhide HX6).below hb7)
              clear hb7 HB6 HR6 HW6 HL6 HX6 d0 d1 d2
              have hn9 := (unhide HIt).nine
              obtain ⟨N, hN⟩ : ∃ N, min q.len 9 = N := ⟨_, rfl⟩
              rw [hN] at hn9 ⊢
              have HN9 := hide hn9
              have hN9 : N ≤ 9 := by omega
              clear hN hn9
              go_wp2
              go_loopw [12, 9] (fun i ok wr => ∃ (m : Nat), m ≤ N ∧ i = .int .i64 (m : Int) ∧ ok = .bool true ∧ Hid (∃ n, wr = w7.drewN n)) (fun i _ _ => N - (intOf i).toNat)
              case atStart => exact ⟨0, by omega, rfl, rfl, 0, rfl⟩
              case round =>
                obtain ⟨m, hm, rfl, rfl, HD⟩ := hrel
                obtain ⟨nn, hw8⟩ := unhide HD
                obtain ⟨w8, hw8'⟩ : ∃ w8, w8 = wr := ⟨_, rfl⟩
                rw [← hw8'] at hw8 ⊢
                have HD8 := hide hw8
                have hb8 : Below w7.heap.size w7 w8 := by rw [hw8]; exact below_drewN _ _
                have HBL := hide hb8
                clear hw8 hw8' HD hb8
                by_cases hmN : m < N
                · have hl1 := (unhide HL7).below (unhide HBL)
                  have hl2 := (unhide HX7).below (unhide HBL)
                  obtain ⟨b1, o1, rfl, hb1, hc1⟩ := hl1.some (by intro e; have := congrArg List.length e; rw [List.length_map, unhide HN9] at this; simp at this; omega)
                  obtain ⟨b2, o2, hqa, hb2, hc2⟩ := hl2.some (by intro e; have := congrArg List.length e; rw [unhide HN9] at this; simp at this; omega)
                  have e1 := hc1 m (by rw [List.length_map, unhide HN9]; exact hmN)
                  have e2 := hc2 m (by rw [unhide HN9]; exact hmN)
                  rw [map_getD q.xs m (by rw [unhide HN9]; exact hmN)] at e1
                  generalize q.xs.getD m 0 = z at e1 e2
                  rw [hqa]
                  have HQA := hide hqa
                  have hz64 : wrap64 (wrap32 z) = wrap32 z := by unfold wrap64 wrap32; omega
                  clear hc1 hc2 hb1 hb2 hl1 hl2 hqa
                  go_wp2
                  go_quiet (fail)
                  go_wp2
                  go_roundw
                  case rel => exact ⟨m + 1, by omega, rfl, rfl, ⟨nn + _, (congrArg (fun w => World.drewN w _) (unhide HD8)).trans (World.drewN_drewN _ _ _)⟩⟩
                  case measure => simp [intOf]; omega
                · have hmN' : m = N := by omega
                  have HR5 := hide ((unhide HR7).below (unhide HBL))
                  have HW5 := hide (below_trans (unhide HW7) (unhide HBL))
                  have HB5 := hide (below_trans (unhide HB7) (unhide HBL))
                  clear hmN'
                  go_wp2
                  go_roundw
                  case rel => exact ⟨p + 1, by omega, rfl, by rw [unhide HA2']; exact HR5, HW5, HB5⟩
                  case measure => simp [intOf]; omega
            all_goals
              go_wp2
              go_roundw
              case rel => exact ⟨p + 1, by omega, rfl, by rw [unhide HA2']; exact HR5, HW5, HB5⟩
              case measure => simp [intOf]; omega
          · have HP := hide (show p = is.length by omega)
            have HR5 : Hid (Rd w2.heap.size wr t.size t 0) := by
              have h1 := unhide HR
              rw [unhide HP, List.take_length, ← unhide HT, B_len] at h1
              exact h1
            have HWw : Hid (Wr w1.heap.size wr (allB is)) := (unhide HW2).below (unhide HWr)
            have HTs : Hid ((allB is).length = t.size) := by show _ = _; rw [← unhide HT, B_len]
            clear HR HWr
            by_cases hpl : (p : Int) < (len : Int)
            case' pos => have hp30 : ¬ ((p : Int) < 30) := by omega
            all_goals
              clear hpm
              go_wp2_with fail
              refine (rleft_any w2.heap.size t.size t 0 _ (unhide HR5) (Nat.le_refl _) (by omega)).mono ?_
              rintro e w5 ⟨rfl, nn, rfl⟩
              go_wp2_with fail
              refine (rerr_any w2.heap.size t.size t 0 _ ((unhide HR5).below (below_drewN _ _))).mono ?_
              rintro e w6 ⟨rfl, rfl⟩
              go_wp2_with fail
              refine (rat_any w2.heap.size t.size t 0 _ ((unhide HR5).below (below_drewN _ _))).mono ?_
              rintro e w7 ⟨rfl, rfl⟩
              go_wp2_with fail
              refine (wat_any w1.heap.size _ _ ((unhide HWw).below (below_drewN _ _))).mono ?_
              rw [unhide HTs]
              rintro e w8 ⟨rfl, rfl⟩
              go_wp2
              go_ret
              exact ⟨rfl, below_trans (unhide HB) (below_drewN _ _)⟩
end Go.Proofs.Ytifellblfafhmaa
