/- The document's loop: Push. -/
import Derived.Test.YtclikkhaaiihdaaRef
import Derived.BigRegion
namespace Go.Proofs.Ytclikkhaaiihdaa
open Go.RowKit
set_option linter.unusedVariables false

set_option maxHeartbeats 1000000 in
theorem rpush_width (B p h m d R k cap : Nat) (cnt : Int) (a : Option Addr) (L : List Int) (w : World) (kk : Rl B p h m d R cnt w L) (hk : k ≠ d) :
    Calls Try.prog 20 #[.pointer (some ⟨p, 0, none⟩), .slice a k cap] w fun r w' => r = .returned (.int .i64 14) ∧ w' = w := by
  have c1 := kk.me.cell 1 _ rfl
  have hne : (k : Int) ≠ (d : Int) := by omega
  clear kk
  go_enter Try.func20, Try.ntmps20
  go_wp2
  go_ret
  exact ⟨rfl, rfl⟩
set_option maxHeartbeats 1000000 in
theorem rpush_range (B p h m d R cap : Nat) (cnt : Int) (a : Option Addr) (xs L : List Int) (w : World) (kk : Rl B p h m d R cnt w L) (hl : Lies w a xs) (hxl : xs.length = d) (hx : ∃ j, j < d ∧ ¬ okW (xs.getD j 0)) (hd : d ≤ 4096) :
    Calls Try.prog 20 #[.pointer (some ⟨p, 0, none⟩), .slice a d cap] w fun r w' => r = .returned (.int .i64 16) ∧ w' = w := by
  have c1 := kk.me.cell 1 _ rfl
  have HLw := hide hl
  have HXl := hide hxl
  have HX := hide hx
  clear kk hl hxl hx
  go_enter Try.func20, Try.ntmps20
  go_wp2
  go_loopw [5, 6] (fun iv _ wr => ∃ k : Nat, k ≤ d ∧ iv = .int .i64 (k : Int) ∧ Hid (∀ j, j < k → okW (xs.getD j 0)) ∧ wr = w) (fun iv _ _ => d - (intOf iv).toNat)
  case atStart => exact ⟨0, by omega, rfl, fun j hj => by omega, rfl⟩
  case round =>
    obtain ⟨k, hk, rfl, HK, rfl⟩ := hrel
    by_cases hlt : k < d
    · have hkl : k < xs.length := by rw [unhide HXl]; exact hlt
      obtain ⟨ba, off, rfl, hb, hc⟩ := (unhide HLw).some (by intro e; rw [e] at hkl; simp at hkl)
      have hck := hc k hkl
      obtain ⟨z, hz⟩ : ∃ z, xs.getD k 0 = z := ⟨_, rfl⟩
      rw [hz] at hck
      have Hz := hide hz
      clear hc hkl hb hz
      go_wp2_with fail
      refine (ar_rword_any z _).mono ?_
      by_cases ho : okW z
      · rw [decide_eq_true ho]
        have HOK := hide ho
        clear ho
        rintro e' w3 ⟨rfl, rfl⟩
        go_wp2
        go_roundw
        case rel =>
          refine ⟨k + 1, by omega, by simp, fun j hj => ?_, trivial⟩
          by_cases hjk : j = k
          · subst hjk; rw [unhide Hz]; exact unhide HOK
          · exact unhide HK j (by omega)
        case measure => simp [intOf]; omega
      · rw [decide_eq_false ho]
        clear ho
        rintro e' w3 ⟨rfl, rfl⟩
        go_wp2
        go_ret
        exact ⟨rfl, rfl⟩
    · exfalso
      obtain ⟨j, hj1, hj2⟩ := unhide HX
      exact hj2 (unhide HK j (by omega))
set_option maxRecDepth 100000 in
set_option maxHeartbeats 4000000 in
theorem rpush_ok (B p h m d R cap : Nat) (cnt : Int) (a : Option Addr) (xs L : List Int) (w : World) (kk : Rl B p h m d R cnt w L) (h0 : 0 ≤ cnt) (h1 : cnt ≤ 9223372036854775000)
    (hl : Lies w a xs) (hxl : xs.length = d) (hx : ∀ j, j < d → okW (xs.getD j 0)) (hd : d ≤ 4096) (hna : xs ≠ [] → ∀ q, a = some q → q.block ≠ h) :
    Calls Try.prog 20 #[.pointer (some ⟨p, 0, none⟩), .slice a d cap] w fun r w' => r = .returned (.int .i64 0) ∧ Rl B p h m d R (cnt + 1) w' (pushL L 0 R d cnt xs) ∧ But (fun k => k = p ∨ k = h) w w' := by
  have c1 := kk.me.cell 1 _ rfl
  have K := hide kk
  have HLw := hide hl
  have HXl := hide hxl
  have HX := hide hx
  have HN := hide hna
  have hR := kk.has
  have hR2 : R ≤ 4096 := Nat.le_trans (kk.room ▸ room_le m _) kk.most
  have hmm := kk.most
  obtain ⟨hb1, hb2⟩ := at_bd cnt m R (d : Int) (by have := kk.pos; omega) kk.room kk.has
  obtain ⟨A, hA⟩ : ∃ A : Nat, atI cnt R (d : Int) = (A : Int) := ⟨(atI cnt R (d : Int)).toNat, by omega⟩
  have HPush : Hid (pushL L 0 R d cnt xs = layTo L A xs d) := by show _ = _; unfold pushL; rw [hA, Int.toNat_natCast, Nat.zero_add]
  rw [hA] at hb1 hb2
  obtain ⟨q, hq⟩ : ∃ q, cnt % (R : Int) = q := ⟨_, rfl⟩
  obtain ⟨hq1, hq2⟩ := emod_bd cnt R hR
  rw [hq] at hq1 hq2
  have htm : cnt.tmod (R : Int) = q := by rw [Int.tmod_eq_emod_of_nonneg h0]; exact hq
  have hqd : q * (d : Int) = (A : Int) := by rw [← hq]; exact hA
  have hR0 : (R : Int) ≠ 0 := by omega
  have hwA : IntKind.i64.wrap (A : Int) = (A : Int) := by rw [IntKind.wrap_i64]; omega
  rw [unhide HPush]
  clear kk hl hxl hx hna hA hq HPush
  go_enter Try.func20, Try.ntmps20
  go_wp2
  go_loopw [5, 6] (fun iv _ wr => ∃ k : Nat, k ≤ d ∧ iv = .int .i64 (k : Int) ∧ wr = w) (fun iv _ _ => d - (intOf iv).toNat)
  case atStart => exact ⟨0, by omega, rfl, rfl⟩
  case round =>
    obtain ⟨k, hk, rfl, rfl⟩ := hrel
    by_cases hlt : k < d
    · have hkl : k < xs.length := by rw [unhide HXl]; exact hlt
      obtain ⟨ba, off, rfl, hb, hc⟩ := (unhide HLw).some (by intro e; rw [e] at hkl; simp at hkl)
      have hck := hc k hkl
      have HZ := hide (unhide HX k hlt)
      generalize xs.getD k 0 = z at hck HZ
      clear hc hkl hb
      go_wp2_with fail
      refine (ar_rword_any z _).mono ?_
      rw [decide_eq_true (unhide HZ)]
      rintro e' w3 ⟨rfl, rfl⟩
      go_wp2
      go_roundw
      case rel => exact ⟨k + 1, by omega, by simp, trivial⟩
      case measure => simp [intOf]; omega
    · obtain rfl : d = k := by omega
      obtain ⟨w2, hw2⟩ : ∃ w2, w2 = wr := ⟨_, rfl⟩
      subst hw2
      go_wp2
      go_loopw [7] (fun jv wr => ∃ j : Nat, j ≤ d ∧ jv = .int .i64 (j : Int) ∧ Hid (Cells wr h (ints (layTo L A xs j))) ∧ Hid (Only h w2 wr)) (fun jv _ => d - (intOf jv).toNat)
      case atStart => exact ⟨0, by omega, rfl, (unhide K).row, Only.refl _ _⟩
      case round =>
        obtain ⟨j, hj, rfl, HC, HO⟩ := hrel
        have HMe : Hid (Cells wr p [.slice (some ⟨h, 0, none⟩) m m, .int .i64 (d : Int), .int .i64 (R : Int), .int .i64 cnt]) := (unhide K).me.only (unhide HO) (unhide K).ne
        clear c1
        by_cases hlt2 : j < d
        · have hjl : j < xs.length := by rw [unhide HXl]; exact hlt2
          obtain ⟨ba, off, rfl, hlt3, hcl⟩ := ((unhide HLw).only (unhide HO) (unhide HN)).some (by intro e; rw [e] at hjl; simp at hjl)
          have hck := hcl j hjl
          obtain ⟨z, hz⟩ : ∃ z, xs.getD j 0 = z := ⟨_, rfl⟩
          rw [hz] at hck
          have Hz := hide hz
          have c0 := (unhide HMe).cell 0 _ rfl
          have c1 := (unhide HMe).cell 1 _ rfl
          have c2 := (unhide HMe).cell 2 _ rfl
          have c3 := (unhide HMe).cell 3 _ rfl
          have hdst := (unhide HC).cell (A + j) _ (ints_at _ (A + j) (by rw [layTo_len, (unhide K).len]; omega))
          have hfr := (unhide HC).free (A + j)
          generalize (layTo L A xs j).getD (A + j) 0 = y at hdst
          have hwAj : IntKind.i64.wrap ((A : Int) + (j : Int)) = ((A + j : Nat) : Int) := by rw [IntKind.wrap_i64]; omega
          have hb3 : ((A + j : Nat) : Int) < (m : Int) := by omega
          have hj2 : (j : Int) < (d : Int) := by omega
          have htn : ((A : Int) + (j : Int)).toNat = A + j := by omega
          clear hcl hjl hlt3 hz
          go_wp2_with fail
          go_region
          go_wp2
          go_roundw
          case rel =>
            have hset := (unhide HC).set (A + j) (.int .i64 z)
            rw [ints_set, ← unhide Hz] at hset
            rw [← unhide Hz]
            exact ⟨j + 1, by omega, by simp, Cells.drew hset, ((unhide HO).trans (Only.setHere _ _)).drew⟩
          case measure => simp [intOf]; omega
        · obtain rfl : d = j := by omega
          have c3 := (unhide HMe).cell 3 _ rfl
          have hf := (unhide HMe).free 3
          go_wp2
          go_ret
          have k := unhide K
          refine ⟨rfl, ⟨(unhide HMe).set 3 _, (unhide HC).only (Only.setHere _ _) (fun e => k.ne e.symm), by rw [layTo_len]; exact k.len, k.ne, k.pos, k.room, k.has, k.most, k.ge⟩, ?_⟩
          exact (But.of_only (unhide HO) (Or.inr rfl)).trans (But.of_only (Only.setHere _ _) (Or.inl rfl))
end Go.Proofs.Ytclikkhaaiihdaa
