/- Contracts of write, Push of a loop. -/
import Derived.Test.YtclikkhaaiihdaaRead
namespace Go.Proofs.Ytclikkhaaiihdaa
open Go.RowKit
set_option linter.unusedVariables false

/-- L with the first j words of xs laid from k on. -/
def layTo (L : List Int) (k : Nat) (xs : List Int) : Nat → List Int
  | 0 => L
  | j + 1 => (layTo L k xs j).set (k + j) (xs.getD j 0)
theorem layTo_len (L : List Int) (k : Nat) (xs : List Int) : ∀ j, (layTo L k xs j).length = L.length
  | 0 => rfl
  | j + 1 => by show ((layTo L k xs j).set _ _).length = _; rw [List.length_set, layTo_len L k xs j]

set_option maxHeartbeats 1000000 in
theorem put_in (c g n o m k : Nat) (x : Int) (L : List Int) (e : Int) (w : World) (h : Ar c g n w L e) (hm : o + m ≤ n) (hk : k < m) (hx : okW x) :
    Calls Try.prog 46 #[.pointer (some ⟨c, 0, none⟩), .slice (some ⟨g, o, none⟩) m m, .int .i64 (k : Int), .int .i64 x] w fun r w' => r = .returned (.tuple #[]) ∧ Only g w w' ∧ Ar c g n w' (L.set (o + k) x) e := by
  have hcell := h.word (o + k) (by omega)
  have hfree := h.row.free (o + k)
  have H := hide h
  have HD := hide (show decide (inR m (k : Int)) = true from decide_eq_true ⟨by omega, by omega⟩)
  have HX := hide (decide_eq_true hx)
  clear h hx
  go_enter Try.func46, Try.ntmps46
  go_wp2_with fail
  refine (has_any _ _ _ _ _).mono ?_
  rw [unhide HD]
  rintro e' w' ⟨rfl, rfl⟩
  go_wp2_with fail
  refine (isword_any _ _).mono ?_
  rw [unhide HX]
  rintro e' w' ⟨rfl, rfl⟩
  go_wp2
  go_end0
  exact ⟨rfl, Only.setHere _ _, (unhide H).setWord _ _⟩
set_option maxHeartbeats 1000000 in
theorem pput_at (b c g o m n k : Nat) (i x : Int) (L : List Int) (e : Int) (w : World) (hi : i = (k : Int)) (h : Pt b c g o m w) (ha : Ar c g n w L e) (hm : o + m ≤ n) (hk : k < m) (hx : okW x) :
    Calls Try.prog 44 #[.pointer (some ⟨b, 0, none⟩), .int .i64 i, .int .i64 x] w fun r w' => r = .returned (.tuple #[]) ∧ Only g w w' ∧ Ar c g n w' (L.set (o + k) x) e := by
  have h0 : w.cell? ⟨b, 0, none⟩ = some (.pointer (some ⟨c, 0, none⟩)) := h.cell 0 _ rfl
  have h1 : w.cell? ⟨b, 1, none⟩ = some (.slice (some ⟨g, o, none⟩) m m) := h.cell 1 _ rfl
  subst hi
  have K := hide (put_in c g n o m k x L e w.drew ha.drew hm hk hx)
  clear h ha
  go_enter Try.func44, Try.ntmps44
  go_wp2_with fail
  go_region_with (first | (go_at_call 46; refine (unhide K).mono ?_; rintro e' w' ⟨rfl, ho, ha⟩; have HO := hide ho; have HA := hide ha; clear ho ha))
  all_goals (go_wp2; go_end0; exact ⟨rfl, only_undrew (unhide HO), unhide HA⟩)

set_option maxHeartbeats 2000000 in
theorem write_any (l b c g o m n R d cap : Nat) (cnt : Int) (a : Option Addr) (xs L : List Int) (w : World) (h : Lo l b c g o m (d : Int) R cnt w) (ha : Ar c g n w L 0) (hm : o + m ≤ n) (h0 : 0 ≤ cnt) (h1 : cnt ≤ 9223372036854775000)
    (hl : Lies w a xs) (hxl : xs.length = d) (hx : ∀ j, j < d → okW (xs.getD j 0)) (hlb : l ≠ b) (hlc : l ≠ c) (hlg : l ≠ g) (hbg : b ≠ g) (hna : xs ≠ [] → ∀ p, a = some p → p.block ≠ g) :
    Calls Try.prog 35 #[.pointer (some ⟨l, 0, none⟩), .slice a d cap] w fun r w' => r = .returned (.tuple #[]) ∧ Lo l b c g o m (d : Int) R (cnt + 1) w' ∧ Ar c g n w' (layTo L (o + (atI cnt R d).toNat) xs d) 0 ∧ But (fun k => k = l ∨ k = g) w w' := by
  have c2 := h.me.cell 2 _ rfl
  have H := hide h
  have HA := hide ha
  have HLi := hide hl
  have HX := hide hx
  have HXl := hide hxl
  have HN := hide hna
  obtain ⟨hb1, hb2⟩ := at_bd cnt m R (d : Int) h.pos h.room h.has
  have hmm := h.most
  have hp := h.pos
  have HPl := hide (place_any l b c g o m R d cnt cnt w h h0 (by omega))
  obtain ⟨p, hat⟩ : ∃ p : Nat, atI cnt R (d : Int) = (p : Int) := ⟨(atI cnt R (d : Int)).toNat, by omega⟩
  rw [hat] at hb1 hb2 HPl ⊢
  rw [Int.toNat_natCast]
  clear h ha hat hl hx hxl hna
  go_enter Try.func35, Try.ntmps35
  go_wp2_with fail
  refine (unhide HPl).mono ?_
  rintro e' w1 ⟨rfl, nq, rfl⟩
  clear c2
  go_wp2
  go_loopw [15, 5, 6] (fun iv _ _ wr => ∃ j : Nat, j ≤ d ∧ iv = .int .i64 (j : Int) ∧ Hid (Ar c g n wr (layTo L (o + p) xs j) 0) ∧ Hid (Only g w wr)) (fun iv _ _ _ => d - (intOf iv).toNat)
  case atStart => exact ⟨0, by omega, rfl, (unhide HA).below (below_drewN _ _), Only.of_below (below_drewN _ _)⟩
  case round =>
    obtain ⟨j, hj, rfl, HAr, HOr⟩ := hrel
    have HMe : Hid (Cells wr l [.pointer (some ⟨b, 0, none⟩), .int .i64 (d : Int), .int .u64 cnt]) := Cells.only (unhide H).me (unhide HOr) hlg
    have HPt : Hid (Pt b c g o m wr) := Cells.only (unhide H).pt (unhide HOr) hbg
    by_cases hlt : j < d
    · have c0 := (unhide HMe).cell 0 _ rfl
      have hjl : j < xs.length := by rw [unhide HXl]; exact hlt
      obtain ⟨ba, off, rfl, hlt2, hcl⟩ := ((unhide HLi).only (unhide HOr) (unhide HN)).some (by intro e; rw [e] at hjl; simp at hjl)
      have hck := hcl j hjl
      have HZ := hide (unhide HX j hlt)
      obtain ⟨z, hz⟩ : ∃ z, xs.getD j 0 = z := ⟨_, rfl⟩
      rw [hz] at hck HZ
      have Hz := hide hz
      clear hcl hjl hlt2 hz
      go_wp2_with fail
      refine (pput_at b c g o m n (p + j) _ z _ 0 _ (by omega) (unhide HPt) (unhide HAr) hm (by omega) (unhide HZ)).mono ?_
      rintro e' w3 ⟨rfl, ho, ha⟩
      have HO3 := hide ho
      have HA3 := hide ha
      clear ho ha
      go_wp2
      go_roundw
      case rel =>
        refine ⟨j + 1, by omega, by simp, ?_, (unhide HOr).trans (unhide HO3)⟩
        have h3 := unhide HA3
        rw [← Nat.add_assoc, ← unhide Hz] at h3
        exact h3
      case measure => simp [intOf]; omega
    · obtain rfl : j = d := by omega
      have c2 := (unhide HMe).cell 2 _ rfl
      have hf := (unhide HMe).free 2
      go_wp2
      go_end0
      refine ⟨rfl, ⟨(unhide HMe).set 2 _, Cells.only (unhide HPt) (Only.setHere 2 _) (fun e => hlb e.symm), (unhide H).pos, (unhide H).small, (unhide H).room, (unhide H).has, (unhide H).most⟩, ?_, ?_⟩
      · exact ⟨(unhide HAr).len, (unhide HAr).me.only (Only.setHere 2 _) (fun e => hlc e.symm), (unhide HAr).row.only (Only.setHere 2 _) (fun e => hlg e.symm), (unhide HAr).ne⟩
      · exact (But.of_only (unhide HOr) (Or.inr rfl)).trans (But.of_only (Only.setHere 2 _) (Or.inl rfl))
end Go.Proofs.Ytclikkhaaiihdaa
