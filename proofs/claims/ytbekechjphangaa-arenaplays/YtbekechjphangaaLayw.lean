/- Contract of Layout; the chapter's example. -/
import Derived.Test.YtbekechjphangaaLay
import Derived.Test.YtbekechjphangaaArena
namespace Go.Proofs.Ytbekechjphangaa
open Go.RowKit
set_option linter.unusedVariables false

def casts (ns : List Nat) : List Int := ns.map fun (n : Nat) => (n : Int)
theorem casts_len (ns : List Nat) : (casts ns).length = ns.length := by simp [casts]
theorem casts_at (ns : List Nat) (k : Nat) : (casts ns).getD k 0 = ((ns.getD k 0 : Nat) : Int) := by
  simp only [casts, List.getD_eq_getElem?_getD, List.getElem?_map]
  cases ns[k]? <;> simp
theorem casts_of (xs : List Int) (h : ∀ x ∈ xs, 0 ≤ x) : xs = casts (xs.map Int.toNat) := by
  unfold casts
  rw [List.map_map]
  conv => lhs; rw [← List.map_id xs]
  apply List.map_congr_left
  intro x hx
  have := h x hx
  simp
  omega

/-- What Layout tells. -/
def LayOut (w : World) (m : Nat) (o : Option (List Nat × Nat)) (r : Ending) (w' : World) : Prop :=
  (o = none ∧ r = .returned (.tuple #[.slice none 0 0, .int .i64 0, .int .i64 17]) ∧ Below w.heap.size w w') ∨
  (∃ p b, o = some p ∧ r = .returned (.tuple #[.slice (some ⟨b, 0, none⟩) m m, .int .i64 ((p.2 : Nat) : Int), .int .i64 0]) ∧ w.heap.size ≤ b ∧ Cells w' b (ints (casts p.1)) ∧ Below w.heap.size w w')
def mixN (P : List Nat) (r : Nat) : List Int := casts P ++ List.replicate r 0
theorem mixN_len (P : List Nat) (r : Nat) : (mixN P r).length = P.length + r := by simp [mixN, casts]
theorem mixN_set (P : List Nat) (r e : Nat) : (mixN P (r + 1)).set P.length ((e : Nat) : Int) = mixN (P ++ [e]) r := by
  simp [mixN, casts, List.replicate_succ, List.set_append_right]
theorem mixN_at (P : List Nat) (r : Nat) : (mixN P r).getD P.length 0 = 0 := by
  unfold mixN
  rw [List.getD_eq_getElem?_getD, List.getElem?_append_right (by rw [casts_len]; omega), casts_len, Nat.sub_self]
  cases r <;> simp [List.replicate_succ]
theorem mixN_zero (m : Nat) : mixN [] m = List.replicate m 0 := rfl
theorem mixN_all (P : List Nat) : mixN P 0 = casts P := by simp [mixN]

set_option maxHeartbeats 2000000 in
theorem lay_any (a : Option Addr) (m cap : Nat) (ns : List Nat) (w : World) (hl : Lies w a (casts ns)) (hm : ns.length = m) (hm2 : m ≤ 1000000) :
    Calls Try.prog 32 #[.slice a m cap] w (LayOut w m (layN ns 0)) := by
  obtain ⟨i0, hi, hz0, hz1, hz2⟩ := info_parts Try.info3
  have HI : Hid (Try.prog.info? 3 = some i0 ∧ i0.zero = some (.int .i64 0) ∧ i0.size = 1 ∧ i0.bytes = 8) := ⟨hi, hz0, hz1, hz2⟩
  have HL := hide hl
  have HM := hide hm
  obtain ⟨O, hO⟩ : ∃ O, layN ns 0 = O := ⟨_, rfl⟩
  rw [hO]
  have HO := hide hO
  clear hi hz0 hz1 hz2 hl hm hO
  go_enter Try.func32, Try.ntmps32
  go_wp2
  go_loopw [13, 6] (fun i _ wr => ∃ k : Nat, k ≤ m ∧ i = .int .i64 (k : Int) ∧ wr = w) (fun i _ _ => m - (intOf i).toNat)
  case atStart => exact ⟨0, by omega, rfl, rfl⟩
  case round =>
    obtain ⟨k, hk, rfl, rfl⟩ := hrel
    by_cases hlt : k < m
    · have hkl : k < (casts ns).length := by rw [casts_len, unhide HM]; exact hlt
      obtain ⟨b, off, rfl, hb, hc⟩ := (unhide HL).some (by intro e; rw [e] at hkl; simp at hkl)
      have hck := hc k hkl
      rw [casts_at] at hck
      generalize ns.getD k 0 = z at hck
      clear hc hkl hb
      go_wp2
      go_roundw
      case rel => exact ⟨k + 1, by omega, by simp, trivial⟩
      case measure => simp [intOf]; omega
    · obtain rfl : k = m := by omega
      go_wp2_with (at_make; refine wpList_make_full _ rfl _ _ 41 rfl wr.heap.size 3 i0 (.int .i64 0) 1 Try.underlying41 (unhide HI).1 (unhide HI).2.1 (unhide HI).2.2.1 _ _ _ _ k rfl rfl rfl rfl ?m1 ?m2 ?m3 ?_)
      case m1 => rw [(unhide HI).2.2.2]; omega
      case m2 => unfold maxLen; omega
      case m3 => exact Nat.le_refl _
      intro w1 hown hgr
      rw [ints_zero] at hown
      have HC := hide (own_cells hown)
      have HB := hide ((Below.refl wr.heap.size wr).grown hgr (Nat.le_refl _) (fun _ h => by cases h))
      clear hown hgr
      obtain ⟨w0, rfl⟩ : ∃ w0, w0 = wr := ⟨_, rfl⟩
      obtain ⟨bk, hbk⟩ : ∃ bk, w0.heap.size = bk := ⟨_, rfl⟩
      have HBK := hide hbk
      rw [hbk] at HC ⊢
      clear hbk
      go_wp2
      go_loopw [25, 8, 9, 10] (fun i e _ _ wr => ∃ (j E : Nat) (P : List Nat), j ≤ k ∧ E ≤ 4096 ∧ i = .int .i64 (j : Int) ∧ e = .int .i64 (E : Int) ∧ Hid (P.length = j) ∧ Hid (Cells wr bk (ints (mixN P (k - j)))) ∧ Hid (O = (layN (ns.drop j) E).map fun p => (P ++ p.1, p.2)) ∧ Hid (Below w0.heap.size w0 wr)) (fun i _ _ _ _ => k - (intOf i).toNat)
      case atStart => exact ⟨0, 0, [], by omega, by omega, rfl, rfl, rfl, HC, by show O = _; rw [← unhide HO]; simp, HB⟩
      case round =>
        obtain ⟨j, E, P, hj, hE, rfl, rfl, HP, HCr, HOr, HBr⟩ := hrel
        by_cases hlt : j < k
        · have hkl : j < (casts ns).length := by rw [casts_len, unhide HM]; exact hlt
          have hl1 := (unhide HL).below (unhide HBr)
          obtain ⟨b, off, rfl, hb, hc⟩ := hl1.some (by intro e; rw [e] at hkl; simp at hkl)
          have hck := hc j hkl
          rw [casts_at] at hck
          have hdr := layN_drop ns E j (by rw [unhide HM]; exact hlt) _ rfl
          generalize ns.getD j 0 = z at hck hdr
          have HD := hide hdr
          clear hc hkl hb hl1 hdr
          by_cases hroom : E + z ≤ 4096
          · have hr1 : (z : Int) ≤ 4096 - (E : Int) := by omega
            have hcell : wr.cell? ⟨bk, j, none⟩ = some (.int .i64 0) := (unhide HCr).cell j _ (by
              rw [ints_at _ _ (by rw [mixN_len, unhide HP]; omega)]
              rw [← unhide HP, mixN_at])
            have hfree : wr.frozen? ⟨bk, j, none⟩ = false := (unhide HCr).free j
            go_wp2_with fail
            rw [show (E : Int) + (z : Int) = ((E + z : Nat) : Int) by omega]
            refine (up_any (E + z) (by omega) _).mono ?_
            have hul := upN_le hroom
            rintro e' w2 ⟨rfl, rfl⟩
            have HN := hide (show O = (layN (ns.drop (j + 1)) (upN (E + z))).map fun p => ((P ++ [E]) ++ p.1, p.2) by
              rw [unhide HOr, unhide HD, if_pos hroom, Option.map_map]
              congr 1
              funext p
              simp)
            generalize upN (E + z) = E' at hul HN ⊢
            go_wp2
            go_roundw
            case rel =>
              refine ⟨j + 1, E', P ++ [E], by omega, hul, by simp, by simp, by show _ = _; rw [List.length_append, unhide HP]; rfl, ?_, HN, ?_⟩
              · have h := (unhide HCr).set j (.int .i64 (E : Int))
                rw [ints_set, show k - j = (k - (j + 1)) + 1 by omega] at h
                have hp := unhide HP
                rw [← hp] at h ⊢
                rw [mixN_set] at h
                exact h
              · exact (unhide HBr).setCell (by show _ ≤ bk; rw [unhide HBK]; exact Nat.le_refl _) _
            case measure => simp [intOf]; omega
          · have hr1 : (4096 : Int) - (E : Int) < (z : Int) := by omega
            have HN : Hid (O = none) := by
              show O = none
              rw [unhide HOr, unhide HD, if_neg hroom]
              rfl
            go_wp2
            go_ret3
            exact .inl ⟨unhide HN, rfl, unhide HBr⟩
        · obtain rfl : j = k := by omega
          go_wp2
          go_ret3
          refine .inr ⟨(P, E), bk, ?_, rfl, Nat.le_of_eq (unhide HBK), ?_, unhide HBr⟩
          · rw [unhide HOr, List.drop_of_length_le (by rw [unhide HM]; omega)]
            simp [layN]
          · have := unhide HCr
            rw [Nat.sub_self, mixN_all] at this
            exact this

set_option maxHeartbeats 2000000 in
theorem lay_neg (a : Option Addr) (m cap : Nat) (xs : List Int) (w : World) (hl : Lies w a xs) (hm : xs.length = m) (hm2 : m ≤ 1000000) (hneg : ∃ x ∈ xs, x < 0) :
    Calls Try.prog 32 #[.slice a m cap] w fun r w' => r = .returned (.tuple #[.slice none 0 0, .int .i64 0, .int .i64 1]) ∧ w' = w := by
  have HL := hide hl
  have HM := hide hm
  have HN := hide hneg
  clear hl hm hneg
  go_enter Try.func32, Try.ntmps32
  go_wp2
  go_loopw [13, 6] (fun i _ wr => ∃ k : Nat, k ≤ m ∧ i = .int .i64 (k : Int) ∧ Hid (∀ j, j < k → 0 ≤ xs.getD j 0) ∧ wr = w) (fun i _ _ => m - (intOf i).toNat)
  case atStart => exact ⟨0, by omega, rfl, fun j hj => by omega, rfl⟩
  case round =>
    obtain ⟨k, hk, rfl, HK, rfl⟩ := hrel
    by_cases hlt : k < m
    · have hkl : k < xs.length := by rw [unhide HM]; exact hlt
      obtain ⟨b, off, rfl, hb, hc⟩ := (unhide HL).some (by intro e; rw [e] at hkl; simp at hkl)
      have hck := hc k hkl
      obtain ⟨z, hz⟩ : ∃ z, xs.getD k 0 = z := ⟨_, rfl⟩
      rw [hz] at hck
      have Hz := hide hz
      clear hc hkl hb hz
      by_cases hz0 : z < 0
      · go_wp2
        go_ret3
        exact ⟨rfl, rfl⟩
      · go_wp2
        go_roundw
        case rel =>
          refine ⟨k + 1, by omega, by simp, fun j hj => ?_, trivial⟩
          by_cases hjk : j = k
          · subst hjk; rw [unhide Hz]; omega
          · exact unhide HK j (by omega)
        case measure => simp [intOf]; omega
    · exfalso
      obtain ⟨x, hx, hx0⟩ := unhide HN
      have : 0 ≤ x := by
        obtain ⟨i, hi, rfl⟩ := List.mem_iff_getElem.1 hx
        have h := unhide HK i (by rw [unhide HM] at hi; omega)
        rwa [List.getD_eq_getElem?_getD, List.getElem?_eq_getElem hi] at h
      omega

theorem lay_three : layN [3, 5, 1] 0 = some ([0, 4, 12], 16) := by decide +kernel
set_option maxHeartbeats 2000000 in
theorem awake_any (w : World) : Calls Try.prog 8 #[] w fun e w' => e = .returned (.bool true) ∧ Below w.heap.size w w' := by
  go_enter Try.func8, Try.ntmps8
  go_wp2_with fail
  refine (lay_any _ 3 _ [3, 5, 1] _ (lies_new2 w [3, 5, 1]) rfl (by omega)).mono ?_
  rw [lay_three]
  rintro e w1 (⟨h, _⟩ | ⟨p, b, hp, rfl, hb, hc, hB⟩)
  · cases h
  · cases hp
    have HB := hide (((Below.refl w.heap.size w).alloc (Nat.le_refl _) _).trans (hB.mono (by simp)))
    have HC := hide hc
    clear hb hc hB
    go_wp2_with fail
    refine (same_any _ _ _ _ [0, 4, 12] 3 rfl (by omega) _ ((unhide HC).lies.below ((Below.refl _ w1).alloc (Nat.le_refl _) _)) (lies_new2 w1 [0, 4, 12])).mono ?_
    rintro e w2 ⟨rfl, hb⟩
    have HB2 := hide (below_trans ((unhide HB).alloc (unhide HB).size _) hb)
    clear hb
    go_wp2
    go_ret
    exact ⟨rfl, unhide HB2⟩
end Go.Proofs.Ytbekechjphangaa
