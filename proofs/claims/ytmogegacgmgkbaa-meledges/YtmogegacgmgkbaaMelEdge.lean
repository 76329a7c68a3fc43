/- Edges: the code's and the document's. -/
import Derived.Test.YtmogegacgmgkbaaMelLeaf
namespace Go.Proofs.Ytmogegacgmgkbaa
open Go.RowKit
set_option linter.unusedVariables false

def edgesI (bins bands : Int) : List Int := if 2 ≤ bins ∧ bins ≤ 65 ∧ 1 ≤ bands ∧ bands ≤ 16 then edgesL bins.toNat bands.toNat else []
theorem edgesI_yes (n M : Nat) (h1 : 2 ≤ n) (h2 : n ≤ 65) (h3 : 1 ≤ M) (h4 : M ≤ 16) : edgesI (n : Int) (M : Int) = edgesL n M := by
  unfold edgesI; rw [if_pos (by omega)]; simp
theorem edgesI_no (a b : Int) (h : ¬ (2 ≤ a ∧ a ≤ 65 ∧ 1 ≤ b ∧ b ≤ 16)) : edgesI a b = [] := by unfold edgesI; rw [if_neg h]
theorem edgesI_le (a b : Int) : (edgesI a b).length ≤ 18 := by
  by_cases h : 2 ≤ a ∧ a ≤ 65 ∧ 1 ≤ b ∧ b ≤ 16
  · unfold edgesI; rw [if_pos h, edgesL, mkL_len]; omega
  · rw [edgesI_no a b h]; simp
/-- The row with its first k edges. -/
def edgesTo (n M k : Nat) : List Int := mkL (M + 2) fun j => if j < k then (edgeN n M j : Int) else 0
theorem edgesTo_zero (n M : Nat) : List.replicate (M + 2) (0 : Int) = edgesTo n M 0 := by
  symm; exact mkL_eq _ _ _ (by simp) (fun i hi => by simp [List.getD_eq_getElem?_getD, hi])
theorem edgesTo_all (n M : Nat) : edgesTo n M (M + 2) = edgesL n M := mkL_congr _ _ _ fun i hi => by rw [if_pos hi]
theorem edgesTo_len (n M k : Nat) : (edgesTo n M k).length = M + 2 := mkL_len _ _
theorem edgesTo_step (n M k : Nat) (h : k < M + 2) : (edgesTo n M k).set k (edgeN n M k : Int) = edgesTo n M (k + 1) := by
  symm
  refine mkL_eq _ _ _ (by rw [List.length_set, edgesTo_len]) fun i hi => ?_
  have hf : (if i < k + 1 then (edgeN n M i : Int) else 0) = if i = k then (edgeN n M k : Int) else if i < k then (edgeN n M i : Int) else 0 := by
    by_cases e : i = k
    · subst e; simp
    · rw [if_neg e]
      by_cases c : i < k
      · rw [if_pos c, if_pos (by omega)]
      · rw [if_neg c, if_neg (by omega)]
  rw [hf, getD_set, edgesTo_len]
  by_cases e : i = k
  · subst e; rw [if_pos rfl, if_pos ⟨rfl, h⟩]
  · rw [if_neg e, if_neg (fun c : k = i ∧ _ => e c.1.symm), edgesTo, mkL_at _ _ _ hi]

theorem prod_hi (x m : Int) (h0 : 0 ≤ x) (h1 : x ≤ 1000) (h2 : 0 ≤ m) (h3 : m ≤ 17) : 0 ≤ x * m ∧ x * m ≤ 17000 := by
  refine ⟨Int.mul_nonneg h0 h2, ?_⟩
  have := Int.mul_le_mul h1 h3 h2 (by omega : (0 : Int) ≤ 1000)
  omega

set_option maxRecDepth 100000 in
theorem edges_yes (n M : Nat) (w : World) (h1 : 2 ≤ n) (h2 : n ≤ 65) (h3 : 1 ≤ M) (h4 : M ≤ 16) :
    Calls Try.prog 10 #[.int .i64 (n : Int), .int .i64 (M : Int)] w (Told (edgesL n M) w) := by
  obtain ⟨i0, hi, hz0, hz1, hz2⟩ := info_parts Try.info3
  obtain ⟨p, hp⟩ : ∃ p, n = p + 1 := ⟨n - 1, by omega⟩
  obtain ⟨D, hD⟩ : ∃ D, D = M + 2 := ⟨_, rfl⟩
  obtain ⟨w1, hrun, hown, hgr⟩ := run_makeSlice_full (P := Try.prog) w.drew w.heap.size 25 3 i0 (.int .i64 0) 1 Try.underlying25 hi hz0 hz1 .i64 .i64 D (by omega) (by rw [hz2]; omega) (by unfold maxLen; omega) (Nat.le_refl _)
  have hown : w1.ownsRow w.heap.size 3 1 (.slice (some ⟨w.heap.size, 0, none⟩) D D) D (ints (List.replicate D 0)) := by
    rw [← ints_zero]; have h := hown; rw [Nat.mul_one] at h; exact h
  have HO := hide (own_cells hown)
  have HB := hide (((Below.refl w.heap.size w).drew).grown hgr (Nat.le_refl _) (fun _ h => by cases h))
  have htb := hi_bds p (by omega)
  obtain ⟨T, hT⟩ : ∃ T, hiN p = T := ⟨_, rfl⟩
  rw [hT] at htb
  have HT := hide hT
  have g1 : ¬ (n : Int) < 2 := by omega
  have g2 : ¬ (65 : Int) < n := by omega
  have g3 : ¬ (M : Int) < 1 := by omega
  have g4 : ¬ (16 : Int) < M := by omega
  have e1 : IntKind.i64.wrap ((M : Int) + 2) = (D : Int) := by rw [IntKind.wrap_i64]; omega
  have hp0 : (p : Int) ≤ 64 := by omega
  have HH : Hid (∀ w0, Calls Try.prog 12 #[.int .i64 (p : Int)] w0 fun e w' => e = .returned (.int .i64 T) ∧ w0 = w') := fun w0 => (high_any (p : Int) w0 (by unfold In64; omega)).mono fun e w' h => ⟨by rw [h.1, ← unhide HT]; rfl, h.2.symm⟩
  have e2 : IntKind.i64.wrap ((n : Int) - 1) = (p : Int) := by rw [IntKind.wrap_i64]; omega
  have HD := hide hD
  have HP := hide hp
  clear hown hgr hT hp hD
  go_enter Try.func10, Try.ntmps10
  go_wp2_with fail
  go_region_with (first | (go_at_call 12; refine (unhide HH _).mono ?_; rintro e' w' ⟨rfl, rfl⟩))
  all_goals clear hrun hown e1 e2 HH
  all_goals (
    have hz : List.replicate D (0 : Int) = edgesTo n M 0 := by rw [unhide HD]; exact edgesTo_zero n M
    rw [hz] at HO
    clear hz
    go_wp2
    go_loopw [31, 7] (fun i b wr => ∃ k e : Nat, k ≤ D ∧ i = .int .i64 (k : Int) ∧ b = .int .i64 (e : Int) ∧ (k < D → e ≤ edgeN n M k) ∧ e ≤ 64 ∧ Hid (Cells wr w.heap.size (ints (edgesTo n M k))) ∧ Hid (Below w.heap.size w wr))
      (fun i _ _ => D - (intOf i).toNat)
    case atStart => exact ⟨0, 0, by omega, rfl, rfl, fun _ => Nat.zero_le _, by omega, HO, HB⟩
    case round =>
      obtain ⟨k, e, hk, rfl, rfl, he, he64, HOr, HBr⟩ := hrel
      by_cases hlt : k < D
      · have hkM : k ≤ M + 1 := by have := unhide HD; omega
        obtain ⟨s1, s2, s3⟩ := edge_spec n M k h1 h2 hkM
        rw [show n - 1 = p by have := unhide HP; omega, unhide HT] at s2 s3
        have hee := he hlt
        have hen : edgeN n M k ≤ 64 := by omega
        obtain ⟨E, hE⟩ : ∃ E, edgeN n M k = E := ⟨_, rfl⟩
        rw [hE] at s1 s2 s3 hee hen
        have HE := hide hE
        have HS2 := hide s2
        have HS3 := hide s3
        have hkT := prod_hi T (k : Int) htb.1 htb.2 (by omega) (by omega)
        rw [Int.mul_comm] at hkT
        have hkD : (k : Int) < (D : Int) := by omega
        clear hE s2 s3 he HO HB
        go_wp2_with fail
        go_loopw [7] (fun b wr2 => ∃ e2 : Nat, b = .int .i64 (e2 : Int) ∧ e2 ≤ E ∧ wr2 = wr) (fun b _ => E - (intOf b).toNat)
        case atStart => exact ⟨e, rfl, hee, rfl⟩
        case round =>
          obtain ⟨e2, rfl, he2, rfl⟩ := hrel
          obtain ⟨x, hx⟩ : ∃ x, hiN e2 = x := ⟨_, rfl⟩
          have hxb := hi_bds e2 (by omega)
          rw [hx] at hxb
          have hxM := prod_hi x ((M : Int) + 1) hxb.1 hxb.2 (by omega) (by omega)
          have HX := hide hx
          by_cases c : e2 < E
          · have hlt2 : x * ((M : Int) + 1) < (k : Int) * T := by have := unhide HS3 e2 c; rwa [hx] at this
            clear hx
            go_wp2_with fail
            refine (high_any (e2 : Int) _ (by unfold In64; omega)).mono ?_
            rintro e' w' ⟨rfl, rfl⟩
            rw [show highI (e2 : Int) = x from unhide HX]
            go_wp2_with fail
            go_roundw
            case rel => exact ⟨e2 + 1, by go_num, by omega, trivial⟩
            case measure => simp [intOf]; omega
          · obtain rfl : e2 = E := by omega
            have hge2 : ¬ x * ((M : Int) + 1) < (k : Int) * T := by have := unhide HS2; rw [hx] at this; omega
            have hcell := (unhide HOr).cell k _ (ints_at _ k (by rw [edgesTo_len]; omega))
            have hfree := (unhide HOr).free k
            clear hx
            go_wp2_with fail
            refine (high_any (e2 : Int) _ (by unfold In64; omega)).mono ?_
            rintro e' w' ⟨rfl, rfl⟩
            rw [show highI (e2 : Int) = x from unhide HX]
            go_wp2_with fail
            go_roundw
            case rel =>
              refine ⟨k + 1, e2, by omega, by go_num, rfl, fun hk2 => ?_, hen, ?_, (unhide HBr).setCell (Nat.le_refl _) _⟩
              · have := edge_mono n M k (k + 1) h1 h2 (by omega) (by have := unhide HD; omega)
                rwa [unhide HE] at this
              · have := (unhide HOr).set k (.int .i64 (e2 : Int))
                rw [ints_set, ← unhide HE, edgesTo_step n M k (by have := unhide HD; omega)] at this
                rw [← unhide HE]
                exact this
            case measure => simp [intOf]; omega
      · obtain rfl : k = D := by omega
        have hL := (unhide HOr).lies
        rw [unhide HD, edgesTo_all] at hL
        have HL := hide hL
        clear hL HOr he
        go_wp2_with fail
        go_ret
        exact ⟨_, _, _, rfl, by rw [edgesL, mkL_len, unhide HD], unhide HL, unhide HBr⟩)

theorem edges_no (a b : Int) (w : World) (ha : In64 a) (hb : In64 b) (h : ¬ (2 ≤ a ∧ a ≤ 65 ∧ 1 ≤ b ∧ b ≤ 16)) :
    Calls Try.prog 10 #[.int .i64 a, .int .i64 b] w (Told [] w) := by
  have HA := hide ha
  have HB := hide hb
  clear ha hb
  go_enter Try.func10, Try.ntmps10
  go_wp2_with fail
  all_goals first | (exfalso; omega) | skip
  all_goals go_ret
  all_goals exact ⟨none, 0, 0, rfl, rfl, .inl rfl, Below.refl _ _⟩
theorem edges_any (a b : Int) (w : World) (ha : In64 a) (hb : In64 b) :
    Calls Try.prog 10 #[.int .i64 a, .int .i64 b] w (Told (edgesI a b) w) := by
  by_cases h : 2 ≤ a ∧ a ≤ 65 ∧ 1 ≤ b ∧ b ≤ 16
  · obtain ⟨n, rfl⟩ : ∃ n : Nat, a = (n : Int) := ⟨a.toNat, by omega⟩
    obtain ⟨M, rfl⟩ : ∃ M : Nat, b = (M : Int) := ⟨b.toNat, by omega⟩
    rw [edgesI_yes n M (by omega) (by omega) (by omega) (by omega)]
    exact edges_yes n M w (by omega) (by omega) (by omega) (by omega)
  · rw [edgesI_no a b h]
    exact edges_no a b w ha hb h

def edgesUp (n M k : Nat) : List Int := mkL k fun j => (edgeN n M j : Int)
theorem edgesUp_step (n M k : Nat) (e : Int) (h : (edgeN n M k : Int) = e) : ints (edgesUp n M (k + 1)) = ints (edgesUp n M k) ++ [.int .i64 e] := by
  rw [← h]; simp [ints, edgesUp, mkL, List.range_succ]
set_option maxRecDepth 100000 in
theorem redges_yes (n M : Nat) (w : World) (h1 : 2 ≤ n) (h2 : n ≤ 65) (h3 : 1 ≤ M) (h4 : M ≤ 16) :
    Calls Try.prog 11 #[.int .i64 (n : Int), .int .i64 (M : Int)] w (Told (edgesL n M) w) := by
  obtain ⟨i0, hi, hz0, hz1, hz2⟩ := info_parts Try.info3
  have HI : Hid (Try.prog.info? 3 = some i0 ∧ i0.zero = some (.int .i64 0) ∧ i0.size = 1 ∧ i0.bytes = 8) := ⟨hi, hz0, hz1, hz2⟩
  obtain ⟨p, hp⟩ : ∃ p, n = p + 1 := ⟨n - 1, by omega⟩
  have htb := hi_bds p (by omega)
  obtain ⟨T, hT⟩ : ∃ T, hiN p = T := ⟨_, rfl⟩
  rw [hT] at htb
  have HT := hide (show highI ((n : Int) - 1) = T by rw [← hT]; unfold hiN; congr 1; omega)
  have HTT := hide hT
  have g1 : ¬ (n : Int) < 2 := by omega
  have g2 : ¬ (65 : Int) < n := by omega
  have g3 : ¬ (M : Int) < 1 := by omega
  have g4 : ¬ (16 : Int) < M := by omega
  have HP := hide hp
  clear hT hp hi hz0 hz1 hz2
  go_enter Try.func11, Try.ntmps11
  go_wp2
  go_loopw [6, 5] (fun i v wr => ∃ k : Nat, k ≤ M + 2 ∧ i = .int .i64 (k : Int) ∧ Hid (wr.ownsRow w.heap.size 3 1 v k (ints (edgesUp n M k))) ∧ Hid (Below w.heap.size w wr))
    (fun i _ _ => M + 2 - (intOf i).toNat)
  case atStart => exact ⟨0, by omega, rfl, World.ownsRow_nil _ _ _ _, Below.refl _ _⟩
  case round =>
    obtain ⟨k, hk, rfl, HOr, HBr⟩ := hrel
    by_cases hlt : k ≤ M + 1
    · obtain ⟨s1, s2, s3⟩ := edge_spec n M k h1 h2 hlt
      rw [show n - 1 = p by have := unhide HP; omega, unhide HTT] at s2 s3
      have hen : edgeN n M k ≤ 64 := by omega
      obtain ⟨E, hE⟩ : ∃ E, edgeN n M k = E := ⟨_, rfl⟩
      rw [hE] at s1 s2 s3 hen
      have HE := hide hE
      have HS2 := hide s2
      have HS3 := hide s3
      have hkT := prod_hi T (k : Int) htb.1 htb.2 (by omega) (by omega)
      rw [Int.mul_comm] at hkT
      have hkD : (k : Int) ≤ (M : Int) + 1 := by omega
      clear hE s2 s3
      go_wp2_with fail
      go_loopw [7] (fun b wr2 => ∃ e2 : Nat, b = .int .i64 (e2 : Int) ∧ e2 ≤ E ∧ wr2 = wr) (fun b _ => E - (intOf b).toNat)
      case atStart => exact ⟨0, rfl, Nat.zero_le _, rfl⟩
      case round =>
        obtain ⟨e2, rfl, he2, rfl⟩ := hrel
        obtain ⟨x, hx⟩ : ∃ x, hiN e2 = x := ⟨_, rfl⟩
        have hxb := hi_bds e2 (by omega)
        rw [hx] at hxb
        have hxM := prod_hi x ((M : Int) + 1) hxb.1 hxb.2 (by omega) (by omega)
        have HX := hide hx
        by_cases c : e2 < E
        · have hlt2 : x * ((M : Int) + 1) < (k : Int) * T := by have := unhide HS3 e2 c; rwa [hx] at this
          clear hx
          go_wp2_with fail
          refine (rhigh_any (e2 : Int) _ (by unfold In64; omega)).mono ?_
          rintro e' w' ⟨rfl, rfl⟩
          rw [show highI (e2 : Int) = x from unhide HX]
          go_wp2_with fail
          refine (rhigh_any ((n : Int) - 1) _ (by unfold In64; omega)).mono ?_
          rintro e' w' ⟨rfl, rfl⟩
          rw [unhide HT]
          go_wp2_with fail
          go_roundw
          case rel => exact ⟨e2 + 1, by go_num, by omega, trivial⟩
          case measure => simp [intOf]; omega
        · obtain rfl : e2 = E := by omega
          have hge2 : ¬ x * ((M : Int) + 1) < (k : Int) * T := by have := unhide HS2; rw [hx] at this; omega
          clear hx
          go_wp2_with fail
          refine (rhigh_any (e2 : Int) _ (by unfold In64; omega)).mono ?_
          rintro e' w' ⟨rfl, rfl⟩
          rw [show highI (e2 : Int) = x from unhide HX]
          go_wp2_with fail
          refine (rhigh_any ((n : Int) - 1) _ (by unfold In64; omega)).mono ?_
          rintro e' w4 ⟨rfl, rfl⟩
          rw [unhide HT]
          go_wp2_with (at_builtin; refine wpList_append_own _ rfl _ _ 25 rfl w.heap.size 3 i0 (.int .i64 0) 1 8 Try.underlying25 (unhide HI).1 (unhide HI).2.1 (unhide HI).2.2.1 (unhide HI).2.2.2 rfl (by decide) _ _ _ rfl ((unhide HOr).alloc _) ⟨w4.heap.size, 0, none⟩ 1 1 [.int .i64 (e2 : Int)] rfl rfl ?d1 ?d2 ?d3 ?d4 ?d5 ?_)
          case d1 => exact cell_one_new _ _ _
          case d2 => exact ints_one [(e2 : Int)]
          case d3 => unfold maxLen; omega
          case d4 => omega
          case d5 => have := (unhide HBr).size; simp; omega
          intro v4 w5 hown4 hg4 _
          have hgr : ∀ q, Value.ownBlock _ = some q → w.heap.size ≤ q := fun q hq => ((unhide HOr).lt q hq).1
          have HB4 := hide (((unhide HBr).alloc (unhide HBr).size _).grown hg4 (by have := (unhide HBr).size; simp; omega) hgr)
          have HOwn4 := hide (show w5.ownsRow w.heap.size 3 1 v4 (k + 1) (ints (edgesUp n M (k + 1))) by rw [edgesUp_step n M k (e2 : Int) (by rw [unhide HE])]; exact hown4)
          clear hown4 hg4 hgr
          go_wp2
          go_roundw
          case rel => exact ⟨k + 1, by omega, by go_num, HOwn4, HB4⟩
          case measure => simp [intOf]; omega
    · obtain rfl : k = M + 2 := by omega
      obtain ⟨a5, c5, rfl, hl5, hlen5⟩ := owned_lies (unhide HOr)
      have HL5 := hide hl5
      clear hl5 hlen5 HOr
      go_wp2
      go_ret
      exact ⟨_, _, _, rfl, by rw [edgesUp, mkL_len, edgesL, mkL_len], unhide HL5, unhide HBr⟩
theorem redges_no (a b : Int) (w : World) (ha : In64 a) (hb : In64 b) (h : ¬ (2 ≤ a ∧ a ≤ 65 ∧ 1 ≤ b ∧ b ≤ 16)) :
    Calls Try.prog 11 #[.int .i64 a, .int .i64 b] w (Told [] w) := by
  have HA := hide ha
  have HB := hide hb
  clear ha hb
  go_enter Try.func11, Try.ntmps11
  go_wp2_with fail
  all_goals first | (exfalso; omega) | skip
  all_goals go_ret
  all_goals exact ⟨none, 0, 0, rfl, rfl, .inl rfl, Below.refl _ _⟩
theorem redges_any (a b : Int) (w : World) (ha : In64 a) (hb : In64 b) :
    Calls Try.prog 11 #[.int .i64 a, .int .i64 b] w (Told (edgesI a b) w) := by
  by_cases h : 2 ≤ a ∧ a ≤ 65 ∧ 1 ≤ b ∧ b ≤ 16
  · obtain ⟨n, rfl⟩ : ∃ n : Nat, a = (n : Int) := ⟨a.toNat, by omega⟩
    obtain ⟨M, rfl⟩ : ∃ M : Nat, b = (M : Int) := ⟨b.toNat, by omega⟩
    rw [edgesI_yes n M (by omega) (by omega) (by omega) (by omega)]
    exact redges_yes n M w (by omega) (by omega) (by omega) (by omega)
  · rw [edgesI_no a b h]
    exact redges_no a b w ha hb h

end Go.Proofs.Ytmogegacgmgkbaa
