/- The walk of RoundMean. -/
import Derived.Test.YtgfdiafeminofaaScalew
namespace Go.Proofs.Ytgfdiafeminofaa
open Go.RowKit
set_option linter.unusedVariables false

theorem row_came (a : Option Addr) (len cap : Nat) (zs : List Int) (w : World) (h : IsRow .i64 w a len cap zs) :
    ∃ xs : List Int, xs.length ≤ 40 ∧ xs.length = min len 40 ∧ len ≤ 9223372036854775807 ∧ Lies w a xs ∧ Small xs := by
  rcases h with ⟨rfl, rfl, rfl, rfl⟩ | ⟨x, rfl, hl, hm, hz, hcell, hwz⟩
  · exact ⟨[], by simp, by simp, by omega, .inl rfl, by intro x hx; simp at hx⟩
  · unfold maxLen at hm
    refine ⟨zs.take (min len 40), ?_, ?_, by omega, lies_of_row (min len 40) (by omega) hcell, small_take (min len 40) hwz⟩
    · rw [List.length_take]; omega
    · rw [List.length_take]; omega

def cutTo (xs : List Int) (k : Nat) : List Int := (xs.take k).map (· / 128)
theorem cutTo_succ (xs : List Int) (k : Nat) (h : k < xs.length) : cutTo xs (k + 1) = cutTo xs k ++ [xs.getD k 0 / 128] := by
  unfold cutTo
  rw [List.take_succ_eq_append_getElem h, List.map_append]
  simp [List.getD_eq_getElem?_getD, List.getElem?_eq_getElem h]
def Fine (l : List Int) : Prop := ∀ z ∈ l, -72057594037927936 ≤ z ∧ z ≤ 72057594037927935
theorem cut_fine (xs : List Int) (hs : Small xs) (k : Nat) : Fine (cutTo xs k) := by
  intro z hz
  obtain ⟨x, hx, rfl⟩ := List.mem_map.1 hz
  obtain ⟨h1, h2⟩ := hs x (List.mem_of_mem_take hx)
  show -72057594037927936 ≤ x / 128 ∧ x / 128 ≤ 72057594037927935
  omega
theorem Fine.small {l : List Int} (h : Fine l) : Small l := by
  intro z hz
  have := h z hz
  exact ⟨by omega, by omega⟩
theorem Fine.at {l : List Int} (h : Fine l) (k : Nat) (hk : k < l.length) : -72057594037927936 ≤ l.getD k 0 ∧ l.getD k 0 ≤ 72057594037927935 := by
  rw [List.getD_eq_getElem?_getD, List.getElem?_eq_getElem hk]
  exact h _ (List.getElem_mem hk)
theorem sum_ge (l : List Int) (b : Int) (h : ∀ z ∈ l, b ≤ z) : b * l.length ≤ l.sum := by
  induction l with
  | nil => simp
  | cons x l ih =>
    have h1 := ih (fun z hz => h z (List.mem_cons_of_mem _ hz))
    have h2 := h x List.mem_cons_self
    rw [List.sum_cons, List.length_cons, Int.natCast_add, Int.mul_add]
    simp only [Int.natCast_one, Int.mul_one]
    omega
theorem sum_le (l : List Int) (b : Int) (h : ∀ z ∈ l, z ≤ b) : l.sum ≤ b * l.length := by
  induction l with
  | nil => simp
  | cons x l ih =>
    have h1 := ih (fun z hz => h z (List.mem_cons_of_mem _ hz))
    have h2 := h x List.mem_cons_self
    rw [List.sum_cons, List.length_cons, Int.natCast_add, Int.mul_add]
    simp only [Int.natCast_one, Int.mul_one]
    omega
theorem fine_sum (l : List Int) (h : Fine l) (hn : l.length ≤ 41) : ok64 l.sum = true := by
  have h1 := sum_ge l _ (fun z hz => (h z hz).1)
  have h2 := sum_le l _ (fun z hz => (h z hz).2)
  unfold ok64
  exact decide_eq_true ⟨by omega, by omega⟩
theorem mean_fine (l : List Int) (h : Fine l) (hn : l.length ≤ 41) : meanI l = divI l.sum l.length := by
  unfold meanI; rw [if_pos (fine_sum l h hn)]
theorem mean_ge (l : List Int) (h : Fine l) (hn : l.length ≤ 41) (h0 : 0 < l.length) (b : Int) (hb : ∀ z ∈ l, b ≤ z) : b ≤ meanI l := by
  rw [mean_fine l h hn]
  have h1 := divI_mono _ _ l.length (sum_ge l b hb)
  rwa [div_whole b l.length (by omega)] at h1
theorem mean_le (l : List Int) (h : Fine l) (hn : l.length ≤ 41) (h0 : 0 < l.length) (b : Int) (hb : ∀ z ∈ l, z ≤ b) : meanI l ≤ b := by
  rw [mean_fine l h hn]
  have h1 := divI_mono _ _ l.length (sum_le l b hb)
  rwa [div_whole b l.length (by omega)] at h1
theorem mean_same (z : Int) (c : Nat) (hz : -72057594037927936 ≤ z ∧ z ≤ 72057594037927935) (h0 : 0 < c) (hc : c ≤ 41) : meanI (List.replicate c z) = z := by
  have hf : Fine (List.replicate c z) := by intro y hy; rw [List.eq_of_mem_replicate hy]; exact hz
  have h1 := mean_ge _ hf (by simpa using hc) (by simpa using h0) z (fun y hy => by rw [List.eq_of_mem_replicate hy]; omega)
  have h2 := mean_le _ hf (by simpa using hc) (by simpa using h0) z (fun y hy => by rw [List.eq_of_mem_replicate hy]; omega)
  omega
theorem mean_back (l : List Int) : meanI l.reverse = meanI l := by unfold meanI; rw [sum_reverse, List.length_reverse]
theorem mean_more (l : List Int) (h : Fine l) (hn : l.length ≤ 40) (h0 : 0 < l.length) : Fine (l ++ [meanI l]) ∧ meanI l - 1 ≤ meanI (l ++ [meanI l]) ∧ meanI (l ++ [meanI l]) ≤ meanI l + 1 := by
  have h1 := mean_ge l h (by omega) h0 _ (fun z hz => (h z hz).1)
  have h2 := mean_le l h (by omega) h0 _ (fun z hz => (h z hz).2)
  have hf : Fine (l ++ [meanI l]) := by
    intro z hz
    rcases List.mem_append.1 hz with h' | h'
    · exact h z h'
    · rw [List.mem_singleton.1 h']; exact ⟨h1, h2⟩
  refine ⟨hf, ?_⟩
  have e := mean_fine l h (by omega)
  rw [mean_fine _ hf (by simp; omega), List.sum_append, List.length_append]
  have h3 := near_div l.sum l.length (by omega)
  rw [← e] at h3
  generalize meanI l = m at *
  generalize l.sum = S at *
  generalize hn' : (l.length : Int) = n at *
  rw [show [m].sum = m by simp, show ((l.length + [m].length : Nat) : Int) = n + 1 by simp; omega]
  have h4 := divI_mono ((m - 1) * (n + 1)) (S + m) (n + 1) (by rw [Int.sub_mul, Int.mul_add]; omega)
  have h5 := divI_mono (S + m) ((m + 1) * (n + 1)) (n + 1) (by rw [Int.add_mul, Int.mul_add]; omega)
  rw [div_whole _ _ (by omega)] at h4 h5
  exact ⟨h4, h5⟩
def backTo (l : List Int) (k : Nat) : List Int := l.reverse.take k
def sameTo (z : Int) (k : Nat) : List Int := List.replicate k z
theorem back_succ (l : List Int) (k : Nat) (h : k < l.length) : backTo l (k + 1) = backTo l k ++ [l.getD (l.length - 1 - k) 0] := by
  unfold backTo
  rw [List.take_succ_eq_append_getElem (by simpa using h)]
  rw [List.getElem_reverse, List.getD_eq_getElem?_getD, List.getElem?_eq_getElem (by omega)]
  rfl
theorem back_all (l : List Int) (n : Nat) (h : l.length = n) : backTo l n = l.reverse := by
  unfold backTo
  exact List.take_of_length_le (by rw [List.length_reverse, h]; exact Nat.le_refl _)
theorem same_succ (z : Int) (k : Nat) : sameTo z (k + 1) = sameTo z k ++ [z] := List.replicate_succ'
theorem same_small (z : Int) (k : Nat) (hz : In64 z) : Small (sameTo z k) := by intro y hy; rw [List.eq_of_mem_replicate hy]; exact hz
theorem back_small (l : List Int) (h : Fine l) : Small l.reverse := by intro y hy; exact h.small y (List.mem_reverse.1 hy)
theorem mean_nil (l : List Int) (h : l.length = 0) : meanI l = 0 := by
  rw [List.length_eq_zero_iff.1 h]; decide

set_option maxRecDepth 100000 in
set_option maxHeartbeats 4000000 in
theorem mean_walk (a : Option Addr) (len cap : Nat) (zs : List Int) (x many : Int) (w : World) (hrow : IsRow .i64 w a len cap zs) (hx : In64 x) :
    Calls Try.prog 7 #[.slice a len cap, .int .i64 x, .int .i64 many] w fun e w' => e = .returned (.bool true) ∧ Below w.heap.size w w' := by
  obtain ⟨xs, h40, hlen, hmax, hl, hs⟩ := row_came a len cap zs w hrow
  clear hrow
  obtain ⟨i0, hi, hz0, hz1, hz2⟩ := info_parts Try.info3
  obtain ⟨N, hN⟩ : ∃ N, xs.length = N := ⟨_, rfl⟩
  rw [hN] at h40 hlen
  have HN := hide hN
  clear hN
  have hNlen : (N : Int) ≤ (len : Int) := by omega
  have Hstop := hide (show ¬ (N : Int) < (len : Int) ∨ ((N : Int) < (len : Int) ∧ ¬ (N : Int) < 40) by omega)
  clear hlen
  go_enter Try.func7, Try.ntmps7
  go_wp2_with fail
  refine (awake_any _).mono ?_
  rintro e w1 ⟨rfl, hb1⟩
  have hl1 := hl.below hb1
  clear hl
  go_wp2
  go_loopw [8, 10] (fun v i wr => ∃ k : Nat, k ≤ N ∧ i = .int .i64 k ∧ wr.ownsRow w1.heap.size 3 1 v k ((cutTo xs k).map (Value.int .i64)) ∧ Below w1.heap.size w1 wr) (fun _ i _ => N - (intOf i).toNat)
  case atStart => exact ⟨0, Nat.zero_le _, rfl, World.ownsRow_nil _ _ _ _, Below.refl _ _⟩
  case round =>
    obtain ⟨k, hk, rfl, hown, hb2⟩ := hrel
    by_cases hlt : k < N
    · rcases hl1 with h0 | ⟨ba, off, rfl, hblt, hcells⟩
      · have := unhide HN; rw [h0] at this; simp at this; omega
      rw [unhide HN] at hcells
      have hc : wr.cell? ⟨ba, off + k, none⟩ = some (.int .i64 (xs.getD k 0)) := by rw [hb2.cell (p := ⟨ba, _, none⟩) hblt]; exact hcells _ hlt
      have hsucc := cutTo_succ xs k (by rw [unhide HN]; exact hlt)
      generalize xs.getD k 0 = z at *
      have HS := hide hsucc
      have hkl : (k : Int) < (len : Int) := by omega
      have hk40 : (k : Int) < 40 := by omega
      have hsz := hb2.size
      clear hsucc hcells
      go_wp2_with (at_builtin; refine wpList_append_own _ rfl _ _ 23 rfl w1.heap.size 3 i0 (.int .i64 0) 1 8 Try.underlying23 hi hz0 hz1 hz2 rfl (by decide) _ _ _ rfl (hown.alloc _) ⟨wr.heap.size, 0, none⟩ 1 1 [.int .i64 (z / 128)] rfl rfl ?d1 ?d2 ?d3 ?d4 ?d5 ?_)
      case d1 => exact cell_one_new _ _ _
      case d2 => exact ints_one [z / 128]
      case d3 => unfold maxLen; omega
      case d4 => omega
      case d5 => simp; omega
      intro v4 w4 hown4 hg4 _
      have hb4 : Below w1.heap.size w1 w4 := (hb2.alloc hsz _).grown hg4 (by simp; omega) (fun j hj => (hown.lt j hj).1)
      clear hg4
      go_wp2
      go_roundw
      case rel => exact ⟨k + 1, by omega, by go_num, by rw [unhide HS, List.map_append]; exact hown4, hb4⟩
      case measure => simp [intOf]; omega
    · have e : N = k := by omega
      subst e
      obtain ⟨w2, rfl⟩ : ∃ w2, w2 = wr := ⟨_, rfl⟩
      obtain ⟨la, lc, hv, hll, hllen⟩ := owned_lies hown
      rw [hllen] at hv
      subst hv
      have hfine := cut_fine xs hs N
      have hball := below_trans hb1 hb2
      clear hown hl1 hb1 hb2 hk hlt
      generalize cutTo xs N = l at *
      have HL := hide hllen
      clear hllen
      have hx7 : -72057594037927936 ≤ x / 128 ∧ x / 128 ≤ 72057594037927935 := by obtain ⟨h1, h2⟩ := hx; omega
      have hc := mod_bd many 40 (by decide) (by decide)
      obtain ⟨hc0, hc1⟩ := hc
      have hstop := unhide Hstop
      clear Hstop
      obtain hstop | ⟨hs1, hs2⟩ := hstop
      all_goals
        go_wp2
        go_loopw [9, 11] (fun v i wx => ∃ k : Nat, k ≤ N ∧ i = .int .i64 (N - 1 - k) ∧ wx.ownsRow w2.heap.size 3 1 v k ((backTo l k).map (Value.int .i64)) ∧ Below w2.heap.size w2 wx) (fun _ i _ => (intOf i + 1).toNat)
        case atStart => exact ⟨0, Nat.zero_le _, by simp, World.ownsRow_nil _ _ _ _, Below.refl _ _⟩
        case round =>
          obtain ⟨k, hk, rfl, hown, hb2⟩ := hrel
          by_cases hlt : k < N
          · rcases hll with h0 | ⟨ba, off, rfl, hblt, hcells⟩
            · have := unhide HL; rw [h0] at this; simp at this; omega
            rw [unhide HL] at hcells
            obtain ⟨j, hj⟩ : ∃ j : Nat, j = N - 1 - k := ⟨_, rfl⟩
            have hje : (N : Int) - 1 - k = (j : Int) := by omega
            have hjN : (j : Int) < (N : Int) := by omega
            have hc : wr.cell? ⟨ba, off + j, none⟩ = some (.int .i64 (l.getD j 0)) := by rw [hb2.cell (p := ⟨ba, _, none⟩) hblt]; exact hcells _ (by omega)
            have hsucc := back_succ l k (by rw [unhide HL]; exact hlt)
            rw [unhide HL, ← hj] at hsucc
            generalize l.getD j 0 = z at *
            have HS := hide hsucc
            have HJ := hide hj
            have hsz := hb2.size
            clear hsucc hcells hj
            rw [hje]
            have HJE := hide hje
            clear hje
            go_wp2_with (at_builtin; refine wpList_append_own _ rfl _ _ 23 rfl w2.heap.size 3 i0 (.int .i64 0) 1 8 Try.underlying23 hi hz0 hz1 hz2 rfl (by decide) _ _ _ rfl (hown.alloc _) ⟨wr.heap.size, 0, none⟩ 1 1 [.int .i64 z] rfl rfl ?d1 ?d2 ?d3 ?d4 ?d5 ?_)
            case d1 => exact cell_one_new _ _ _
            case d2 => exact ints_one [z]
            case d3 => unfold maxLen; omega
            case d4 => omega
            case d5 => simp; omega
            intro v4 w4 hown4 hg4 _
            have hb4 : Below w2.heap.size w2 w4 := (hb2.alloc hsz _).grown hg4 (by simp; omega) (fun j hj => (hown.lt j hj).1)
            clear hg4
            go_wp2
            go_roundw
            case rel => exact ⟨k + 1, by omega, by rw [← unhide HJE]; go_num, by rw [unhide HS, List.map_append]; exact hown4, hb4⟩
            case measure => simp [intOf]; try omega
          · have e : N = k := by omega
            subst e
            obtain ⟨ba, bc, hv, hbl, hblen⟩ := owned_lies hown
            rw [hblen] at hv
            subst hv
            rw [back_all l N (unhide HL)] at hbl hblen
            have hll2 := hll.below hb2
            have hball2 := below_trans hball hb2
            clear hown hll hb2 hball hk hlt
            have HB := hide hblen
            clear hblen
            obtain ⟨w3, rfl⟩ : ∃ w3, w3 = wr := ⟨_, rfl⟩
            rw [show (N : Int) - 1 - N = -1 by omega]
            obtain ⟨c, hcc⟩ : ∃ c : Nat, (wrap64 (many.tmod 40 + 40)).tmod 40 = c := ⟨((wrap64 (many.tmod 40 + 40)).tmod 40).toNat, by omega⟩
            have hc40 : c < 40 := by omega
            clear hc0 hc1
            go_wp2
            go_loopw [12, 13] (fun v i wx => ∃ k : Nat, k ≤ c + 1 ∧ i = .int .i64 k ∧ wx.ownsRow w3.heap.size 3 1 v k ((sameTo (x / 128) k).map (Value.int .i64)) ∧ Below w3.heap.size w3 wx) (fun _ i _ => c + 1 - (intOf i).toNat)
            case atStart => exact ⟨0, Nat.zero_le _, rfl, World.ownsRow_nil _ _ _ _, Below.refl _ _⟩
            case round =>
              obtain ⟨k, hk, rfl, hown, hb3⟩ := hrel
              by_cases hlt : k ≤ c
              · have hsz := hb3.size
                have HS := hide (same_succ (x / 128) k)
                have hlt' : (k : Int) ≤ (c : Int) := by omega
                go_wp2_with (at_builtin; refine wpList_append_own _ rfl _ _ 23 rfl w3.heap.size 3 i0 (.int .i64 0) 1 8 Try.underlying23 hi hz0 hz1 hz2 rfl (by decide) _ _ _ rfl (hown.alloc _) ⟨wr.heap.size, 0, none⟩ 1 1 [.int .i64 (x / 128)] rfl rfl ?e1 ?e2 ?e3 ?e4 ?e5 ?_)
                case e1 => exact cell_one_new _ _ _
                case e2 => exact ints_one [x / 128]
                case e3 => unfold maxLen; omega
                case e4 => omega
                case e5 => simp; omega
                intro v4 w4 hown4 hg4 _
                have hb4 : Below w3.heap.size w3 w4 := (hb3.alloc hsz _).grown hg4 (by simp; omega) (fun j hj => (hown.lt j hj).1)
                clear hg4
                go_wp2
                go_roundw
                case rel => exact ⟨k + 1, by omega, by go_num, by rw [unhide HS, List.map_append]; exact hown4, hb4⟩
                case measure => simp [intOf]; omega
              · have e : k = c + 1 := by omega
                subst e
                obtain ⟨sa, sc, hv, hsl, hslen⟩ := owned_lies hown
                rw [hslen] at hv
                subst hv
                have hll3 := hll2.below hb3
                have hbl3 := hbl.below hb3
                have hball3 := below_trans hball2 hb3
                have HM := hide (show meanI (sameTo (x / 128) (c + 1)) = x / 128 from mean_same (x / 128) (c + 1) hx7 (by omega) (by omega))
                have HSL := hide hslen
                have HSF := hide (same_small (x / 128) (c + 1) ⟨by omega, by omega⟩)
                clear hown hll2 hbl hb3 hball2 hk hlt hslen
                obtain ⟨w4, rfl⟩ : ∃ w4, w4 = wr := ⟨_, rfl⟩
                go_wp2_with fail
                refine (mean_any la lc l N (unhide HL) _ hll3 hfine.small (by omega)).mono ?_
                rintro e w5 ⟨rfl, hb5⟩
                have hsl5 := hsl.below hb5
                have hll5 := hll3.below hb5
                have hbl5 := hbl3.below hb5
                have hball5 := below_trans hball3 hb5
                clear hsl hll3 hbl3 hball3 hb5
                by_cases hN0 : N = 0
                · have HZ := hide (mean_nil l (by rw [unhide HL]; exact hN0))
                  subst hN0
                  rw [unhide HZ]
                  go_wp2_with fail
                  refine (mean_any sa sc (sameTo (x / 128) (c + 1)) (c + 1) (unhide HSL) _ hsl5 (unhide HSF) (by omega)).mono ?_
                  rintro e w6 ⟨rfl, hb6⟩
                  rw [unhide HM]
                  go_wp2
                  go_ret
                  exact ⟨rfl, below_trans hball5 hb6⟩
                · have hlen0 : 0 < l.length := by rw [unhide HL]; omega
                  have hlen41 : l.length ≤ 40 := by rw [unhide HL]; exact h40
                  have HGE := hide (mean_ge l hfine (by omega) hlen0)
                  have HLE := hide (mean_le l hfine (by omega) hlen0)
                  have HMO := hide (mean_more l hfine hlen41 hlen0)
                  have HBA := hide (mean_back l)
                  have hmb1 := mean_ge l hfine (by omega) hlen0 _ (fun z hz => (hfine z hz).1)
                  have hmb2 := mean_le l hfine (by omega) hlen0 _ (fun z hz => (hfine z hz).2)
                  clear hlen0 hlen41
                  generalize hmm : meanI l = m at *
                  clear hmm
                  rcases hll5 with h0 | ⟨lb, off, rfl, hblt, hcells⟩
                  · have := unhide HL; rw [h0] at this; simp at this; omega
                  rw [unhide HL] at hcells
                  have hc0 : w5.cell? ⟨lb, off, none⟩ = some (.int .i64 (l.getD 0 0)) := hcells 0 (by omega)
                  have hN0' : ((N : Int) == 0) = false := by simp; omega
                  have hNp : (0 : Int) < (N : Int) := by omega
                  go_wp2
                  go_loopw [15, 16, 17] (fun lo hi i wx => ∃ (k : Nat) (L H : Int), k ≤ N ∧ i = .int .i64 k ∧ lo = .int .i64 L ∧ hi = .int .i64 H ∧ wx = w5 ∧ ∀ j, j < k → L ≤ l.getD j 0 ∧ l.getD j 0 ≤ H) (fun _ _ i _ => N - (intOf i).toNat)
                  case atStart => exact ⟨0, _, _, Nat.zero_le _, rfl, rfl, rfl, rfl, fun j hj => by omega⟩
                  case round =>
                    obtain ⟨k, L, H, hk, rfl, rfl, rfl, rfl, hLH⟩ := hrel
                    by_cases hlt : k < N
                    · have hck := hcells k hlt
                      have hstep : ∀ L' H' : Int, L' ≤ L → L' ≤ l.getD k 0 → H ≤ H' → l.getD k 0 ≤ H' → ∀ j, j < k + 1 → L' ≤ l.getD j 0 ∧ l.getD j 0 ≤ H' := by
                        intro L' H' q1 q2 q3 q4 j hj
                        by_cases hjk : j = k
                        · subst hjk; exact ⟨q2, q4⟩
                        · have := hLH j (by omega); omega
                      have HST := hide hstep
                      clear hstep hLH hcells hc0
                      generalize l.getD k 0 = z at *
                      rcases Int.lt_trichotomy L z with c1 | c1 | c1 <;> rcases Int.lt_trichotomy H z with c2 | c2 | c2
                      all_goals
                        go_wp2
                        go_roundw
                        case rel => exact ⟨k + 1, _, _, by omega, by go_num, rfl, rfl, trivial, (unhide HST) _ _ (by omega) (by omega) (by omega) (by omega)⟩
                        case measure => simp [intOf]; omega
                    · have e : N = k := by omega
                      subst e
                      have hLm : L ≤ m := (unhide HGE) L (fun z hz => by
                        obtain ⟨j, hj, rfl⟩ := List.getElem_of_mem hz
                        have := (hLH j (by rw [← unhide HL]; exact hj)).1
                        rwa [List.getD_eq_getElem?_getD, List.getElem?_eq_getElem hj] at this)
                      have hHm : m ≤ H := (unhide HLE) H (fun z hz => by
                        obtain ⟨j, hj, rfl⟩ := List.getElem_of_mem hz
                        have := (hLH j (by rw [← unhide HL]; exact hj)).2
                        rwa [List.getD_eq_getElem?_getD, List.getElem?_eq_getElem hj] at this)
                      clear hLH HGE HLE hk hlt hc0
                      obtain ⟨w6, rfl⟩ : ∃ w6, w6 = wr := ⟨_, rfl⟩
                      have hown0 : (w6.alloc (.cells #[] 3)).ownsRow w6.heap.size 3 1 (.slice (some ⟨w6.heap.size, 0, none⟩) 0 0) 0 [] := World.ownsRow_made w6 #[] 0 (Nat.le_refl _) (Nat.zero_le _) rfl
                      have hll6 : Lies w6 (some ⟨lb, off, none⟩) l := .inr ⟨lb, off, rfl, hblt, by rw [unhide HL]; exact hcells⟩
                      have hll6' := hll6.below ((Below.refl _ w6).alloc (Nat.le_refl _) (.cells #[] 3))
                      clear hcells hll6
                      go_wp2_with (at_builtin; refine wpList_append_own _ rfl _ _ 23 rfl w6.heap.size 3 i0 (.int .i64 0) 1 8 Try.underlying23 hi hz0 hz1 hz2 rfl (by decide) _ 0 [] rfl hown0 ⟨lb, off, none⟩ N lc (l.map (Value.int .i64)) rfl ?c0 ?c1 ?c2 ?c3 ?c4 ?c5 ?_)
                      case c0 => rw [List.length_map, unhide HL, Nat.mul_one]
                      case c1 => exact lies_news hll6'
                      case c2 => exact ints_one l
                      case c3 => unfold maxLen; omega
                      case c4 => omega
                      case c5 => simp
                      intro v7 w7 hown7 hg7 _
                      have hb67 : Below w6.heap.size w6 w7 := ((Below.refl _ w6).alloc (Nat.le_refl _) _).grown hg7 (by simp) (fun j hj => by cases hj; exact Nat.le_refl _)
                      have hsz7 := hb67.size
                      go_wp2_with (at_builtin; refine wpList_append_own _ rfl _ _ 23 rfl w6.heap.size 3 i0 (.int .i64 0) 1 8 Try.underlying23 hi hz0 hz1 hz2 rfl (by decide) _ N (l.map (Value.int .i64)) rfl (hown7.alloc _) ⟨w7.heap.size, 0, none⟩ 1 1 [.int .i64 m] rfl rfl ?d1 ?d2 ?d3 ?d4 ?d5 ?_)
                      case d1 => exact cell_one_new _ _ _
                      case d2 => exact ints_one [m]
                      case d3 => unfold maxLen; omega
                      case d4 => omega
                      case d5 => simp; omega
                      intro v8 w8 hown8 hg8 _
                      have hb68 : Below w6.heap.size w6 w8 := ((hb67.alloc hsz7 _)).grown hg8 (by simp; omega) (fun j hj => (hown7.lt j hj).1)
                      rw [show l.map (Value.int .i64) ++ [Value.int .i64 m] = (l ++ [m]).map (Value.int .i64) by simp] at hown8
                      clear hg7 hg8 hown0 hown7 hb67
                      obtain ⟨ma, mc, hv8, hl8, hlen8⟩ := owned_lies hown8
                      rw [hlen8] at hv8
                      subst hv8
                      obtain ⟨hmf, hmo1, hmo2⟩ := unhide HMO
                      have HM8 := hide hlen8
                      have HMS := hide hmf.small
                      have hsl8 := hsl5.below hb68
                      have hbl8 := hbl5.below hb68
                      have hball8 := below_trans hball5 hb68
                      have HBS := hide (back_small l hfine)
                      clear hown8 hlen8 hmf hsl5 hbl5 hball5 hb68 hll6' HMO
                      generalize hM : meanI (l ++ [m]) = M at *
                      have HMM := hide hM
                      clear hM
                      go_wp2_with fail
                      refine (mean_any ma mc (l ++ [m]) (N + 1) (unhide HM8) _ hl8 (unhide HMS) (by omega)).mono ?_
                      rintro e w9 ⟨rfl, hb9⟩
                      rw [unhide HMM]
                      have hsl9 := hsl8.below hb9
                      have hbl9 := hbl8.below hb9
                      have hball9 := below_trans hball8 hb9
                      clear hl8 hsl8 hbl8 hball8 hb9
                      go_wp2_with fail
                      refine (mean_any ba bc l.reverse N (unhide HB) _ hbl9 (unhide HBS) (by omega)).mono ?_
                      rintro e w10 ⟨rfl, hb10⟩
                      rw [unhide HBA]
                      have hsl10 := hsl9.below hb10
                      have hball10 := below_trans hball9 hb10
                      clear hsl9 hbl9 hball9 hb10
                      go_wp2_with fail
                      refine (mean_any sa sc (sameTo (x / 128) (c + 1)) (c + 1) (unhide HSL) _ hsl10 (unhide HSF) (by omega)).mono ?_
                      rintro e w11 ⟨rfl, hb11⟩
                      rw [unhide HM]
                      go_wp2
                      go_ret
                      exact ⟨by first | rfl | exact ret_bool (decide_eq_true (by omega)), below_trans hball10 hb11⟩
end Go.Proofs.Ytgfdiafeminofaa
