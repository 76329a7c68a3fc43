/- The document's flattened samples. -/
import Derived.Test.YtbkdgpeooeokmaaDoorFrontPure
namespace Go.Proofs.YtbkdgpeooeokmaaDoor
open Go.RowKit
set_option linter.unusedVariables false

/-- A slice that is nil, or lies somewhere. -/
def Slot (a : Option Addr) (n cap : Nat) : Prop := (a = none ∧ n = 0 ∧ cap = 0) ∨ ∃ p, a = some p
/-- A row that was made, with room behind it. -/
def ToldC (xs : List Int) (w : World) (e : Ending) (w' : World) : Prop := ∃ a l c, e = .returned (.slice a l c) ∧ xs.length = l ∧ l ≤ c ∧ c ≤ 9223372036854775807 ∧ Lies w' a xs ∧ Slot a l c ∧ (∀ q, a = some q → w.heap.size ≤ q.block) ∧ Below w.heap.size w w'
theorem owned_room {w : World} {base n : Nat} {v : Value} {xs : List Int} (h : w.ownsRow base 3 1 v n (ints xs)) : ∃ a c, v = .slice a n c ∧ xs.length = n ∧ n ≤ c ∧ c ≤ 9223372036854775807 ∧ Lies w a xs := by
  have hn : xs.length = n := by have := h.1; simpa [ints] using this
  obtain ⟨a, c, hv, hl, hlen⟩ := owned_lies h
  rcases h.2 with ⟨h', h''⟩ | ⟨g, cap', cur, h1, h2, h3, h4, h5, _⟩
  · subst h''
    rw [h'] at hv
    injection hv with e1 e2 e3
    subst e1 e3
    exact ⟨none, 0, h', hn, by omega, by omega, hl⟩
  · rw [h1] at hv
    injection hv with e1 e2 e3
    subst e1 e3
    unfold maxLen at h5
    exact ⟨_, _, h1, hn, h4, by omega, hl⟩
theorem owned_slot {w : World} {base n : Nat} {v : Value} {xs : List Int} (h : w.ownsRow base 3 1 v n (ints xs)) : ∃ a c, v = .slice a n c ∧ xs.length = n ∧ n ≤ c ∧ c ≤ 9223372036854775807 ∧ Lies w a xs ∧ Slot a n c ∧ ∀ q, a = some q → base ≤ q.block := by
  obtain ⟨a, c, rfl, h1, h2, h3, h4⟩ := owned_room h
  refine ⟨a, c, rfl, h1, h2, h3, h4, ?_, ?_⟩
  · rcases h.2 with ⟨h', h''⟩ | ⟨g, cap, cur, hv, _⟩
    · cases h'; exact .inl ⟨rfl, h'', rfl⟩
    · cases hv; exact .inr ⟨_, rfl⟩
  · intro q hq
    rcases h.2 with ⟨h', h''⟩ | ⟨g, cap, cur, hv, hg, _⟩
    · cases h'; cases hq
    · cases hv; cases hq; exact hg
theorem take_more (xs : List Int) (t : Nat) (x : Int) (h : t < xs.length) (hx : xs.getD t 0 = x) : xs.take (t + 1) = xs.take t ++ [x] := by
  rw [List.take_succ_eq_append_getElem h, ← hx]
  simp [List.getD_eq_getElem?_getD, List.getElem?_eq_getElem h]
theorem flat_step (pre : Int) (xs : List Int) (t : Nat) (x z : Int) (h : t < xs.length) (hx : xs.getD t 0 = x) (hz : x - halfI (pre * lastOf 0 (xs.take t)) 15 = z) :
    ints (flatFrom pre 0 (xs.take (t + 1))) = ints (flatFrom pre 0 (xs.take t)) ++ [.int .i64 z] ∧ lastOf 0 (xs.take (t + 1)) = x := by
  rw [take_more xs t x h hx, flat_snoc, last_snoc, ← hz]
  exact ⟨by simp [ints], rfl⟩

set_option maxRecDepth 100000 in
set_option maxHeartbeats 1600000 in
theorem rflat_any (s hop b c pre : Int) (a : Option Addr) (n cap : Nat) (xs : List Int) (w : World) (hl : Lies w a xs) (hn : xs.length = n) (hn63 : n ≤ 1000000) (hs : ∀ x ∈ xs, Smp x) (h0 : 0 ≤ pre) (h1 : pre ≤ 32767) :
    Calls Tryd.prog 30 #[.agg #[.int .i64 s, .int .i64 hop, .int .i64 b, .int .i64 c, .int .i64 pre], .slice a n cap] w (ToldC (flatFrom pre 0 xs) w) := by
  obtain ⟨i0, hi, hz0, hz1, hz2⟩ := info_parts Tryd.info3
  have HI : Hid (Tryd.prog.info? 3 = some i0 ∧ i0.zero = some (.int .i64 0) ∧ i0.size = 1 ∧ i0.bytes = 8) := ⟨hi, hz0, hz1, hz2⟩
  obtain ⟨W0, hW0⟩ : ∃ W0, w.alloc (.cells #[.int .i64 s, .int .i64 hop, .int .i64 b, .int .i64 c, .int .i64 pre] 27) = W0 := ⟨_, rfl⟩
  obtain ⟨F, hF⟩ : ∃ F, w.heap.size = F := ⟨_, rfl⟩
  have f4 : W0.cell? ⟨F, 4, none⟩ = some (.int .i64 pre) := by rw [← hW0, ← hF, World.cell?_alloc_at _ _ _ _ rfl]; rfl
  have HBW := hide (show Below w.heap.size w W0 by rw [← hW0]; exact alloc_below w _)
  have HL := hide (hl.below (unhide HBW))
  have HN := hide hn
  have HS := hide hs
  have HF4 := hide f4
  clear hl hn hs hi hz0 hz1 hz2
  go_enter Tryd.func30, Tryd.ntmps30
  go_wp2
  clear hW0 hF
  go_loopw [7, 5, 6] (fun i v l wr => ∃ t : Nat, t ≤ n ∧ i = .int .i64 (t : Int) ∧ Hid (wr.ownsRow W0.heap.size 3 1 v t (ints (flatFrom pre 0 (xs.take t)))) ∧ Hid (l = .int .i64 (lastOf 0 (xs.take t))) ∧ Hid (Below W0.heap.size W0 wr))
    (fun i _ _ _ => n - (intOf i).toNat)
  case atStart => exact ⟨0, by omega, rfl, World.ownsRow_nil _ _ _ _, rfl, Below.refl _ _⟩
  case round =>
    obtain ⟨t, ht, rfl, HOr, HV, HBr⟩ := hrel
    obtain ⟨L, hL⟩ : ∃ L, lastOf 0 (xs.take t) = L := ⟨_, rfl⟩
    have hLs : Smp L := by rw [← hL]; exact last_smp _ _ (by unfold Smp; omega) fun y hy => unhide HS y (List.mem_of_mem_take hy)
    rw [hL] at HV
    have hv := unhide HV
    subst hv
    have HLL := hide hL
    clear hL HV
    by_cases hlt : t < n
    · obtain ⟨ba, oa, rfl, hlta, hca⟩ := (unhide HL).some (by intro h; have := unhide HN; subst h; simp at this; omega)
      obtain ⟨x, hx⟩ : ∃ x, xs.getD t 0 = x := ⟨_, rfl⟩
      have cx : wr.cell? ⟨ba, oa + t, none⟩ = some (.int .i64 x) := by rw [(unhide HBr).cell (p := ⟨ba, _, none⟩) hlta, ← hx]; exact hca t (by rw [unhide HN]; exact hlt)
      have cp : wr.cell? ⟨F, 4, none⟩ = some (.int .i64 pre) := ((unhide HBr).cell (p := ⟨F, 4, none⟩) (lt_of_cell f4)).trans f4
      have hxs : Smp x := by
        apply unhide HS
        rw [← hx, List.getD_eq_getElem?_getD, List.getElem?_eq_getElem (by rw [unhide HN]; exact hlt)]
        simp
      obtain ⟨P, hP⟩ : ∃ P, pre * L = P := ⟨_, rfl⟩
      have hPb := pre_bd pre L h0 h1 hLs
      rw [hP] at hPb
      obtain ⟨q, hq⟩ : ∃ q, halfI P 15 = q := ⟨_, rfl⟩
      obtain ⟨z, hz⟩ : ∃ z, x - q = z := ⟨_, rfl⟩
      have hzb := flat_one pre L x h0 h1 hLs hxs
      rw [hP, hq, hz] at hzb
      have HC : Hid (∀ w0, Calls Tryd.prog 39 #[.int .i64 P, .int .i64 15] w0 fun e w' => e = .returned (.int .i64 q) ∧ w' = w0) := fun w0 => by rw [← hq]; exact rhalf_any P 15 w0 ⟨by omega, by omega⟩
      have HX := hide (flat_step pre xs t x z (by rw [unhide HN]; exact hlt) hx (by rw [unhide HLL, hP, hq, hz]))
      obtain ⟨LL, hLL⟩ : ∃ LL, ints (flatFrom pre 0 (xs.take t)) = LL := ⟨_, rfl⟩
      rw [hLL] at HOr HX
      have hPw : IntKind.i64.wrap P = P := by rw [IntKind.wrap_i64]; omega
      have hzw : IntKind.i64.wrap z = z := by rw [IntKind.wrap_i64]; omega
      have hown := unhide HOr
      have hba : ba < wr.heap.size := by have := (unhide HBr).size; omega
      have hFF := lt_of_cell cp
      have hF0 := lt_of_cell f4
      have hr1 : ∀ j, j = ba → Value.ownBlock u5 ≠ some j := fun j hj e => by have := (hown.lt j e).1; omega
      have hr2 : ∀ j, j = F → Value.ownBlock u5 ≠ some j := fun j hj e => by have := (hown.lt j e).1; have : F < W0.heap.size := hF0; omega
      have htn : (t : Int) < (n : Int) := by omega
      clear hca hx hq hLL HOr hLs hxs
      go_wp2_with fail
      go_region_held3 (fun w' => w'.cell? ⟨ba, oa + t, none⟩ = some (.int .i64 x) ∧ w'.cell? ⟨F, 4, none⟩ = some (.int .i64 pre)) (first | exact ⟨cx, cp⟩ | exact ⟨keep_grown hg3 hba hr1 cx, keep_grown hg3 hFF hr2 cp⟩ | go_keep) (first | (refine step_append_lies _ (by rfl) _ _ 24 (by rfl) W0.heap.size 3 i0 (.int .i64 0) 1 8 Tryd.underlying24 (unhide HI).1 (unhide HI).2.1 (unhide HI).2.2.1 (unhide HI).2.2.2 (by rfl) (by decide) _ t _ (by rfl) (hown.alloc _) ⟨wr.heap.size, 0, none⟩ 1 1 [.int .i64 z] (by rfl) (by rfl) (cell_one_new _ _ _) (ints_one [z]) (by decide) (by unfold maxLen; omega) (by omega) (by have := (unhide HBr).size; simp; omega) (wr.heap.size + 1) (by simp) ?_; intro g cp2 w4 hown3 hg3 hat3 hlt3) | (go_at_call 39; go_must (with_reducible refine (unhide HC _).mono ?_); rintro e w' ⟨rfl, rfl⟩))
      have hgr : ∀ q, Value.ownBlock u5 = some q → W0.heap.size ≤ q := fun q hq => (hown.lt q hq).1
      have HB4 := hide (((unhide HBr).alloc (unhide HBr).size _).drew.grown hg3 (by have := (unhide HBr).size; simp; omega) hgr)
      have cx4 := keep_grown hg3 hba hr1 cx
      rw [← (unhide HX).1] at hown3
      have HO4 := hide hown3
      clear hown3 hg3 hat3 hlt3 hgr hown cx cp
      go_wp2
      go_roundw
      case rel => exact ⟨t + 1, by omega, by simp, HO4, by show _ = _; rw [(unhide HX).2], HB4⟩
      case measure => simp [intOf]; omega
    · obtain rfl : t = n := by omega
      have hfin := unhide HOr
      rw [List.take_of_length_le (by rw [unhide HN]; exact Nat.le_refl _)] at hfin
      obtain ⟨a5, c5, rfl, hlen5, hc1, hc2, hl5, hs5, hq5⟩ := owned_slot hfin
      have HL5 := hide hl5
      have HLN := hide hlen5
      have HS5 := hide (And.intro hs5 (show ∀ q, a5 = some q → w.heap.size ≤ q.block from fun q hq => by have := hq5 q hq; have := (unhide HBW).size; omega))
      have HB5 := hide (below_trans (unhide HBW) (unhide HBr))
      clear hfin hl5 hlen5 HOr f4 hs5 hq5
      go_wp2
      go_ret
      exact ⟨_, _, _, rfl, unhide HLN, hc1, hc2, unhide HL5, (unhide HS5).1, (unhide HS5).2, unhide HB5⟩
end Go.Proofs.YtbkdgpeooeokmaaDoor
