/- Package front: frames that are whole, and what is needed still. -/
import Derived.Test.YtbkdgpeooeokmaaDoorFrontCoefs
import Derived.Test.YtbkdgpeooeokmaaDoorFrontConcat
import Derived.Test.YtbkdgpeooeokmaaDoorFrontRows
namespace Go.Proofs.YtbkdgpeooeokmaaDoor
open Go.RowKit
set_option linter.unusedVariables false

theorem Tryd.infoRowC : (Tryd.prog.info? 24).map (fun i => (i.zero, i.size, i.bytes)) = some (some (.slice none 0 0), 1, 24) := by kernel_rfl

/-- A row of numbers, at least one, in a block of its own, from lo on. -/
def FRow (lo : Nat) (w : World) (r : Rr) : Prop := ∃ b, r.1 = some ⟨b, 0, none⟩ ∧ lo ≤ b ∧ 0 < r.2.2.length ∧ Lies w r.1 r.2.2
theorem FRow.below {lo : Nat} {w w' : World} {r : Rr} (h : FRow lo w r) (hb : Below w.heap.size w w') : FRow lo w' r := by
  obtain ⟨b, h1, h2, h3, h4⟩ := h
  exact ⟨b, h1, h2, h3, h4.below hb⟩
theorem FRow.mono {lo lo' : Nat} {w : World} {r : Rr} (h : FRow lo w r) (hl : lo' ≤ lo) : FRow lo' w r := by
  obtain ⟨b, h1, h2, h3, h4⟩ := h
  exact ⟨b, h1, by omega, h3, h4⟩
theorem FRow.only {lo c : Nat} {w w' : World} {r : Rr} (h : FRow lo w r) (ho : Only c w w') (hc : c < lo) : FRow lo w' r := by
  obtain ⟨b, h1, h2, h3, h4⟩ := h
  exact ⟨b, h1, h2, h3, h4.only ho fun _ p hp => by rw [h1] at hp; cases hp; show b ≠ c; omega⟩
/-- Rows of numbers stay where a row of rows grows. -/
theorem FRow.grown {lo base : Nat} {w w' : World} {r : Rr} {v : Value} {rs : List Rr} {t : TypeId} (h : FRow lo w r) (hg : w.grownBy w' v.ownBlock) (ho : w.ownsRow base t 1 v rs.length (rs.map rowV)) (hne : rs ≠ []) : FRow lo w' r := by
  obtain ⟨b, h1, h2, h3, h4⟩ := h
  refine ⟨b, h1, h2, h3, ?_⟩
  rcases h4 with h5 | ⟨b', off, hb, hlt, hc⟩
  · rw [h5] at h3; exact absurd h3 (by decide)
  · rw [h1] at hb
    cases hb
    rcases ho.2 with ⟨_, h0⟩ | ⟨g, cap, cur, hv, _, hgg, hn, _, hcs, htake⟩
    · exact absurd (List.length_eq_zero_iff.1 h0) hne
    · have hbg : b ≠ g := by
        intro e
        subst e
        have c0 := hc 0 h3
        obtain ⟨r0, rs', rfl⟩ := List.exists_cons_of_ne_nil hne
        have hx : cur[0]? = some (rowV r0) := by
          have h6 : (cur.toList.take ((r0 :: rs').length * 1))[0]? = some (rowV r0) := by rw [htake]; rfl
          rw [List.getElem?_take] at h6
          split at h6
          · simpa using h6
          · cases h6
        rw [Nat.zero_add, cell_of_row w b 0 cur t (0, 0) hgg, hx] at c0
        unfold rowV at c0
        cases c0
      rw [h1]
      refine .inr ⟨b, 0, rfl, Nat.lt_of_lt_of_le hlt hg.size, fun j hj => ?_⟩
      rw [World.cell?_of_block (hg.block b hlt (by rw [hv]; simp [Value.ownBlock]; exact hbg))]
      exact hc j hj
theorem frows_under {w w' : World} {base n : Nat} {t : TypeId} {v : Value} {xs : List Value} (h : w.ownsRow base t 1 v n xs) (hb : Below w.heap.size w w') : w'.ownsRow base t 1 v n xs := by
  refine ⟨h.1, ?_⟩
  rcases h.2 with h' | ⟨g, cap, cur, h1, h2, h3, h4⟩
  · exact .inl h'
  · exact .inr ⟨g, cap, cur, h1, h2, by rw [hb.block g (by have := Array.getElem?_eq_some_iff.1 h3; exact this.1)]; exact h3, h4⟩
theorem flies_grown {w w' : World} {row : Option Nat} {b off : Nat} {xs : List Int} (h : Lies w (some ⟨b, off, none⟩) xs) (hg : w.grownBy w' row) (hne : row ≠ some b) : Lies w' (some ⟨b, off, none⟩) xs := by
  rcases h with h | ⟨b', off', hb, hlt, hc⟩
  · exact .inl h
  · cases hb
    refine .inr ⟨b, off, rfl, Nat.lt_of_lt_of_le hlt hg.size, fun j hj => ?_⟩
    rw [World.cell?_of_block (hg.block b hlt fun e => hne e.symm)]
    exact hc j hj
theorem owns_lower {w : World} {base lo n : Nat} {t : TypeId} {v : Value} {xs : List Value} (h : w.ownsRow base t 1 v n xs) (hl : lo ≤ base) : w.ownsRow lo t 1 v n xs := by
  refine ⟨h.1, ?_⟩
  rcases h.2 with h' | ⟨g, cap, cur, h1, h2, h3⟩
  · exact .inl h'
  · exact .inr ⟨g, cap, cur, h1, by omega, h3⟩
def lenV : Value → Nat
  | .slice _ n _ => n
  | _ => 0
theorem spc_half {n p B C : Nat} {pre : Int} (h : Spc n p B C pre) : ∃ h', mayN h' ∧ n = 2 * h' := by
  rcases h.sz with rfl | rfl
  · exact ⟨8, by decide, rfl⟩
  · exact ⟨16, by decide, rfl⟩
theorem allIn_iff' {xs : List Int} {l h : Int} (H : ∀ x ∈ xs, l ≤ x ∧ x ≤ h) : allIn xs l h = true := (allIn_iff xs l h).2 H
/-- Where the rest of a row lies. -/
theorem lies_drop {w : World} {b off : Nat} {R : List Int} (h : Lies w (some ⟨b, off, none⟩) R) (k : Nat) (hk : k ≤ R.length) : Lies w (some ⟨b, off + k, none⟩) (R.drop k) := by
  by_cases h0 : R = []
  · subst h0; left; simp
  · obtain ⟨b', off', hb, hlt, hc⟩ := h.some h0
    cases hb
    refine .inr ⟨b, off + k, rfl, hlt, fun j hj => ?_⟩
    have hj2 : k + j < R.length := by rw [List.length_drop] at hj; omega
    have e : (R.drop k).getD j 0 = R.getD (k + j) 0 := by
      simp [List.getD_eq_getElem?_getD, List.getElem?_drop]
    rw [e, show off + k + j = off + (k + j) by omega]
    exact hc (k + j) hj2
theorem lies_take {w : World} {a : Option Addr} {xs : List Int} (h : Lies w a xs) (n : Nat) : Lies w a (xs.take n) := dlies_take h n

set_option maxRecDepth 100000 in
set_option maxHeartbeats 1600000 in
theorem cut_any (n p B C : Nat) (pre : Int) (hs : Spc n p B C pre) (a : Option Addr) (m c : Nat) (R : List Int) (w : World) (hl : Lies w a R) (hm : R.length = m) (hmc : m ≤ c) (hc63 : c ≤ 9223372036854775807) (hm2 : m ≤ 1000000) (hk : Slot a m c) (hR : ∀ y ∈ R, -65536 ≤ y ∧ y ≤ 65536) (hq : Quar w) :
    Calls Tryd.prog 25 #[.agg #[.int .i64 (n : Int), .int .i64 (p : Int), .int .i64 (B : Int), .int .i64 (C : Int), .int .i64 pre], .slice a m c] w fun e w' => ∃ (v : Value) (a' : Option Addr) (m' c' : Nat) (rs : List Rr), e = .returned (.tuple #[v, .slice a' m' c']) ∧
      w'.ownsRow w.heap.size 24 1 v rs.length (rs.map rowV) ∧ (∀ r ∈ rs, FRow w.heap.size w' r) ∧ rs.map (fun r => r.2.2) = toldF (frameI n B C) n p R ∧
      Lies w' a' (restF n p R) ∧ (restF n p R).length = m' ∧ m' ≤ m ∧ Slot a' m' c' ∧ a'.map Addr.block = a.map Addr.block ∧ Below w.heap.size w w' := by
  obtain ⟨i0, hi, hz0, hz1, hz2⟩ := info_parts Tryd.infoRowC
  have HI : Hid (Tryd.prog.info? 24 = some i0 ∧ i0.zero = some (.slice none 0 0) ∧ i0.size = 1 ∧ i0.bytes = 24) := ⟨hi, hz0, hz1, hz2⟩
  obtain ⟨h', hh1, hh2⟩ := spc_half hs
  have hr := hs.right
  have hn0 : 16 ≤ n := by have := hs.sz; omega
  have hn64 : n ≤ 32 := by have := hs.sz; omega
  have hp0 := hs.hp0
  have hpn := hs.hp
  have hC0 := hs.cf0
  have hC1 : C ≤ 8 := by have := hs.bd; have := hs.cf; omega
  obtain ⟨W0, hW0⟩ : ∃ W0, w.alloc (.cells #[.int .i64 (n : Int), .int .i64 (p : Int), .int .i64 (B : Int), .int .i64 (C : Int), .int .i64 pre] 54) = W0 := ⟨_, rfl⟩
  obtain ⟨F, hF⟩ : ∃ F, w.heap.size = F := ⟨_, rfl⟩
  have HF := hide (show Cells W0 F [.int .i64 (n : Int), .int .i64 (p : Int), .int .i64 (B : Int), .int .i64 (C : Int), .int .i64 pre] by rw [← hW0, ← hF]; exact cells_new w [.int .i64 (n : Int), .int .i64 (p : Int), .int .i64 (B : Int), .int .i64 (C : Int), .int .i64 pre] _)
  have HBW := hide (show Below w.heap.size w W0 by rw [← hW0]; exact alloc_below w _)
  have HSZ := hide (show W0.heap.size = F + 1 by rw [← hW0, ← hF]; simp)
  have HFE := hide hF
  have HL := hide (hl.below (unhide HBW))
  have HQ := hide (hq.below (unhide HBW))
  have HCC : Hid (∀ (a : Option Addr) (cap : Nat) (ys : List Int) (w : World), Lies w a ys → ys.length = n → allIn ys (-65536) 65536 = true → Quar w → Calls Tryd.prog 36 #[.agg #[.int .i64 (n : Int), .int .i64 (p : Int), .int .i64 (B : Int), .int .i64 (C : Int), .int .i64 pre], .slice a n cap] w fun e w' => ∃ g, e = .returned (.slice (some ⟨g, 0, none⟩) C C) ∧ w.heap.size ≤ g ∧ Lies w' (some ⟨g, 0, none⟩) (frameI n B C ys) ∧ Below w.heap.size w w') :=
    fun a cap ys w h1 h2 h3 h4 => coefs_any n h' B C (p : Int) pre a cap ys w hr hh2 hh1 h1 h2 h3 h4
  have HR := hide hR
  have HK := hide hk
  have HM := hide hm
  clear hi hz0 hz1 hz2 hl hR hr hh1 hh2 hs hq hk hm
  go_enter Tryd.func25, Tryd.ntmps25
  go_wp2
  clear hW0 hF
  go_loopw [1, 4] (fun r v wr => ∃ (R' : List Int) (a' : Option Addr) (m' c' : Nat) (rs : List Rr), r = .slice a' m' c' ∧ m' ≤ c' ∧ m' ≤ m ∧ c' ≤ 9223372036854775807 ∧ Hid (R'.length = m') ∧ Hid (Lies W0 a' R') ∧ Hid (Slot a' m' c') ∧ Hid (a'.map Addr.block = a.map Addr.block) ∧ Hid (∀ y ∈ R', -65536 ≤ y ∧ y ≤ 65536) ∧ Hid (rs.map (fun r => r.2.2) ++ toldF (frameI n B C) n p R' = toldF (frameI n B C) n p R ∧ restF n p R' = restF n p R) ∧ rs.length + m' ≤ m ∧
      Hid (wr.ownsRow W0.heap.size 24 1 v rs.length (rs.map rowV)) ∧ Hid (∀ r ∈ rs, FRow W0.heap.size wr r) ∧ Hid (Below W0.heap.size W0 wr))
    (fun r _ _ => lenV r)
  case atStart => exact ⟨R, a, m, c, [], rfl, hmc, Nat.le_refl _, hc63, HM, HL, HK, rfl, HR, ⟨rfl, rfl⟩, by simp, World.ownsRow_nil _ _ _ _, fun r hr => by simp at hr, Below.refl _ _⟩
  case round =>
    obtain ⟨R', a', m', c', rs, rfl, hmc', hmm, hc63', HM', HL', HK', HAB, HR', HT', hrm, HOr, HFr, HBr⟩ := hrel
    have f0 : wr.cell? ⟨F, 0, none⟩ = some (.int .i64 (n : Int)) := ((unhide HF).below (unhide HBr)).cell 0 _ rfl
    have f1 : wr.cell? ⟨F, 1, none⟩ = some (.int .i64 (p : Int)) := ((unhide HF).below (unhide HBr)).cell 1 _ rfl
    have f2 : wr.cell? ⟨F, 2, none⟩ = some (.int .i64 (B : Int)) := ((unhide HF).below (unhide HBr)).cell 2 _ rfl
    have f3 : wr.cell? ⟨F, 3, none⟩ = some (.int .i64 (C : Int)) := ((unhide HF).below (unhide HBr)).cell 3 _ rfl
    have f4 : wr.cell? ⟨F, 4, none⟩ = some (.int .i64 pre) := ((unhide HF).below (unhide HBr)).cell 4 _ rfl
    by_cases hge : n ≤ m'
    · obtain ⟨ba, oa, rfl, hlta, hca⟩ := (unhide HL').some (by intro h; have := unhide HM'; subst h; simp at this; omega)
      clear hca
      have hmI : (n : Int) ≤ (m' : Int) := by omega
      have hmI2 : ¬ (m' : Int) < (n : Int) := by omega
      have hnc : n ≤ c' := by omega
      have hncI : (n : Int) ≤ (c' : Int) := by omega
      have hlk : Lies wr.drew (some ⟨ba, oa, none⟩) (R'.take n) := lies_take (((unhide HL').below (unhide HBr)).below ⟨rfl, rfl, rfl, Nat.le_refl _, fun _ _ => rfl⟩) n
      have hlt : (R'.take n).length = n := by rw [List.length_take, unhide HM']; omega
      have hall : allIn (R'.take n) (-65536) 65536 = true := allIn_iff' fun x hx => unhide HR' x (List.mem_of_mem_take hx)
      have hqr : Quar wr.drew := ((unhide HQ).below (unhide HBr)).below ⟨rfl, rfl, rfl, Nat.le_refl _, fun _ _ => rfl⟩
      have hown := unhide HOr
      have hsz := unhide HSZ
      have hFr : F < wr.heap.size := by have := (unhide HBr).size; omega
      have hr1 : ∀ j, j = F → Value.ownBlock u4 ≠ some j := fun j hj e => by have := (hown.lt j e).1; omega
      have keep : ∀ {w' : World}, Below wr.heap.size wr w' → w'.cell? ⟨F, 0, none⟩ = some (.int .i64 (n : Int)) ∧ w'.cell? ⟨F, 1, none⟩ = some (.int .i64 (p : Int)) ∧ w'.cell? ⟨F, 2, none⟩ = some (.int .i64 (B : Int)) ∧ w'.cell? ⟨F, 3, none⟩ = some (.int .i64 (C : Int)) ∧ w'.cell? ⟨F, 4, none⟩ = some (.int .i64 pre) := fun hb =>
        ⟨(hb.cell (p := ⟨F, 0, none⟩) (lt_of_cell f0)).trans f0, (hb.cell (p := ⟨F, 1, none⟩) (lt_of_cell f1)).trans f1, (hb.cell (p := ⟨F, 2, none⟩) (lt_of_cell f2)).trans f2, (hb.cell (p := ⟨F, 3, none⟩) (lt_of_cell f3)).trans f3, (hb.cell (p := ⟨F, 4, none⟩) (lt_of_cell f4)).trans f4⟩
      go_wp2_with fail
      go_region_held3 (fun w' => w'.cell? ⟨F, 0, none⟩ = some (.int .i64 (n : Int)) ∧ w'.cell? ⟨F, 1, none⟩ = some (.int .i64 (p : Int)) ∧ w'.cell? ⟨F, 2, none⟩ = some (.int .i64 (B : Int)) ∧ w'.cell? ⟨F, 3, none⟩ = some (.int .i64 (C : Int)) ∧ w'.cell? ⟨F, 4, none⟩ = some (.int .i64 pre))
        (first | exact ⟨f0, f1, f2, f3, f4⟩ | exact ⟨keep_grown2 hg4 (by have := hb3.size; simp at this; omega) hr1 (keep (spin_undrew hb3)).1, keep_grown2 hg4 (by have := hb3.size; simp at this; omega) hr1 (keep (spin_undrew hb3)).2.1, keep_grown2 hg4 (by have := hb3.size; simp at this; omega) hr1 (keep (spin_undrew hb3)).2.2.1, keep_grown2 hg4 (by have := hb3.size; simp at this; omega) hr1 (keep (spin_undrew hb3)).2.2.2.1, keep_grown2 hg4 (by have := hb3.size; simp at this; omega) hr1 (keep (spin_undrew hb3)).2.2.2.2⟩ | exact keep (spin_undrew hb3) | go_keep)
        (first
          | (refine step_append_lies _ (by rfl) _ _ 32 (by rfl) W0.heap.size 24 i0 (.slice none 0 0) 1 24 Tryd.underlying32 (unhide HI).1 (unhide HI).2.1 (unhide HI).2.2.1 (unhide HI).2.2.2 (by rfl) (by decide) _ rs.length _ (by rfl) ((frows_under hown (spin_undrew hb3)).alloc _) ⟨w3.heap.size, 0, none⟩ 1 1 [.slice (some ⟨g, 0, none⟩) C C] (by rfl) (by rfl) (cell_one_new _ _ _) (by intro u hu; simp at hu; subst hu; rfl) (by decide) (by unfold maxLen; omega) (by omega) (by have := (unhide HBr).size; have := hb3.size; simp at this ⊢; omega) (w3.heap.size + 1) (by simp) ?_; intro g4 cp4 w4 hown4 hg4 hat4 hlt4)
          | (go_at_call 36; go_must (with_reducible refine (unhide HCC _ c' (R'.take n) wr.drew hlk hlt hall hqr).mono ?_); rintro e w3 ⟨g, rfl, hg, hlg, hb3⟩))
      rename_i hHeld
      obtain ⟨k0, k1, _⟩ := hHeld
      have hgr : ∀ q, Value.ownBlock u4 = some q → W0.heap.size ≤ q := fun q hq => (hown.lt q hq).1
      have hb4 := (unhide HBr).trans ((spin_undrew hb3).mono (unhide HBr).size)
      have HB5 := hide ((hb4.alloc hb4.size _).grown hg4 (by have := hb4.size; simp; omega) hgr)
      have hfl := frame_len n B C (R'.take n)
      have hon3 : (w3.alloc (.cells #[.slice (some ⟨g, 0, none⟩) C C] 24)).ownsRow W0.heap.size 24 1 u4 rs.length (rs.map rowV) := (frows_under hown (spin_undrew hb3)).alloc _
      have HF5 : Hid (∀ r ∈ rs ++ [((some ⟨g, 0, none⟩, C, frameI n B C (R'.take n)) : Rr)], FRow W0.heap.size w4 r) := by
        intro r hr
        rcases List.mem_append.1 hr with hr | hr
        · exact (((unhide HFr r hr).below (spin_undrew hb3)).below ((Below.refl _ w3).alloc (Nat.le_refl _) _)).grown hg4 hon3 (by intro e; subst e; simp at hr)
        · simp at hr
          subst hr
          refine ⟨g, rfl, by have := (unhide HBr).size; simp at hg; omega, by show 0 < (frameI n B C (R'.take n)).length; omega, ?_⟩
          exact flies_grown (hlg.below ((Below.refl _ w3).alloc (Nat.le_refl _) _)) hg4 (fun e => by have := (hown.lt g e).2; simp at hg; omega)
      have HO5 : Hid (w4.ownsRow W0.heap.size 24 1 (.slice (some ⟨g4, 0, none⟩) (rs.length + 1) cp4) (rs ++ [((some ⟨g, 0, none⟩, C, frameI n B C (R'.take n)) : Rr)]).length ((rs ++ [((some ⟨g, 0, none⟩, C, frameI n B C (R'.take n)) : Rr)]).map rowV)) := by
        show World.ownsRow _ _ _ _ _ _ _
        rw [List.length_append, List.map_append]
        show w4.ownsRow W0.heap.size 24 1 (.slice (some ⟨g4, 0, none⟩) (rs.length + 1) cp4) (rs.length + 1) (rs.map rowV ++ [.slice (some ⟨g, 0, none⟩) (frameI n B C (R'.take n)).length C])
        rw [hfl]
        exact hown4
      have HT5 := hide (show (rs ++ [((some ⟨g, 0, none⟩, C, frameI n B C (R'.take n)) : Rr)]).map (fun r => r.2.2) ++ toldF (frameI n B C) n p (R'.drop p) = toldF (frameI n B C) n p R ∧ restF n p (R'.drop p) = restF n p R by
        obtain ⟨e1, e2⟩ := told_one (frameI n B C) n p R' (by omega) hpn (by rw [unhide HM']; exact hge)
        rw [← (unhide HT').1, ← (unhide HT').2, e1, e2, List.map_append, List.append_assoc]
        exact ⟨rfl, rfl⟩)
      have HR5 := hide (show ∀ y ∈ R'.drop p, -65536 ≤ y ∧ y ≤ 65536 from fun y hy => unhide HR' y (List.mem_of_mem_drop hy))
      have HM5 := hide (show (R'.drop p).length = m' - p by rw [List.length_drop, unhide HM'])
      have HL5 := hide (lies_drop (unhide HL') p (by rw [unhide HM']; omega))
      clear hown hon3 hown4 hg4 hat4 hlt4 hb3 hb4 hg hlg hgr hr1 keep hlk hlt hall hqr HOr HFr HBr HR' HT' f0 f1 f2 f3 f4 hfl
      have hpm : (p : Int) ≤ (m' : Int) := by omega
      have hpmN : p ≤ m' := by omega
      by_cases hcp : c' = p
      · subst hcp
        obtain rfl : c' = m' := by omega
        go_wp2_with fail
        go_roundw
        case rel => exact ⟨R'.drop c', _, _, _, _, rfl, by omega, by omega, by omega, by have := unhide HM5; exact hide (by omega), hide (.inl (List.length_eq_zero_iff.1 (by rw [unhide HM5]; omega))), .inr ⟨_, rfl⟩, HAB, HR5, HT5, by rw [List.length_append]; simp; omega, HO5, HF5, HB5⟩
        case measure => simp [lenV]; omega
      · have hcpI : ¬ (c' : Int) = (p : Int) := by omega
        have hcm : (m' : Int) - (p : Int) = ((m' - p : Nat) : Int) := by omega
        go_wp2_with fail
        go_roundw
        case rel => exact ⟨R'.drop p, _, _, _, _, rfl, by omega, by omega, by omega, HM5, HL5, .inr ⟨_, rfl⟩, HAB, HR5, HT5, by rw [List.length_append]; simp; omega, HO5, HF5, HB5⟩
        case measure => simp [lenV]; omega
    · have hge2 : ¬ (n : Int) ≤ (m' : Int) := by omega
      have hge3 : (m' : Int) < (n : Int) := by omega
      obtain ⟨t1, t2⟩ := told_none (frameI n B C) n p R' (by rw [unhide HM']; omega)
      have HT6 := hide (show rs.map (fun r => r.2.2) = toldF (frameI n B C) n p R ∧ restF n p R = R' by
        have h := unhide HT'
        rw [t1, List.append_nil, t2] at h
        exact ⟨h.1, h.2.symm⟩)
      clear t1 t2 HT'
      have hfw : w.heap.size ≤ W0.heap.size := by have := unhide HSZ; have := unhide HFE; omega
      go_wp2_with fail
      go_ret2
      exact ⟨u4, a', m', c', rfl, rs, owns_lower (unhide HOr) hfw, fun a b c hr => ((unhide HFr) _ hr).mono hfw, (unhide HT6).1, by rw [(unhide HT6).2]; exact (unhide HL').below (unhide HBr), by rw [(unhide HT6).2]; exact unhide HM', hmm, unhide HK', unhide HAB, below_trans (unhide HBW) (unhide HBr)⟩
end Go.Proofs.YtbkdgpeooeokmaaDoor
