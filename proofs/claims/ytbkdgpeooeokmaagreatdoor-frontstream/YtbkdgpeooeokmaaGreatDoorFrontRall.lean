/- The document's frames of all sound at once. -/
import Derived.Test.YtbkdgpeooeokmaaGreatDoorFrontKeep
import Derived.Test.YtbkdgpeooeokmaaGreatDoorFrontRwhole
namespace Go.Proofs.YtbkdgpeooeokmaaGreatDoor
open Go.RowKit
set_option linter.unusedVariables false

/-- nil, or a block. -/
def RSlot (a : Option Addr) (m c : Nat) : Prop := (a = none ∧ m = 0 ∧ c = 0) ∨ ∃ g, a = some ⟨g, 0, none⟩
/-- A row of rows that grew: where it lies. -/
theorem rr_lies {w : World} {base n : Nat} {t : TypeId} {v : Value} {rs : List Rr} (h : w.ownsRow base t 1 v n (rs.map rowV)) (hl : ∀ r ∈ rs, Lies w r.1 r.2.2) : ∃ a c, v = .slice a n c ∧ rs.length = n ∧ n ≤ c ∧ RSlot a n c ∧ LiesRR w a rs := by
  have hn : rs.length = n := by have := h.1; simpa using this
  rcases h.2 with ⟨h', h''⟩ | ⟨g, cap, cur, h1, h2, h3, h4, _⟩
  · subst h''
    exact ⟨none, 0, h', hn, by omega, .inl ⟨rfl, rfl, rfl⟩, .inl (List.length_eq_zero_iff.1 hn)⟩
  · refine ⟨_, _, h1, hn, h4, .inr ⟨g, rfl⟩, .inr ⟨g, 0, rfl, (Array.getElem?_eq_some_iff.1 h3).1, fun j hj => ?_⟩⟩
    have hc := (by rw [h1] at h; exact h : w.ownsRow base t 1 (.slice (some ⟨g, 0, none⟩) n cap) n (rs.map rowV)).cellAt j (by omega)
    have e : rs.getD j nilR = rs[j] := by simp [List.getD_eq_getElem?_getD, List.getElem?_eq_getElem hj]
    rw [Nat.zero_add, hc, e]
    exact ⟨by simp [List.getElem?_eq_getElem hj], hl _ (List.getElem_mem hj)⟩
theorem lies_grown_opt {w w' : World} {row : Option Nat} {a : Option Addr} {xs : List Int} (h : Lies w a xs) (hg : w.grownBy w' row) (hne : ∀ q, a = some q → row ≠ some q.block) : Lies w' a xs := by
  rcases h with h | ⟨b, off, rfl, hlt, hc⟩
  · exact .inl h
  · refine .inr ⟨b, off, rfl, Nat.lt_of_lt_of_le hlt hg.size, fun j hj => ?_⟩
    rw [World.cell?_of_block (hg.block b hlt fun e => hne _ rfl e.symm)]
    exact hc j hj
theorem lies_lt {w : World} {a : Option Addr} {xs : List Int} (h : Lies w a xs) (h0 : 0 < xs.length) : ∀ q, a = some q → q.block < w.heap.size := by
  intro q hq
  rcases h with h | ⟨b, off, rfl, hlt, _⟩
  · rw [h] at h0; exact absurd h0 (by decide)
  · cases hq; exact hlt
/-- A part of a row of numbers. -/
theorem lies_cut {w : World} {b off : Nat} {R : List Int} (h : Lies w (some ⟨b, off, none⟩) R) (k s : Nat) (hk : k + s ≤ R.length) : Lies w (some ⟨b, off + k, none⟩) ((R.drop k).take s) := by
  by_cases h0 : R = []
  · subst h0; left; simp
  · obtain ⟨b', off', hb, hlt, hc⟩ := h.some h0
    cases hb
    refine .inr ⟨b, off + k, rfl, hlt, fun j hj => ?_⟩
    have hjs : j < s := by have := hj; rw [List.length_take] at this; omega
    have e : ((R.drop k).take s).getD j 0 = R.getD (k + j) 0 := by
      simp [List.getD_eq_getElem?_getD, List.getElem?_drop, hjs]
    rw [e, show off + k + j = off + (k + j) by omega]
    exact hc (k + j) (by omega)

/-- All frames of sound at once, somewhere. -/
def ToldRR (m : Nat) (f : Nat → List Int) (w : World) (e : Ending) (w' : World) : Prop := ∃ a c rs, e = .returned (.slice a m c) ∧ rs.length = m ∧ m ≤ c ∧ RSlot a m c ∧ LiesRR w' a rs ∧ (∀ j, j < m → (rs.getD j nilR).2.2 = f j) ∧ Below w.heap.size w w'

set_option maxRecDepth 100000 in
set_option maxHeartbeats 1600000 in
theorem rwhole_any (n p B C : Nat) (pre : Int) (hs : Spc n p B C pre) (a : Option Addr) (cap N : Nat) (X : List Int) (w : World) (hl : Lies w a X) (hN : X.length = N) (hN2 : N ≤ 1000) (hX : ∀ x ∈ X, Smp x) :
    Calls Tryz.prog 13 #[.agg #[.int .i64 (n : Int), .int .i64 (p : Int), .int .i64 (B : Int), .int .i64 (C : Int), .int .i64 pre], .slice a N cap] w (ToldRR (framesN n p N) (fun i => frameI n B C (cutF n p (flatFrom pre 0 X) i)) w) := by
  obtain ⟨i0, hi, hz0, hz1, hz2⟩ := info_parts Tryz.infoRowC
  have HI : Hid (Tryz.prog.info? 26 = some i0 ∧ i0.zero = some (.slice none 0 0) ∧ i0.size = 1 ∧ i0.bytes = 24) := ⟨hi, hz0, hz1, hz2⟩
  obtain ⟨W0, hW0⟩ : ∃ W0, w.alloc (.cells #[.int .i64 (n : Int), .int .i64 (p : Int), .int .i64 (B : Int), .int .i64 (C : Int), .int .i64 pre] 23) = W0 := ⟨_, rfl⟩
  obtain ⟨F, hF⟩ : ∃ F, w.heap.size = F := ⟨_, rfl⟩
  have hc5 : Cells W0 F [.int .i64 (n : Int), .int .i64 (p : Int), .int .i64 (B : Int), .int .i64 (C : Int), .int .i64 pre] := by rw [← hW0, ← hF]; exact cells_new w [.int .i64 (n : Int), .int .i64 (p : Int), .int .i64 (B : Int), .int .i64 (C : Int), .int .i64 pre] _
  have HC5 := hide hc5
  have HBW := hide (show Below w.heap.size w W0 by rw [← hW0]; exact alloc_below w _)
  have HL := hide (hl.below (unhide HBW))
  have HN := hide hN
  have HX := hide hX
  have HS := hide hs
  have f0 : W0.cell? ⟨F, 0, none⟩ = some (.int .i64 (n : Int)) := hc5.cell 0 _ rfl
  have f1 : W0.cell? ⟨F, 1, none⟩ = some (.int .i64 (p : Int)) := hc5.cell 1 _ rfl
  have f2 : W0.cell? ⟨F, 2, none⟩ = some (.int .i64 (B : Int)) := hc5.cell 2 _ rfl
  have f3 : W0.cell? ⟨F, 3, none⟩ = some (.int .i64 (C : Int)) := hc5.cell 3 _ rfl
  have f4 : W0.cell? ⟨F, 4, none⟩ = some (.int .i64 pre) := hc5.cell 4 _ rfl
  have hn64 : n ≤ 32 := by have := hs.sz; omega
  have hp0 := hs.hp0
  have hpn := hs.hp
  have r0 := hs.r0
  have r1 := hs.r1
  clear hi hz0 hz1 hz2 hl hN hX hs hc5
  go_enter Tryz.func13, Tryz.ntmps13
  go_wp2_with fail
  clear hW0 hF
  refine (rflat_any (n : Int) (p : Int) (B : Int) (C : Int) pre a N cap X W0 (unhide HL) (unhide HN) (by omega) (unhide HX) r0 r1).mono ?_
  rintro e w1 ⟨ay, ly, cy, rfl, hly, hyc, hyc2, hlies, hys, hyb, hb⟩
  obtain rfl : N = ly := by rw [← hly, flat_len]; exact (unhide HN).symm
  have HY := hide hlies
  have HYS := hide hys
  have HLY := hide hly
  have HB1 := hide (below_trans (unhide HBW) hb)
  have HBW1 := hide hb
  have HC1 := hide ((unhide HC5).below hb)
  clear hlies hly hys hyb hb f0 f1 f2 f3 f4
  obtain ⟨M, hM⟩ : ∃ M, framesN n p N = M := ⟨_, rfl⟩
  have HMM := hide hM
  obtain ⟨h', hh1, hh2⟩ := spc_half (unhide HS)
  have hC0 := (unhide HS).cf0
  have HFS : Hid (∀ w', Calls Tryz.prog 16 #[.agg #[.int .i64 (n : Int), .int .i64 (p : Int), .int .i64 (B : Int), .int .i64 (C : Int), .int .i64 pre], .int .i64 (N : Int)] w' fun e w'' => e = .returned (.int .i64 (M : Int)) ∧ Below w'.heap.size w' w'') := fun w' => by
    rw [← hM]; exact rframes_any n p (B : Int) (C : Int) pre N w' (by omega) (by omega) (by omega)
  obtain ⟨Y, hYY⟩ : ∃ Y, flatFrom pre 0 X = Y := ⟨_, rfl⟩
  have HYB := hide (show ∀ y ∈ Y, -65536 ≤ y ∧ y ≤ 65536 by rw [← hYY]; exact flat_bd pre r0 r1 0 X (by unfold Smp; decide) (unhide HX))
  rw [hYY] at HY HLY
  have HHH := hide (And.intro hh1 hh2)
  have HMN := hide (show M ≤ N by rw [← hM]; have := (frames_rest n p N (by omega) hpn).1; exact Nat.le_trans (Nat.le_mul_of_pos_right _ (by omega)) this)
  have HYY := hide hYY
  clear hM hYY hh1 hh2
  go_wp2
  go_loopw [7, 6] (fun i v wr => ∃ (k : Nat) (rs : List Rr), k ≤ M ∧ i = .int .i64 (k : Int) ∧ rs.length = k ∧ Hid (wr.ownsRow w1.heap.size 26 1 v rs.length (rs.map rowV)) ∧ Hid (∀ x ∈ rs, Lies wr x.1 x.2.2 ∧ x.2.2.length = C ∧ ∀ q, x.1 = some q → Value.ownBlock v ≠ some q.block) ∧ Hid (∀ j, j < k → (rs.getD j nilR).2.2 = frameI n B C (cutF n p Y j)) ∧ Hid (Below w1.heap.size w1 wr))
    (fun i _ _ => M - (intOf i).toNat)
  case atStart => exact ⟨0, [], by omega, rfl, rfl, World.ownsRow_nil _ _ _ _, fun x hx => by simp at hx, fun j hj => absurd hj (Nat.not_lt_zero _), Below.refl _ _⟩
  case round =>
    obtain ⟨k, rs, hkM, rfl, hrk, HOr, HFr, HJr, HBr⟩ := hrel
    have HRK := hide hrk
    have hrM : rs.length ≤ M := by omega
    clear hrk
    obtain ⟨f0, f1, f2, f3, f4⟩ := show wr.cell? ⟨F, 0, none⟩ = some (.int .i64 (n : Int)) ∧ wr.cell? ⟨F, 1, none⟩ = some (.int .i64 (p : Int)) ∧ wr.cell? ⟨F, 2, none⟩ = some (.int .i64 (B : Int)) ∧ wr.cell? ⟨F, 3, none⟩ = some (.int .i64 (C : Int)) ∧ wr.cell? ⟨F, 4, none⟩ = some (.int .i64 pre) from ⟨((unhide HC1).below (unhide HBr)).cell 0 _ rfl, ((unhide HC1).below (unhide HBr)).cell 1 _ rfl, ((unhide HC1).below (unhide HBr)).cell 2 _ rfl, ((unhide HC1).below (unhide HBr)).cell 3 _ rfl, ((unhide HC1).below (unhide HBr)).cell 4 _ rfl⟩
    go_wp2_with fail
    refine (unhide HFS wr).mono ?_
    rintro e w2 ⟨rfl, hb2⟩
    have HO2 := hide (frows_under (unhide HOr) hb2)
    have HF2 := hide (show ∀ x ∈ rs, Lies w2 x.1 x.2.2 ∧ x.2.2.length = C ∧ ∀ q, x.1 = some q → Value.ownBlock u6 ≠ some q.block from fun x hx => ⟨((unhide HFr x hx).1).below hb2, (unhide HFr x hx).2⟩)
    have HB2 := hide ((unhide HBr).trans (hb2.mono (unhide HBr).size))
    clear hb2 HOr HFr HBr f0 f1 f2 f3 f4
    have hFF : F < w1.heap.size := (unhide HC1).lt
    by_cases hlt : k < M
    · obtain ⟨P, hP⟩ : ∃ P, k * p = P := ⟨_, rfl⟩
      obtain ⟨E, hE⟩ : ∃ E, P + n = E := ⟨_, rfl⟩
      have hEN : E ≤ N := by
        have := cut_whole n p Y k (by omega) (by rw [unhide HLY, unhide HMM]; exact hlt)
        rw [hP, unhide HLY] at this
        omega
      obtain ⟨yb, yo, rfl, hyb, hyc0⟩ := (unhide HY).some (by intro e; have := unhide HLY; subst e; simp at this; omega)
      have HLK := hide (show Lies w1 (some ⟨yb, yo + P, none⟩) (cutF n p Y k) by
        unfold cutF; rw [hP]; exact lies_cut (unhide HY) P n (by rw [unhide HLY]; omega))
      have HLN := hide (cut_len n p Y k (by rw [hP, unhide HLY]; omega))
      have HAL := hide (show allIn (cutF n p Y k) (-65536) 65536 = true from allIn_iff' fun y hy => unhide HYB y (List.mem_of_mem_drop (List.mem_of_mem_take hy)))
      have HFC : Hid (∀ (c' : Nat) (w' : World), Below w1.heap.size w1 w' → Calls Tryz.prog 9 #[.agg #[.int .i64 (n : Int), .int .i64 (p : Int), .int .i64 (B : Int), .int .i64 (C : Int), .int .i64 pre], .slice (some ⟨yb, yo + P, none⟩) n c'] w' (ToldC (frameI n B C (cutF n p Y k)) w')) := fun c' w' hb =>
        rframe_low n h' B C (p : Int) pre _ c' _ w' (unhide HS).right (unhide HHH).2 (unhide HHH).1 ((unhide HLK).below hb) (unhide HLN) (unhide HAL)
      have hPi : (k : Int) * (p : Int) = (P : Int) := by rw [← hP]; push_cast; rfl
      have hEi : (P : Int) + (n : Int) = (E : Int) := by omega
      have hPw : IntKind.i64.wrap (P : Int) = (P : Int) := by rw [IntKind.wrap_i64]; omega
      have hEw : IntKind.i64.wrap (E : Int) = (E : Int) := by rw [IntKind.wrap_i64]; omega
      have hPE : (P : Int) ≤ (E : Int) := by omega
      have hEc : (E : Int) ≤ (cy : Int) := by omega
      have hEP : E - P = n := by omega
      have hEPi : (E : Int) - (P : Int) = (n : Int) := by omega
      have hcP : ¬ cy = P := by omega
      have hcPi : ¬ (cy : Int) = (P : Int) := by omega
      have hkMi : (k : Int) < (M : Int) := by omega
      have hown := unhide HO2
      have hbB := unhide HB2
      have hbd : Below w1.heap.size w1 w2.drew := hbB.drew
      have hr1 : ∀ j, j = F → Value.ownBlock u6 ≠ some j := fun j hj e => by have := (hown.lt j e).1; omega
      have hF2 : F < w2.heap.size := by have := hbB.size; omega
      have hMN := unhide HMN
      have keep : ∀ {w' : World}, Below w1.heap.size w1 w' → w'.cell? ⟨F, 0, none⟩ = some (.int .i64 (n : Int)) ∧ w'.cell? ⟨F, 1, none⟩ = some (.int .i64 (p : Int)) ∧ w'.cell? ⟨F, 2, none⟩ = some (.int .i64 (B : Int)) ∧ w'.cell? ⟨F, 3, none⟩ = some (.int .i64 (C : Int)) ∧ w'.cell? ⟨F, 4, none⟩ = some (.int .i64 pre) := fun hb => by
        have h := (unhide HC1).below hb
        exact ⟨h.cell 0 _ rfl, h.cell 1 _ rfl, h.cell 2 _ rfl, h.cell 3 _ rfl, h.cell 4 _ rfl⟩
      have keep0 := keep hbB
      clear hP hE hyc0
      go_wp2_with fail
      go_region_held3 (fun w' => w'.cell? ⟨F, 0, none⟩ = some (.int .i64 (n : Int)) ∧ w'.cell? ⟨F, 1, none⟩ = some (.int .i64 (p : Int)) ∧ w'.cell? ⟨F, 2, none⟩ = some (.int .i64 (B : Int)) ∧ w'.cell? ⟨F, 3, none⟩ = some (.int .i64 (C : Int)) ∧ w'.cell? ⟨F, 4, none⟩ = some (.int .i64 pre))
        (first | exact keep0 | exact ⟨keep_grown2 hg4 (by have := hb3.size; simp at this; omega) hr1 (keep hbF).1, keep_grown2 hg4 (by have := hb3.size; simp at this; omega) hr1 (keep hbF).2.1, keep_grown2 hg4 (by have := hb3.size; simp at this; omega) hr1 (keep hbF).2.2.1, keep_grown2 hg4 (by have := hb3.size; simp at this; omega) hr1 (keep hbF).2.2.2.1, keep_grown2 hg4 (by have := hb3.size; simp at this; omega) hr1 (keep hbF).2.2.2.2⟩ | exact keep hbF | go_keep)
        (first
          | (refine step_append_lies _ (by rfl) _ _ 35 (by rfl) w1.heap.size 26 i0 (.slice none 0 0) 1 24 Tryz.underlying35 (unhide HI).1 (unhide HI).2.1 (unhide HI).2.2.1 (unhide HI).2.2.2 (by rfl) (by decide) _ rs.length _ (by rfl) ((frows_under hown (spin_undrew hb3)).alloc _) ⟨w3.heap.size, 0, none⟩ 1 1 [.slice a3 C c3] (by rfl) (by rfl) (cell_one_new _ _ _) (by intro u hu; simp at hu; subst hu; rfl) (by decide) (by unfold maxLen; omega) (by omega) (by have := hbB.size; have := hb3.size; simp at this ⊢; omega) (w3.heap.size + 1) (by simp) ?_; intro g4 cp4 w4 hown4 hg4 hat4 hlt4)
          | (go_at_call 9; go_must (with_reducible refine (unhide HFC _ w2.drew hbd).mono ?_); rintro e w3 ⟨a3, l3, c3, rfl, hl3, hc31, hc32, hli3, hs3, hq3, hb3⟩; obtain rfl : C = l3 := (frame_len n B C _).symm.trans hl3; have hbF := hbd.trans (hb3.mono hbd.size)))
      have hgr : ∀ q, Value.ownBlock u6 = some q → w1.heap.size ≤ q := fun q hq => (hown.lt q hq).1
      have HB5 := hide ((hbF.alloc hbF.size _).grown hg4 (by have := hbF.size; simp; omega) hgr)
      have hfl := frame_len n B C (cutF n p Y k)
      have HO5 : Hid (w4.ownsRow w1.heap.size 26 1 (.slice (some ⟨g4, 0, none⟩) (rs.length + 1) cp4) (rs ++ [((a3, c3, frameI n B C (cutF n p Y k)) : Rr)]).length ((rs ++ [((a3, c3, frameI n B C (cutF n p Y k)) : Rr)]).map rowV)) := by
        show World.ownsRow _ _ _ _ _ _ _
        rw [List.length_append, List.map_append]
        show w4.ownsRow w1.heap.size 26 1 (.slice (some ⟨g4, 0, none⟩) (rs.length + 1) cp4) (rs.length + 1) (rs.map rowV ++ [.slice a3 (frameI n B C (cutF n p Y k)).length c3])
        rw [hfl]
        exact hown4
      have HF5 : Hid (∀ x ∈ rs ++ [((a3, c3, frameI n B C (cutF n p Y k)) : Rr)], Lies w4 x.1 x.2.2 ∧ x.2.2.length = C ∧ ∀ q, x.1 = some q → Value.ownBlock (.slice (some ⟨g4, 0, none⟩) (rs.length + 1) cp4) ≠ some q.block) := by
        intro x hx
        have hs23 : w2.heap.size ≤ w3.heap.size := hb3.size
        rcases List.mem_append.1 hx with hx | hx
        · obtain ⟨h1, h2, h3⟩ := unhide HF2 x hx
          refine ⟨lies_grown_opt ((h1.below (spin_undrew hb3)).below (alloc_below w3 _)) hg4 h3, h2, fun q hq e => ?_⟩
          have hqb := lies_lt h1 (by omega) q hq
          have e : g4 = q.block := by simpa [Value.ownBlock] using e
          rcases hat4 with h | h
          · exact h3 q hq (by rw [h, e])
          · omega
        · simp at hx
          subst hx
          refine ⟨lies_grown_opt (hli3.below (alloc_below w3 _)) hg4 (fun q hq e => ?_), hfl, fun q hq e => ?_⟩
          · have h1 := (hown.lt _ e).2
            have h2 := hq3 q hq
            have h3 : w2.heap.size ≤ q.block := h2
            omega
          · have e : g4 = q.block := by simpa [Value.ownBlock] using e
            have h2 : w2.heap.size ≤ q.block := hq3 q hq
            have h3 := lies_lt hli3 (by omega) q hq
            rcases hat4 with h | h
            · have := (hown.lt _ h).2; omega
            · omega
      have HJ5 := hide (show ∀ j, j < k + 1 → ((rs ++ [((a3, c3, frameI n B C (cutF n p Y k)) : Rr)]).getD j nilR).2.2 = frameI n B C (cutF n p Y j) from fun j hj => by
        have hrk := unhide HRK
        by_cases e : j < k
        · rw [← unhide HJr j e]
          simp [List.getD_eq_getElem?_getD, List.getElem?_append, hrk, e]
        · obtain rfl : j = k := by omega
          simp [List.getD_eq_getElem?_getD, hrk])
      clear hown hown4 hg4 hat4 hlt4 hb3 hbF hli3 hs3 hq3 hc31 hc32 hgr hr1 keep keep0 hbd hbB HO2 HF2 HJr hl3
      go_wp2
      go_roundw
      case rel => exact ⟨k + 1, _, by omega, by simp, by rw [List.length_append, unhide HRK]; rfl, HO5, HF5, HJ5, HB5⟩
      case measure => simp [intOf]; omega
    · obtain rfl : k = M := by omega
      obtain ⟨aZ, cZ, rfl, hZ1, hZ2, hZS, hZ3⟩ := rr_lies (n := rs.length) (unhide HO2) (fun x hx => (unhide HF2 x hx).1)
      have HZ3 := hide hZ3
      have HBE := hide (below_trans (unhide HBW) ((show Below W0.heap.size W0 w1 from unhide HBW1).trans ((unhide HB2).mono (unhide HBW1).size)))
      clear hZ3
      go_wp2
      go_ret
      rw [unhide HMM, unhide HYY, ← unhide HRK]
      exact ⟨aZ, cZ, rs, rfl, rfl, hZ2, hZS, unhide HZ3, fun j hj => unhide HJr j (by rw [← unhide HRK]; exact hj), unhide HBE⟩
end Go.Proofs.YtbkdgpeooeokmaaGreatDoor
