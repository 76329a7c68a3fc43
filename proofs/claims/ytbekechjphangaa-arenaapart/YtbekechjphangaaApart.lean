/- The walk of ArenaApart. -/
import Derived.Test.YtbekechjphangaaLaysw
import Derived.Test.YtbekechjphangaaKeeps
import Derived.Test.YtbekechjphangaaMath
import Derived.Test.YtbekechjphangaaPart
import Derived.Test.YtbekechjphangaaSsa
import Derived.Deep.CutBlock
import Derived.Deep.DeepCutAuto
import Derived.Deep.QuietTactic
import Derived.BigQuiet
namespace Go.Proofs.Ytbekechjphangaa
open Go.RowKit
set_option linter.unusedVariables false

set_option maxRecDepth 100000 in
set_option maxHeartbeats 8000000 in
theorem apart_walk (a : Option Addr) (len cap m : Nat) (ys : List Int) (q0 q1 x : Int) (w : World)
    (k1 : ys.length = m) (k2 : m ≤ 8) (k3 : m ≤ cap) (k4 : cap ≤ 9223372036854775807) (kl : Lies w a ys) (k7 : (len = m) ∨ (m = 8 ∧ 8 < len ∧ len ≤ cap ∧ ∃ x, a = some x)) (hq0 : In64 q0) (hq1 : In64 q1) (hx : okW x) :
    Calls Try.prog 5 #[.slice a len cap, .agg #[.int .i64 q0, .int .i64 q1], .int .i32 x] w fun e w' => e = .returned (.bool true) ∧ Below w.heap.size w w' := by
  obtain ⟨i0, hi, hz0, hz1, hz2⟩ := info_parts Try.info3
  have HI : Hid (Try.prog.info? 3 = some i0 ∧ i0.zero = some (.int .i64 0) ∧ i0.size = 1 ∧ i0.bytes = 8) := ⟨hi, hz0, hz1, hz2⟩
  have KL := hide kl
  have KX := hide k1
  have hm2 : m ≤ len := by rcases k7 with h | h <;> omega
  have HM3 : Hid (m < 8 → len = m) := by intro h; rcases k7 with h' | h' <;> omega
  have HXX := hide hx
  have HQ0 := hide hq0
  have HQ1 := hide hq1
  clear hi hz0 hz1 hz2 kl k1 k7 hx hq0 hq1
  go_enter Try.func5, Try.ntmps5
  go_wp2_with fail
  refine (awake_any _).mono ?_
  rintro e w1 ⟨rfl, hb⟩
  have HB := hide (below_trans ((Below.refl _ w).alloc (Nat.le_refl _) (.cells #[.int .i64 q0, .int .i64 q1] 22)) hb)
  have HQC := hide ((cells_new w [.int .i64 q0, .int .i64 q1] 22).below hb)
  have KL1 := hide (((unhide KL).below ((Below.refl _ w).alloc (Nat.le_refl _) _)).below hb)
  have hsz := hb.size
  have HSZ : Hid (w.heap.size < w1.heap.size) := by show w.heap.size < w1.heap.size; simp at hsz; omega
  clear hb hsz
  go_upto_block 0 with fail
  go_cut [8, 9] (fun l _ wc => ∃ (P : List Nat) (a5 : Option Addr) (c5 : Nat), l = .slice a5 m c5 ∧ Hid (P.length = m) ∧ Hid (∀ s ∈ P, 1 ≤ s ∧ s ≤ 64) ∧ Hid (Lies wc a5 (casts P)) ∧ Hid (Below w1.heap.size w1 wc))
  case first =>
    go_wp2_with fail
    go_loopw [9, 8] (fun i v wr => ∃ (j : Nat) (P : List Nat), j ≤ m ∧ i = .int .i64 (j : Int) ∧ Hid (P.length = j) ∧ Hid (∀ s ∈ P, 1 ≤ s ∧ s ≤ 64) ∧ Hid (wr.ownsRow w1.heap.size 3 1 v j (ints (casts P))) ∧ Hid (Below w1.heap.size w1 wr)) (fun i _ _ => m - (intOf i).toNat)
    case atStart => exact ⟨0, [], by omega, rfl, rfl, (by intro s hs; cases hs), World.ownsRow_nil _ _ _ _, Below.refl _ _⟩
    case round =>
      obtain ⟨j, P, hj, rfl, HP, HOK, HOwn, HBr⟩ := hrel
      by_cases hlt : j < m
      · have hkl : j < ys.length := by rw [unhide KX]; exact hlt
        have hl1 := (unhide KL1).below (unhide HBr)
        obtain ⟨b, off, rfl, hb, hc⟩ := hl1.some (by intro e; rw [e] at hkl; simp at hkl)
        have hck := hc j hkl
        generalize ys.getD j 0 = z at hck
        have hj1 : (j : Int) < len := by omega
        have hj2 : (j : Int) < 8 := by omega
        have ha := i64_and63 z
        obtain ⟨y, hy, hy1, hy2⟩ : ∃ y : Nat, 1 + z % 64 = (y : Int) ∧ 1 ≤ y ∧ y ≤ 64 := ⟨(1 + z % 64).toNat, by omega, by omega, by omega⟩
        clear hc hkl hb hl1
        go_wp2_with (at_builtin; refine wpList_append_own _ rfl _ _ 41 rfl w1.heap.size 3 i0 (.int .i64 0) 1 8 Try.underlying41 (unhide HI).1 (unhide HI).2.1 (unhide HI).2.2.1 (unhide HI).2.2.2 rfl (by decide) _ _ _ rfl ((unhide HOwn).alloc _) ⟨wr.heap.size, 0, none⟩ 1 1 [.int .i64 (y : Int)] rfl rfl ?d1 ?d2 ?d3 ?d4 ?d5 ?_)
        case d1 => exact cell_one_new _ _ _
        case d2 => exact ints_one [(y : Int)]
        case d3 => unfold maxLen; omega
        case d4 => omega
        case d5 => have := (unhide HBr).size; simp; omega
        intro v4 w4 hown4 hg4 _
        have hgr : ∀ q, Value.ownBlock _ = some q → w1.heap.size ≤ q := fun q hq => ((unhide HOwn).lt q hq).1
        have HB4 := hide (((unhide HBr).alloc (unhide HBr).size _).grown hg4 (by have := (unhide HBr).size; simp; omega) hgr)
        have HOwn4 := hide (show w4.ownsRow w1.heap.size 3 1 v4 (j + 1) (ints (casts (P ++ [y]))) by
          have : ints (casts (P ++ [y])) = ints (casts P) ++ [Value.int .i64 (y : Int)] := by simp [ints, casts]
          rw [this]; exact hown4)
        clear hown4 hg4 hgr
        go_wp2
        go_roundw
        case rel => exact ⟨j + 1, P ++ [y], by omega, rfl, by show _ = _; rw [List.length_append, unhide HP]; rfl, (by
          intro s hs
          rcases List.mem_append.1 hs with h | h
          · exact unhide HOK s h
          · simp at h; subst h; exact ⟨hy1, hy2⟩), HOwn4, HB4⟩
        case measure => simp [intOf]; omega
      · obtain rfl : j = m := by omega
        obtain ⟨a5, c5, rfl, hl5, hlen5⟩ := owned_lies (unhide HOwn)
        rw [hlen5] at HOwn ⊢
        have HL5 := hide hl5
        have hfin : ¬ ((j : Int) < len ∧ (j : Int) < 8) := by
          rintro ⟨h1, h2⟩
          have := unhide HM3 (by omega)
          omega
        clear hl5 hlen5
        by_cases hjl : (j : Int) < len
        case' pos => have hj12 : (8 : Int) ≤ j := by omega
        all_goals (
          clear hfin
          go_wp2
          go_meet
          case rel => exact ⟨P, a5, c5, rfl, HP, HOK, HL5, HBr⟩)
  case rest =>
    obtain ⟨P, a5, c5, rfl, HP, HOK, HL5, HBr⟩ := hcut
    obtain ⟨w2, rfl⟩ : ∃ w2, w2 = wc := ⟨_, rfl⟩
    go_upto_if 43 with fail
    go_cut [8] (fun l wc => ∃ (ns : List Nat) (N : Nat) (al : Option Addr) (cl : Nat), l = .slice al N cl ∧ 1 ≤ N ∧ N ≤ 8 ∧ Hid (ns.length = N) ∧ Hid (∀ s ∈ ns, 1 ≤ s ∧ s ≤ 64) ∧ Hid (Lies wc al (casts ns)) ∧ Hid (Below w1.heap.size w1 wc))
    case first =>
      by_cases hm0 : m = 0
      · subst hm0
        go_wp2
        go_meet
        case rel => exact ⟨[1], 1, _, 1, rfl, by omega, by omega, rfl, (by intro s hs; simp at hs; subst hs; omega), lies_new2 w2 [1], (unhide HBr).alloc (unhide HBr).size _⟩
      · have hm0' : (m : Int) ≠ 0 := by omega
        go_wp2
        go_meet
        case rel => exact ⟨P, m, a5, c5, rfl, by omega, k2, HP, HOK, HL5, HBr⟩
    case rest =>
      obtain ⟨ns, N, al, cl, rfl, hN1, hN8, HN, HOK2, HLl, HBw⟩ := hcut
      obtain ⟨w3, rfl⟩ : ∃ w3, w3 = wc := ⟨_, rfl⟩
      obtain ⟨p, hp, hpE⟩ := lay_some ns 0 (fun s hs => (unhide HOK2 s hs).2) (by rw [unhide HN]; omega)
      obtain ⟨A, E⟩ := p
      have HLay := hide hp
      have hE4 := (lay_props ns 0 _ hp (by decide)).1
      have HProp := hide (lay_props ns 0 _ hp (by decide)).2.2
      have HApart := hide (lay_apart ns 0 _ hp)
      have HAl : Hid (A.length = N) := by show _ = _; rw [← unhide HN]; exact layN_len ns 0 _ hp
      simp only at hpE hE4 HProp HApart
      clear hp HP HOK HL5 HBr
      go_wp2_with fail
      refine (lay_any al N cl ns _ (unhide HLl) (unhide HN) (by omega)).mono ?_
      rw [unhide HLay]
      rintro e w4 (⟨h, _⟩ | ⟨p, b, h, rfl, hb3, hc, hb⟩)
      · cases h
      · cases h
        have HC4 := hide hc
        have HLl4 := hide ((unhide HLl).below hb)
        have HB4 := hide (below_trans (unhide HBw) hb)
        clear hb3 hc hb
        simp only
        go_wp2_with fail
        refine (new_any E hpE _).mono ?_
        rintro e w5 ⟨c, g, rfl, hc4, hg4, hA, hb⟩
        have HCG := hide (And.intro hc4 hg4)
        have HA5 := hide hA
        have HC5 := hide ((unhide HC4).below hb)
        have HLl5 := hide ((unhide HLl4).below hb)
        have HB5 := hide (below_trans (unhide HB4) hb)
        have HB45 := hide hb
        clear hc4 hg4 hA hb
        have hE4' : (E : Int).tmod 4 = 0 := by rw [Int.tmod_eq_emod_of_nonneg (by omega)]; omega
        have hq := (unhide HQC).below ((unhide HB5))
        have hq0 : w5.cell? ⟨w.heap.size, 0, none⟩ = some (.int .i64 q0) := hq.cell 0 _ rfl
        have hq1 : w5.cell? ⟨w.heap.size, 1, none⟩ = some (.int .i64 q1) := hq.cell 1 _ rfl
        clear hq
        go_wp2
        obtain ⟨k, hk, hkN⟩ := mod_at q0 N hN1 (by omega)
        rw [hk]
        have hkl : k < (casts ns).length := by rw [casts_len, unhide HN]; exact hkN
        obtain ⟨bl, ol, rfl, hbl, hcl⟩ := (unhide HLl5).some (by intro e; rw [e] at hkl; simp at hkl)
        have hck := hcl k hkl
        rw [casts_at] at hck
        have hnk := unhide HOK2 (ns.getD k 0) (by rw [List.getD_eq_getElem?_getD, List.getElem?_eq_getElem (by rw [unhide HN]; exact hkN)]; exact List.getElem_mem _)
        obtain ⟨nk, hnkeq⟩ : ∃ nk, ns.getD k 0 = nk := ⟨_, rfl⟩
        rw [hnkeq] at hck hnk
        obtain ⟨hnk1, hnk2⟩ := hnk
        have HNK := hide hnkeq
        have hnk0 : (nk : Int) ≠ 0 := by omega
        have HK := hide hk
        clear hcl hbl hkl hnkeq hk hE4 hE4'
        go_quiet (fail)
        obtain ⟨i, hieq, hink⟩ := mod_at q1 nk hnk1 (by omega)
        rw [hieq]
        have HIeq := hide hieq
        generalize hw6 : w5.drewN nq = w6
        have HA6 : Hid (Ar c g E w6 (List.replicate E 0) 0) := by subst hw6; exact (unhide HA5).below (drewn_below (Below.refl _ _) nq)
        have HB6 : Hid (Below w4.heap.size w4 w6) := by subst hw6; exact drewn_below (unhide HB45) nq
        have hck6 : w6.cell? ⟨bl, ol + k, none⟩ = some (.int .i64 (nk : Int)) := by subst hw6; exact hck
        have HC6 : Hid (Cells w6 b (ints (casts A))) := by subst hw6; exact (unhide HC5).below (drewn_below (Below.refl _ _) nq)
        have hak6 : w6.cell? ⟨b, k, none⟩ = some (.int .i64 ((A.getD k 0 : Nat) : Int)) := by
          rw [← casts_at]
          exact (unhide HC6).cell k _ (ints_at _ _ (by rw [casts_len, unhide HAl]; exact hkN))
        have HPk := hide (unhide HProp k (by rw [unhide HN]; exact hkN))
        rw [unhide HNK] at HPk
        obtain ⟨Ak, hAk⟩ : ∃ Ak, A.getD k 0 = Ak := ⟨_, rfl⟩
        rw [hAk] at hak6 HPk
        have HAk := hide hAk
        have hAkE : Ak + nk ≤ E := (unhide HPk).2.2
        clear hieq hw6 hck hq0 hq1 HA5 HC5 HB5 hAk HLl5 HLl
        obtain ⟨s4, hs4⟩ : ∃ s4, w4.heap.size = s4 := ⟨_, rfl⟩
        have HS4 := hide hs4
        rw [hs4] at HCG HB6
        have hkI : (k : Int) < (N : Int) := by omega
        go_upto_region 15 with fail
        refine region_ssa2 (fun f W => (bif f 9 then (∃ o, Pt w6.heap.size c g o nk W ∧ o = Ak ∧ Below w6.heap.size w6 W) else W = w6.drew) ∧ W.cell? ⟨b, k, none⟩ = some (.int .i64 (Ak : Int)) ∧ W.cell? ⟨bl, ol + k, none⟩ = some (.int .i64 (nk : Int))) (fun jq vq wq => (∀ xq, (([some (.pointer (some ⟨c, 0, none⟩)), some (.slice (some ⟨b, 0, none⟩) N N), some (.int .i64 (k : Int)), some (.pointer (some ⟨b, k, none⟩)), some (.int .i64 (Ak : Int)), some (.slice (some ⟨bl, ol, none⟩) N cl), some (.int .i64 (k : Int)), some (.pointer (some ⟨bl, ol + k, none⟩)), some (.int .i64 (nk : Int)), some (.pointer (some ⟨w6.heap.size, 0, none⟩)), some (.pointer (some ⟨w6.heap.size, 0, none⟩))] : List (Option Value)).getD jq none) = some xq → vq = xq)) (by kernel_rfl) (by kernel_rfl) ?_ ?_ ?_
        · intro fq hf
          exact ⟨by rw [hf 9 (by decide)]; exact rfl, hak6, hck6⟩
        · intro iq op ho fq AQ W hf hdep hS hK hG
          have hlt : iq < 11 := (Array.getElem?_eq_some_iff.1 ho).1
          match iq, hlt with
          | 0, _ =>
            obtain rfl := (Option.some.inj ho).symm
            have d13 : AQ.tmps.getD 13 undef = .pointer (some ⟨c, 0, none⟩) := hK.2.2 13 (by kernel_rfl)
            exact wpOp_val (v := (.pointer (some ⟨c, 0, none⟩))) (w' := W) rfl (wanted_none rfl) (by simp [execOp, Act.eval, d13, go_sem]) ⟨_, rfl, hS, fun _ _ h => h, (by intro x hx; cases hx; rfl)⟩
          | 1, _ =>
            obtain rfl := (Option.some.inj ho).symm
            have d10 : AQ.tmps.getD 10 undef = .slice (some ⟨b, 0, none⟩) N N := hK.2.2 10 (by kernel_rfl)
            exact wpOp_val (v := (.slice (some ⟨b, 0, none⟩) N N)) (w' := W) rfl (wanted_none rfl) (by simp [execOp, Act.eval, d10, go_sem]) ⟨_, rfl, hS, fun _ _ h => h, (by intro x hx; cases hx; rfl)⟩
          | 2, _ =>
            obtain rfl := (Option.some.inj ho).symm
            have d14 : AQ.tmps.getD 14 undef = .int .i64 (k : Int) := hK.2.2 14 (by kernel_rfl)
            exact wpOp_val (v := (.int .i64 (k : Int))) (w' := W) rfl (wanted_none rfl) (by simp [execOp, Act.eval, d14, go_sem]) ⟨_, rfl, hS, fun _ _ h => h, (by intro x hx; cases hx; rfl)⟩
          | 3, _ =>
            obtain rfl := (Option.some.inj ho).symm
            have d100 : AQ.tmps.getD 100 undef = .slice (some ⟨b, 0, none⟩) N N := ((hG ⟨1, .data⟩ (by simp) rfl).2 100 rfl) _ rfl
            have d101 : AQ.tmps.getD 101 undef = .int .i64 (k : Int) := ((hG ⟨2, .data⟩ (by simp) rfl).2 101 rfl) _ rfl
            exact wpOp_val (v := (.pointer (some ⟨b, k, none⟩))) (w' := W) rfl (wanted_none rfl) (by simp [execOp, Act.eval, d100, d101, hkI, go_sem]) ⟨_, rfl, hS, fun _ _ h => h, (by intro x hx; cases hx; rfl)⟩
          | 4, _ =>
            obtain rfl := (Option.some.inj ho).symm
            have d102 : AQ.tmps.getD 102 undef = .pointer (some ⟨b, k, none⟩) := ((hG ⟨3, .data⟩ (by simp) rfl).2 102 rfl) _ rfl
            have hc := hS.2.1
            exact wpOp_val (v := (.int .i64 (Ak : Int))) (w' := W) rfl (wanted_none rfl) (by simp [execOp, Act.eval, d102, hc, go_sem]) ⟨_, rfl, hS, fun _ _ h => h, (by intro x hx; cases hx; rfl)⟩
          | 5, _ =>
            obtain rfl := (Option.some.inj ho).symm
            have d8 : AQ.tmps.getD 8 undef = .slice (some ⟨bl, ol, none⟩) N cl := hK.2.2 8 (by kernel_rfl)
            exact wpOp_val (v := (.slice (some ⟨bl, ol, none⟩) N cl)) (w' := W) rfl (wanted_none rfl) (by simp [execOp, Act.eval, d8, go_sem]) ⟨_, rfl, hS, fun _ _ h => h, (by intro x hx; cases hx; rfl)⟩
          | 6, _ =>
            obtain rfl := (Option.some.inj ho).symm
            have d14 : AQ.tmps.getD 14 undef = .int .i64 (k : Int) := hK.2.2 14 (by kernel_rfl)
            exact wpOp_val (v := (.int .i64 (k : Int))) (w' := W) rfl (wanted_none rfl) (by simp [execOp, Act.eval, d14, go_sem]) ⟨_, rfl, hS, fun _ _ h => h, (by intro x hx; cases hx; rfl)⟩
          | 7, _ =>
            obtain rfl := (Option.some.inj ho).symm
            have d104 : AQ.tmps.getD 104 undef = .slice (some ⟨bl, ol, none⟩) N cl := ((hG ⟨5, .data⟩ (by simp) rfl).2 104 rfl) _ rfl
            have d105 : AQ.tmps.getD 105 undef = .int .i64 (k : Int) := ((hG ⟨6, .data⟩ (by simp) rfl).2 105 rfl) _ rfl
            exact wpOp_val (v := (.pointer (some ⟨bl, ol + k, none⟩))) (w' := W) rfl (wanted_none rfl) (by simp [execOp, Act.eval, d104, d105, hkI, go_sem]) ⟨_, rfl, hS, fun _ _ h => h, (by intro x hx; cases hx; rfl)⟩
          | 8, _ =>
            obtain rfl := (Option.some.inj ho).symm
            have d106 : AQ.tmps.getD 106 undef = .pointer (some ⟨bl, ol + k, none⟩) := ((hG ⟨7, .data⟩ (by simp) rfl).2 106 rfl) _ rfl
            have hc := hS.2.2
            exact wpOp_val (v := (.int .i64 (nk : Int))) (w' := W) rfl (wanted_none rfl) (by simp [execOp, Act.eval, d106, hc, go_sem]) ⟨_, rfl, hS, fun _ _ h => h, (by intro x hx; cases hx; rfl)⟩
          | 9, _ =>
            obtain rfl := (Option.some.inj ho).symm
            have d99 : AQ.tmps.getD 99 undef = .pointer (some ⟨c, 0, none⟩) := ((hG ⟨0, .data⟩ (by simp) rfl).2 99 rfl) _ rfl
            have d103 : AQ.tmps.getD 103 undef = .int .i64 (Ak : Int) := ((hG ⟨4, .data⟩ (by simp) rfl).2 103 rfl) _ rfl
            have d107 : AQ.tmps.getD 107 undef = .int .i64 (nk : Int) := ((hG ⟨8, .data⟩ (by simp) rfl).2 107 rfl) _ rfl
            have hSf := hS.1
            rw [hf] at hSf
            have hW : W = w6.drew := hSf
            have hs1 := hS.2.1
            have hs2 := hS.2.2
            rw [hW] at hs1 hs2
            refine wpOp_call (f := 11) (args := #[.pointer (some ⟨c, 0, none⟩), .int .i64 (Ak : Int), .int .i64 (nk : Int)]) (w' := W) rfl (wanted_none rfl) (by simp [execOp, Act.eval, d99, d103, d107, go_sem]) ?_
            rw [hW]
            refine (part_yes c g E Ak nk (List.replicate E 0) 0 w6.drew (unhide HA6).drew hpE hAkE).mono ?_
            rintro e w' ⟨o, rfl, hpt, ho1, ho2, hb⟩
            have hb' : Below w6.heap.size w6 w' := ((Below.refl _ w6).drew).trans hb
            exact ⟨_, rfl, _, rfl, ⟨⟨o, hpt, ho2 (by omega), hb'⟩, by rw [hb'.cell (p := ⟨b, k, none⟩) (lt_of_cell hs1)]; exact hs1, by rw [hb'.cell (p := ⟨bl, ol + k, none⟩) (lt_of_cell hs2)]; exact hs2⟩, fun _ _ h => h, (by intro x hx; cases hx; rfl)⟩
          | 10, _ =>
            obtain rfl := (Option.some.inj ho).symm
            have d108 : AQ.tmps.getD 108 undef = .pointer (some ⟨w6.heap.size, 0, none⟩) := ((hG ⟨9, .data⟩ (by simp) rfl).2 108 rfl) _ rfl
            exact wpOp_val (v := (.pointer (some ⟨w6.heap.size, 0, none⟩))) (w' := W) rfl (wanted_none rfl) (by simp [execOp, Act.eval, d108, go_sem]) ⟨_, rfl, hS, fun _ _ h => h, (by intro x hx; cases hx; rfl)⟩
        · intro fq W vals hf hS hG
          have e0 : vals 0 = .pointer (some ⟨c, 0, none⟩) := (hG 0 99 (by decide) rfl) _ rfl
          have e1 : vals 1 = .slice (some ⟨b, 0, none⟩) N N := (hG 1 100 (by decide) rfl) _ rfl
          have e2 : vals 2 = .int .i64 (k : Int) := (hG 2 101 (by decide) rfl) _ rfl
          have e3 : vals 3 = .pointer (some ⟨b, k, none⟩) := (hG 3 102 (by decide) rfl) _ rfl
          have e4 : vals 4 = .int .i64 (Ak : Int) := (hG 4 103 (by decide) rfl) _ rfl
          have e5 : vals 5 = .slice (some ⟨bl, ol, none⟩) N cl := (hG 5 104 (by decide) rfl) _ rfl
          have e6 : vals 6 = .int .i64 (k : Int) := (hG 6 105 (by decide) rfl) _ rfl
          have e7 : vals 7 = .pointer (some ⟨bl, ol + k, none⟩) := (hG 7 106 (by decide) rfl) _ rfl
          have e8 : vals 8 = .int .i64 (nk : Int) := (hG 8 107 (by decide) rfl) _ rfl
          have e9 : vals 9 = .pointer (some ⟨w6.heap.size, 0, none⟩) := (hG 9 108 (by decide) rfl) _ rfl
          have e10 : vals 10 = .pointer (some ⟨w6.heap.size, 0, none⟩) := (hG 10 16 (by decide) rfl) _ rfl
          change (_ : Exit → Act → World → Prop) Exit.normal (Act.put (Act.put (Act.put (Act.put (Act.put (Act.put (Act.put (Act.put (Act.put (Act.put (Act.put _ (some 99) (vals 0)) (some 100) (vals 1)) (some 101) (vals 2)) (some 102) (vals 3)) (some 103) (vals 4)) (some 104) (vals 5)) (some 105) (vals 6)) (some 106) (vals 7)) (some 107) (vals 8)) (some 108) (vals 9)) (some 16) (vals 10)) W
          have hS9 := hS.1
          rw [hf 9 (by decide)] at hS9
          obtain ⟨o, hpt, ho, hb⟩ := hS9
          subst ho
          rw [putAll_zero, e0, e1, e2, e3, e4, e5, e6, e7, e8, e9, e10]
          obtain ⟨w7, rfl⟩ : ∃ w7, w7 = W := ⟨_, rfl⟩
          obtain ⟨pb, hpb⟩ : ∃ pb, w6.heap.size = pb := ⟨_, rfl⟩
          have HPT := hide hpt
          have HA7 := hide ((unhide HA6).below hb)
          have HB7 := hide ((unhide HB6).trans (hb.mono (by have := (unhide HB6).size; have := unhide HS4; show s4 ≤ w6.heap.size; omega)))
          rw [hpb] at HPT ⊢
          clear hS hG hf hpt hb hpb e0 e1 e2 e3 e4 e5 e6 e7 e8 e9 e10
          clear vals fq
          have hx1 : -2147483648 ≤ x := (unhide HXX).1
          have hx2 : x ≤ 2147483647 := (unhide HXX).2
          go_wp2_with fail
          refine (pput_any pb c g o nk E (List.replicate E 0) 0 (i : Int) x _ (unhide HPT) (unhide HA7) hAkE).mono ?_
          have hin : inR nk (i : Int) := by unfold inR; omega
          have hpl : putL (List.replicate E 0) o nk (i : Int) x = (List.replicate E (0 : Int)).set (o + i) x := by
            unfold putL
            rw [if_pos ⟨hin, unhide HXX⟩]
            rfl
          have hpe : putE nk (i : Int) x 0 = 0 := by unfold putE; rw [if_pos hin, if_pos (unhide HXX)]
          rw [hpl, hpe]
          obtain ⟨L, hL⟩ : ∃ L, (List.replicate E (0 : Int)).set (o + i) x = L := ⟨_, rfl⟩
          rw [hL]
          have HLL := hide hL
          rintro e w8 ⟨rfl, ht, hA⟩
          have HA8 := hide hA
          have HB8 := hide ((unhide HB7).trans (ht.below (unhide HCG).1 (unhide HCG).2 (by have := (unhide HB7).size; have := unhide HS4; omega)))
          clear ht hA hpl hpe hin hL HA7 HB7 HPT HA6 HB6 HC6 hck6 hak6
          go_wp2
          go_loopw [17, 18, 19, 20] (fun jv _ _ _ wr => ∃ (j : Nat), j ≤ N ∧ jv = .int .i64 (j : Int) ∧ Hid (Ar c g E wr L 0) ∧ Hid (Below s4 w4 wr)) (fun jv _ _ _ _ => N - (intOf jv).toNat)
          case atStart => exact ⟨0, by omega, rfl, HA8, HB8⟩
          case round =>
            obtain ⟨j, hj, rfl, HAr, HBr⟩ := hrel
            by_cases hjN : j < N
            · have hbb : b < s4 := by rw [← hs4]; exact (unhide HC4).lt
              have hCr := (unhide HC4).under (unhide HBr) hbb
              have hbls : bl < s4 := by
                rcases unhide HLl4 with h | ⟨b', o', h', hb', _⟩
                · exfalso
                  have h1 := congrArg List.length h
                  rw [casts_len, unhide HN] at h1
                  simp at h1
                  omega
                · cases h'; rw [← hs4]; exact hb'
              have hLr := (unhide HLl4).under (unhide HBr) (fun p hp => by cases hp; exact hbls)
              have hjl : j < (casts ns).length := by rw [casts_len, unhide HN]; exact hjN
              obtain ⟨bl', ol', hbe, _, hcl⟩ := hLr.some (by intro e; rw [e] at hjl; simp at hjl)
              cases hbe
              have HCL : Hid (∀ i, i < N → wr.cell? ⟨bl, ol + i, none⟩ = some (.int .i64 ((ns.getD i 0 : Nat) : Int))) := by
                intro i hi
                have := hcl i (by rw [casts_len, unhide HN]; exact hi)
                rwa [casts_at] at this
              have HCA : Hid (∀ i, i < N → wr.cell? ⟨b, i, none⟩ = some (.int .i64 ((A.getD i 0 : Nat) : Int))) := by
                intro i hi
                rw [← casts_at]
                exact hCr.cell i _ (ints_at _ _ (by rw [casts_len, unhide HAl]; exact hi))
              have hjn := unhide HCL j hjN
              have hja := unhide HCA j hjN
              have hPj := unhide HProp j (by rw [unhide HN]; exact hjN)
              have hnj := unhide HOK2 (ns.getD j 0) (by rw [List.getD_eq_getElem?_getD, List.getElem?_eq_getElem (by rw [unhide HN]; exact hjN)]; exact List.getElem_mem _)
              obtain ⟨nj, hnjeq⟩ : ∃ nj, ns.getD j 0 = nj := ⟨_, rfl⟩
              obtain ⟨Aj, hAj⟩ : ∃ Aj, A.getD j 0 = Aj := ⟨_, rfl⟩
              have HNJ := hide hnjeq
              have HAJ := hide hAj
              rw [hnjeq] at hjn hPj hnj
              rw [hAj] at hja hPj
              obtain ⟨hPj4, _, hPjE⟩ := hPj
              obtain ⟨hnj1, hnj2⟩ := hnj
              clear hCr hLr hcl hjl hnjeq hAj
              have hkI : (j : Int) < (N : Int) := by omega
              go_upto_region 20 with fail
              refine region_ssa2 (fun f W => (bif f 9 then (∃ o, Pt wr.heap.size c g o nj W ∧ o = Aj ∧ Below wr.heap.size wr W) else W = wr.drew) ∧ W.cell? ⟨b, j, none⟩ = some (.int .i64 (Aj : Int)) ∧ W.cell? ⟨bl, ol + j, none⟩ = some (.int .i64 (nj : Int))) (fun jq vq wq => (∀ xq, (([some (.pointer (some ⟨c, 0, none⟩)), some (.slice (some ⟨b, 0, none⟩) N N), some (.int .i64 (j : Int)), some (.pointer (some ⟨b, j, none⟩)), some (.int .i64 (Aj : Int)), some (.slice (some ⟨bl, ol, none⟩) N cl), some (.int .i64 (j : Int)), some (.pointer (some ⟨bl, ol + j, none⟩)), some (.int .i64 (nj : Int)), some (.pointer (some ⟨wr.heap.size, 0, none⟩)), some (.pointer (some ⟨wr.heap.size, 0, none⟩))] : List (Option Value)).getD jq none) = some xq → vq = xq)) (by kernel_rfl) (by kernel_rfl) ?_ ?_ ?_
              · intro fq hf
                exact ⟨by rw [hf 9 (by decide)]; exact rfl, hja, hjn⟩
              · intro iq op ho fq AQ W hf hdep hS hK hG
                have hlt : iq < 11 := (Array.getElem?_eq_some_iff.1 ho).1
                match iq, hlt with
                | 0, _ =>
                  obtain rfl := (Option.some.inj ho).symm
                  have d13 : AQ.tmps.getD 13 undef = .pointer (some ⟨c, 0, none⟩) := hK.2.2 13 (by kernel_rfl)
                  exact wpOp_val (v := (.pointer (some ⟨c, 0, none⟩))) (w' := W) rfl (wanted_none rfl) (by simp [execOp, Act.eval, d13, go_sem]) ⟨_, rfl, hS, fun _ _ h => h, (by intro x hx; cases hx; rfl)⟩
                | 1, _ =>
                  obtain rfl := (Option.some.inj ho).symm
                  have d10 : AQ.tmps.getD 10 undef = .slice (some ⟨b, 0, none⟩) N N := hK.2.2 10 (by kernel_rfl)
                  exact wpOp_val (v := (.slice (some ⟨b, 0, none⟩) N N)) (w' := W) rfl (wanted_none rfl) (by simp [execOp, Act.eval, d10, go_sem]) ⟨_, rfl, hS, fun _ _ h => h, (by intro x hx; cases hx; rfl)⟩
                | 2, _ =>
                  obtain rfl := (Option.some.inj ho).symm
                  have d17 : AQ.tmps.getD 17 undef = .int .i64 (j : Int) := hK.2.2 17 (by kernel_rfl)
                  exact wpOp_val (v := (.int .i64 (j : Int))) (w' := W) rfl (wanted_none rfl) (by simp [execOp, Act.eval, d17, go_sem]) ⟨_, rfl, hS, fun _ _ h => h, (by intro x hx; cases hx; rfl)⟩
                | 3, _ =>
                  obtain rfl := (Option.some.inj ho).symm
                  have d121 : AQ.tmps.getD 121 undef = .slice (some ⟨b, 0, none⟩) N N := ((hG ⟨1, .data⟩ (by simp) rfl).2 121 rfl) _ rfl
                  have d122 : AQ.tmps.getD 122 undef = .int .i64 (j : Int) := ((hG ⟨2, .data⟩ (by simp) rfl).2 122 rfl) _ rfl
                  exact wpOp_val (v := (.pointer (some ⟨b, j, none⟩))) (w' := W) rfl (wanted_none rfl) (by simp [execOp, Act.eval, d121, d122, hkI, go_sem]) ⟨_, rfl, hS, fun _ _ h => h, (by intro x hx; cases hx; rfl)⟩
                | 4, _ =>
                  obtain rfl := (Option.some.inj ho).symm
                  have d123 : AQ.tmps.getD 123 undef = .pointer (some ⟨b, j, none⟩) := ((hG ⟨3, .data⟩ (by simp) rfl).2 123 rfl) _ rfl
                  have hc := hS.2.1
                  exact wpOp_val (v := (.int .i64 (Aj : Int))) (w' := W) rfl (wanted_none rfl) (by simp [execOp, Act.eval, d123, hc, go_sem]) ⟨_, rfl, hS, fun _ _ h => h, (by intro x hx; cases hx; rfl)⟩
                | 5, _ =>
                  obtain rfl := (Option.some.inj ho).symm
                  have d8 : AQ.tmps.getD 8 undef = .slice (some ⟨bl, ol, none⟩) N cl := hK.2.2 8 (by kernel_rfl)
                  exact wpOp_val (v := (.slice (some ⟨bl, ol, none⟩) N cl)) (w' := W) rfl (wanted_none rfl) (by simp [execOp, Act.eval, d8, go_sem]) ⟨_, rfl, hS, fun _ _ h => h, (by intro x hx; cases hx; rfl)⟩
                | 6, _ =>
                  obtain rfl := (Option.some.inj ho).symm
                  have d17 : AQ.tmps.getD 17 undef = .int .i64 (j : Int) := hK.2.2 17 (by kernel_rfl)
                  exact wpOp_val (v := (.int .i64 (j : Int))) (w' := W) rfl (wanted_none rfl) (by simp [execOp, Act.eval, d17, go_sem]) ⟨_, rfl, hS, fun _ _ h => h, (by intro x hx; cases hx; rfl)⟩
                | 7, _ =>
                  obtain rfl := (Option.some.inj ho).symm
                  have d125 : AQ.tmps.getD 125 undef = .slice (some ⟨bl, ol, none⟩) N cl := ((hG ⟨5, .data⟩ (by simp) rfl).2 125 rfl) _ rfl
                  have d126 : AQ.tmps.getD 126 undef = .int .i64 (j : Int) := ((hG ⟨6, .data⟩ (by simp) rfl).2 126 rfl) _ rfl
                  exact wpOp_val (v := (.pointer (some ⟨bl, ol + j, none⟩))) (w' := W) rfl (wanted_none rfl) (by simp [execOp, Act.eval, d125, d126, hkI, go_sem]) ⟨_, rfl, hS, fun _ _ h => h, (by intro x hx; cases hx; rfl)⟩
                | 8, _ =>
                  obtain rfl := (Option.some.inj ho).symm
                  have d127 : AQ.tmps.getD 127 undef = .pointer (some ⟨bl, ol + j, none⟩) := ((hG ⟨7, .data⟩ (by simp) rfl).2 127 rfl) _ rfl
                  have hc := hS.2.2
                  exact wpOp_val (v := (.int .i64 (nj : Int))) (w' := W) rfl (wanted_none rfl) (by simp [execOp, Act.eval, d127, hc, go_sem]) ⟨_, rfl, hS, fun _ _ h => h, (by intro x hx; cases hx; rfl)⟩
                | 9, _ =>
                  obtain rfl := (Option.some.inj ho).symm
                  have d120 : AQ.tmps.getD 120 undef = .pointer (some ⟨c, 0, none⟩) := ((hG ⟨0, .data⟩ (by simp) rfl).2 120 rfl) _ rfl
                  have d124 : AQ.tmps.getD 124 undef = .int .i64 (Aj : Int) := ((hG ⟨4, .data⟩ (by simp) rfl).2 124 rfl) _ rfl
                  have d128 : AQ.tmps.getD 128 undef = .int .i64 (nj : Int) := ((hG ⟨8, .data⟩ (by simp) rfl).2 128 rfl) _ rfl
                  have hSf := hS.1
                  rw [hf] at hSf
                  have hW : W = wr.drew := hSf
                  have hs1 := hS.2.1
                  have hs2 := hS.2.2
                  rw [hW] at hs1 hs2
                  refine wpOp_call (f := 11) (args := #[.pointer (some ⟨c, 0, none⟩), .int .i64 (Aj : Int), .int .i64 (nj : Int)]) (w' := W) rfl (wanted_none rfl) (by simp [execOp, Act.eval, d120, d124, d128, go_sem]) ?_
                  rw [hW]
                  refine (part_yes c g E Aj nj L 0 wr.drew (unhide HAr).drew hpE hPjE).mono ?_
                  rintro e w' ⟨o, rfl, hpt, ho1, ho2, hb⟩
                  have hb' : Below wr.heap.size wr w' := ((Below.refl _ wr).drew).trans hb
                  exact ⟨_, rfl, _, rfl, ⟨⟨o, hpt, ho2 (by omega), hb'⟩, by rw [hb'.cell (p := ⟨b, j, none⟩) (lt_of_cell hs1)]; exact hs1, by rw [hb'.cell (p := ⟨bl, ol + j, none⟩) (lt_of_cell hs2)]; exact hs2⟩, fun _ _ h => h, (by intro x hx; cases hx; rfl)⟩
                | 10, _ =>
                  obtain rfl := (Option.some.inj ho).symm
                  have d129 : AQ.tmps.getD 129 undef = .pointer (some ⟨wr.heap.size, 0, none⟩) := ((hG ⟨9, .data⟩ (by simp) rfl).2 129 rfl) _ rfl
                  exact wpOp_val (v := (.pointer (some ⟨wr.heap.size, 0, none⟩))) (w' := W) rfl (wanted_none rfl) (by simp [execOp, Act.eval, d129, go_sem]) ⟨_, rfl, hS, fun _ _ h => h, (by intro x hx; cases hx; rfl)⟩
              · intro fq W vals hf hS hG
                have e0 : vals 0 = .pointer (some ⟨c, 0, none⟩) := (hG 0 120 (by decide) rfl) _ rfl
                have e1 : vals 1 = .slice (some ⟨b, 0, none⟩) N N := (hG 1 121 (by decide) rfl) _ rfl
                have e2 : vals 2 = .int .i64 (j : Int) := (hG 2 122 (by decide) rfl) _ rfl
                have e3 : vals 3 = .pointer (some ⟨b, j, none⟩) := (hG 3 123 (by decide) rfl) _ rfl
                have e4 : vals 4 = .int .i64 (Aj : Int) := (hG 4 124 (by decide) rfl) _ rfl
                have e5 : vals 5 = .slice (some ⟨bl, ol, none⟩) N cl := (hG 5 125 (by decide) rfl) _ rfl
                have e6 : vals 6 = .int .i64 (j : Int) := (hG 6 126 (by decide) rfl) _ rfl
                have e7 : vals 7 = .pointer (some ⟨bl, ol + j, none⟩) := (hG 7 127 (by decide) rfl) _ rfl
                have e8 : vals 8 = .int .i64 (nj : Int) := (hG 8 128 (by decide) rfl) _ rfl
                have e9 : vals 9 = .pointer (some ⟨wr.heap.size, 0, none⟩) := (hG 9 129 (by decide) rfl) _ rfl
                have e10 : vals 10 = .pointer (some ⟨wr.heap.size, 0, none⟩) := (hG 10 18 (by decide) rfl) _ rfl
                change (_ : Exit → Act → World → Prop) Exit.normal (Act.put (Act.put (Act.put (Act.put (Act.put (Act.put (Act.put (Act.put (Act.put (Act.put (Act.put _ (some 120) (vals 0)) (some 121) (vals 1)) (some 122) (vals 2)) (some 123) (vals 3)) (some 124) (vals 4)) (some 125) (vals 5)) (some 126) (vals 6)) (some 127) (vals 7)) (some 128) (vals 8)) (some 129) (vals 9)) (some 18) (vals 10)) W
                have hS9 := hS.1
                rw [hf 9 (by decide)] at hS9
                obtain ⟨o2, hpt, ho, hb⟩ := hS9
                rw [ho] at hpt
                clear ho
                rw [putAll_zero, e0, e1, e2, e3, e4, e5, e6, e7, e8, e9, e10]
                go_simp
                obtain ⟨w9, rfl⟩ : ∃ w9, w9 = W := ⟨_, rfl⟩
                obtain ⟨pb2, hpb⟩ : ∃ pb2, wr.heap.size = pb2 := ⟨_, rfl⟩
                have HPT := hide hpt
                have HA9 := hide ((unhide HAr).below hb)
                have HB9 := hide hb
                have HPC : Hid (pb2 ≠ c) := by have := (unhide HAr).me.lt; show _ ≠ _; omega
                rw [hpb] at HPT ⊢
                clear hS hG hf hpt hb hpb e0 e1 e2 e3 e4 e5 e6 e7 e8 e9 e10
                clear vals fq
                have HL2 : Hid (∀ i, i < N → w9.cell? ⟨bl, ol + i, none⟩ = some (.int .i64 ((ns.getD i 0 : Nat) : Int))) := fun i hi => by
                  have h := unhide HCL i hi
                  rw [(unhide HB9).cell (p := ⟨bl, ol + i, none⟩) (lt_of_cell h)]
                  exact h
                have HA2 : Hid (∀ i, i < N → w9.cell? ⟨b, i, none⟩ = some (.int .i64 ((A.getD i 0 : Nat) : Int))) := fun i hi => by
                  have h := unhide HCA i hi
                  rw [(unhide HB9).cell (p := ⟨b, i, none⟩) (lt_of_cell h)]
                  exact h
                clear hjn hja
                have hjn := unhide HL2 j hjN
                have hja := unhide HA2 j hjN
                rw [unhide HNJ] at hjn
                rw [unhide HAJ] at hja
                have hm4 : (Aj : Int).tmod 4 = 0 := by rw [Int.tmod_eq_emod_of_nonneg (by omega)]; omega
                have hgt : decide ((E : Int) < (Aj : Int) + (nj : Int)) = false := decide_eq_false (by omega)
                go_upto_region 21 with fail
                go_cut [174] (fun r wc => r = .bool false ∧ ∃ n, wc = w9.drewN n)
                case first =>
                  by_cases hj0 : j = 0
                  · subst hj0
                    have hd : decide ((0 : Int) < ((0 : Nat) : Int)) = false := by simp
                    rw [Nat.add_zero] at hjn
                    go_quiet (fail)
                    go_wp2
                    go_meet
                    case rel => exact ⟨rfl, _, rfl⟩
                  · have hd : decide (0 < j) = true := by simp; omega
                    have hd2 : decide ((0 : Int) < (j : Int)) = true := by simp; omega
                    obtain ⟨j', hj'⟩ : ∃ j', j = j' + 1 := ⟨j - 1, by omega⟩
                    have hjw : (j : Int) - 1 = (j' : Int) := by omega
                    have hjn' := unhide HL2 j' (by omega)
                    have hja' := unhide HA2 j' (by omega)
                    have hap := unhide HApart j' j (by omega) (by rw [unhide HN]; exact hjN)
                    have hnj' := unhide HProp j' (by rw [unhide HN]; omega)
                    rw [unhide HAJ] at hap
                    have hEE := hnj'.2.2
                    clear hnj' hj'
                    generalize A.getD j' 0 = Aj' at hja' hap hEE
                    generalize ns.getD j' 0 = nj' at hjn' hap hEE
                    have wr1 : IntKind.i64.wrap ((Aj : Int) + (nj : Int)) = (Aj : Int) + (nj : Int) := by rw [IntKind.wrap_i64]; omega
                    have wr2 : IntKind.i64.wrap ((Aj' : Int) + (nj' : Int)) = (Aj' : Int) + (nj' : Int) := by rw [IntKind.wrap_i64]; omega
                    have wr3 : IntKind.i64.wrap ((j : Int) - 1) = (j' : Int) := by rw [IntKind.wrap_i64]; omega
                    have hj'N : j' < N := by omega
                    clear hjw
                    have hap' : decide ((Aj : Int) < (Aj' : Int) + (nj' : Int)) = false := decide_eq_false (by omega)
                    go_quiet (fail)
                    go_wp2
                    go_meet
                    case rel => exact ⟨rfl, _, rfl⟩
                case rest =>
                  obtain ⟨rfl, nd, rfl⟩ := hcut
                  have HJ4 : Hid (w4.cell? ⟨bl, ol + j, none⟩ = some (.int .i64 (nj : Int))) := by
                    show _ = _
                    rw [← (unhide HBr).cell (p := ⟨bl, ol + j, none⟩) hbls, ← unhide HNJ]
                    exact unhide HCL j hjN
                  generalize hw10 : w9.drewN nd = w10
                  have HA10 : Hid (Ar c g E w10 L 0) := by subst hw10; exact (unhide HA9).below (drewn_below (Below.refl _ _) nd)
                  have HPT10 : Hid (Pt pb2 c g Aj nj w10) := by subst hw10; exact (unhide HPT).below (drewn_below (Below.refl _ _) nd)
                  have HB10 : Hid (Below s4 w4 w10) := by
                    subst hw10
                    exact drewn_below ((unhide HBr).trans ((unhide HB9).mono (by have := (unhide HBr).size; omega))) nd
                  clear hw10 HL2 HA2 HCL HCA hjn hja hm4 hgt HPT HA9 HB9
                  obtain ⟨wj, rfl⟩ : ∃ wj, wj = wr := ⟨_, rfl⟩
                  go_wp2
                  go_loopw [19, 20] (fun mv _ wr => ∃ (mm : Nat), mm ≤ nj ∧ mv = .int .i64 (mm : Int) ∧ Hid (Ar c g E wr L 0) ∧ Hid (Pt pb2 c g Aj nj wr) ∧ Hid (Below s4 w4 wr)) (fun mv _ _ => nj - (intOf mv).toNat)
                  case atStart => exact ⟨0, by omega, rfl, HA10, HPT10, HB10⟩
                  case round =>
                    obtain ⟨mm, hmm, rfl, HAm, HPm, HBm⟩ := hrel
                    have hjc : wr.cell? ⟨bl, ol + j, none⟩ = some (.int .i64 (nj : Int)) := by
                      rw [(unhide HBm).cell (p := ⟨bl, ol + j, none⟩) hbls]
                      exact unhide HJ4
                    by_cases hmn : mm < nj
                    · go_wp2_with fail
                      refine (pget_any pb2 c g Aj nj E L 0 (mm : Int) _ (unhide HPm) (unhide HAm) hPjE).mono ?_
                      have hin : inR nj (mm : Int) := by unfold inR; omega
                      have hE0 : getE nj (mm : Int) 0 = 0 := by unfold getE; rw [if_pos hin]
                      have hV : getI L Aj nj (mm : Int) = if Aj + mm = o + i then x else 0 := by
                        unfold getI
                        rw [if_pos hin, ← unhide HLL]
                        exact one_word E (Aj + mm) (o + i) x (by omega) (by omega)
                      rw [hE0, hV]
                      clear hin hE0 hV
                      rintro e w11 ⟨rfl, ho, ha⟩
                      have HA11 := hide ha
                      have HP11 := hide ((unhide HPm).only ho (unhide HPC))
                      have HB11 := hide ((unhide HBm).trans (ho.below (unhide HCG).1 (by have := (unhide HBm).size; omega)))
                      clear ho ha HAm HPm HBm hjc
                      by_cases hjk : j = k
                      · subst hjk
                        obtain rfl : nj = nk := by rw [← unhide HNJ, ← unhide HNK]
                        obtain rfl : Aj = o := by rw [← unhide HAJ, ← unhide HAk]
                        by_cases hmi : mm = i
                        · subst hmi
                          rw [if_pos rfl]
                          go_wp2
                          go_roundw
                          case rel => exact ⟨mm + 1, by omega, rfl, HA11, HP11, HB11⟩
                          case measure => simp [intOf]; omega
                        · rw [if_neg (by omega)]
                          have hmi' : (mm : Int) ≠ (i : Int) := by omega
                          go_wp2
                          go_roundw
                          case rel => exact ⟨mm + 1, by omega, rfl, HA11, HP11, HB11⟩
                          case measure => simp [intOf]; omega
                      · have hno : ¬ Aj + mm = o + i := by
                          rcases Nat.lt_or_gt_of_ne hjk with h | h
                          · have := unhide HApart j k h (by rw [unhide HN]; exact hkN)
                            rw [unhide HAJ, unhide HNJ, unhide HAk] at this
                            omega
                          · have := unhide HApart k j h (by rw [unhide HN]; exact hjN)
                            rw [unhide HAJ, unhide HNK, unhide HAk] at this
                            omega
                        rw [if_neg hno]
                        clear hno
                        have hjk' : (j : Int) ≠ (k : Int) := by omega
                        go_wp2
                        go_roundw
                        case rel => exact ⟨mm + 1, by omega, rfl, HA11, HP11, HB11⟩
                        case measure => simp [intOf]; omega
                    · obtain rfl : mm = nj := by omega
                      go_wp2
                      go_roundw
                      case rel => exact ⟨j + 1, by omega, rfl, HAm, HBm⟩
                      case measure => simp [intOf]; omega
            · obtain rfl : j = N := by omega
              have hbb : b < s4 := by rw [← hs4]; exact (unhide HC4).lt
              have hCr := (unhide HC4).under (unhide HBr) hbb
              have hak : wr.cell? ⟨b, k, none⟩ = some (.int .i64 (o : Int)) := by
                rw [← unhide HAk, ← casts_at]
                exact hCr.cell k _ (ints_at _ _ (by rw [casts_len, unhide HAl]; exact hkN))
              clear hCr
              go_wp2_with fail
              refine (err_any c g E L 0 _ (unhide HAr)).mono ?_
              rintro e w12 ⟨rfl, rfl⟩
              go_wp2_with fail
              rw [show (o : Int) + (i : Int) = ((o + i : Nat) : Int) by omega]
              refine (aget_any c g E L 0 ((o + i : Nat) : Int) _ (unhide HAr)).mono ?_
              have hV : getI L 0 E ((o + i : Nat) : Int) = x := by
                unfold getI
                rw [if_pos (by unfold inR; omega), ← unhide HLL, Nat.zero_add]
                have := one_word E (o + i) (o + i) x (by omega) (by omega)
                rw [if_pos rfl] at this
                exact this
              rw [hV]
              rintro e w13 ⟨rfl, ho, _⟩
              have HB13 := hide ((unhide HBr).trans (ho.below (unhide HCG).1 (by have := (unhide HBr).size; omega)))
              clear ho
              go_wp2
              go_ret
              refine ⟨rfl, (below_trans (unhide HB) (unhide HB4)).trans ((unhide HB13).mono ?_)⟩
              have h1 := (unhide HB).size
              have h2 := (unhide HB4).size
              omega
theorem i32_of_wf {x : Int} (h : (Lit.int .i32 x).wf = true) : okW x := by
  simp [Lit.wf, IntKind.min, IntKind.max, IntKind.signed, IntKind.bits] at h
  exact ⟨by omega, by omega⟩
theorem apart_came (a : Option Addr) (len cap : Nat) (zs : List Int) (q0 q1 x : Int) (w : World) (h : IsRow .i64 w a len cap zs) (hq0 : In64 q0) (hq1 : In64 q1) (hx : okW x) :
    Calls Try.prog 5 #[.slice a len cap, .agg #[.int .i64 q0, .int .i64 q1], .int .i32 x] w fun e w' => e = .returned (.bool true) ∧ Below w.heap.size w w' := by
  obtain ⟨xs, n, h1, h2, h3, h4, h5, h6, h7⟩ := cutK_came 8 a len cap zs w h
  exact apart_walk a len cap n xs q0 q1 x w h1 h2 h3 h4 h5 h7 hq0 hq1 hx
end Go.Proofs.Ytbekechjphangaa
