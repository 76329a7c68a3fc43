/- The walk of LoopPlays. -/
import Derived.Test.YtclikkhaaiihdaaSwg
import Derived.Test.YtclikkhaaiihdaaSwp
import Derived.Test.YtclikkhaaiihdaaSws
import Derived.Deep.CutBlock
import Derived.Deep.DeepCutAuto
namespace Go.Proofs.Ytclikkhaaiihdaa
open Go.RowKit
set_option linter.unusedVariables false

set_option maxRecDepth 100000 in
set_option maxHeartbeats 16000000 in
theorem plays_any (nn width : Int) (a : Option Addr) (len cap : Nat) (is : List ActD) (w : World) (hlen : len ≤ 9223372036854775807) (his : is.length = min len 50) (hl : LiesA64 w a is) :
    Calls Try.prog 3 #[.int .i64 nn, .int .i64 width, .slice a len cap] w fun r w' => r = .returned (.bool true) ∧ Below w.heap.size w w' := by
  have HL := hide hl
  obtain ⟨N, hN⟩ : ∃ N, min len 50 = N := ⟨_, rfl⟩
  rw [hN] at his
  have HIS := hide his
  have HN := hide hN
  have hN1 : N ≤ len := by omega
  have hN2 : N ≤ 50 := by omega
  clear hl his hN
  obtain ⟨m, hm0, hm1⟩ : ∃ m : Nat, bits .and .i64 nn 31 = (m : Int) ∧ m ≤ 31 := ⟨(nn % 32).toNat, by rw [and_31]; omega, by omega⟩
  obtain ⟨wd7, hw0, hw1, hw2⟩ : ∃ wd7 : Int, bits .and .i64 width 7 = wd7 ∧ 0 ≤ wd7 ∧ wd7 ≤ 7 := ⟨width % 8, and_7 width, by omega, by omega⟩
  obtain ⟨n3, hn3⟩ : ∃ n3 : Nat, m + 3 = n3 := ⟨_, rfl⟩
  have hn3' : (m : Int) + 3 = (n3 : Int) := by omega
  obtain ⟨wd, hwd⟩ : ∃ wd : Int, wd7 - 1 = wd := ⟨_, rfl⟩
  have hwd1 : -1 ≤ wd := by omega
  have hwd2 : wd ≤ 6 := by omega
  go_enter Try.func3, Try.ntmps3
  go_wp2_with fail
  refine (wake_any _).mono ?_
  rintro e' w1 ⟨rfl, hb⟩
  have HB1 := hide hb
  clear hb
  go_wp2_with fail
  refine (new_any n3 (by omega) _).mono ?_
  rintro e' w2 ⟨c, g, rfl, hc, hg, har, hb⟩
  have HA2 := hide har
  have HB2 := hide (below_trans (unhide HB1) hb)
  have HS2 : Hid (w.heap.size ≤ c ∧ w.heap.size ≤ g ∧ c < w2.heap.size ∧ g < w2.heap.size) := ⟨Nat.le_trans (unhide HB1).size hc, Nat.le_trans (unhide HB1).size hg, har.me.lt, har.row.lt⟩
  clear hc hg har hb HB1 hw0
  go_wp2_with fail
  refine (part_yes c g n3 2 m _ 0 _ (unhide HA2) (by omega) (by omega)).mono ?_
  rintro e' w3 ⟨o, rfl, hpt, hom, ho, hb⟩
  have HPT := hide hpt
  have HO := hide (And.intro hom ho)
  have HA3 := hide ((unhide HA2).below hb)
  have HB3 := hide (below_trans (unhide HB2) hb)
  have HS3 := hide (Cells.lt hpt)
  clear hpt hom ho hb HA2
  go_wp2_with fail
  by_cases hno : wd < 1 ∨ (1 ≤ wd ∧ roomN m wd = 0)
  · have HNew : Hid (Calls Try.prog 10 #[.pointer (some ⟨w2.heap.size, 0, none⟩), .int .i64 wd] w3 fun r w' => r = .returned (.pointer none) ∧ Below w3.heap.size w3 w') := by
      rcases hno with h | ⟨h1, h2⟩
      · exact lnew_low _ wd w3 h
      · exact lnew_full _ c g o m wd w3 (unhide HPT) h1 ⟨by omega, by omega⟩ (by omega) h2
    have HRn := hide (fun W => rnew_no m wd W (by omega) hno)
    refine (unhide HNew).mono ?_
    rintro e' w4 ⟨rfl, hb⟩
    have HB4 := hide (below_trans (unhide HB3) hb)
    clear hb HNew hno
    go_wp2_with fail
    refine (unhide HRn _).mono ?_
    rintro e' w5 ⟨rfl, rfl⟩
    go_wp2
    go_ret
    exact ⟨by simp, unhide HB4⟩
  · obtain ⟨d, hd⟩ : ∃ d : Nat, wd = (d : Int) := ⟨wd.toNat, by omega⟩
    subst hd
    have hd1 : 1 ≤ d := by omega
    have hd6 : d ≤ 6 := by omega
    obtain ⟨R, hR⟩ : ∃ R, roomN m (d : Int) = R := ⟨_, rfl⟩
    have hR1 : 1 ≤ R := by omega
    have hRm : R ≤ 31 := by have := room_le m (d : Int); omega
    have HR := hide hR
    have hmp : 0 < m := by have := room_le m (d : Int); omega
    obtain rfl : o = 2 := (unhide HO).2 hmp
    clear hno hR
    refine (lnew_yes _ c g 2 m (d : Int) R _ (unhide HPT) (by omega) (by omega) (by omega) (unhide HR) hR1).mono ?_
    rintro e' w4 ⟨rfl, hlo, hb⟩
    have HX4 := hide (own_made (B := w.heap.size) (w1 := w) hlo (unhide HA3) hb (unhide HPT) (by omega) (by have := unhide HS2; omega) (by have := unhide HS2; omega) (unhide HB3).size)
    have HB4 := hide (below_trans (unhide HB3) hb)
    have HS4 : Hid (w3.heap.size < w4.heap.size) := hlo.me.lt
    clear hlo hb HA3 HB3 HB2 HPT HO
    go_wp2_with fail
    refine (rnew_yes m d R _ (by omega) hd1 (unhide HR) hR1).mono ?_
    rintro e' w5 ⟨p, h, rfl, hrl, hb⟩
    have HM5 : Hid (Rl w.heap.size p h m d R 0 w5 (List.replicate m 0)) := ⟨hrl.me, hrl.row, hrl.len, hrl.ne, hrl.pos, hrl.room, hrl.has, hrl.most, by have := hrl.ge; have := (unhide HB4).size; omega⟩
    have HX5 := hide ((unhide HX4).below hb)
    have HB5 := hide (below_trans (unhide HB4) hb)
    have HS : Hid (w.heap.size ≤ c ∧ w.heap.size ≤ g ∧ c < w2.heap.size ∧ g < w2.heap.size ∧ w2.heap.size < w3.heap.size ∧ w3.heap.size < p ∧ w3.heap.size < h ∧ p ≠ h) := by
      have h2 := unhide HS2; have h3 := unhide HS3; have h4 := unhide HS4; have h5 := hrl.ge; have h6 := hrl.ne
      exact ⟨by omega, by omega, by omega, by omega, by omega, by omega, by omega, h6⟩
    clear hrl hb HX4 HB4 HS2 HS3 HS4
    generalize w2.heap.size = b at *
    generalize w3.heap.size = l at *
    have HY5 : Hid (Lay3 m (List.replicate n3 0) (List.replicate m 0)) := by rw [← hn3]; exact lay3_zero m
    go_wp2
    go_loopw [13, 14, 15, 16, 17, 18, 19, 20, 21, 22, 23] (fun iv _ _ _ _ _ _ _ _ _ _ wr => ∃ (i : Nat) (cnt : Int) (L Lm : List Int), i ≤ N ∧ iv = .int .i64 (i : Int) ∧ 0 ≤ cnt ∧ cnt ≤ 4611686018427387903 + (i : Int) ∧ Hid (Own w.heap.size l b c g 2 m n3 d R cnt wr L) ∧ Hid (Rl w.heap.size p h m d R cnt wr Lm) ∧ Hid (Lay3 m L Lm) ∧ Hid (Below w.heap.size w wr)) (fun iv _ _ _ _ _ _ _ _ _ _ _ => N - (intOf iv).toNat)
    case atStart => exact ⟨0, 0, _, _, by omega, rfl, by omega, by omega, HX5, HM5, HY5, HB5⟩
    case round =>
      obtain ⟨i, cnt, L, Lm, hi, rfl, hc0, hc1, HXr, HMr, HYr, HBr⟩ := hrel
      obtain ⟨w6, hw6⟩ : ∃ w6, w6 = wr := ⟨_, rfl⟩
      subst hw6
      clear HX5 HM5 HY5 HB5
      by_cases hlt : i < N
      · have hil : i < is.length := by rw [unhide HIS]; exact hlt
        obtain ⟨bb, bo, ha, k0, k1, k2, k3, k4⟩ : ∃ bb bo, a = some ⟨bb, bo, none⟩ ∧ ActAt64 w6 bb (bo + i * 4) is[i] := by
          rcases (unhide HL).below (unhide HBr) with h | ⟨bb, bo, h1, _, h2⟩
          · rw [h] at hil; simp at hil
          · exact ⟨bb, bo, h1, h2 i hil⟩
        subst ha
        obtain ⟨⟨sk, sn, sf, so⟩, hs⟩ : ∃ s, is[i] = s := ⟨_, rfl⟩
        rw [hs] at k0 k1 k2 k3 k4
        simp only at k0 k1 k2 k3 k4
        have HS64 := hide k4
        have hj1 : (i : Int) < len := by omega
        have hj2 : (i : Int) < 50 := by omega
        obtain ⟨kk, hkk, hk1, hk2⟩ : ∃ kk : Int, bits .and .i64 sk 7 = kk ∧ 0 ≤ kk ∧ kk ≤ 7 := ⟨sk % 8, and_7 sk, by omega, by omega⟩
        clear hs hil k4
        go_upto_block 2 with fail
        obtain ⟨w7, hw7⟩ : ∃ w7, w7 = w6.alloc (.cells #[.int .i64 sk, .int .i64 sn, .bool sf, .bool so] 33) := ⟨_, rfl⟩
        have hb7 : Below w6.heap.size w6 w7 := by rw [hw7]; exact (Below.refl _ _).alloc (Nat.le_refl _) _
        have HC7 : Hid (Cells w7 w6.heap.size [.int .i64 sk, .int .i64 sn, .bool sf, .bool so]) := by rw [hw7]; exact cells_new w6 [_, _, _, _] 33
        have HX7 := hide ((unhide HXr).below hb7)
        have HM7 := hide ((unhide HMr).below hb7)
        have HB7 := hide (below_trans (unhide HBr) hb7)
        rw [← hw7]
        clear hw7 hb7 HXr HMr HBr k0 k1 k2 k3
        generalize w6.heap.size = sb at *
        go_cut [15] (fun okv wc => okv = .bool true ∧ ∃ (cnt' : Int) (L' Lm' : List Int), 0 ≤ cnt' ∧ cnt' ≤ 4611686018427387903 + ((i + 1 : Nat) : Int) ∧ Hid (Own w.heap.size l b c g 2 m n3 d R cnt' wc L') ∧ Hid (Rl w.heap.size p h m d R cnt' wc Lm') ∧ Hid (Lay3 m L' Lm') ∧ Hid (Below w.heap.size w wc))
        case first =>
          rcases (by omega : (kk = 5 ∨ kk = 6) ∨ kk = 7 ∨ (¬ kk = 5 ∧ ¬ kk = 6 ∧ ¬ kk = 7)) with hk | hk | ⟨h5, h6, h7⟩
          · refine sw_get l b c g p h m n3 d R sb i cnt sk sn kk sf so L Lm w w7 _ HX7 HM7 HB7 HYr HC7 HS64 HS HR hR1 hd1 hd6 hm1 hn3 hj2 hc0 hc1 hk _ _ _ _ _ _ _ _ _ _ _ _ _ _ _ _ _ _ _ _ _ _ _ _ _ _ _ _ _ _ _ _ _ _ _ _ _ _ _ _ _ _ _ _ _ _ _ _ _ _ _ _ _ _ _ _ _ _ _ _ _ _ _ _ _ _ _ _ _ _ _ _ _ _ _ _ _ _ _ _ _ _ _ _ _ _ _ _ _ _ _ _ _ _ _ _ _ _ _ _ _ _ _ _ _ _ _ _ _ _ _ _ _ _ _ _ _ _ _ _ _ _ _ _ _ _ _ _ _ _ _ _ _ _ _ _ _ _ _ _ _ _ _ _ _ _ _ _ _ _ _ _ _ _ _ _ _ _ _ _ _ _ _ _ _ _ _ _ _ _ _ _ _ _ _ _ _ _ _ _ _ _ _ _ _ _ _ _ _ _ _ _ _ _ _ _ _ _ _ _ _ _ ?_
            intro v16 v17 v18 v19 v20 v21 v67 v68 v69 v70 v71 v72 v73 v74 v75 v76 v77 v78 v79 v80 v81 v82 v83 v84 v85 v86 v87 v88 v89 v90 v91 v92 v93 v94 v95 v96 v97 v98 v99 v100 v101 v102 v103 v104 v105 v106 v107 v108 v109 v110 v111 v112 v113 v114 v115 v116 v117 v118 v119 v120 v121 v122 v123 v124 v125 v126 v127 v128 v129 wx hx
            dsimp only
            go_wp2
            go_meet
            case rel => exact ⟨rfl, hx⟩
          · refine sw_seek l b c g p h m n3 d R sb i cnt sk sn kk sf so L Lm w w7 _ HX7 HM7 HB7 HYr HC7 HS64 HS HR hR1 hd1 hd6 hm1 hn3 hj2 hc0 hc1 hk _ _ _ _ _ _ _ _ _ _ _ _ _ _ _ _ _ _ _ _ _ _ _ _ _ _ _ _ _ _ _ _ _ _ _ _ _ _ _ _ _ _ _ _ _ _ _ _ _ _ _ _ _ _ _ _ _ _ _ _ _ _ _ _ _ _ _ _ _ _ _ _ _ _ _ _ _ _ _ _ _ _ _ _ _ _ _ _ _ _ _ _ _ _ _ _ _ _ _ _ _ _ _ _ _ _ _ _ _ _ _ _ _ _ _ _ _ _ _ _ _ _ _ _ _ _ _ _ _ _ _ _ _ _ _ _ _ _ _ _ _ _ _ _ _ _ _ _ _ _ _ _ _ _ _ _ _ _ _ _ _ _ _ _ _ _ _ _ _ _ _ _ _ _ _ _ _ _ _ _ _ _ _ _ _ _ _ _ _ _ _ _ _ _ _ _ _ _ _ _ _ _ ?_
            intro v16 v17 v18 v19 v20 v21 v67 v68 v69 v70 v71 v72 v73 v74 v75 v76 v77 v78 v79 v80 v81 v82 v83 v84 v85 v86 v87 v88 v89 v90 v91 v92 v93 v94 v95 v96 v97 v98 v99 v100 v101 v102 v103 v104 v105 v106 v107 v108 v109 v110 v111 v112 v113 v114 v115 v116 v117 v118 v119 v120 v121 v122 v123 v124 v125 v126 v127 v128 v129 wx hx
            dsimp only
            go_wp2
            go_meet
            case rel => exact ⟨rfl, hx⟩
          · refine sw_push l b c g p h m n3 d R sb i cnt sk sn kk sf so L Lm w w7 _ HX7 HM7 HB7 HYr HC7 HS64 HS HR hR1 hd1 hd6 hm1 hn3 hj2 hc0 hc1 hk1 hk2 h5 h6 h7 _ _ _ _ _ _ _ _ _ _ _ _ _ _ _ _ _ _ _ _ _ _ _ _ _ _ _ _ _ _ _ _ _ _ _ _ _ _ _ _ _ _ _ _ _ _ _ _ _ _ _ _ _ _ _ _ _ _ _ _ _ _ _ _ _ _ _ _ _ _ _ _ _ _ _ _ _ _ _ _ _ _ _ _ _ _ _ _ _ _ _ _ _ _ _ _ _ _ _ _ _ _ _ _ _ _ _ _ _ _ _ _ _ _ _ _ _ _ _ _ _ _ _ _ _ _ _ _ _ _ _ _ _ _ _ _ _ _ _ _ _ _ _ _ _ _ _ _ _ _ _ _ _ _ _ _ _ _ _ _ _ _ _ _ _ _ _ _ _ _ _ _ _ _ _ _ _ _ _ _ _ _ _ _ _ _ _ _ _ _ _ _ _ _ _ _ _ _ _ _ _ _ ?_
            intro v16 v17 v18 v19 v20 v21 v67 v68 v69 v70 v71 v72 v73 v74 v75 v76 v77 v78 v79 v80 v81 v82 v83 v84 v85 v86 v87 v88 v89 v90 v91 v92 v93 v94 v95 v96 v97 v98 v99 v100 v101 v102 v103 v104 v105 v106 v107 v108 v109 v110 v111 v112 v113 v114 v115 v116 v117 v118 v119 v120 v121 v122 v123 v124 v125 v126 v127 v128 v129 wx hx
            dsimp only
            go_wp2
            go_meet
            case rel => exact ⟨rfl, hx⟩
        case rest =>
          obtain ⟨rfl, cnt', L', Lm', hc0', hc1', HXc, HMc, HYc, HBc⟩ := hcut
          clear HX7 HM7 HB7 HC7 HYr hc0 hc1
          go_wp2_with fail
          refine (words_any c g n3 L' 0 _ (unhide HXc).ar (by omega)).mono ?_
          rintro e' w8 ⟨r, rfl, hr, hcr, hb⟩
          have HC8 := hide hcr
          have HX8 := hide ((unhide HXc).below hb)
          have HM8 := hide ((unhide HMc).below hb)
          have HB8 := hide (below_trans (unhide HBc) hb)
          clear hr hcr hb HXc HMc HBc
          have c3 := (unhide HM8).me.cell 3 _ rfl
          have c2 := (unhide HM8).me.cell 2 _ rfl
          have c0 := (unhide HM8).me.cell 0 _ rfl
          go_wp2_with fail
          go_quiet ((first | (go_at_call 22; exact Calls.quiet_of_same (lcount_any l b c g 2 m R _ cnt' _ ((unhide HX8).below (below_drewN _ _)).lo hc0' (by omega))) | (go_at_call 23; exact Calls.quiet_of (loldest_any l b c g 2 m R _ cnt' _ ((unhide HX8).below (below_drewN _ _)).lo hc0' (by omega))) | (go_at_call 24; exact Calls.quiet_of (roldest_any _ p h m d R cnt' Lm' _ ((unhide HM8).below (below_drewN _ _)) hc0' (by omega))) | (go_at_call 25; exact Calls.quiet_of (lroom_any l b c g 2 m R _ cnt' _ ((unhide HX8).below (below_drewN _ _)).lo)) | (go_at_call 26; exact Calls.quiet_of_same (lwidth_any l b c g 2 m R _ cnt' _ ((unhide HX8).below (below_drewN _ _)).lo))))
          obtain ⟨w9, hw9⟩ : ∃ w9, w9 = w8.drewN nq := ⟨_, rfl⟩
          have hb9 : Below w8.heap.size w8 w9 := by rw [hw9]; exact below_drewN _ _
          have HC9 := hide ((unhide HC8).below hb9)
          have HX9 := hide ((unhide HX8).below hb9)
          have HM9 := hide ((unhide HM8).below hb9)
          have HB9 := hide (below_trans (unhide HB8) hb9)
          rw [← hw9]
          clear hw9 hb9 HC8 HX8 HM8 HB8 c3 c2 c0
          have c0 := (unhide HM9).me.cell 0 _ rfl
          have hm2 : (2 : Int) + (m : Int) ≤ (n3 : Int) := by omega
          obtain ⟨q2, hq2n⟩ : ∃ q2 : Nat, 2 + m = q2 := ⟨_, rfl⟩
          have hq2 : (2 : Int) + (m : Int) = (q2 : Int) := by omega
          have hq2w : IntKind.i64.wrap (q2 : Int) = (q2 : Int) := by rw [IntKind.wrap_i64]; omega
          obtain ⟨cp, hcp⟩ : ∃ cp : Nat, n3 - 2 = cp := ⟨_, rfl⟩
          have hq2a : q2 - 2 = m := by omega
          have hq2b : (2 : Int) ≤ (q2 : Int) := by omega
          have hq2e : ¬ n3 = 2 := by omega
          have hq2c : q2 ≤ n3 := by omega
          have hq2d : n3 - 2 = cp := hcp
          have hM9 := unhide HM9
          have hC9 := unhide HC9
          have hY9 := unhide HYc
          go_upto_region 35 with fail
          refine region_ssa2 (fun _ W => Below w9.heap.size w9 W) (fun jq vq wq => (∀ xq, (([some (.slice (some ⟨r, 0, none⟩) n3 n3), some (.int .i64 (m : Int)), some (.int .i64 (q2 : Int)), some (.slice (some ⟨r, 2, none⟩) m cp), some (.pointer (some ⟨p, 0, none⟩)), some (.pointer (some ⟨p, 0, none⟩)), some (.pointer (some ⟨p, 0, none⟩)), some (.slice (some ⟨h, 0, none⟩) m m), some (.bool true), some (.bool true)] : List (Option Value)).getD jq none) = some xq → vq = xq)) (by kernel_rfl) (by kernel_rfl) ?_ ?_ ?_
          · intro fq hf
            exact (Below.refl _ _).drew
          · intro iq op ho fq AQ W hf hdep hS hK hG
            have hlt : iq < 10 := (Array.getElem?_eq_some_iff.1 ho).1
            match iq, hlt with
            | 0, _ =>
              obtain rfl := (Option.some.inj ho).symm
              have d22 : AQ.tmps.getD 22 undef = .slice (some ⟨r, 0, none⟩) n3 n3 := hK.2.2 22 (by kernel_rfl)
              exact wpOp_val (v := (.slice (some ⟨r, 0, none⟩) n3 n3)) (w' := W) rfl (wanted_none rfl) (by simp [execOp, Act.eval, d22, go_sem]) ⟨_, rfl, hS, fun _ _ h => h, (by intro x hx; cases hx; rfl)⟩
            | 1, _ =>
              obtain rfl := (Option.some.inj ho).symm
              have d8 : AQ.tmps.getD 8 undef = .int .i64 (m : Int) := hK.2.2 8 (by kernel_rfl)
              exact wpOp_val (v := (.int .i64 (m : Int))) (w' := W) rfl (wanted_none rfl) (by simp [execOp, Act.eval, d8, go_sem]) ⟨_, rfl, hS, fun _ _ h => h, (by intro x hx; cases hx; rfl)⟩
            | 2, _ =>
              obtain rfl := (Option.some.inj ho).symm
              have d173 : AQ.tmps.getD 173 undef = .int .i64 (m : Int) := ((hG ⟨1, .data⟩ (by simp) rfl).2 173 rfl) _ rfl
              exact wpOp_val (v := (.int .i64 (q2 : Int))) (w' := W) rfl (wanted_none rfl) (by simp [execOp, Act.eval, d173, hq2, hq2w, go_sem]) ⟨_, rfl, hS, fun _ _ h => h, (by intro x hx; cases hx; rfl)⟩
            | 3, _ =>
              obtain rfl := (Option.some.inj ho).symm
              have d172 : AQ.tmps.getD 172 undef = .slice (some ⟨r, 0, none⟩) n3 n3 := ((hG ⟨0, .data⟩ (by simp) rfl).2 172 rfl) _ rfl
              have d174 : AQ.tmps.getD 174 undef = .int .i64 (q2 : Int) := ((hG ⟨2, .data⟩ (by simp) rfl).2 174 rfl) _ rfl
              exact wpOp_val (v := (.slice (some ⟨r, 2, none⟩) m cp)) (w' := W) rfl (wanted_none rfl) (by simp [execOp, Act.eval, d172, d174, hq2a, hq2b, hq2c, hq2d, hq2e, go_sem]) ⟨_, rfl, hS, fun _ _ h => h, (by intro x hx; cases hx; rfl)⟩
            | 4, _ =>
              obtain rfl := (Option.some.inj ho).symm
              have d12 : AQ.tmps.getD 12 undef = .pointer (some ⟨p, 0, none⟩) := hK.2.2 12 (by kernel_rfl)
              exact wpOp_val (v := (.pointer (some ⟨p, 0, none⟩))) (w' := W) rfl (wanted_none rfl) (by simp [execOp, Act.eval, d12, go_sem]) ⟨_, rfl, hS, fun _ _ h => h, (by intro x hx; cases hx; rfl)⟩
            | 5, _ =>
              obtain rfl := (Option.some.inj ho).symm
              have d176 : AQ.tmps.getD 176 undef = .pointer (some ⟨p, 0, none⟩) := ((hG ⟨4, .data⟩ (by simp) rfl).2 176 rfl) _ rfl
              exact wpOp_val (v := (.pointer (some ⟨p, 0, none⟩))) (w' := W) rfl (wanted_none rfl) (by simp [execOp, Act.eval, d176, go_sem]) ⟨_, rfl, hS, fun _ _ h => h, (by intro x hx; cases hx; rfl)⟩
            | 6, _ =>
              obtain rfl := (Option.some.inj ho).symm
              have d177 : AQ.tmps.getD 177 undef = .pointer (some ⟨p, 0, none⟩) := ((hG ⟨5, .data⟩ (by simp) rfl).2 177 rfl) _ rfl
              exact wpOp_val (v := (.pointer (some ⟨p, 0, none⟩))) (w' := W) rfl (wanted_none rfl) (by simp [execOp, Act.eval, d177, go_sem]) ⟨_, rfl, hS, fun _ _ h => h, (by intro x hx; cases hx; rfl)⟩
            | 7, _ =>
              obtain rfl := (Option.some.inj ho).symm
              have d178 : AQ.tmps.getD 178 undef = .pointer (some ⟨p, 0, none⟩) := ((hG ⟨6, .data⟩ (by simp) rfl).2 178 rfl) _ rfl
              have hc := (hM9.below hS).me.cell 0 _ rfl
              exact wpOp_val (v := (.slice (some ⟨h, 0, none⟩) m m)) (w' := W) rfl (wanted_none rfl) (by simp [execOp, Act.eval, d178, hc, go_sem]) ⟨_, rfl, hS, fun _ _ h => h, (by intro x hx; cases hx; rfl)⟩
            | 8, _ =>
              obtain rfl := (Option.some.inj ho).symm
              have d175 : AQ.tmps.getD 175 undef = .slice (some ⟨r, 2, none⟩) m cp := ((hG ⟨3, .data⟩ (by simp) rfl).2 175 rfl) _ rfl
              have d179 : AQ.tmps.getD 179 undef = .slice (some ⟨h, 0, none⟩) m m := ((hG ⟨7, .data⟩ (by simp) rfl).2 179 rfl) _ rfl
              refine wpOp_call (f := 15) (args := #[.slice (some ⟨r, 2, none⟩) m cp, .slice (some ⟨h, 0, none⟩) m m]) (w' := W) rfl (wanted_none rfl) (by simp [execOp, Act.eval, d175, d179, go_sem]) ?_
              refine (same_any _ _ _ _ Lm' m hY9.lenm (by omega) W ((hY9.lies hC9).below hS) ((hM9.row.lies).below hS)).mono ?_
              rintro e9 w9' ⟨rfl, hb⟩
              exact ⟨_, rfl, _, rfl, hS.trans (hb.mono hS.size), fun _ _ h => h, (by intro x hx; cases hx; rfl)⟩
            | 9, _ =>
              obtain rfl := (Option.some.inj ho).symm
              have d180 : AQ.tmps.getD 180 undef = .bool true := ((hG ⟨8, .data⟩ (by simp) rfl).2 180 rfl) _ rfl
              exact wpOp_val (v := (.bool true)) (w' := W) rfl (wanted_none rfl) (by simp [execOp, Act.eval, d180, go_sem]) ⟨_, rfl, hS, fun _ _ h => h, (by intro x hx; cases hx; rfl)⟩
          · intro fq W vals hf hS hG
            have ev0 : vals 0 = .slice (some ⟨r, 0, none⟩) n3 n3 := (hG 0 172 (by decide) rfl) _ rfl
            have ev1 : vals 1 = .int .i64 (m : Int) := (hG 1 173 (by decide) rfl) _ rfl
            have ev2 : vals 2 = .int .i64 (q2 : Int) := (hG 2 174 (by decide) rfl) _ rfl
            have ev3 : vals 3 = .slice (some ⟨r, 2, none⟩) m cp := (hG 3 175 (by decide) rfl) _ rfl
            have ev4 : vals 4 = .pointer (some ⟨p, 0, none⟩) := (hG 4 176 (by decide) rfl) _ rfl
            have ev5 : vals 5 = .pointer (some ⟨p, 0, none⟩) := (hG 5 177 (by decide) rfl) _ rfl
            have ev6 : vals 6 = .pointer (some ⟨p, 0, none⟩) := (hG 6 178 (by decide) rfl) _ rfl
            have ev7 : vals 7 = .slice (some ⟨h, 0, none⟩) m m := (hG 7 179 (by decide) rfl) _ rfl
            have ev8 : vals 8 = .bool true := (hG 8 180 (by decide) rfl) _ rfl
            have ev9 : vals 9 = .bool true := (hG 9 23 (by decide) rfl) _ rfl
            change (_ : Exit → Act → World → Prop) Exit.normal (Act.put (Act.put (Act.put (Act.put (Act.put (Act.put (Act.put (Act.put (Act.put (Act.put _ (some 172) (vals 0)) (some 173) (vals 1)) (some 174) (vals 2)) (some 175) (vals 3)) (some 176) (vals 4)) (some 177) (vals 5)) (some 178) (vals 6)) (some 179) (vals 7)) (some 180) (vals 8)) (some 23) (vals 9)) W
            rw [putAll_zero, ev0, ev1, ev2, ev3, ev4, ev5, ev6, ev7, ev8, ev9]
            obtain ⟨w10, hw10⟩ : ∃ w10, w10 = W := ⟨_, rfl⟩
            subst hw10
            have HC10 := hide ((unhide HC9).below hS)
            have HX10 := hide ((unhide HX9).below hS)
            have HM10 := hide ((unhide HM9).below hS)
            have HB10 := hide (below_trans (unhide HB9) hS)
            clear hS hG hf ev0 ev1 ev2 ev3 ev4 ev5 ev6 ev7 ev8 ev9
            clear vals fq HC9 HX9 HM9 HB9 hM9 hC9 hY9
            go_simp
            have hlen' : L'.length = n3 := by rw [(unhide HYc).len]; exact hn3
            have k0 := (unhide HC10).cell 0 _ (ints_at L' 0 (by omega))
            have k1 := (unhide HC10).cell 1 _ (ints_at L' 1 (by omega))
            have k2 := (unhide HC10).cell (m + 2) _ (ints_at L' (m + 2) (by omega))
            rw [(unhide HYc).z0] at k0
            rw [(unhide HYc).z1] at k1
            rw [(unhide HYc).z2] at k2
            have hm3 : (m : Int) + 2 < (n3 : Int) := by omega
            clear hq2 hq2a hq2b hq2c hq2d hq2e hq2n hq2w hcp hlen' c0 hm2
            go_wp2
            exact ⟨⟨i + 1, cnt', L', Lm', by omega, rfl, hc0', hc1', HX10, HM10, HYc, HB10⟩, by simp [intOf]; omega⟩
      · skip
        have hiN : i = N := by omega
        have hmin := unhide HN
        by_cases hl50 : len ≤ 50
        case' pos => have hs1 : (i : Int) = (len : Int) := by omega
        case' neg => have hs1 : (i : Int) = 50 := by omega
        all_goals (
          go_wp2_with fail
          refine (err_any c g n3 L 0 _ (unhide HXr).ar).mono ?_
          rintro e' wx ⟨rfl, rfl⟩
          go_wp2
          go_ret
          exact ⟨by simp, unhide HBr⟩)
end Go.Proofs.Ytclikkhaaiihdaa
