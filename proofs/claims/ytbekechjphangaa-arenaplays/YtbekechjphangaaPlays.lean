/- The walk of ArenaPlays. -/
import Derived.Test.YtbekechjphangaaSwa
import Derived.Test.YtbekechjphangaaSwb
import Derived.Test.YtbekechjphangaaSwc
import Derived.Test.YtbekechjphangaaSwd
import Derived.Deep.CutBlock
import Derived.Deep.DeepCutAuto
import Derived.Deep.QuietTactic
import Derived.BigQuiet
namespace Go.Proofs.Ytbekechjphangaa
open Go.RowKit
set_option linter.unusedVariables false

set_option maxRecDepth 100000 in
set_option maxHeartbeats 8000000 in
theorem plays_walk (nv q0 q1 : Int) (a : Option Addr) (len cap : Nat) (is : List ActD) (w : World) (hl : len ≤ 9223372036854775807) (hm : is.length = min len 40) (hi : LiesA w a is) :
    Calls Try.prog 3 #[.int .i64 nv, .agg #[.int .i64 q0, .int .i64 q1], .slice a len cap] w fun e w' => e = .returned (.bool true) ∧ Below w.heap.size w w' := by
  have HI := hide hi
  obtain ⟨m, hm0⟩ : ∃ m, min len 40 = m := ⟨_, rfl⟩
  rw [hm0] at hm
  have HM := hide hm
  have hm40 : m ≤ 40 := by omega
  have hml : m ≤ len := by omega
  have HMx : Hid (m < 40 → len = m) := by intro h; omega
  obtain ⟨i0, hi0, hz0, hz1, hz2⟩ := info_parts Try.info3
  have HI0 : Hid (Try.prog.info? 3 = some i0 ∧ i0.zero = some (.int .i64 0) ∧ i0.size = 1 ∧ i0.bytes = 8) := ⟨hi0, hz0, hz1, hz2⟩
  clear hi hm hm0 hi0 hz0 hz1 hz2
  go_enter Try.func3, Try.ntmps3
  go_wp2_with fail
  refine (awake_any _).mono ?_
  rintro e w1 ⟨rfl, hb⟩
  have HB1 := hide (below_trans ((Below.refl _ w).alloc (Nat.le_refl _) (.cells #[.int .i64 q0, .int .i64 q1] 22)) hb)
  have HQC := hide ((cells_new w [.int .i64 q0, .int .i64 q1] 22).below hb)
  clear hb
  have ha := and31 nv
  obtain ⟨N, hN, hN31⟩ : ∃ N : Nat, nv % 32 = (N : Int) ∧ N ≤ 31 := ⟨(nv % 32).toNat, by omega, by omega⟩
  go_wp2_with fail
  refine (new_any N (by omega) _).mono ?_
  rintro e w2 ⟨c, g, rfl, hc1, hg1, hA, hb⟩
  have HA2 := hide hA
  have HCG := hide (And.intro hc1 hg1)
  have HB12 := hide hb
  have HCGb : Hid (c < w2.heap.size ∧ g < w2.heap.size) := ⟨hA.me.lt, hA.row.lt⟩
  have HB2 := hide (below_trans (unhide HB1) hb)
  clear hc1 hg1 hA hb
  go_wp2_with fail
  refine (rnew_any (fun _ => False) N (by omega) _ (fun h => h)).mono ?_
  rintro e w3 ⟨d, rfl, hR, hb⟩
  have HR3 := hide (hR.other (Y := fun k => k = w3.heap.size) (fun k hk e => by omega))
  have HA3 := hide ((unhide HA2).below hb)
  have HB3 := hide (below_trans (unhide HB2) hb)
  have hq := (unhide HQC).below (below_trans (unhide HB12) hb)
  have hq0 : w3.cell? ⟨w.heap.size, 0, none⟩ = some (.int .i64 q0) := hq.cell 0 _ rfl
  have hq1 : w3.cell? ⟨w.heap.size, 1, none⟩ = some (.int .i64 q1) := hq.cell 1 _ rfl
  have hDl : d < w3.heap.size := lt_of_cell hR.err
  have HDl := hide hDl
  have HS23 := hide hb.size
  clear hR hb hq hDl
  have ha0 := and31 q0
  have ha1 := and31 q1
  obtain ⟨t0, ht0, ht01, ht02⟩ : ∃ t : Int, q0 % 32 - 1 = t ∧ -1 ≤ t ∧ t ≤ 30 := ⟨_, rfl, by omega, by omega⟩
  obtain ⟨t1, ht1, ht11, ht12⟩ : ∃ t : Int, q1 % 32 - 1 = t ∧ -1 ≤ t ∧ t ≤ 30 := ⟨_, rfl, by omega, by omega⟩
  go_wp2_with fail
  refine (part_val c g N t0 t1 _ 0 _ (unhide HA3) (by omega) ⟨by omega, by omega⟩ ⟨by omega, by omega⟩).mono ?_
  rintro e w4 ⟨P, rfl, hb, hyes, hno⟩
  have HY := hide hyes
  have HNo := hide hno
  have HA4 := hide ((unhide HA3).below hb)
  have HR4 := hide ((unhide HR3).below hb)
  have HB4 := hide (below_trans (unhide HB3) hb)
  have HS34 := hide hb.size
  clear hyes hno hb hq0 hq1
  go_wp2_with fail
  refine (may_any (fun k => k = w3.heap.size) _ d N _ 0 t0 t1 _ (unhide HR4) (by omega) ⟨by omega, by omega⟩ ⟨by omega, by omega⟩).mono ?_
  rintro e w5 ⟨rfl, rfl⟩
  obtain ⟨dd, hdd⟩ : ∃ dd, decide (0 ≤ t0 ∧ 0 ≤ t1 ∧ t0 + t1 ≤ (N : Int)) = dd := ⟨_, rfl⟩
  rw [hdd]
  have HD := hide hdd
  clear hdd
  go_upto_region 9 with fail
  go_cut [58] (fun r wc => r = .bool false ∧ wc = w5)
  case first =>
    by_cases hy : 0 ≤ t0 ∧ 0 ≤ t1 ∧ t0 + t1 ≤ (N : Int)
    · obtain ⟨rfl, o, hpt, _, _⟩ := unhide HY hy
      obtain rfl : dd = true := by rw [← unhide HD]; exact decide_eq_true hy
      obtain ⟨M, rfl⟩ : ∃ M : Nat, t1 = (M : Int) := ⟨t1.toNat, by omega⟩
      rw [Int.toNat_natCast] at hpt
      have HPT := hide hpt
      clear hpt hy
      go_wp2_with fail
      refine (plen_any _ c g o M _ (unhide HPT)).mono ?_
      rintro e w6 ⟨rfl, rfl⟩
      go_wp2
      go_meet
      case rel => exact ⟨rfl, rfl⟩
    · obtain rfl := unhide HNo hy
      obtain rfl : dd = false := by rw [← unhide HD]; exact decide_eq_false hy
      clear hy
      go_wp2
      go_meet
      case rel => exact ⟨rfl, rfl⟩
  case rest =>
    obtain ⟨rfl, rfl⟩ := hcut
    go_upto_if 60 with fail
    go_cut [11, 12, 13] (fun av mv pv wc => ∃ (o at_ M pb : Nat), av = .int .i64 (at_ : Int) ∧ mv = .int .i64 (M : Int) ∧ pv = .pointer (some ⟨pb, 0, none⟩) ∧ Hid (at_ + M ≤ N) ∧ Hid (o + M ≤ N) ∧ Hid (0 < M → o = at_) ∧ Hid (w3.heap.size ≤ pb) ∧ Hid (Both (fun k => k = pb) w c g N w2.heap.size d pb o M (List.replicate N 0) 0 (List.replicate N 0) 0 wc))
    case first =>
      by_cases hy : 0 ≤ t0 ∧ 0 ≤ t1 ∧ t0 + t1 ≤ (N : Int)
      · obtain ⟨rfl, o, hpt, h1, h2⟩ := unhide HY hy
        obtain rfl : dd = true := by rw [← unhide HD]; exact decide_eq_true hy
        obtain ⟨M, rfl⟩ : ∃ M : Nat, t1 = (M : Int) := ⟨t1.toNat, by omega⟩
        obtain ⟨at_, rfl⟩ : ∃ t : Nat, t0 = (t : Int) := ⟨t0.toNat, by omega⟩
        rw [Int.toNat_natCast] at hpt h1 h2
        rw [Int.toNat_natCast] at h2
        have HPT := hide hpt
        have H1 := hide h1
        have H2 := hide h2
        have H3 := hide (show at_ + M ≤ N by omega)
        clear hpt hy h1 h2
        go_wp2
        go_meet
        case rel =>
          exact ⟨o, at_, M, w3.heap.size, rfl, rfl, rfl, H3, H1, H2, Nat.le_refl _, ⟨unhide HA4, unhide HR4, unhide HPT, unhide HB4⟩⟩
      · obtain rfl : dd = false := by rw [← unhide HD]; exact decide_eq_false hy
        clear hy
        have K0 : Hid (Calls Try.prog 11 #[.pointer (some ⟨c, 0, none⟩), .int .i64 0, .int .i64 0] wc fun r w' => ∃ o, r = .returned (.pointer (some ⟨wc.heap.size, 0, none⟩)) ∧ Pt wc.heap.size c g o 0 w' ∧ o + 0 ≤ N ∧ (0 < 0 → o = 0) ∧ Below wc.heap.size wc w') := part_yes c g N 0 0 _ 0 _ (unhide HA4) (by omega) (by omega)
        go_wp2_with fail
        refine (unhide K0).mono ?_
        rintro e w6 ⟨o, rfl, hpt, h1, h2, hb⟩
        have HPT := hide hpt
        have H1 := hide h1
        have HBB := hide hb
        clear hpt h1 h2 hb
        go_wp2
        go_meet
        case rel =>
          exact ⟨o, 0, 0, _, rfl, rfl, rfl, Nat.zero_le _, unhide H1, (fun h => absurd h (Nat.lt_irrefl 0)), unhide HS34, ⟨(unhide HA4).below (unhide HBB), ((unhide HR4).other (fun k hk e => by omega)).below (unhide HBB), unhide HPT, below_trans (unhide HB4) (unhide HBB)⟩⟩
    case rest =>
      obtain ⟨o, at_, M, pb, rfl, rfl, rfl, HM1, HM2, HM3, HPB, HBo⟩ := hcut
      obtain ⟨w6, rfl⟩ : ∃ w6, w6 = wc := ⟨_, rfl⟩
      have HCGw := hide (And.intro (Nat.le_trans (unhide HB1).size (unhide HCG).1) (Nat.le_trans (unhide HB1).size (unhide HCG).2))
      clear HY HNo HD HA2 HA3 HA4 HR3 HR4 HB3 HB4 HB2 HB12 HQC HS34 ha0 ha1 ht0 ht1 ht01 ht02 ht11 ht12
      go_wp2
      go_loopw [15, 16, 17, 18] (fun iv _ _ _ wr => ∃ (j : Nat) (L : List Int) (e : Int), j ≤ m ∧ iv = .int .i64 (j : Int) ∧ Hid (Both (fun k => k = pb) w c g N w2.heap.size d pb o M L e L e wr)) (fun iv _ _ _ _ => m - (intOf iv).toNat)
      case atStart => exact ⟨0, _, _, by omega, rfl, HBo⟩
      case round =>
        obtain ⟨j, L, e, hj, rfl, HBr⟩ := hrel
        by_cases hlt : j < m
        · have hj1 : (j : Int) < len := by omega
          have hj2 : (j : Int) < 40 := by omega
          have hjl : j < is.length := by rw [unhide HM]; exact hlt
          obtain ⟨b, off, rfl, c0, c1, c2, c3, c4⟩ : ∃ b off, a = some ⟨b, off, none⟩ ∧ ActAt wr b (off + j * 5) is[j] := by
            rcases (unhide HI).below (unhide HBr).bl with h | ⟨b, off, h, _, hc⟩
            · rw [h] at hjl; simp at hjl
            · exact ⟨b, off, h, hc j hjl⟩
          obtain ⟨⟨sk, si, sx, sf, sw⟩, hs⟩ : ∃ s, is[j] = s := ⟨_, rfl⟩
          rw [hs] at c0 c1 c2 c3 c4
          simp only at c0 c1 c2 c3 c4
          clear hs hjl
          have ha7 := and7 sk
          obtain ⟨kk, hkk, hk1, hk2⟩ : ∃ kk : Int, sk % 8 = kk ∧ 0 ≤ kk ∧ kk ≤ 7 := ⟨_, rfl, by omega, by omega⟩
          go_upto_block 2 with fail
          obtain ⟨sb, hsb⟩ : ∃ sb, wr.heap.size = sb := ⟨_, rfl⟩
          rw [hsb]
          generalize hws : wr.alloc (Obj.cells #[Value.int IntKind.i64 sk, Value.int IntKind.i64 si, Value.int IntKind.i64 sx, Value.bool sf, Value.bool sw] 34) = ws
          have HSt0 : Hid (St (fun k => k = pb ∨ k = sb) w c g N w2.heap.size d pb o M sb (ActD.mk sk si sx sf sw) L e L e ws) := by
            subst hws
            have hb9 : Below wr.heap.size wr (wr.alloc (Obj.cells #[Value.int IntKind.i64 sk, Value.int IntKind.i64 si, Value.int IntKind.i64 sx, Value.bool sf, Value.bool sw] 34)) := (Below.refl _ wr).alloc (Nat.le_refl _) _
            refine ⟨Both.below ((unhide HBr).other (fun k hk h => ?_)) hb9, ?_⟩
            · rcases h with h | h
              · exact h
              · omega
            · rw [← hsb]
              exact cells_new wr [_, _, _, _, _] 34
          have HRk : Hid (Ranks w c g w2.heap.size d pb sb) := by
            have h1 := unhide HCGw
            have h2 := unhide HCGb
            have h3 := unhide HPB
            have h4 := unhide HDl
            have h5 := (unhide HBr).rg.base
            have h6 := Cells.lt (unhide HBr).pt
            have h7 : d < wr.heap.size := lt_of_cell (unhide HBr).rg.err
            have h8 := unhide HS23
            exact ⟨h1.1, h1.2, by omega, h2.1, h2.2, by omega, by omega, by omega, by omega, by omega, by omega, by omega⟩
          have q0c := (unhide HSt0).sc.cell 0 _ rfl
          clear hws
          obtain ⟨wd, hwd⟩ : ∃ v, ActD.word (ActD.mk sk si sx sf sw) = v := ⟨_, rfl⟩
          obtain ⟨nm, hnm⟩ : ∃ v, ActD.num (ActD.mk sk si sx sf sw) = v := ⟨_, rfl⟩
          have KW : Hid (∀ W, Calls Try.prog 15 #[.agg #[.int .i64 sk, .int .i64 si, .int .i64 sx, .bool sf, .bool sw]] W fun r w' => r = .returned (.int .i64 wd) ∧ Below W.heap.size W w') := by
            intro W
            have h := word_any sk si sx sf sw W
            rw [hwd] at h
            exact h
          have KN : Hid (∀ W, Calls Try.prog 16 #[.agg #[.int .i64 sk, .int .i64 si, .int .i64 sx, .bool sf, .bool sw]] W fun r w' => r = .returned (.int .i64 nm) ∧ Below W.heap.size W w') := by
            intro W
            have h := num_any sk si sx sf sw W
            rw [hnm] at h
            exact h
          clear hwd hnm c0 c1 c2 c3 c4
          go_cut [17] (fun okv wc => okv = .bool true ∧ ∃ (L1 : List Int) (e1 : Int), Hid (Both (fun k => k = pb) w c g N w2.heap.size d pb o M L1 e1 L1 e1 wc))
          case first =>
            have h8 : kk = 0 ∨ kk = 1 ∨ kk = 2 ∨ kk = 3 ∨ kk = 4 ∨ kk = 5 ∨ kk = 6 ∨ kk = 7 := by omega
            rcases h8 with rfl | rfl | rfl | rfl | rfl | rfl | rfl | rfl
            · refine sw_k0 w w2 ws c g N d pb o M sb at_ sk si sx sf sw L e wd nm i0 _ hN31 HSt0 HRk KW KN HM1 HM2 HM3 HI0 _ _ _ _ _ _ _ _ _ _ _ _ _ _ _ _ _ _ _ _ _ _ _ _ _ _ _ _ _ _ _ _ _ _ _ _ _ _ _ _ _ _ _ _ _ _ _ _ _ _ _ _ _ _ _ _ _ _ _ _ _ _ _ _ _ _ _ _ _ _ _ _ _ _ _ _ _ _ _ _ _ _ _ _ _ _ _ _ _ _ _ _ _ _ _ _ _ _ _ _ _ _ _ _ _ _ _ _ _ _ _ _ _ _ _ _ _ _ _ _ _ _ _ _ _ _ _ _ _ _ _ _ _ _ _ _ _ _ _ _ _ _ _ _ _ _ _ _ _ _ _ _ _ _ _ _ _ _ _ _ _ _ _ _ _ _ _ _ _ _ _ _ _ _ _ _ _ _ _ _ _ _ _ _ _ _ _ ?_
              intro v80 v81 v82 v83 v84 v85 v86 v87 v88 v89 v90 v91 v92 v93 v94 v95 v96 v97 v98 v99 v100 v101 v102 v103 v104 v105 v106 v107 v108 v109 v110 v111 v112 v113 v114 v115 v116 v117 v118 v119 v120 v121 v122 v123 v124 v125 v126 v127 v128 v129 v130 v131 v132 v133 v134 v135 v136 v137 v138 v139 v140 v141 v142 v143 v144 v145 v146 v147 v148 v149 v150 v151 v152 v153 v154 v155 v156 v157 wc L1 e1 hB
              dsimp only
              go_wp2
              go_meet
              case rel => exact ⟨rfl, L1, e1, hB⟩
            · refine sw_k1 w w2 ws c g N d pb o M sb at_ sk si sx sf sw L e wd nm i0 _ hN31 HSt0 HRk KW KN HM1 HM2 HM3 HI0 _ _ _ _ _ _ _ _ _ _ _ _ _ _ _ _ _ _ _ _ _ _ _ _ _ _ _ _ _ _ _ _ _ _ _ _ _ _ _ _ _ _ _ _ _ _ _ _ _ _ _ _ _ _ _ _ _ _ _ _ _ _ _ _ _ _ _ _ _ _ _ _ _ _ _ _ _ _ _ _ _ _ _ _ _ _ _ _ _ _ _ _ _ _ _ _ _ _ _ _ _ _ _ _ _ _ _ _ _ _ _ _ _ _ _ _ _ _ _ _ _ _ _ _ _ _ _ _ _ _ _ _ _ _ _ _ _ _ _ _ _ _ _ _ _ _ _ _ _ _ _ _ _ _ _ _ _ _ _ _ _ _ _ _ _ _ _ _ _ _ _ _ _ _ _ _ _ _ _ _ _ _ _ _ _ _ _ ?_
              intro v80 v81 v82 v83 v84 v85 v86 v87 v88 v89 v90 v91 v92 v93 v94 v95 v96 v97 v98 v99 v100 v101 v102 v103 v104 v105 v106 v107 v108 v109 v110 v111 v112 v113 v114 v115 v116 v117 v118 v119 v120 v121 v122 v123 v124 v125 v126 v127 v128 v129 v130 v131 v132 v133 v134 v135 v136 v137 v138 v139 v140 v141 v142 v143 v144 v145 v146 v147 v148 v149 v150 v151 v152 v153 v154 v155 v156 v157 wc L1 e1 hB
              dsimp only
              go_wp2
              go_meet
              case rel => exact ⟨rfl, L1, e1, hB⟩
            · refine sw_k2 w w2 ws c g N d pb o M sb at_ sk si sx sf sw L e wd nm i0 _ hN31 HSt0 HRk KW KN HM1 HM2 HM3 HI0 _ _ _ _ _ _ _ _ _ _ _ _ _ _ _ _ _ _ _ _ _ _ _ _ _ _ _ _ _ _ _ _ _ _ _ _ _ _ _ _ _ _ _ _ _ _ _ _ _ _ _ _ _ _ _ _ _ _ _ _ _ _ _ _ _ _ _ _ _ _ _ _ _ _ _ _ _ _ _ _ _ _ _ _ _ _ _ _ _ _ _ _ _ _ _ _ _ _ _ _ _ _ _ _ _ _ _ _ _ _ _ _ _ _ _ _ _ _ _ _ _ _ _ _ _ _ _ _ _ _ _ _ _ _ _ _ _ _ _ _ _ _ _ _ _ _ _ _ _ _ _ _ _ _ _ _ _ _ _ _ _ _ _ _ _ _ _ _ _ _ _ _ _ _ _ _ _ _ _ _ _ _ _ _ _ _ _ ?_
              intro v80 v81 v82 v83 v84 v85 v86 v87 v88 v89 v90 v91 v92 v93 v94 v95 v96 v97 v98 v99 v100 v101 v102 v103 v104 v105 v106 v107 v108 v109 v110 v111 v112 v113 v114 v115 v116 v117 v118 v119 v120 v121 v122 v123 v124 v125 v126 v127 v128 v129 v130 v131 v132 v133 v134 v135 v136 v137 v138 v139 v140 v141 v142 v143 v144 v145 v146 v147 v148 v149 v150 v151 v152 v153 v154 v155 v156 v157 wc L1 e1 hB
              dsimp only
              go_wp2
              go_meet
              case rel => exact ⟨rfl, L1, e1, hB⟩
            · refine sw_k3 w w2 ws c g N d pb o M sb at_ sk si sx sf sw L e wd nm i0 _ hN31 HSt0 HRk KW KN HM1 HM2 HM3 HI0 _ _ _ _ _ _ _ _ _ _ _ _ _ _ _ _ _ _ _ _ _ _ _ _ _ _ _ _ _ _ _ _ _ _ _ _ _ _ _ _ _ _ _ _ _ _ _ _ _ _ _ _ _ _ _ _ _ _ _ _ _ _ _ _ _ _ _ _ _ _ _ _ _ _ _ _ _ _ _ _ _ _ _ _ _ _ _ _ _ _ _ _ _ _ _ _ _ _ _ _ _ _ _ _ _ _ _ _ _ _ _ _ _ _ _ _ _ _ _ _ _ _ _ _ _ _ _ _ _ _ _ _ _ _ _ _ _ _ _ _ _ _ _ _ _ _ _ _ _ _ _ _ _ _ _ _ _ _ _ _ _ _ _ _ _ _ _ _ _ _ _ _ _ _ _ _ _ _ _ _ _ _ _ _ _ _ _ ?_
              intro v80 v81 v82 v83 v84 v85 v86 v87 v88 v89 v90 v91 v92 v93 v94 v95 v96 v97 v98 v99 v100 v101 v102 v103 v104 v105 v106 v107 v108 v109 v110 v111 v112 v113 v114 v115 v116 v117 v118 v119 v120 v121 v122 v123 v124 v125 v126 v127 v128 v129 v130 v131 v132 v133 v134 v135 v136 v137 v138 v139 v140 v141 v142 v143 v144 v145 v146 v147 v148 v149 v150 v151 v152 v153 v154 v155 v156 v157 wc L1 e1 hB
              dsimp only
              go_wp2
              go_meet
              case rel => exact ⟨rfl, L1, e1, hB⟩
            · refine sw_k4 w w2 ws c g N d pb o M sb at_ sk si sx sf sw L e wd nm i0 _ hN31 HSt0 HRk KW KN HM1 HM2 HM3 HI0 _ _ _ _ _ _ _ _ _ _ _ _ _ _ _ _ _ _ _ _ _ _ _ _ _ _ _ _ _ _ _ _ _ _ _ _ _ _ _ _ _ _ _ _ _ _ _ _ _ _ _ _ _ _ _ _ _ _ _ _ _ _ _ _ _ _ _ _ _ _ _ _ _ _ _ _ _ _ _ _ _ _ _ _ _ _ _ _ _ _ _ _ _ _ _ _ _ _ _ _ _ _ _ _ _ _ _ _ _ _ _ _ _ _ _ _ _ _ _ _ _ _ _ _ _ _ _ _ _ _ _ _ _ _ _ _ _ _ _ _ _ _ _ _ _ _ _ _ _ _ _ _ _ _ _ _ _ _ _ _ _ _ _ _ _ _ _ _ _ _ _ _ _ _ _ _ _ _ _ _ _ _ _ _ _ _ _ ?_
              intro v80 v81 v82 v83 v84 v85 v86 v87 v88 v89 v90 v91 v92 v93 v94 v95 v96 v97 v98 v99 v100 v101 v102 v103 v104 v105 v106 v107 v108 v109 v110 v111 v112 v113 v114 v115 v116 v117 v118 v119 v120 v121 v122 v123 v124 v125 v126 v127 v128 v129 v130 v131 v132 v133 v134 v135 v136 v137 v138 v139 v140 v141 v142 v143 v144 v145 v146 v147 v148 v149 v150 v151 v152 v153 v154 v155 v156 v157 wc L1 e1 hB
              dsimp only
              go_wp2
              go_meet
              case rel => exact ⟨rfl, L1, e1, hB⟩
            · refine sw_k5 w w2 ws c g N d pb o M sb at_ sk si sx sf sw L e wd nm i0 _ hN31 HSt0 HRk KW KN HM1 HM2 HM3 HI0 _ _ _ _ _ _ _ _ _ _ _ _ _ _ _ _ _ _ _ _ _ _ _ _ _ _ _ _ _ _ _ _ _ _ _ _ _ _ _ _ _ _ _ _ _ _ _ _ _ _ _ _ _ _ _ _ _ _ _ _ _ _ _ _ _ _ _ _ _ _ _ _ _ _ _ _ _ _ _ _ _ _ _ _ _ _ _ _ _ _ _ _ _ _ _ _ _ _ _ _ _ _ _ _ _ _ _ _ _ _ _ _ _ _ _ _ _ _ _ _ _ _ _ _ _ _ _ _ _ _ _ _ _ _ _ _ _ _ _ _ _ _ _ _ _ _ _ _ _ _ _ _ _ _ _ _ _ _ _ _ _ _ _ _ _ _ _ _ _ _ _ _ _ _ _ _ _ _ _ _ _ _ _ _ _ _ _ ?_
              intro v80 v81 v82 v83 v84 v85 v86 v87 v88 v89 v90 v91 v92 v93 v94 v95 v96 v97 v98 v99 v100 v101 v102 v103 v104 v105 v106 v107 v108 v109 v110 v111 v112 v113 v114 v115 v116 v117 v118 v119 v120 v121 v122 v123 v124 v125 v126 v127 v128 v129 v130 v131 v132 v133 v134 v135 v136 v137 v138 v139 v140 v141 v142 v143 v144 v145 v146 v147 v148 v149 v150 v151 v152 v153 v154 v155 v156 v157 wc L1 e1 hB
              dsimp only
              go_wp2
              go_meet
              case rel => exact ⟨rfl, L1, e1, hB⟩
            · refine sw_k6 w w2 ws c g N d pb o M sb at_ sk si sx sf sw L e wd nm i0 _ hN31 HSt0 HRk KW KN HM1 HM2 HM3 HI0 _ _ _ _ _ _ _ _ _ _ _ _ _ _ _ _ _ _ _ _ _ _ _ _ _ _ _ _ _ _ _ _ _ _ _ _ _ _ _ _ _ _ _ _ _ _ _ _ _ _ _ _ _ _ _ _ _ _ _ _ _ _ _ _ _ _ _ _ _ _ _ _ _ _ _ _ _ _ _ _ _ _ _ _ _ _ _ _ _ _ _ _ _ _ _ _ _ _ _ _ _ _ _ _ _ _ _ _ _ _ _ _ _ _ _ _ _ _ _ _ _ _ _ _ _ _ _ _ _ _ _ _ _ _ _ _ _ _ _ _ _ _ _ _ _ _ _ _ _ _ _ _ _ _ _ _ _ _ _ _ _ _ _ _ _ _ _ _ _ _ _ _ _ _ _ _ _ _ _ _ _ _ _ _ _ _ _ ?_
              intro v80 v81 v82 v83 v84 v85 v86 v87 v88 v89 v90 v91 v92 v93 v94 v95 v96 v97 v98 v99 v100 v101 v102 v103 v104 v105 v106 v107 v108 v109 v110 v111 v112 v113 v114 v115 v116 v117 v118 v119 v120 v121 v122 v123 v124 v125 v126 v127 v128 v129 v130 v131 v132 v133 v134 v135 v136 v137 v138 v139 v140 v141 v142 v143 v144 v145 v146 v147 v148 v149 v150 v151 v152 v153 v154 v155 v156 v157 wc L1 e1 hB
              dsimp only
              go_wp2
              go_meet
              case rel => exact ⟨rfl, L1, e1, hB⟩
            · refine sw_k7 w w2 ws c g N d pb o M sb at_ sk si sx sf sw L e wd nm i0 _ hN31 HSt0 HRk KW KN HM1 HM2 HM3 HI0 _ _ _ _ _ _ _ _ _ _ _ _ _ _ _ _ _ _ _ _ _ _ _ _ _ _ _ _ _ _ _ _ _ _ _ _ _ _ _ _ _ _ _ _ _ _ _ _ _ _ _ _ _ _ _ _ _ _ _ _ _ _ _ _ _ _ _ _ _ _ _ _ _ _ _ _ _ _ _ _ _ _ _ _ _ _ _ _ _ _ _ _ _ _ _ _ _ _ _ _ _ _ _ _ _ _ _ _ _ _ _ _ _ _ _ _ _ _ _ _ _ _ _ _ _ _ _ _ _ _ _ _ _ _ _ _ _ _ _ _ _ _ _ _ _ _ _ _ _ _ _ _ _ _ _ _ _ _ _ _ _ _ _ _ _ _ _ _ _ _ _ _ _ _ _ _ _ _ _ _ _ _ _ _ _ _ _ ?_
              intro v80 v81 v82 v83 v84 v85 v86 v87 v88 v89 v90 v91 v92 v93 v94 v95 v96 v97 v98 v99 v100 v101 v102 v103 v104 v105 v106 v107 v108 v109 v110 v111 v112 v113 v114 v115 v116 v117 v118 v119 v120 v121 v122 v123 v124 v125 v126 v127 v128 v129 v130 v131 v132 v133 v134 v135 v136 v137 v138 v139 v140 v141 v142 v143 v144 v145 v146 v147 v148 v149 v150 v151 v152 v153 v154 v155 v156 v157 wc L1 e1 hB
              dsimp only
              go_wp2
              go_meet
              case rel => exact ⟨rfl, L1, e1, hB⟩
          case rest =>
            obtain ⟨rfl, L1, e1, HBo1⟩ := hcut
            obtain ⟨w7, rfl⟩ : ∃ v, v = wc := ⟨_, rfl⟩
            obtain ⟨hh, hhc, hcd, hli⟩ := (unhide HBo1).rg.open
            go_upto_region 37 with fail
            refine region_ssa2 (fun f W => Both (fun k => k = pb) w c g N w2.heap.size d pb o M L1 e1 L1 e1 W ∧ W.cell? ⟨d, 0, none⟩ = some (.slice (some ⟨hh, 0, none⟩) N hhc) ∧ Lies W (some ⟨hh, 0, none⟩) L1) (fun jq vq wq => (∀ xq, (([some (.pointer (some ⟨c, 0, none⟩)), none, some (.pointer (some ⟨d, 0, none⟩)), some (.pointer (some ⟨d, 0, none⟩)), some (.pointer (some ⟨d, 0, none⟩)), some (.slice (some ⟨hh, 0, none⟩) N hhc), some (.bool true), some (.bool true)] : List (Option Value)).getD jq none) = some xq → vq = xq) ∧ (jq = 1 → (∃ b9, vq = .slice (some ⟨b9, 0, none⟩) N N ∧ Lies wq (some ⟨b9, 0, none⟩) L1))) (by kernel_rfl) (by kernel_rfl) ?_ ?_ ?_
            · intro fq hf
              exact ⟨(unhide HBo1).drew, hcd, hli⟩
            · intro iq op ho fq AQ W hf hdep hS hK hG
              have hlt : iq < 8 := (Array.getElem?_eq_some_iff.1 ho).1
              match iq, hlt with
              | 0, _ =>
                obtain rfl := (Option.some.inj ho).symm
                have d9 : AQ.tmps.getD 9 undef = .pointer (some ⟨c, 0, none⟩) := hK.2.2 9 (by kernel_rfl)
                exact wpOp_val (v := (.pointer (some ⟨c, 0, none⟩))) (w' := W) rfl (wanted_none rfl) (by simp [execOp, Act.eval, d9, go_sem]) ⟨_, rfl, hS, fun _ _ h => h, ⟨(by intro x hx; cases hx; rfl), (by intro h; cases h)⟩⟩
              | 1, _ =>
                obtain rfl := (Option.some.inj ho).symm
                have d158 : AQ.tmps.getD 158 undef = .pointer (some ⟨c, 0, none⟩) := ((hG ⟨0, .data⟩ (by simp) rfl).2 158 rfl).1 _ rfl
                refine wpOp_call (f := 27) (args := #[.pointer (some ⟨c, 0, none⟩)]) (w' := W) rfl (wanted_none rfl) (by simp [execOp, Act.eval, d158, go_sem]) ?_
                refine (words_any c g N L1 e1 W hS.1.ar (by omega)).mono ?_
                rintro e9 w9 ⟨b9, rfl, _, hC, hb⟩
                exact ⟨_, rfl, _, rfl, ⟨hS.1.below hb, by rw [hb.cell (p := ⟨d, 0, none⟩) (lt_of_cell hS.2.1)]; exact hS.2.1, hS.2.2.below hb⟩, fun _ _ h => ⟨h.1, fun q => by obtain ⟨b8, h8, l8⟩ := h.2 q; exact ⟨b8, h8, l8.below hb⟩⟩, ⟨(by intro x hx; cases hx), fun _ => ⟨b9, rfl, hC.lies⟩⟩⟩
              | 2, _ =>
                obtain rfl := (Option.some.inj ho).symm
                have d10 : AQ.tmps.getD 10 undef = .pointer (some ⟨d, 0, none⟩) := hK.2.2 10 (by kernel_rfl)
                exact wpOp_val (v := (.pointer (some ⟨d, 0, none⟩))) (w' := W) rfl (wanted_none rfl) (by simp [execOp, Act.eval, d10, go_sem]) ⟨_, rfl, hS, fun _ _ h => h, ⟨(by intro x hx; cases hx; rfl), (by intro h; cases h)⟩⟩
              | 3, _ =>
                obtain rfl := (Option.some.inj ho).symm
                have d160 : AQ.tmps.getD 160 undef = .pointer (some ⟨d, 0, none⟩) := ((hG ⟨2, .data⟩ (by simp) rfl).2 160 rfl).1 _ rfl
                exact wpOp_val (v := (.pointer (some ⟨d, 0, none⟩))) (w' := W) rfl (wanted_none rfl) (by simp [execOp, Act.eval, d160, go_sem]) ⟨_, rfl, hS, fun _ _ h => h, ⟨(by intro x hx; cases hx; rfl), (by intro h; cases h)⟩⟩
              | 4, _ =>
                obtain rfl := (Option.some.inj ho).symm
                have d161 : AQ.tmps.getD 161 undef = .pointer (some ⟨d, 0, none⟩) := ((hG ⟨3, .data⟩ (by simp) rfl).2 161 rfl).1 _ rfl
                exact wpOp_val (v := (.pointer (some ⟨d, 0, none⟩))) (w' := W) rfl (wanted_none rfl) (by simp [execOp, Act.eval, d161, go_sem]) ⟨_, rfl, hS, fun _ _ h => h, ⟨(by intro x hx; cases hx; rfl), (by intro h; cases h)⟩⟩
              | 5, _ =>
                obtain rfl := (Option.some.inj ho).symm
                have d162 : AQ.tmps.getD 162 undef = .pointer (some ⟨d, 0, none⟩) := ((hG ⟨4, .data⟩ (by simp) rfl).2 162 rfl).1 _ rfl
                have hcd := hS.2.1
                exact wpOp_val (v := (.slice (some ⟨hh, 0, none⟩) N hhc)) (w' := W) rfl (wanted_none rfl) (by simp [execOp, Act.eval, d162, hcd, go_sem]) ⟨_, rfl, hS, fun _ _ h => h, ⟨(by intro x hx; cases hx; rfl), (by intro h; cases h)⟩⟩
              | 6, _ =>
                obtain rfl := (Option.some.inj ho).symm
                have g159 := ((hG ⟨1, .data⟩ (by simp) rfl).2 159 rfl).2 rfl
                have d163 : AQ.tmps.getD 163 undef = .slice (some ⟨hh, 0, none⟩) N hhc := ((hG ⟨5, .data⟩ (by simp) rfl).2 163 rfl).1 _ rfl
                obtain ⟨b9, d159, hl⟩ := g159
                refine wpOp_call (f := 26) (args := #[.slice (some ⟨b9, 0, none⟩) N N, .slice (some ⟨hh, 0, none⟩) N hhc]) (w' := W) rfl (wanted_none rfl) (by simp [execOp, Act.eval, d159, d163, go_sem]) ?_
                refine (same_any _ _ _ _ L1 N hS.1.ar.len (by omega) W hl hS.2.2).mono ?_
                rintro e9 w9 ⟨rfl, hb⟩
                exact ⟨_, rfl, _, rfl, ⟨hS.1.below hb, by rw [hb.cell (p := ⟨d, 0, none⟩) (lt_of_cell hS.2.1)]; exact hS.2.1, hS.2.2.below hb⟩, fun _ _ h => ⟨h.1, fun q => by obtain ⟨b8, h8, l8⟩ := h.2 q; exact ⟨b8, h8, l8.below hb⟩⟩, ⟨(by intro x hx; cases hx; rfl), (by intro h; cases h)⟩⟩
              | 7, _ =>
                obtain rfl := (Option.some.inj ho).symm
                have d164 : AQ.tmps.getD 164 undef = .bool true := ((hG ⟨6, .data⟩ (by simp) rfl).2 164 rfl).1 _ rfl
                exact wpOp_val (v := (.bool true)) (w' := W) rfl (wanted_none rfl) (by simp [execOp, Act.eval, d164, go_sem]) ⟨_, rfl, hS, fun _ _ h => h, ⟨(by intro x hx; cases hx; rfl), (by intro h; cases h)⟩⟩
            · intro fq W vals hf hS hG
              have ev0 : vals 0 = .pointer (some ⟨c, 0, none⟩) := (hG 0 158 (by decide) rfl).1 _ rfl
              have g1 := (hG 1 159 (by decide) rfl).2 rfl
              have ev2 : vals 2 = .pointer (some ⟨d, 0, none⟩) := (hG 2 160 (by decide) rfl).1 _ rfl
              have ev3 : vals 3 = .pointer (some ⟨d, 0, none⟩) := (hG 3 161 (by decide) rfl).1 _ rfl
              have ev4 : vals 4 = .pointer (some ⟨d, 0, none⟩) := (hG 4 162 (by decide) rfl).1 _ rfl
              have ev5 : vals 5 = .slice (some ⟨hh, 0, none⟩) N hhc := (hG 5 163 (by decide) rfl).1 _ rfl
              have ev6 : vals 6 = .bool true := (hG 6 164 (by decide) rfl).1 _ rfl
              have ev7 : vals 7 = .bool true := (hG 7 18 (by decide) rfl).1 _ rfl
              change (_ : Exit → Act → World → Prop) Exit.normal (Act.put (Act.put (Act.put (Act.put (Act.put (Act.put (Act.put (Act.put _ (some 158) (vals 0)) (some 159) (vals 1)) (some 160) (vals 2)) (some 161) (vals 3)) (some 162) (vals 4)) (some 163) (vals 5)) (some 164) (vals 6)) (some 18) (vals 7)) W
              have HBo2 := hide hS.1
              obtain ⟨b9, v1, _⟩ := g1
              rw [putAll_zero, ev0, ev2, ev3, ev4, ev5, ev6, ev7, v1]
              obtain ⟨w8, rfl⟩ : ∃ v, v = W := ⟨_, rfl⟩
              clear hS hG hf v1 ev0 ev2 ev3 ev4 ev5 ev6 ev7
              clear vals fq
              have hEe : w8.cell? ⟨d, 1, none⟩ = some (.int .i64 e1) := (unhide HBo2).rg.err
              go_wp2
              go_quiet ((first | (go_at_call 28; exact Calls.quiet_of_same (err_any c g N L1 e1 _ ((unhide HBo2).ar.below (drewn_below (Below.refl _ _) _)))) | (go_at_call 29; exact Calls.quiet_of_same (perr_any pb c g o M N L1 e1 _ (Cells.below (unhide HBo2).pt (drewn_below (Below.refl _ _) _)) ((unhide HBo2).ar.below (drewn_below (Below.refl _ _) _)))) | (go_at_call 30; exact Calls.quiet_of_same (len_any c g N L1 e1 _ ((unhide HBo2).ar.below (drewn_below (Below.refl _ _) _))))))
              go_wp2
              go_roundw
              case rel => exact ⟨j + 1, L1, e1, by omega, rfl, (unhide HBo2).below (drewn_below (Below.refl _ _) _)⟩
              case measure => simp [intOf]; omega
        · obtain rfl : j = m := by omega
          have hfin : ¬ ((j : Int) < len ∧ (j : Int) < 40) := by
            rintro ⟨h1, h2⟩
            have := unhide HMx (by omega)
            omega
          by_cases hjl : (j : Int) < len
          case' pos => have hj12 : (40 : Int) ≤ j := by omega
          all_goals (
            clear hfin
            go_wp2
            go_ret
            exact ⟨rfl, (unhide HBr).bl⟩)
end Go.Proofs.Ytbekechjphangaa
