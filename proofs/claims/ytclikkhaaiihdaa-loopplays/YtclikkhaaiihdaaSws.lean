/- The acts of LoopPlays: Count is set. -/
import Derived.Test.YtclikkhaaiihdaaSw
namespace Go.Proofs.Ytclikkhaaiihdaa
open Go.RowKit
set_option linter.unusedVariables false

set_option maxRecDepth 100000 in
set_option maxHeartbeats 8000000 in
theorem sw_seek (l b c g p h m n3 d R sb i : Nat) (cnt sk sn kk : Int) (sf so : Bool) (L Lm : List Int) (w w7 : World) (Q : Exit → Act → World → Prop)
    (HX7 : Hid (Own w.heap.size l b c g 2 m n3 d R cnt w7 L)) (HM7 : Hid (Rl w.heap.size p h m d R cnt w7 Lm)) (HB7 : Hid (Below w.heap.size w w7)) (HYr : Hid (Lay3 m L Lm)) (HC7 : Hid (Cells w7 sb [.int .i64 sk, .int .i64 sn, .bool sf, .bool so])) (HS64 : Hid (In64 sn))
    (HS : Hid (w.heap.size ≤ c ∧ w.heap.size ≤ g ∧ c < b ∧ g < b ∧ b < l ∧ l < p ∧ l < h ∧ p ≠ h)) (HR : Hid (roomN m (d : Int) = R)) (hR1 : 1 ≤ R) (hd1 : 1 ≤ d) (hd6 : d ≤ 6) (hm1 : m ≤ 31) (hn3 : m + 3 = n3) (hj2 : (i : Int) < 50) (hc0 : 0 ≤ cnt) (hc1 : cnt ≤ 4611686018427387903 + (i : Int)) (hk : kk = 7)
    (u0 u1 u2 u3 u4 u5 u6 u7 u10 u13 u16 u17 u18 u19 u20 u21 u22 u23 u24 u25 u26 u27 u28 u29 u30 u31 u32 u33 u34 u35 u36 u37 u38 u39 u40 u41 u42 u43 u44 u45 u46 u47 u48 u49 u50 u51 u52 u53 u54 u55 u56 u57 u58 u59 u60 u61 u62 u63 u64 u65 u67 u68 u69 u70 u71 u72 u73 u74 u75 u76 u77 u78 u79 u80 u81 u82 u83 u84 u85 u86 u87 u88 u89 u90 u91 u92 u93 u94 u95 u96 u97 u98 u99 u100 u101 u102 u103 u104 u105 u106 u107 u108 u109 u110 u111 u112 u113 u114 u115 u116 u117 u118 u119 u120 u121 u122 u123 u124 u125 u126 u127 u128 u129 u130 u131 u132 u133 u134 u135 u136 u137 u138 u139 u140 u141 u142 u143 u144 u145 u146 u147 u148 u149 u150 u151 u152 u153 u154 u155 u156 u157 u158 u159 u160 u161 u162 u163 u164 u165 u166 u167 u168 u169 u170 u171 u172 u173 u174 u175 u176 u177 u178 u179 u180 u181 u182 u183 u184 u185 u186 u187 u188 u189 u190 u191 u192 u193 u194 u195 u196 u197 u198 u199 u200 u201 u202 u203 u204 u205 u206 u207 u208 : Value)
    (hK : ∀ (v16 v17 v18 v19 v20 v21 v67 v68 v69 v70 v71 v72 v73 v74 v75 v76 v77 v78 v79 v80 v81 v82 v83 v84 v85 v86 v87 v88 v89 v90 v91 v92 v93 v94 v95 v96 v97 v98 v99 v100 v101 v102 v103 v104 v105 v106 v107 v108 v109 v110 v111 v112 v113 v114 v115 v116 v117 v118 v119 v120 v121 v122 v123 v124 v125 v126 v127 v128 v129 : Value) (wc : World), (∃ (cnt' : Int) (L' Lm' : List Int), 0 ≤ cnt' ∧ cnt' ≤ 4611686018427387903 + ((i + 1 : Nat) : Int) ∧ Hid (Own w.heap.size l b c g 2 m n3 d R cnt' wc L') ∧ Hid (Rl w.heap.size p h m d R cnt' wc Lm') ∧ Hid (Lay3 m L' Lm') ∧ Hid (Below w.heap.size w wc)) → Q .normal ⟨#[u0, u1, u2, u3, u4, u5, u6, u7, .int .i64 (m : Int), .int .i64 (d : Int), u10, .pointer (some ⟨l, 0, none⟩), .pointer (some ⟨p, 0, none⟩), u13, .pointer (some ⟨sb, 0, none⟩), .bool true, v16, v17, v18, v19, v20, v21, u22, u23, u24, u25, u26, u27, u28, u29, u30, u31, u32, u33, u34, u35, u36, u37, u38, u39, u40, u41, u42, u43, u44, u45, u46, u47, u48, u49, u50, u51, u52, u53, u54, u55, u56, u57, u58, u59, u60, u61, u62, u63, u64, u65, .int .i64 kk, v67, v68, v69, v70, v71, v72, v73, v74, v75, v76, v77, v78, v79, v80, v81, v82, v83, v84, v85, v86, v87, v88, v89, v90, v91, v92, v93, v94, v95, v96, v97, v98, v99, v100, v101, v102, v103, v104, v105, v106, v107, v108, v109, v110, v111, v112, v113, v114, v115, v116, v117, v118, v119, v120, v121, v122, v123, v124, v125, v126, v127, v128, v129, u130, u131, u132, u133, u134, u135, u136, u137, u138, u139, u140, u141, u142, u143, u144, u145, u146, u147, u148, u149, u150, u151, u152, u153, u154, u155, u156, u157, u158, u159, u160, u161, u162, u163, u164, u165, u166, u167, u168, u169, u170, u171, u172, u173, u174, u175, u176, u177, u178, u179, u180, u181, u182, u183, u184, u185, u186, u187, u188, u189, u190, u191, u192, u193, u194, u195, u196, u197, u198, u199, u200, u201, u202, u203, u204, u205, u206, u207, u208], []⟩ wc) :
    Code.wp Try.prog sw2 Q ⟨#[u0, u1, u2, u3, u4, u5, u6, u7, .int .i64 (m : Int), .int .i64 (d : Int), u10, .pointer (some ⟨l, 0, none⟩), .pointer (some ⟨p, 0, none⟩), u13, .pointer (some ⟨sb, 0, none⟩), .bool true, u16, u17, u18, u19, u20, u21, u22, u23, u24, u25, u26, u27, u28, u29, u30, u31, u32, u33, u34, u35, u36, u37, u38, u39, u40, u41, u42, u43, u44, u45, u46, u47, u48, u49, u50, u51, u52, u53, u54, u55, u56, u57, u58, u59, u60, u61, u62, u63, u64, u65, .int .i64 kk, u67, u68, u69, u70, u71, u72, u73, u74, u75, u76, u77, u78, u79, u80, u81, u82, u83, u84, u85, u86, u87, u88, u89, u90, u91, u92, u93, u94, u95, u96, u97, u98, u99, u100, u101, u102, u103, u104, u105, u106, u107, u108, u109, u110, u111, u112, u113, u114, u115, u116, u117, u118, u119, u120, u121, u122, u123, u124, u125, u126, u127, u128, u129, u130, u131, u132, u133, u134, u135, u136, u137, u138, u139, u140, u141, u142, u143, u144, u145, u146, u147, u148, u149, u150, u151, u152, u153, u154, u155, u156, u157, u158, u159, u160, u161, u162, u163, u164, u165, u166, u167, u168, u169, u170, u171, u172, u173, u174, u175, u176, u177, u178, u179, u180, u181, u182, u183, u184, u185, u186, u187, u188, u189, u190, u191, u192, u193, u194, u195, u196, u197, u198, u199, u200, u201, u202, u203, u204, u205, u206, u207, u208], []⟩ w7 := by
  have HK := hide hK
  clear hK
  have m0 := (unhide HC7).cell 0 _ rfl
  have m1 := (unhide HC7).cell 1 _ rfl
  have m2 := (unhide HC7).cell 2 _ rfl
  have m3 := (unhide HC7).cell 3 _ rfl
  have c3 := (unhide HM7).me.cell 3 _ rfl
  obtain ⟨hs1, hs2⟩ := unhide HS64
  conv => arg 2; whnf
  subst hk
  obtain ⟨t, ht, ht0, ht1⟩ : ∃ t, bits .and .i64 sn 4611686018427387903 = t ∧ 0 ≤ t ∧ t ≤ 4611686018427387903 := ⟨sn % 4611686018427387904, and_62 sn, by omega, by omega⟩
  obtain ⟨t6, ht6, h60, h61⟩ : ∃ t, bits .and .i64 sn 63 = t ∧ 0 ≤ t ∧ t ≤ 63 := ⟨sn % 64, i64_mask sn 63 6 (by decide) (by decide), by omega, by omega⟩
  obtain ⟨T, hT⟩ : ∃ T, t6 - 1 = T := ⟨_, rfl⟩
  cases sf
  case' true =>
    go_wp2_with fail
    refine ((unhide HX7).seek ht0 (by omega)).mono ?_
    rintro e' w9 ⟨rfl, ho, hbt⟩
    have hs := unhide HS
    have HX9 := hide ho
    have HM9 := hide ((unhide HM7).but hbt (by omega) (by omega))
    have HB9 := hide ((unhide HB7).trans (hbt.lg_below (unhide HX7).ge.1 (unhide HX7).ge.2.2.2 (unhide HB7).size))
    clear ho hbt hs HX7 HM7 HB7 HC7 m0 m1 m2 m3 c3
    go_wp2_with fail
    refine (rseek_yes _ p h m d R cnt t Lm _ (unhide HM9) ht0).mono ?_
    rintro e' w10 ⟨rfl, ho, hbt⟩
    have hs := unhide HS
    have HM10 := hide ho
    have HX10 := hide ((unhide HX9).but hbt (by omega) (by omega) (by omega) (by omega))
    have HB10 := hide ((unhide HB9).trans (hbt.lg_below (unhide HM9).ge.1 (unhide HM9).ge.2 (unhide HB9).size))
    clear ho hbt hs HX9 HM9 HB9
    go_wp2
    exact unhide HK _ _ _ _ _ _ _ _ _ _ _ _ _ _ _ _ _ _ _ _ _ _ _ _ _ _ _ _ _ _ _ _ _ _ _ _ _ _ _ _ _ _ _ _ _ _ _ _ _ _ _ _ _ _ _ _ _ _ _ _ _ _ _ _ _ _ _ _ _ _ ⟨t, L, Lm, ht0, by omega, HX10, HM10, HYr, HB10⟩
  case' false =>
    by_cases hT0 : 0 ≤ T
    case' pos =>
      go_wp2_with fail
      refine ((unhide HX7).seek hT0 (by omega)).mono ?_
      rintro e' w9 ⟨rfl, ho, hbt⟩
      have hs := unhide HS
      have HX9 := hide ho
      have HM9 := hide ((unhide HM7).but hbt (by omega) (by omega))
      have HB9 := hide ((unhide HB7).trans (hbt.lg_below (unhide HX7).ge.1 (unhide HX7).ge.2.2.2 (unhide HB7).size))
      clear ho hbt hs HX7 HM7 HB7 HC7 m0 m1 m2 m3 c3
      go_wp2_with fail
      refine (rseek_yes _ p h m d R cnt T Lm _ (unhide HM9) hT0).mono ?_
      rintro e' w10 ⟨rfl, ho, hbt⟩
      have hs := unhide HS
      have HM10 := hide ho
      have HX10 := hide ((unhide HX9).but hbt (by omega) (by omega) (by omega) (by omega))
      have HB10 := hide ((unhide HB9).trans (hbt.lg_below (unhide HM9).ge.1 (unhide HM9).ge.2 (unhide HB9).size))
      clear ho hbt hs HX9 HM9 HB9
      go_wp2
      exact unhide HK _ _ _ _ _ _ _ _ _ _ _ _ _ _ _ _ _ _ _ _ _ _ _ _ _ _ _ _ _ _ _ _ _ _ _ _ _ _ _ _ _ _ _ _ _ _ _ _ _ _ _ _ _ _ _ _ _ _ _ _ _ _ _ _ _ _ _ _ _ _ ⟨T, L, Lm, hT0, by omega, HX10, HM10, HYr, HB10⟩
    case' neg =>
      go_wp2_with fail
      refine (lseek_no l b c g 2 m R _ cnt T _ (unhide HX7).lo (by omega)).mono ?_
      rintro e' w9 ⟨rfl, n9, hw9⟩
      have hb9 : Below w7.heap.size w7 w9 := by rw [hw9]; exact below_drewN _ _
      have HX9 := hide ((unhide HX7).below hb9)
      have HM9 := hide ((unhide HM7).below hb9)
      have HB9 := hide (below_trans (unhide HB7) hb9)
      clear hw9 hb9 HX7 HM7 HB7 HC7 m0 m1 m2 m3 c3
      go_wp2_with fail
      refine (rseek_no p T _ (by omega)).mono ?_
      rintro e' w10 ⟨rfl, hw10⟩
      subst hw10
      go_wp2
      exact unhide HK _ _ _ _ _ _ _ _ _ _ _ _ _ _ _ _ _ _ _ _ _ _ _ _ _ _ _ _ _ _ _ _ _ _ _ _ _ _ _ _ _ _ _ _ _ _ _ _ _ _ _ _ _ _ _ _ _ _ _ _ _ _ _ _ _ _ _ _ _ _ ⟨cnt, L, Lm, hc0, by omega, HX9, HM9, HYr, HB9⟩
end Go.Proofs.Ytclikkhaaiihdaa
