/- The acts of LoopPlays: a frame is pushed. -/
import Derived.Test.YtclikkhaaiihdaaSw
namespace Go.Proofs.Ytclikkhaaiihdaa
open Go.RowKit
set_option linter.unusedVariables false

set_option maxRecDepth 100000 in
set_option maxHeartbeats 8000000 in
theorem sw_push (l b c g p h m n3 d R sb i : Nat) (cnt sk sn kk : Int) (sf so : Bool) (L Lm : List Int) (w w7 : World) (Q : Exit → Act → World → Prop)
    (HX7 : Hid (Own w.heap.size l b c g 2 m n3 d R cnt w7 L)) (HM7 : Hid (Rl w.heap.size p h m d R cnt w7 Lm)) (HB7 : Hid (Below w.heap.size w w7)) (HYr : Hid (Lay3 m L Lm)) (HC7 : Hid (Cells w7 sb [.int .i64 sk, .int .i64 sn, .bool sf, .bool so])) (HS64 : Hid (In64 sn))
    (HS : Hid (w.heap.size ≤ c ∧ w.heap.size ≤ g ∧ c < b ∧ g < b ∧ b < l ∧ l < p ∧ l < h ∧ p ≠ h)) (HR : Hid (roomN m (d : Int) = R)) (hR1 : 1 ≤ R) (hd1 : 1 ≤ d) (hd6 : d ≤ 6) (hm1 : m ≤ 31) (hn3 : m + 3 = n3) (hj2 : (i : Int) < 50) (hc0 : 0 ≤ cnt) (hc1 : cnt ≤ 4611686018427387903 + (i : Int)) (hk0 : 0 ≤ kk) (hk7 : kk ≤ 7) (h5 : ¬ kk = 5) (h6 : ¬ kk = 6) (h7 : ¬ kk = 7)
    (u0 u1 u2 u3 u4 u5 u6 u7 u10 u13 u16 u17 u18 u19 u20 u21 u22 u23 u24 u25 u26 u27 u28 u29 u30 u31 u32 u33 u34 u35 u36 u37 u38 u39 u40 u41 u42 u43 u44 u45 u46 u47 u48 u49 u50 u51 u52 u53 u54 u55 u56 u57 u58 u59 u60 u61 u62 u63 u64 u65 u67 u68 u69 u70 u71 u72 u73 u74 u75 u76 u77 u78 u79 u80 u81 u82 u83 u84 u85 u86 u87 u88 u89 u90 u91 u92 u93 u94 u95 u96 u97 u98 u99 u100 u101 u102 u103 u104 u105 u106 u107 u108 u109 u110 u111 u112 u113 u114 u115 u116 u117 u118 u119 u120 u121 u122 u123 u124 u125 u126 u127 u128 u129 u130 u131 u132 u133 u134 u135 u136 u137 u138 u139 u140 u141 u142 u143 u144 u145 u146 u147 u148 u149 u150 u151 u152 u153 u154 u155 u156 u157 u158 u159 u160 u161 u162 u163 u164 u165 u166 u167 u168 u169 u170 u171 u172 u173 u174 u175 u176 u177 u178 u179 u180 u181 u182 u183 u184 u185 u186 u187 u188 u189 u190 u191 u192 u193 u194 u195 u196 u197 u198 u199 u200 u201 u202 u203 u204 u205 u206 u207 u208 : Value)
    (hK : ∀ (v16 v17 v18 v19 v20 v21 v67 v68 v69 v70 v71 v72 v73 v74 v75 v76 v77 v78 v79 v80 v81 v82 v83 v84 v85 v86 v87 v88 v89 v90 v91 v92 v93 v94 v95 v96 v97 v98 v99 v100 v101 v102 v103 v104 v105 v106 v107 v108 v109 v110 v111 v112 v113 v114 v115 v116 v117 v118 v119 v120 v121 v122 v123 v124 v125 v126 v127 v128 v129 : Value) (wc : World), (∃ (cnt' : Int) (L' Lm' : List Int), 0 ≤ cnt' ∧ cnt' ≤ 4611686018427387903 + ((i + 1 : Nat) : Int) ∧ Hid (Own w.heap.size l b c g 2 m n3 d R cnt' wc L') ∧ Hid (Rl w.heap.size p h m d R cnt' wc Lm') ∧ Hid (Lay3 m L' Lm') ∧ Hid (Below w.heap.size w wc)) → Q .normal ⟨#[u0, u1, u2, u3, u4, u5, u6, u7, .int .i64 (m : Int), .int .i64 (d : Int), u10, .pointer (some ⟨l, 0, none⟩), .pointer (some ⟨p, 0, none⟩), u13, .pointer (some ⟨sb, 0, none⟩), .bool true, v16, v17, v18, v19, v20, v21, u22, u23, u24, u25, u26, u27, u28, u29, u30, u31, u32, u33, u34, u35, u36, u37, u38, u39, u40, u41, u42, u43, u44, u45, u46, u47, u48, u49, u50, u51, u52, u53, u54, u55, u56, u57, u58, u59, u60, u61, u62, u63, u64, u65, .int .i64 kk, v67, v68, v69, v70, v71, v72, v73, v74, v75, v76, v77, v78, v79, v80, v81, v82, v83, v84, v85, v86, v87, v88, v89, v90, v91, v92, v93, v94, v95, v96, v97, v98, v99, v100, v101, v102, v103, v104, v105, v106, v107, v108, v109, v110, v111, v112, v113, v114, v115, v116, v117, v118, v119, v120, v121, v122, v123, v124, v125, v126, v127, v128, v129, u130, u131, u132, u133, u134, u135, u136, u137, u138, u139, u140, u141, u142, u143, u144, u145, u146, u147, u148, u149, u150, u151, u152, u153, u154, u155, u156, u157, u158, u159, u160, u161, u162, u163, u164, u165, u166, u167, u168, u169, u170, u171, u172, u173, u174, u175, u176, u177, u178, u179, u180, u181, u182, u183, u184, u185, u186, u187, u188, u189, u190, u191, u192, u193, u194, u195, u196, u197, u198, u199, u200, u201, u202, u203, u204, u205, u206, u207, u208], []⟩ wc) :
    Code.wp Try.prog sw2 Q ⟨#[u0, u1, u2, u3, u4, u5, u6, u7, .int .i64 (m : Int), .int .i64 (d : Int), u10, .pointer (some ⟨l, 0, none⟩), .pointer (some ⟨p, 0, none⟩), u13, .pointer (some ⟨sb, 0, none⟩), .bool true, u16, u17, u18, u19, u20, u21, u22, u23, u24, u25, u26, u27, u28, u29, u30, u31, u32, u33, u34, u35, u36, u37, u38, u39, u40, u41, u42, u43, u44, u45, u46, u47, u48, u49, u50, u51, u52, u53, u54, u55, u56, u57, u58, u59, u60, u61, u62, u63, u64, u65, .int .i64 kk, u67, u68, u69, u70, u71, u72, u73, u74, u75, u76, u77, u78, u79, u80, u81, u82, u83, u84, u85, u86, u87, u88, u89, u90, u91, u92, u93, u94, u95, u96, u97, u98, u99, u100, u101, u102, u103, u104, u105, u106, u107, u108, u109, u110, u111, u112, u113, u114, u115, u116, u117, u118, u119, u120, u121, u122, u123, u124, u125, u126, u127, u128, u129, u130, u131, u132, u133, u134, u135, u136, u137, u138, u139, u140, u141, u142, u143, u144, u145, u146, u147, u148, u149, u150, u151, u152, u153, u154, u155, u156, u157, u158, u159, u160, u161, u162, u163, u164, u165, u166, u167, u168, u169, u170, u171, u172, u173, u174, u175, u176, u177, u178, u179, u180, u181, u182, u183, u184, u185, u186, u187, u188, u189, u190, u191, u192, u193, u194, u195, u196, u197, u198, u199, u200, u201, u202, u203, u204, u205, u206, u207, u208], []⟩ w7 := by
  have HK := hide hK
  clear hK
  have m0 := (unhide HC7).cell 0 _ rfl
  have m1 := (unhide HC7).cell 1 _ rfl
  have m2 := (unhide HC7).cell 2 _ rfl
  have m3 := (unhide HC7).cell 3 _ rfl
  have c3 := (unhide HM7).me.cell 3 _ rfl
  obtain ⟨hs1, hs2⟩ := unhide HS64
  conv => arg 2; whnf
  go_wp2_with fail
  cases so
  case' true =>
    refine (frame_any sk sn sf true d (d + 1) (by omega) (by simp) _).mono ?_
    rintro e' w8 ⟨fa, fcap, xs, rfl, hl, hxl, hfar, hb⟩
    have HX8 := hide ((unhide HX7).below hb)
    have HM8 := hide ((unhide HM7).below hb)
    have HB8 := hide (below_trans (unhide HB7) hb)
    clear hl hxl hfar hb HX7 HM7 HB7 HC7 m0 m1 m2 m3 c3
    go_wp2_with fail
    refine (lpush_width l b c g 2 m (d + 1) R d fcap cnt fa _ (unhide HX8).lo (by omega)).mono ?_
    rintro e' w9 ⟨rfl, n9, hw9⟩
    have hb9 : Below w8.heap.size w8 w9 := by rw [hw9]; exact below_drewN _ _
    have HX9 := hide ((unhide HX8).below hb9)
    have HM9 := hide ((unhide HM8).below hb9)
    have HB9 := hide (below_trans (unhide HB8) hb9)
    clear hw9 hb9 HX8 HM8 HB8
    go_wp2_with fail
    refine (rpush_width _ p h m d R (d + 1) fcap cnt fa Lm _ (unhide HM9) (by omega)).mono ?_
    rintro e' w10 ⟨rfl, hw10⟩
    subst hw10
    go_wp2
    exact unhide HK _ _ _ _ _ _ _ _ _ _ _ _ _ _ _ _ _ _ _ _ _ _ _ _ _ _ _ _ _ _ _ _ _ _ _ _ _ _ _ _ _ _ _ _ _ _ _ _ _ _ _ _ _ _ _ _ _ _ _ _ _ _ _ _ _ _ _ _ _ _ ⟨cnt, L, Lm, hc0, by omega, HX9, HM9, HYr, HB9⟩
  case' false =>
    refine (frame_any sk sn sf false d d (by omega) (by simp) _).mono ?_
    rintro e' w8 ⟨fa, fcap, xs, rfl, hl, hxl, hfar, hb⟩
    have HX8 := hide ((unhide HX7).below hb)
    have HM8 := hide ((unhide HM7).below hb)
    have HB8 := hide (below_trans (unhide HB7) hb)
    have HLi := hide hl
    have HXL := hide hxl
    have HF : Hid (∀ q, fa = some q → q.block ≠ l ∧ q.block ≠ g ∧ q.block ≠ p ∧ q.block ≠ h) := by
      intro q hq
      have h0 := hfar q hq
      have h1 := (unhide HX7).lo.me.lt
      have h2 := (unhide HX7).ar.row.lt
      have h3 := (unhide HM7).me.lt
      have h4 := (unhide HM7).row.lt
      exact ⟨by omega, by omega, by omega, by omega⟩
    clear hl hxl hfar hb HX7 HM7 HB7 HC7 m0 m1 m2 m3 c3
    go_wp2_with fail
    by_cases hok : ∀ j, j < d → okW (xs.getD j 0)
    case' neg =>
      have hex : ∃ j, j < d ∧ ¬ okW (xs.getD j 0) := by
        apply Classical.byContradiction
        intro hno
        exact hok (fun j hj => Classical.byContradiction (fun hn => hno ⟨j, hj, hn⟩))
      have HEX := hide hex
      clear hex hok
      refine (lpush_range l b c g 2 m R d fcap cnt fa xs _ (unhide HX8).lo (unhide HLi) (unhide HXL) (unhide HEX)).mono ?_
      rintro e' w9 ⟨rfl, hb9⟩
      have HX9 := hide ((unhide HX8).below hb9)
      have HM9 := hide ((unhide HM8).below hb9)
      have HB9 := hide (below_trans (unhide HB8) hb9)
      have HL9 := hide ((unhide HLi).below hb9)
      clear hb9 HX8 HM8 HB8 HLi
      go_wp2_with fail
      refine (rpush_range _ p h m d R fcap cnt fa xs Lm _ (unhide HM9) (unhide HL9) (unhide HXL) (unhide HEX) (by omega)).mono ?_
      rintro e' w10 ⟨rfl, hw10⟩
      subst hw10
      go_wp2
      exact unhide HK _ _ _ _ _ _ _ _ _ _ _ _ _ _ _ _ _ _ _ _ _ _ _ _ _ _ _ _ _ _ _ _ _ _ _ _ _ _ _ _ _ _ _ _ _ _ _ _ _ _ _ _ _ _ _ _ _ _ _ _ _ _ _ _ _ _ _ _ _ _ ⟨cnt, L, Lm, hc0, by omega, HX9, HM9, HYr, HB9⟩
    case' pos =>
      have HOK := hide hok
      clear hok
      refine ((unhide HX8).push (by omega) (unhide HLi) (unhide HXL) (unhide HOK) (fun _ q hq => (unhide HF q hq).2.1)).mono ?_
      rintro e' w9 ⟨rfl, ho, hbt⟩
      have hs := unhide HS
      have HX9 := hide ho
      have HM9 := hide ((unhide HM8).but hbt (by omega) (by omega))
      have HB9 := hide ((unhide HB8).trans (hbt.lg_below (unhide HX8).ge.1 (unhide HX8).ge.2.2.2 (unhide HB8).size))
      have HL9 := hide ((unhide HLi).but hbt (fun _ q hq => by have := unhide HF q hq; omega))
      clear ho hbt hs HX8 HM8 HB8 HLi
      go_wp2_with fail
      refine (rpush_ok _ p h m d R fcap cnt fa xs Lm _ (unhide HM9) hc0 (by omega) (unhide HL9) (unhide HXL) (unhide HOK) (by omega) (fun _ q hq => (unhide HF q hq).2.2.2)).mono ?_
      rintro e' w10 ⟨rfl, ho, hbt⟩
      have hs := unhide HS
      have HM10 := hide ho
      have HX10 := hide ((unhide HX9).but hbt (by omega) (by omega) (by omega) (by omega))
      have HB10 := hide ((unhide HB9).trans (hbt.lg_below (unhide HM9).ge.1 (unhide HM9).ge.2 (unhide HB9).size))
      have HY10 := hide ((unhide HYr).push cnt xs hd1 (unhide HR) hR1)
      clear ho hbt hs HX9 HM9 HB9 HL9
      go_wp2
      exact unhide HK _ _ _ _ _ _ _ _ _ _ _ _ _ _ _ _ _ _ _ _ _ _ _ _ _ _ _ _ _ _ _ _ _ _ _ _ _ _ _ _ _ _ _ _ _ _ _ _ _ _ _ _ _ _ _ _ _ _ _ _ _ _ _ _ _ _ _ _ _ _ ⟨cnt + 1, _, _, by omega, by omega, HX10, HM10, HY10, HB10⟩
end Go.Proofs.Ytclikkhaaiihdaa
