/- The acts of ArenaPlays, case by case: 2, 5. -/
import Derived.Test.YtbekechjphangaaSw
namespace Go.Proofs.Ytbekechjphangaa
open Go.RowKit
set_option linter.unusedVariables false

set_option maxRecDepth 100000 in
set_option maxHeartbeats 8000000 in
theorem sw_k2 (w w2 ws : World) (c g N d pb o M sb at_ : Nat) (sk si sx : Int) (sf sw : Bool) (L : List Int) (e wd nm : Int) (i0 : TypeInfo) (Q : Exit → Act → World → Prop) (hN31 : N ≤ 31)
    (HSt0 : Hid (St (fun k => k = pb ∨ k = sb) w c g N w2.heap.size d pb o M sb (ActD.mk sk si sx sf sw) L e L e ws)) (HRk : Hid (Ranks w c g w2.heap.size d pb sb))
    (KW : Hid (∀ W, Calls Try.prog 15 #[.agg #[.int .i64 sk, .int .i64 si, .int .i64 sx, .bool sf, .bool sw]] W fun r w' => r = .returned (.int .i64 wd) ∧ Below W.heap.size W w'))
    (KN : Hid (∀ W, Calls Try.prog 16 #[.agg #[.int .i64 sk, .int .i64 si, .int .i64 sx, .bool sf, .bool sw]] W fun r w' => r = .returned (.int .i64 nm) ∧ Below W.heap.size W w'))
    (HM1 : Hid (at_ + M ≤ N)) (HM2 : Hid (o + M ≤ N)) (HM3 : Hid (0 < M → o = at_)) (HI0 : Hid (Try.prog.info? 3 = some i0 ∧ i0.zero = some (.int .i64 0) ∧ i0.size = 1 ∧ i0.bytes = 8))
    (u0 u1 u2 u3 u4 u5 u6 u7 u14 u15 u18 u19 u20 u21 u22 u23 u24 u25 u26 u27 u28 u29 u30 u31 u32 u33 u34 u35 u36 u37 u38 u39 u40 u41 u42 u43 u44 u45 u46 u47 u48 u49 u50 u51 u52 u53 u54 u55 u56 u57 u58 u59 u60 u61 u62 u63 u64 u65 u66 u67 u68 u69 u70 u71 u72 u73 u74 u75 u76 u77 u78 u80 u81 u82 u83 u84 u85 u86 u87 u88 u89 u90 u91 u92 u93 u94 u95 u96 u97 u98 u99 u100 u101 u102 u103 u104 u105 u106 u107 u108 u109 u110 u111 u112 u113 u114 u115 u116 u117 u118 u119 u120 u121 u122 u123 u124 u125 u126 u127 u128 u129 u130 u131 u132 u133 u134 u135 u136 u137 u138 u139 u140 u141 u142 u143 u144 u145 u146 u147 u148 u149 u150 u151 u152 u153 u154 u155 u156 u157 u158 u159 u160 u161 u162 u163 u164 u165 u166 u167 u168 u169 u170 u171 u172 u173 u174 u175 u176 u177 u178 u179 u180 u181 u182 u183 u184 u185 u186 u187 u188 u189 u190 u191 u192 u193 u194 u195 : Value)
    (hK : ∀ (v80 v81 v82 v83 v84 v85 v86 v87 v88 v89 v90 v91 v92 v93 v94 v95 v96 v97 v98 v99 v100 v101 v102 v103 v104 v105 v106 v107 v108 v109 v110 v111 v112 v113 v114 v115 v116 v117 v118 v119 v120 v121 v122 v123 v124 v125 v126 v127 v128 v129 v130 v131 v132 v133 v134 v135 v136 v137 v138 v139 v140 v141 v142 v143 v144 v145 v146 v147 v148 v149 v150 v151 v152 v153 v154 v155 v156 v157 : Value) (wc : World) (L1 : List Int) (e1 : Int), Hid (Both (fun k => k = pb) w c g N w2.heap.size d pb o M L1 e1 L1 e1 wc) → Q .normal ⟨#[u0, u1, u2, u3, u4, u5, u6, u7, .int .i64 (N : Int), .pointer (some ⟨c, 0, none⟩), .pointer (some ⟨d, 0, none⟩), .int .i64 (at_ : Int), .int .i64 (M : Int), .pointer (some ⟨pb, 0, none⟩), u14, u15, .pointer (some ⟨sb, 0, none⟩), .bool true, u18, u19, u20, u21, u22, u23, u24, u25, u26, u27, u28, u29, u30, u31, u32, u33, u34, u35, u36, u37, u38, u39, u40, u41, u42, u43, u44, u45, u46, u47, u48, u49, u50, u51, u52, u53, u54, u55, u56, u57, u58, u59, u60, u61, u62, u63, u64, u65, u66, u67, u68, u69, u70, u71, u72, u73, u74, u75, u76, u77, u78, .int .i64 2, v80, v81, v82, v83, v84, v85, v86, v87, v88, v89, v90, v91, v92, v93, v94, v95, v96, v97, v98, v99, v100, v101, v102, v103, v104, v105, v106, v107, v108, v109, v110, v111, v112, v113, v114, v115, v116, v117, v118, v119, v120, v121, v122, v123, v124, v125, v126, v127, v128, v129, v130, v131, v132, v133, v134, v135, v136, v137, v138, v139, v140, v141, v142, v143, v144, v145, v146, v147, v148, v149, v150, v151, v152, v153, v154, v155, v156, v157, u158, u159, u160, u161, u162, u163, u164, u165, u166, u167, u168, u169, u170, u171, u172, u173, u174, u175, u176, u177, u178, u179, u180, u181, u182, u183, u184, u185, u186, u187, u188, u189, u190, u191, u192, u193, u194, u195], []⟩ wc) :
    Code.wp Try.prog sw2 Q ⟨#[u0, u1, u2, u3, u4, u5, u6, u7, .int .i64 (N : Int), .pointer (some ⟨c, 0, none⟩), .pointer (some ⟨d, 0, none⟩), .int .i64 (at_ : Int), .int .i64 (M : Int), .pointer (some ⟨pb, 0, none⟩), u14, u15, .pointer (some ⟨sb, 0, none⟩), .bool true, u18, u19, u20, u21, u22, u23, u24, u25, u26, u27, u28, u29, u30, u31, u32, u33, u34, u35, u36, u37, u38, u39, u40, u41, u42, u43, u44, u45, u46, u47, u48, u49, u50, u51, u52, u53, u54, u55, u56, u57, u58, u59, u60, u61, u62, u63, u64, u65, u66, u67, u68, u69, u70, u71, u72, u73, u74, u75, u76, u77, u78, .int .i64 2, u80, u81, u82, u83, u84, u85, u86, u87, u88, u89, u90, u91, u92, u93, u94, u95, u96, u97, u98, u99, u100, u101, u102, u103, u104, u105, u106, u107, u108, u109, u110, u111, u112, u113, u114, u115, u116, u117, u118, u119, u120, u121, u122, u123, u124, u125, u126, u127, u128, u129, u130, u131, u132, u133, u134, u135, u136, u137, u138, u139, u140, u141, u142, u143, u144, u145, u146, u147, u148, u149, u150, u151, u152, u153, u154, u155, u156, u157, u158, u159, u160, u161, u162, u163, u164, u165, u166, u167, u168, u169, u170, u171, u172, u173, u174, u175, u176, u177, u178, u179, u180, u181, u182, u183, u184, u185, u186, u187, u188, u189, u190, u191, u192, u193, u194, u195], []⟩ ws := by
  have HK := hide hK
  clear hK
  conv => arg 2; whnf
  obtain ⟨L1, hL1⟩ : ∃ l, L = l := ⟨_, rfl⟩
  obtain ⟨e1, he1⟩ : ∃ l, getE N wd e = l := ⟨_, rfl⟩
  obtain ⟨gi, hgi⟩ : ∃ l, getI L 0 N wd = l := ⟨_, rfl⟩
  have He1 := hide he1
  have Hgi := hide hgi
  clear he1 hgi
  go_upto_region 28 with fail
  refine region_ssa2 (fun f W => St (fun k => k = pb ∨ k = sb) w c g N w2.heap.size d pb o M sb (ActD.mk sk si sx sf sw) L (bif f 3 then e1 else e) L (bif f 8 then e1 else e) W) (fun jq vq wq => (∀ xq, (([some (.pointer (some ⟨c, 0, none⟩)), some (.agg #[.int .i64 sk, .int .i64 si, .int .i64 sx, .bool sf, .bool sw]), some (.int .i64 wd), some (.int .i64 gi), some (.pointer (some ⟨d, 0, none⟩)), some (.int .i64 (N : Int)), some (.agg #[.int .i64 sk, .int .i64 si, .int .i64 sx, .bool sf, .bool sw]), some (.int .i64 wd), some (.int .i64 gi), some (.bool true), some (.bool true)] : List (Option Value)).getD jq none) = some xq → vq = xq)) (by kernel_rfl) (by kernel_rfl) ?_ ?_ ?_
  · intro fq hf
    exact (by rw [hf 3 (by decide)]; rw [hf 8 (by decide)]; exact (unhide HSt0).below (Below.refl _ _).drew)
  · intro iq op ho fq AQ W hf hdep hS hK hG
    have hlt : iq < 11 := (Array.getElem?_eq_some_iff.1 ho).1
    match iq, hlt with
    | 0, _ =>
      obtain rfl := (Option.some.inj ho).symm
      have d9 : AQ.tmps.getD 9 undef = .pointer (some ⟨c, 0, none⟩) := hK.2.2 9 (by kernel_rfl)
      exact wpOp_val (v := (.pointer (some ⟨c, 0, none⟩))) (w' := W) rfl (wanted_none rfl) (by simp [execOp, Act.eval, d9, go_sem]) ⟨_, rfl, hS, fun _ _ h => h, (by intro x hx; cases hx; rfl)⟩
    | 1, _ =>
      obtain rfl := (Option.some.inj ho).symm
      have d16 : AQ.tmps.getD 16 undef = .pointer (some ⟨sb, 0, none⟩) := hK.2.2 16 (by kernel_rfl)
      have m0 := hS.sc.cell 0 _ rfl
      have m1 := hS.sc.cell 1 _ rfl
      have m2 := hS.sc.cell 2 _ rfl
      have m3 := hS.sc.cell 3 _ rfl
      have m4 := hS.sc.cell 4 _ rfl
      exact wpOp_val (v := (.agg #[.int .i64 sk, .int .i64 si, .int .i64 sx, .bool sf, .bool sw])) (w' := W) rfl (wanted_none rfl) (by simp [execOp, Act.eval, d16, m0, m1, m2, m3, m4, go_sem]) ⟨_, rfl, hS, fun _ _ h => h, (by intro x hx; cases hx; rfl)⟩
    | 2, _ =>
      obtain rfl := (Option.some.inj ho).symm
      have d106 : AQ.tmps.getD 106 undef = .agg #[.int .i64 sk, .int .i64 si, .int .i64 sx, .bool sf, .bool sw] := ((hG ⟨1, .data⟩ (by simp) rfl).2 106 rfl) _ rfl
      refine wpOp_call (f := 15) (args := #[.agg #[.int .i64 sk, .int .i64 si, .int .i64 sx, .bool sf, .bool sw]]) (w' := W) rfl (wanted_none rfl) (by simp [execOp, Act.eval, d106, go_sem]) ?_
      refine (unhide KW W).mono ?_
      rintro e9 w9 ⟨rfl, hb⟩
      exact ⟨_, rfl, _, rfl, St.below hS hb, fun _ _ h => h, (by intro x hx; cases hx; rfl)⟩
    | 3, _ =>
      obtain rfl := (Option.some.inj ho).symm
      have d105 : AQ.tmps.getD 105 undef = .pointer (some ⟨c, 0, none⟩) := ((hG ⟨0, .data⟩ (by simp) rfl).2 105 rfl) _ rfl
      have d107 : AQ.tmps.getD 107 undef = .int .i64 wd := ((hG ⟨2, .data⟩ (by simp) rfl).2 107 rfl) _ rfl
      have h0 : St (fun k => k = pb ∨ k = sb) w c g N w2.heap.size d pb o M sb (ActD.mk sk si sx sf sw) L e L (bif fq 8 then e1 else e) W := by
        have h := hS
        rw [hf] at h
        exact h
      refine wpOp_call (f := 18) (args := #[.pointer (some ⟨c, 0, none⟩), .int .i64 wd]) (w' := W) rfl (wanted_none rfl) (by simp [execOp, Act.eval, d105, d107, go_sem]) ?_
      refine ((by have hk := aget_any c g N L e wd W h0.both.ar; rw [unhide Hgi] at hk; exact hk : Calls Try.prog 18 #[.pointer (some ⟨c, 0, none⟩), .int .i64 wd] W fun r w' => r = .returned (.int .i64 gi) ∧ Only c W w' ∧ Ar c g N w' L (getE N wd e))).mono ?_
      rintro e9 w9 ⟨rfl, ho, ha⟩
      exact ⟨_, rfl, _, rfl, St.stepA (unhide HRk) h0 (Two.of_left ho) (by rw [unhide He1] at ha; exact ha), fun _ _ h => h, (by intro x hx; cases hx; rfl)⟩
    | 4, _ =>
      obtain rfl := (Option.some.inj ho).symm
      have d10 : AQ.tmps.getD 10 undef = .pointer (some ⟨d, 0, none⟩) := hK.2.2 10 (by kernel_rfl)
      exact wpOp_val (v := (.pointer (some ⟨d, 0, none⟩))) (w' := W) rfl (wanted_none rfl) (by simp [execOp, Act.eval, d10, go_sem]) ⟨_, rfl, hS, fun _ _ h => h, (by intro x hx; cases hx; rfl)⟩
    | 5, _ =>
      obtain rfl := (Option.some.inj ho).symm
      have d8 : AQ.tmps.getD 8 undef = .int .i64 (N : Int) := hK.2.2 8 (by kernel_rfl)
      exact wpOp_val (v := (.int .i64 (N : Int))) (w' := W) rfl (wanted_none rfl) (by simp [execOp, Act.eval, d8, go_sem]) ⟨_, rfl, hS, fun _ _ h => h, (by intro x hx; cases hx; rfl)⟩
    | 6, _ =>
      obtain rfl := (Option.some.inj ho).symm
      have d16 : AQ.tmps.getD 16 undef = .pointer (some ⟨sb, 0, none⟩) := hK.2.2 16 (by kernel_rfl)
      have m0 := hS.sc.cell 0 _ rfl
      have m1 := hS.sc.cell 1 _ rfl
      have m2 := hS.sc.cell 2 _ rfl
      have m3 := hS.sc.cell 3 _ rfl
      have m4 := hS.sc.cell 4 _ rfl
      exact wpOp_val (v := (.agg #[.int .i64 sk, .int .i64 si, .int .i64 sx, .bool sf, .bool sw])) (w' := W) rfl (wanted_none rfl) (by simp [execOp, Act.eval, d16, m0, m1, m2, m3, m4, go_sem]) ⟨_, rfl, hS, fun _ _ h => h, (by intro x hx; cases hx; rfl)⟩
    | 7, _ =>
      obtain rfl := (Option.some.inj ho).symm
      have d111 : AQ.tmps.getD 111 undef = .agg #[.int .i64 sk, .int .i64 si, .int .i64 sx, .bool sf, .bool sw] := ((hG ⟨6, .data⟩ (by simp) rfl).2 111 rfl) _ rfl
      refine wpOp_call (f := 15) (args := #[.agg #[.int .i64 sk, .int .i64 si, .int .i64 sx, .bool sf, .bool sw]]) (w' := W) rfl (wanted_none rfl) (by simp [execOp, Act.eval, d111, go_sem]) ?_
      refine (unhide KW W).mono ?_
      rintro e9 w9 ⟨rfl, hb⟩
      exact ⟨_, rfl, _, rfl, St.below hS hb, fun _ _ h => h, (by intro x hx; cases hx; rfl)⟩
    | 8, _ =>
      obtain rfl := (Option.some.inj ho).symm
      have d109 : AQ.tmps.getD 109 undef = .pointer (some ⟨d, 0, none⟩) := ((hG ⟨4, .data⟩ (by simp) rfl).2 109 rfl) _ rfl
      have d110 : AQ.tmps.getD 110 undef = .int .i64 (N : Int) := ((hG ⟨5, .data⟩ (by simp) rfl).2 110 rfl) _ rfl
      have d112 : AQ.tmps.getD 112 undef = .int .i64 wd := ((hG ⟨7, .data⟩ (by simp) rfl).2 112 rfl) _ rfl
      have h0 : St (fun k => k = pb ∨ k = sb) w c g N w2.heap.size d pb o M sb (ActD.mk sk si sx sf sw) L (bif fq 3 then e1 else e) L e W := by
        have h := hS
        rw [hf] at h
        exact h
      refine wpOp_call (f := 19) (args := #[.pointer (some ⟨d, 0, none⟩), .int .i64 0, .int .i64 (N : Int), .int .i64 wd]) (w' := W) rfl (wanted_none rfl) (by simp [execOp, Act.eval, d109, d110, d112, go_sem]) ?_
      refine ((by have hk := rget_any (fun k => k = pb ∨ k = sb) w2.heap.size d N 0 N L e wd W h0.both.rg (by omega) (by omega); rw [unhide Hgi] at hk; exact hk : Calls Try.prog 19 #[.pointer (some ⟨d, 0, none⟩), .int .i64 0, .int .i64 (N : Int), .int .i64 wd] W fun r w' => r = .returned (.int .i64 gi) ∧ Only d W w' ∧ Rg (fun k => k = pb ∨ k = sb) w2.heap.size d N w' L (getE N wd e))).mono ?_
      rintro e9 w9 ⟨rfl, ho, hr⟩
      exact ⟨_, rfl, _, rfl, St.stepD (unhide HRk) h0 ho (by rw [unhide He1] at hr; exact hr), fun _ _ h => h, (by intro x hx; cases hx; rfl)⟩
    | 9, _ =>
      obtain rfl := (Option.some.inj ho).symm
      have d108 : AQ.tmps.getD 108 undef = .int .i64 gi := ((hG ⟨3, .data⟩ (by simp) rfl).2 108 rfl) _ rfl
      have d113 : AQ.tmps.getD 113 undef = .int .i64 gi := ((hG ⟨8, .data⟩ (by simp) rfl).2 113 rfl) _ rfl
      exact wpOp_val (v := (.bool true)) (w' := W) rfl (wanted_none rfl) (by simp [execOp, Act.eval, d108, d113, go_sem]) ⟨_, rfl, hS, fun _ _ h => h, (by intro x hx; cases hx; rfl)⟩
    | 10, _ =>
      obtain rfl := (Option.some.inj ho).symm
      have d114 : AQ.tmps.getD 114 undef = .bool true := ((hG ⟨9, .data⟩ (by simp) rfl).2 114 rfl) _ rfl
      exact wpOp_val (v := (.bool true)) (w' := W) rfl (wanted_none rfl) (by simp [execOp, Act.eval, d114, go_sem]) ⟨_, rfl, hS, fun _ _ h => h, (by intro x hx; cases hx; rfl)⟩
  · intro fq W vals hf hS hG
    have ev0 : vals 0 = .pointer (some ⟨c, 0, none⟩) := (hG 0 105 (by decide) rfl) _ rfl
    have ev1 : vals 1 = .agg #[.int .i64 sk, .int .i64 si, .int .i64 sx, .bool sf, .bool sw] := (hG 1 106 (by decide) rfl) _ rfl
    have ev2 : vals 2 = .int .i64 wd := (hG 2 107 (by decide) rfl) _ rfl
    have ev3 : vals 3 = .int .i64 gi := (hG 3 108 (by decide) rfl) _ rfl
    have ev4 : vals 4 = .pointer (some ⟨d, 0, none⟩) := (hG 4 109 (by decide) rfl) _ rfl
    have ev5 : vals 5 = .int .i64 (N : Int) := (hG 5 110 (by decide) rfl) _ rfl
    have ev6 : vals 6 = .agg #[.int .i64 sk, .int .i64 si, .int .i64 sx, .bool sf, .bool sw] := (hG 6 111 (by decide) rfl) _ rfl
    have ev7 : vals 7 = .int .i64 wd := (hG 7 112 (by decide) rfl) _ rfl
    have ev8 : vals 8 = .int .i64 gi := (hG 8 113 (by decide) rfl) _ rfl
    have ev9 : vals 9 = .bool true := (hG 9 114 (by decide) rfl) _ rfl
    have ev10 : vals 10 = .bool true := (hG 10 17 (by decide) rfl) _ rfl
    change (_ : Exit → Act → World → Prop) Exit.normal (Act.put (Act.put (Act.put (Act.put (Act.put (Act.put (Act.put (Act.put (Act.put (Act.put (Act.put _ (some 105) (vals 0)) (some 106) (vals 1)) (some 107) (vals 2)) (some 108) (vals 3)) (some 109) (vals 4)) (some 110) (vals 5)) (some 111) (vals 6)) (some 112) (vals 7)) (some 113) (vals 8)) (some 114) (vals 9)) (some 17) (vals 10)) W
    have hT := hS
    rw [hf 3 (by decide)] at hT
    rw [hf 8 (by decide)] at hT
    have HSt2 : Hid (St (fun k => k = pb ∨ k = sb) w c g N w2.heap.size d pb o M sb (ActD.mk sk si sx sf sw) L e1 L e1 W) := hT
    rw [putAll_zero, ev0, ev1, ev2, ev3, ev4, ev5, ev6, ev7, ev8, ev9, ev10]
    obtain ⟨ws2, rfl⟩ : ∃ v, v = W := ⟨_, rfl⟩
    clear hS hT hG hf ev0 ev1 ev2 ev3 ev4 ev5 ev6 ev7 ev8 ev9 ev10
    clear vals fq
    subst hL1
    go_wp2
    exact unhide HK _ _ _ _ _ _ _ _ _ _ _ _ _ _ _ _ _ _ _ _ _ _ _ _ _ _ _ _ _ _ _ _ _ _ _ _ _ _ _ _ _ _ _ _ _ _ _ _ _ _ _ _ _ _ _ _ _ _ _ _ _ _ _ _ _ _ _ _ _ _ _ _ _ _ _ _ _ _ _ _ e1 ((unhide HSt2).both.other (fun k _ h => .inl h))

set_option maxRecDepth 100000 in
set_option maxHeartbeats 8000000 in
theorem sw_k5 (w w2 ws : World) (c g N d pb o M sb at_ : Nat) (sk si sx : Int) (sf sw : Bool) (L : List Int) (e wd nm : Int) (i0 : TypeInfo) (Q : Exit → Act → World → Prop) (hN31 : N ≤ 31)
    (HSt0 : Hid (St (fun k => k = pb ∨ k = sb) w c g N w2.heap.size d pb o M sb (ActD.mk sk si sx sf sw) L e L e ws)) (HRk : Hid (Ranks w c g w2.heap.size d pb sb))
    (KW : Hid (∀ W, Calls Try.prog 15 #[.agg #[.int .i64 sk, .int .i64 si, .int .i64 sx, .bool sf, .bool sw]] W fun r w' => r = .returned (.int .i64 wd) ∧ Below W.heap.size W w'))
    (KN : Hid (∀ W, Calls Try.prog 16 #[.agg #[.int .i64 sk, .int .i64 si, .int .i64 sx, .bool sf, .bool sw]] W fun r w' => r = .returned (.int .i64 nm) ∧ Below W.heap.size W w'))
    (HM1 : Hid (at_ + M ≤ N)) (HM2 : Hid (o + M ≤ N)) (HM3 : Hid (0 < M → o = at_)) (HI0 : Hid (Try.prog.info? 3 = some i0 ∧ i0.zero = some (.int .i64 0) ∧ i0.size = 1 ∧ i0.bytes = 8))
    (u0 u1 u2 u3 u4 u5 u6 u7 u14 u15 u18 u19 u20 u21 u22 u23 u24 u25 u26 u27 u28 u29 u30 u31 u32 u33 u34 u35 u36 u37 u38 u39 u40 u41 u42 u43 u44 u45 u46 u47 u48 u49 u50 u51 u52 u53 u54 u55 u56 u57 u58 u59 u60 u61 u62 u63 u64 u65 u66 u67 u68 u69 u70 u71 u72 u73 u74 u75 u76 u77 u78 u80 u81 u82 u83 u84 u85 u86 u87 u88 u89 u90 u91 u92 u93 u94 u95 u96 u97 u98 u99 u100 u101 u102 u103 u104 u105 u106 u107 u108 u109 u110 u111 u112 u113 u114 u115 u116 u117 u118 u119 u120 u121 u122 u123 u124 u125 u126 u127 u128 u129 u130 u131 u132 u133 u134 u135 u136 u137 u138 u139 u140 u141 u142 u143 u144 u145 u146 u147 u148 u149 u150 u151 u152 u153 u154 u155 u156 u157 u158 u159 u160 u161 u162 u163 u164 u165 u166 u167 u168 u169 u170 u171 u172 u173 u174 u175 u176 u177 u178 u179 u180 u181 u182 u183 u184 u185 u186 u187 u188 u189 u190 u191 u192 u193 u194 u195 : Value)
    (hK : ∀ (v80 v81 v82 v83 v84 v85 v86 v87 v88 v89 v90 v91 v92 v93 v94 v95 v96 v97 v98 v99 v100 v101 v102 v103 v104 v105 v106 v107 v108 v109 v110 v111 v112 v113 v114 v115 v116 v117 v118 v119 v120 v121 v122 v123 v124 v125 v126 v127 v128 v129 v130 v131 v132 v133 v134 v135 v136 v137 v138 v139 v140 v141 v142 v143 v144 v145 v146 v147 v148 v149 v150 v151 v152 v153 v154 v155 v156 v157 : Value) (wc : World) (L1 : List Int) (e1 : Int), Hid (Both (fun k => k = pb) w c g N w2.heap.size d pb o M L1 e1 L1 e1 wc) → Q .normal ⟨#[u0, u1, u2, u3, u4, u5, u6, u7, .int .i64 (N : Int), .pointer (some ⟨c, 0, none⟩), .pointer (some ⟨d, 0, none⟩), .int .i64 (at_ : Int), .int .i64 (M : Int), .pointer (some ⟨pb, 0, none⟩), u14, u15, .pointer (some ⟨sb, 0, none⟩), .bool true, u18, u19, u20, u21, u22, u23, u24, u25, u26, u27, u28, u29, u30, u31, u32, u33, u34, u35, u36, u37, u38, u39, u40, u41, u42, u43, u44, u45, u46, u47, u48, u49, u50, u51, u52, u53, u54, u55, u56, u57, u58, u59, u60, u61, u62, u63, u64, u65, u66, u67, u68, u69, u70, u71, u72, u73, u74, u75, u76, u77, u78, .int .i64 5, v80, v81, v82, v83, v84, v85, v86, v87, v88, v89, v90, v91, v92, v93, v94, v95, v96, v97, v98, v99, v100, v101, v102, v103, v104, v105, v106, v107, v108, v109, v110, v111, v112, v113, v114, v115, v116, v117, v118, v119, v120, v121, v122, v123, v124, v125, v126, v127, v128, v129, v130, v131, v132, v133, v134, v135, v136, v137, v138, v139, v140, v141, v142, v143, v144, v145, v146, v147, v148, v149, v150, v151, v152, v153, v154, v155, v156, v157, u158, u159, u160, u161, u162, u163, u164, u165, u166, u167, u168, u169, u170, u171, u172, u173, u174, u175, u176, u177, u178, u179, u180, u181, u182, u183, u184, u185, u186, u187, u188, u189, u190, u191, u192, u193, u194, u195], []⟩ wc) :
    Code.wp Try.prog sw2 Q ⟨#[u0, u1, u2, u3, u4, u5, u6, u7, .int .i64 (N : Int), .pointer (some ⟨c, 0, none⟩), .pointer (some ⟨d, 0, none⟩), .int .i64 (at_ : Int), .int .i64 (M : Int), .pointer (some ⟨pb, 0, none⟩), u14, u15, .pointer (some ⟨sb, 0, none⟩), .bool true, u18, u19, u20, u21, u22, u23, u24, u25, u26, u27, u28, u29, u30, u31, u32, u33, u34, u35, u36, u37, u38, u39, u40, u41, u42, u43, u44, u45, u46, u47, u48, u49, u50, u51, u52, u53, u54, u55, u56, u57, u58, u59, u60, u61, u62, u63, u64, u65, u66, u67, u68, u69, u70, u71, u72, u73, u74, u75, u76, u77, u78, .int .i64 5, u80, u81, u82, u83, u84, u85, u86, u87, u88, u89, u90, u91, u92, u93, u94, u95, u96, u97, u98, u99, u100, u101, u102, u103, u104, u105, u106, u107, u108, u109, u110, u111, u112, u113, u114, u115, u116, u117, u118, u119, u120, u121, u122, u123, u124, u125, u126, u127, u128, u129, u130, u131, u132, u133, u134, u135, u136, u137, u138, u139, u140, u141, u142, u143, u144, u145, u146, u147, u148, u149, u150, u151, u152, u153, u154, u155, u156, u157, u158, u159, u160, u161, u162, u163, u164, u165, u166, u167, u168, u169, u170, u171, u172, u173, u174, u175, u176, u177, u178, u179, u180, u181, u182, u183, u184, u185, u186, u187, u188, u189, u190, u191, u192, u193, u194, u195], []⟩ ws := by
  have HK := hide hK
  clear hK
  conv => arg 2; whnf
  obtain ⟨L1, hL1⟩ : ∃ l, L = l := ⟨_, rfl⟩
  obtain ⟨e1, he1⟩ : ∃ l, getE M wd e = l := ⟨_, rfl⟩
  obtain ⟨gi, hgi⟩ : ∃ l, getI L o M wd = l := ⟨_, rfl⟩
  have He1 := hide he1
  have Hgi := hide hgi
  clear he1 hgi
  go_upto_region 34 with fail
  refine region_ssa2 (fun f W => St (fun k => k = pb ∨ k = sb) w c g N w2.heap.size d pb o M sb (ActD.mk sk si sx sf sw) L (bif f 3 then e1 else e) L (bif f 9 then e1 else e) W) (fun jq vq wq => (∀ xq, (([some (.pointer (some ⟨pb, 0, none⟩)), some (.agg #[.int .i64 sk, .int .i64 si, .int .i64 sx, .bool sf, .bool sw]), some (.int .i64 wd), some (.int .i64 gi), some (.pointer (some ⟨d, 0, none⟩)), some (.int .i64 (at_ : Int)), some (.int .i64 (M : Int)), some (.agg #[.int .i64 sk, .int .i64 si, .int .i64 sx, .bool sf, .bool sw]), some (.int .i64 wd), some (.int .i64 gi), some (.bool true), some (.bool true)] : List (Option Value)).getD jq none) = some xq → vq = xq)) (by kernel_rfl) (by kernel_rfl) ?_ ?_ ?_
  · intro fq hf
    exact (by rw [hf 3 (by decide)]; rw [hf 9 (by decide)]; exact (unhide HSt0).below (Below.refl _ _).drew)
  · intro iq op ho fq AQ W hf hdep hS hK hG
    have hlt : iq < 12 := (Array.getElem?_eq_some_iff.1 ho).1
    match iq, hlt with
    | 0, _ =>
      obtain rfl := (Option.some.inj ho).symm
      have d13 : AQ.tmps.getD 13 undef = .pointer (some ⟨pb, 0, none⟩) := hK.2.2 13 (by kernel_rfl)
      exact wpOp_val (v := (.pointer (some ⟨pb, 0, none⟩))) (w' := W) rfl (wanted_none rfl) (by simp [execOp, Act.eval, d13, go_sem]) ⟨_, rfl, hS, fun _ _ h => h, (by intro x hx; cases hx; rfl)⟩
    | 1, _ =>
      obtain rfl := (Option.some.inj ho).symm
      have d16 : AQ.tmps.getD 16 undef = .pointer (some ⟨sb, 0, none⟩) := hK.2.2 16 (by kernel_rfl)
      have m0 := hS.sc.cell 0 _ rfl
      have m1 := hS.sc.cell 1 _ rfl
      have m2 := hS.sc.cell 2 _ rfl
      have m3 := hS.sc.cell 3 _ rfl
      have m4 := hS.sc.cell 4 _ rfl
      exact wpOp_val (v := (.agg #[.int .i64 sk, .int .i64 si, .int .i64 sx, .bool sf, .bool sw])) (w' := W) rfl (wanted_none rfl) (by simp [execOp, Act.eval, d16, m0, m1, m2, m3, m4, go_sem]) ⟨_, rfl, hS, fun _ _ h => h, (by intro x hx; cases hx; rfl)⟩
    | 2, _ =>
      obtain rfl := (Option.some.inj ho).symm
      have d135 : AQ.tmps.getD 135 undef = .agg #[.int .i64 sk, .int .i64 si, .int .i64 sx, .bool sf, .bool sw] := ((hG ⟨1, .data⟩ (by simp) rfl).2 135 rfl) _ rfl
      refine wpOp_call (f := 15) (args := #[.agg #[.int .i64 sk, .int .i64 si, .int .i64 sx, .bool sf, .bool sw]]) (w' := W) rfl (wanted_none rfl) (by simp [execOp, Act.eval, d135, go_sem]) ?_
      refine (unhide KW W).mono ?_
      rintro e9 w9 ⟨rfl, hb⟩
      exact ⟨_, rfl, _, rfl, St.below hS hb, fun _ _ h => h, (by intro x hx; cases hx; rfl)⟩
    | 3, _ =>
      obtain rfl := (Option.some.inj ho).symm
      have d134 : AQ.tmps.getD 134 undef = .pointer (some ⟨pb, 0, none⟩) := ((hG ⟨0, .data⟩ (by simp) rfl).2 134 rfl) _ rfl
      have d136 : AQ.tmps.getD 136 undef = .int .i64 wd := ((hG ⟨2, .data⟩ (by simp) rfl).2 136 rfl) _ rfl
      have h0 : St (fun k => k = pb ∨ k = sb) w c g N w2.heap.size d pb o M sb (ActD.mk sk si sx sf sw) L e L (bif fq 9 then e1 else e) W := by
        have h := hS
        rw [hf] at h
        exact h
      refine wpOp_call (f := 21) (args := #[.pointer (some ⟨pb, 0, none⟩), .int .i64 wd]) (w' := W) rfl (wanted_none rfl) (by simp [execOp, Act.eval, d134, d136, go_sem]) ?_
      refine ((by have hk := pget_any pb c g o M N L e wd W h0.both.pt h0.both.ar (unhide HM2); rw [unhide Hgi] at hk; exact hk : Calls Try.prog 21 #[.pointer (some ⟨pb, 0, none⟩), .int .i64 wd] W fun r w' => r = .returned (.int .i64 gi) ∧ Only c W w' ∧ Ar c g N w' L (getE M wd e))).mono ?_
      rintro e9 w9 ⟨rfl, ho, ha⟩
      exact ⟨_, rfl, _, rfl, St.stepA (unhide HRk) h0 (Two.of_left ho) (by rw [unhide He1] at ha; exact ha), fun _ _ h => h, (by intro x hx; cases hx; rfl)⟩
    | 4, _ =>
      obtain rfl := (Option.some.inj ho).symm
      have d10 : AQ.tmps.getD 10 undef = .pointer (some ⟨d, 0, none⟩) := hK.2.2 10 (by kernel_rfl)
      exact wpOp_val (v := (.pointer (some ⟨d, 0, none⟩))) (w' := W) rfl (wanted_none rfl) (by simp [execOp, Act.eval, d10, go_sem]) ⟨_, rfl, hS, fun _ _ h => h, (by intro x hx; cases hx; rfl)⟩
    | 5, _ =>
      obtain rfl := (Option.some.inj ho).symm
      have d11 : AQ.tmps.getD 11 undef = .int .i64 (at_ : Int) := hK.2.2 11 (by kernel_rfl)
      exact wpOp_val (v := (.int .i64 (at_ : Int))) (w' := W) rfl (wanted_none rfl) (by simp [execOp, Act.eval, d11, go_sem]) ⟨_, rfl, hS, fun _ _ h => h, (by intro x hx; cases hx; rfl)⟩
    | 6, _ =>
      obtain rfl := (Option.some.inj ho).symm
      have d12 : AQ.tmps.getD 12 undef = .int .i64 (M : Int) := hK.2.2 12 (by kernel_rfl)
      exact wpOp_val (v := (.int .i64 (M : Int))) (w' := W) rfl (wanted_none rfl) (by simp [execOp, Act.eval, d12, go_sem]) ⟨_, rfl, hS, fun _ _ h => h, (by intro x hx; cases hx; rfl)⟩
    | 7, _ =>
      obtain rfl := (Option.some.inj ho).symm
      have d16 : AQ.tmps.getD 16 undef = .pointer (some ⟨sb, 0, none⟩) := hK.2.2 16 (by kernel_rfl)
      have m0 := hS.sc.cell 0 _ rfl
      have m1 := hS.sc.cell 1 _ rfl
      have m2 := hS.sc.cell 2 _ rfl
      have m3 := hS.sc.cell 3 _ rfl
      have m4 := hS.sc.cell 4 _ rfl
      exact wpOp_val (v := (.agg #[.int .i64 sk, .int .i64 si, .int .i64 sx, .bool sf, .bool sw])) (w' := W) rfl (wanted_none rfl) (by simp [execOp, Act.eval, d16, m0, m1, m2, m3, m4, go_sem]) ⟨_, rfl, hS, fun _ _ h => h, (by intro x hx; cases hx; rfl)⟩
    | 8, _ =>
      obtain rfl := (Option.some.inj ho).symm
      have d141 : AQ.tmps.getD 141 undef = .agg #[.int .i64 sk, .int .i64 si, .int .i64 sx, .bool sf, .bool sw] := ((hG ⟨7, .data⟩ (by simp) rfl).2 141 rfl) _ rfl
      refine wpOp_call (f := 15) (args := #[.agg #[.int .i64 sk, .int .i64 si, .int .i64 sx, .bool sf, .bool sw]]) (w' := W) rfl (wanted_none rfl) (by simp [execOp, Act.eval, d141, go_sem]) ?_
      refine (unhide KW W).mono ?_
      rintro e9 w9 ⟨rfl, hb⟩
      exact ⟨_, rfl, _, rfl, St.below hS hb, fun _ _ h => h, (by intro x hx; cases hx; rfl)⟩
    | 9, _ =>
      obtain rfl := (Option.some.inj ho).symm
      have d138 : AQ.tmps.getD 138 undef = .pointer (some ⟨d, 0, none⟩) := ((hG ⟨4, .data⟩ (by simp) rfl).2 138 rfl) _ rfl
      have d139 : AQ.tmps.getD 139 undef = .int .i64 (at_ : Int) := ((hG ⟨5, .data⟩ (by simp) rfl).2 139 rfl) _ rfl
      have d140 : AQ.tmps.getD 140 undef = .int .i64 (M : Int) := ((hG ⟨6, .data⟩ (by simp) rfl).2 140 rfl) _ rfl
      have d142 : AQ.tmps.getD 142 undef = .int .i64 wd := ((hG ⟨8, .data⟩ (by simp) rfl).2 142 rfl) _ rfl
      have hq : getI L at_ M wd = gi := by rw [← getI_off (unhide HM3)]; exact unhide Hgi
      have h0 : St (fun k => k = pb ∨ k = sb) w c g N w2.heap.size d pb o M sb (ActD.mk sk si sx sf sw) L (bif fq 3 then e1 else e) L e W := by
        have h := hS
        rw [hf] at h
        exact h
      refine wpOp_call (f := 19) (args := #[.pointer (some ⟨d, 0, none⟩), .int .i64 (at_ : Int), .int .i64 (M : Int), .int .i64 wd]) (w' := W) rfl (wanted_none rfl) (by simp [execOp, Act.eval, d138, d139, d140, d142, go_sem]) ?_
      refine ((by have hk := rget_any (fun k => k = pb ∨ k = sb) w2.heap.size d N at_ M L e wd W h0.both.rg (unhide HM1) (by omega); rw [hq] at hk; exact hk : Calls Try.prog 19 #[.pointer (some ⟨d, 0, none⟩), .int .i64 (at_ : Int), .int .i64 (M : Int), .int .i64 wd] W fun r w' => r = .returned (.int .i64 gi) ∧ Only d W w' ∧ Rg (fun k => k = pb ∨ k = sb) w2.heap.size d N w' L (getE M wd e))).mono ?_
      rintro e9 w9 ⟨rfl, ho, hr⟩
      exact ⟨_, rfl, _, rfl, St.stepD (unhide HRk) h0 ho (by rw [unhide He1] at hr; exact hr), fun _ _ h => h, (by intro x hx; cases hx; rfl)⟩
    | 10, _ =>
      obtain rfl := (Option.some.inj ho).symm
      have d137 : AQ.tmps.getD 137 undef = .int .i64 gi := ((hG ⟨3, .data⟩ (by simp) rfl).2 137 rfl) _ rfl
      have d143 : AQ.tmps.getD 143 undef = .int .i64 gi := ((hG ⟨9, .data⟩ (by simp) rfl).2 143 rfl) _ rfl
      exact wpOp_val (v := (.bool true)) (w' := W) rfl (wanted_none rfl) (by simp [execOp, Act.eval, d137, d143, go_sem]) ⟨_, rfl, hS, fun _ _ h => h, (by intro x hx; cases hx; rfl)⟩
    | 11, _ =>
      obtain rfl := (Option.some.inj ho).symm
      have d144 : AQ.tmps.getD 144 undef = .bool true := ((hG ⟨10, .data⟩ (by simp) rfl).2 144 rfl) _ rfl
      exact wpOp_val (v := (.bool true)) (w' := W) rfl (wanted_none rfl) (by simp [execOp, Act.eval, d144, go_sem]) ⟨_, rfl, hS, fun _ _ h => h, (by intro x hx; cases hx; rfl)⟩
  · intro fq W vals hf hS hG
    have ev0 : vals 0 = .pointer (some ⟨pb, 0, none⟩) := (hG 0 134 (by decide) rfl) _ rfl
    have ev1 : vals 1 = .agg #[.int .i64 sk, .int .i64 si, .int .i64 sx, .bool sf, .bool sw] := (hG 1 135 (by decide) rfl) _ rfl
    have ev2 : vals 2 = .int .i64 wd := (hG 2 136 (by decide) rfl) _ rfl
    have ev3 : vals 3 = .int .i64 gi := (hG 3 137 (by decide) rfl) _ rfl
    have ev4 : vals 4 = .pointer (some ⟨d, 0, none⟩) := (hG 4 138 (by decide) rfl) _ rfl
    have ev5 : vals 5 = .int .i64 (at_ : Int) := (hG 5 139 (by decide) rfl) _ rfl
    have ev6 : vals 6 = .int .i64 (M : Int) := (hG 6 140 (by decide) rfl) _ rfl
    have ev7 : vals 7 = .agg #[.int .i64 sk, .int .i64 si, .int .i64 sx, .bool sf, .bool sw] := (hG 7 141 (by decide) rfl) _ rfl
    have ev8 : vals 8 = .int .i64 wd := (hG 8 142 (by decide) rfl) _ rfl
    have ev9 : vals 9 = .int .i64 gi := (hG 9 143 (by decide) rfl) _ rfl
    have ev10 : vals 10 = .bool true := (hG 10 144 (by decide) rfl) _ rfl
    have ev11 : vals 11 = .bool true := (hG 11 17 (by decide) rfl) _ rfl
    change (_ : Exit → Act → World → Prop) Exit.normal (Act.put (Act.put (Act.put (Act.put (Act.put (Act.put (Act.put (Act.put (Act.put (Act.put (Act.put (Act.put _ (some 134) (vals 0)) (some 135) (vals 1)) (some 136) (vals 2)) (some 137) (vals 3)) (some 138) (vals 4)) (some 139) (vals 5)) (some 140) (vals 6)) (some 141) (vals 7)) (some 142) (vals 8)) (some 143) (vals 9)) (some 144) (vals 10)) (some 17) (vals 11)) W
    have hT := hS
    rw [hf 3 (by decide)] at hT
    rw [hf 9 (by decide)] at hT
    have HSt2 : Hid (St (fun k => k = pb ∨ k = sb) w c g N w2.heap.size d pb o M sb (ActD.mk sk si sx sf sw) L e1 L e1 W) := hT
    rw [putAll_zero, ev0, ev1, ev2, ev3, ev4, ev5, ev6, ev7, ev8, ev9, ev10, ev11]
    obtain ⟨ws2, rfl⟩ : ∃ v, v = W := ⟨_, rfl⟩
    clear hS hT hG hf ev0 ev1 ev2 ev3 ev4 ev5 ev6 ev7 ev8 ev9 ev10 ev11
    clear vals fq
    subst hL1
    go_wp2
    exact unhide HK _ _ _ _ _ _ _ _ _ _ _ _ _ _ _ _ _ _ _ _ _ _ _ _ _ _ _ _ _ _ _ _ _ _ _ _ _ _ _ _ _ _ _ _ _ _ _ _ _ _ _ _ _ _ _ _ _ _ _ _ _ _ _ _ _ _ _ _ _ _ _ _ _ _ _ _ _ _ _ _ e1 ((unhide HSt2).both.other (fun k _ h => .inl h))
end Go.Proofs.Ytbekechjphangaa
