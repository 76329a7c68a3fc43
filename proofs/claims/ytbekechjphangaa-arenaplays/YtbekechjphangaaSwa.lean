/- The acts of ArenaPlays, case by case: 0, 1. -/
import Derived.Test.YtbekechjphangaaSw
namespace Go.Proofs.Ytbekechjphangaa
open Go.RowKit
set_option linter.unusedVariables false

set_option maxRecDepth 100000 in
set_option maxHeartbeats 8000000 in
theorem sw_k0 (w w2 ws : World) (c g N d pb o M sb at_ : Nat) (sk si sx : Int) (sf sw : Bool) (L : List Int) (e wd nm : Int) (i0 : TypeInfo) (Q : Exit → Act → World → Prop) (hN31 : N ≤ 31)
    (HSt0 : Hid (St (fun k => k = pb ∨ k = sb) w c g N w2.heap.size d pb o M sb (ActD.mk sk si sx sf sw) L e L e ws)) (HRk : Hid (Ranks w c g w2.heap.size d pb sb))
    (KW : Hid (∀ W, Calls Try.prog 15 #[.agg #[.int .i64 sk, .int .i64 si, .int .i64 sx, .bool sf, .bool sw]] W fun r w' => r = .returned (.int .i64 wd) ∧ Below W.heap.size W w'))
    (KN : Hid (∀ W, Calls Try.prog 16 #[.agg #[.int .i64 sk, .int .i64 si, .int .i64 sx, .bool sf, .bool sw]] W fun r w' => r = .returned (.int .i64 nm) ∧ Below W.heap.size W w'))
    (HM1 : Hid (at_ + M ≤ N)) (HM2 : Hid (o + M ≤ N)) (HM3 : Hid (0 < M → o = at_)) (HI0 : Hid (Try.prog.info? 3 = some i0 ∧ i0.zero = some (.int .i64 0) ∧ i0.size = 1 ∧ i0.bytes = 8))
    (u0 u1 u2 u3 u4 u5 u6 u7 u14 u15 u18 u19 u20 u21 u22 u23 u24 u25 u26 u27 u28 u29 u30 u31 u32 u33 u34 u35 u36 u37 u38 u39 u40 u41 u42 u43 u44 u45 u46 u47 u48 u49 u50 u51 u52 u53 u54 u55 u56 u57 u58 u59 u60 u61 u62 u63 u64 u65 u66 u67 u68 u69 u70 u71 u72 u73 u74 u75 u76 u77 u78 u80 u81 u82 u83 u84 u85 u86 u87 u88 u89 u90 u91 u92 u93 u94 u95 u96 u97 u98 u99 u100 u101 u102 u103 u104 u105 u106 u107 u108 u109 u110 u111 u112 u113 u114 u115 u116 u117 u118 u119 u120 u121 u122 u123 u124 u125 u126 u127 u128 u129 u130 u131 u132 u133 u134 u135 u136 u137 u138 u139 u140 u141 u142 u143 u144 u145 u146 u147 u148 u149 u150 u151 u152 u153 u154 u155 u156 u157 u158 u159 u160 u161 u162 u163 u164 u165 u166 u167 u168 u169 u170 u171 u172 u173 u174 u175 u176 u177 u178 u179 u180 u181 u182 u183 u184 u185 u186 u187 u188 u189 u190 u191 u192 u193 u194 u195 : Value)
    (hK : ∀ (v80 v81 v82 v83 v84 v85 v86 v87 v88 v89 v90 v91 v92 v93 v94 v95 v96 v97 v98 v99 v100 v101 v102 v103 v104 v105 v106 v107 v108 v109 v110 v111 v112 v113 v114 v115 v116 v117 v118 v119 v120 v121 v122 v123 v124 v125 v126 v127 v128 v129 v130 v131 v132 v133 v134 v135 v136 v137 v138 v139 v140 v141 v142 v143 v144 v145 v146 v147 v148 v149 v150 v151 v152 v153 v154 v155 v156 v157 : Value) (wc : World) (L1 : List Int) (e1 : Int), Hid (Both (fun k => k = pb) w c g N w2.heap.size d pb o M L1 e1 L1 e1 wc) → Q .normal ⟨#[u0, u1, u2, u3, u4, u5, u6, u7, .int .i64 (N : Int), .pointer (some ⟨c, 0, none⟩), .pointer (some ⟨d, 0, none⟩), .int .i64 (at_ : Int), .int .i64 (M : Int), .pointer (some ⟨pb, 0, none⟩), u14, u15, .pointer (some ⟨sb, 0, none⟩), .bool true, u18, u19, u20, u21, u22, u23, u24, u25, u26, u27, u28, u29, u30, u31, u32, u33, u34, u35, u36, u37, u38, u39, u40, u41, u42, u43, u44, u45, u46, u47, u48, u49, u50, u51, u52, u53, u54, u55, u56, u57, u58, u59, u60, u61, u62, u63, u64, u65, u66, u67, u68, u69, u70, u71, u72, u73, u74, u75, u76, u77, u78, .int .i64 0, v80, v81, v82, v83, v84, v85, v86, v87, v88, v89, v90, v91, v92, v93, v94, v95, v96, v97, v98, v99, v100, v101, v102, v103, v104, v105, v106, v107, v108, v109, v110, v111, v112, v113, v114, v115, v116, v117, v118, v119, v120, v121, v122, v123, v124, v125, v126, v127, v128, v129, v130, v131, v132, v133, v134, v135, v136, v137, v138, v139, v140, v141, v142, v143, v144, v145, v146, v147, v148, v149, v150, v151, v152, v153, v154, v155, v156, v157, u158, u159, u160, u161, u162, u163, u164, u165, u166, u167, u168, u169, u170, u171, u172, u173, u174, u175, u176, u177, u178, u179, u180, u181, u182, u183, u184, u185, u186, u187, u188, u189, u190, u191, u192, u193, u194, u195], []⟩ wc) :
    Code.wp Try.prog sw2 Q ⟨#[u0, u1, u2, u3, u4, u5, u6, u7, .int .i64 (N : Int), .pointer (some ⟨c, 0, none⟩), .pointer (some ⟨d, 0, none⟩), .int .i64 (at_ : Int), .int .i64 (M : Int), .pointer (some ⟨pb, 0, none⟩), u14, u15, .pointer (some ⟨sb, 0, none⟩), .bool true, u18, u19, u20, u21, u22, u23, u24, u25, u26, u27, u28, u29, u30, u31, u32, u33, u34, u35, u36, u37, u38, u39, u40, u41, u42, u43, u44, u45, u46, u47, u48, u49, u50, u51, u52, u53, u54, u55, u56, u57, u58, u59, u60, u61, u62, u63, u64, u65, u66, u67, u68, u69, u70, u71, u72, u73, u74, u75, u76, u77, u78, .int .i64 0, u80, u81, u82, u83, u84, u85, u86, u87, u88, u89, u90, u91, u92, u93, u94, u95, u96, u97, u98, u99, u100, u101, u102, u103, u104, u105, u106, u107, u108, u109, u110, u111, u112, u113, u114, u115, u116, u117, u118, u119, u120, u121, u122, u123, u124, u125, u126, u127, u128, u129, u130, u131, u132, u133, u134, u135, u136, u137, u138, u139, u140, u141, u142, u143, u144, u145, u146, u147, u148, u149, u150, u151, u152, u153, u154, u155, u156, u157, u158, u159, u160, u161, u162, u163, u164, u165, u166, u167, u168, u169, u170, u171, u172, u173, u174, u175, u176, u177, u178, u179, u180, u181, u182, u183, u184, u185, u186, u187, u188, u189, u190, u191, u192, u193, u194, u195], []⟩ ws := by
  have HK := hide hK
  clear hK
  conv => arg 2; whnf
  obtain ⟨L1, hL1⟩ : ∃ l, putL L 0 N wd nm = l := ⟨_, rfl⟩
  obtain ⟨e1, he1⟩ : ∃ l, putE N wd nm e = l := ⟨_, rfl⟩
  have HL1 := hide hL1
  have He1 := hide he1
  clear hL1 he1
  go_upto_region 25 with fail
  refine region_ssa2 (fun f W => St (fun k => k = pb ∨ k = sb) w c g N w2.heap.size d pb o M sb (ActD.mk sk si sx sf sw) (bif f 5 then L1 else L) (bif f 5 then e1 else e) L e W) (fun jq vq wq => (∀ xq, (([some (.pointer (some ⟨c, 0, none⟩)), some (.agg #[.int .i64 sk, .int .i64 si, .int .i64 sx, .bool sf, .bool sw]), some (.int .i64 wd), some (.agg #[.int .i64 sk, .int .i64 si, .int .i64 sx, .bool sf, .bool sw]), some (.int .i64 nm), some (.tuple #[])] : List (Option Value)).getD jq none) = some xq → vq = xq)) (by kernel_rfl) (by kernel_rfl) ?_ ?_ ?_
  · intro fq hf
    exact (by rw [hf 5 (by decide)]; exact (unhide HSt0).below (Below.refl _ _).drew)
  · intro iq op ho fq AQ W hf hdep hS hK hG
    have hlt : iq < 6 := (Array.getElem?_eq_some_iff.1 ho).1
    match iq, hlt with
    | 0, _ =>
      obtain rfl := (Option.some.inj ho).symm
      have d9 : AQ.tmps.getD 9 undef = .pointer (some ⟨c, 0, none⟩) := hK.2.2 9 (by kernel_rfl)
      exact wpOp_val (v := (.pointer (some ⟨c, 0, none⟩))) (w' := W) rfl (wanted_none rfl) (by simp [execOp, Act.eval, d9, go_sem]) ⟨_, rfl, hS, fun _ _ h => h, (by intro x hx; cases hx; rfl)⟩
    | 1, _ =>
      obtain rfl := (Option.some.inj ho).symm
      have d16 : AQ.tmps.getD 16 undef = .pointer (some ⟨sb, 0, none⟩) := hK.2.2 16 (by kernel_rfl)
      have m0 := hS.sc.cell 0 _ rfl
      have m1 := hS.sc.cell 1 _ rfl
      have m2 := hS.sc.cell 2 _ rfl
      have m3 := hS.sc.cell 3 _ rfl
      have m4 := hS.sc.cell 4 _ rfl
      exact wpOp_val (v := (.agg #[.int .i64 sk, .int .i64 si, .int .i64 sx, .bool sf, .bool sw])) (w' := W) rfl (wanted_none rfl) (by simp [execOp, Act.eval, d16, m0, m1, m2, m3, m4, go_sem]) ⟨_, rfl, hS, fun _ _ h => h, (by intro x hx; cases hx; rfl)⟩
    | 2, _ =>
      obtain rfl := (Option.some.inj ho).symm
      have d91 : AQ.tmps.getD 91 undef = .agg #[.int .i64 sk, .int .i64 si, .int .i64 sx, .bool sf, .bool sw] := ((hG ⟨1, .data⟩ (by simp) rfl).2 91 rfl) _ rfl
      refine wpOp_call (f := 15) (args := #[.agg #[.int .i64 sk, .int .i64 si, .int .i64 sx, .bool sf, .bool sw]]) (w' := W) rfl (wanted_none rfl) (by simp [execOp, Act.eval, d91, go_sem]) ?_
      refine (unhide KW W).mono ?_
      rintro e9 w9 ⟨rfl, hb⟩
      exact ⟨_, rfl, _, rfl, St.below hS hb, fun _ _ h => h, (by intro x hx; cases hx; rfl)⟩
    | 3, _ =>
      obtain rfl := (Option.some.inj ho).symm
      have d16 : AQ.tmps.getD 16 undef = .pointer (some ⟨sb, 0, none⟩) := hK.2.2 16 (by kernel_rfl)
      have m0 := hS.sc.cell 0 _ rfl
      have m1 := hS.sc.cell 1 _ rfl
      have m2 := hS.sc.cell 2 _ rfl
      have m3 := hS.sc.cell 3 _ rfl
      have m4 := hS.sc.cell 4 _ rfl
      exact wpOp_val (v := (.agg #[.int .i64 sk, .int .i64 si, .int .i64 sx, .bool sf, .bool sw])) (w' := W) rfl (wanted_none rfl) (by simp [execOp, Act.eval, d16, m0, m1, m2, m3, m4, go_sem]) ⟨_, rfl, hS, fun _ _ h => h, (by intro x hx; cases hx; rfl)⟩
    | 4, _ =>
      obtain rfl := (Option.some.inj ho).symm
      have d93 : AQ.tmps.getD 93 undef = .agg #[.int .i64 sk, .int .i64 si, .int .i64 sx, .bool sf, .bool sw] := ((hG ⟨3, .data⟩ (by simp) rfl).2 93 rfl) _ rfl
      refine wpOp_call (f := 16) (args := #[.agg #[.int .i64 sk, .int .i64 si, .int .i64 sx, .bool sf, .bool sw]]) (w' := W) rfl (wanted_none rfl) (by simp [execOp, Act.eval, d93, go_sem]) ?_
      refine (unhide KN W).mono ?_
      rintro e9 w9 ⟨rfl, hb⟩
      exact ⟨_, rfl, _, rfl, St.below hS hb, fun _ _ h => h, (by intro x hx; cases hx; rfl)⟩
    | 5, _ =>
      obtain rfl := (Option.some.inj ho).symm
      have d90 : AQ.tmps.getD 90 undef = .pointer (some ⟨c, 0, none⟩) := ((hG ⟨0, .data⟩ (by simp) rfl).2 90 rfl) _ rfl
      have d92 : AQ.tmps.getD 92 undef = .int .i64 wd := ((hG ⟨2, .data⟩ (by simp) rfl).2 92 rfl) _ rfl
      have d94 : AQ.tmps.getD 94 undef = .int .i64 nm := ((hG ⟨4, .data⟩ (by simp) rfl).2 94 rfl) _ rfl
      have h0 : St (fun k => k = pb ∨ k = sb) w c g N w2.heap.size d pb o M sb (ActD.mk sk si sx sf sw) L e L e W := by
        have h := hS
        rw [hf] at h
        exact h
      refine wpOp_call (f := 14) (args := #[.pointer (some ⟨c, 0, none⟩), .int .i64 wd, .int .i64 nm]) (w' := W) rfl (wanted_none rfl) (by simp [execOp, Act.eval, d90, d92, d94, go_sem]) ?_
      refine (aput_any c g N L e wd nm W h0.both.ar).mono ?_
      rintro e9 w9 ⟨rfl, ht, ha⟩
      exact ⟨_, rfl, _, rfl, St.stepA (unhide HRk) h0 ht (by rw [unhide HL1, unhide He1] at ha; exact ha), fun _ _ h => h, (by intro x hx; cases hx; rfl)⟩
  · intro fq W vals hf hS hG
    have ev0 : vals 0 = .pointer (some ⟨c, 0, none⟩) := (hG 0 90 (by decide) rfl) _ rfl
    have ev1 : vals 1 = .agg #[.int .i64 sk, .int .i64 si, .int .i64 sx, .bool sf, .bool sw] := (hG 1 91 (by decide) rfl) _ rfl
    have ev2 : vals 2 = .int .i64 wd := (hG 2 92 (by decide) rfl) _ rfl
    have ev3 : vals 3 = .agg #[.int .i64 sk, .int .i64 si, .int .i64 sx, .bool sf, .bool sw] := (hG 3 93 (by decide) rfl) _ rfl
    have ev4 : vals 4 = .int .i64 nm := (hG 4 94 (by decide) rfl) _ rfl
    have ev5 : vals 5 = .tuple #[] := (hG 5 95 (by decide) rfl) _ rfl
    change (_ : Exit → Act → World → Prop) Exit.normal (Act.put (Act.put (Act.put (Act.put (Act.put (Act.put _ (some 90) (vals 0)) (some 91) (vals 1)) (some 92) (vals 2)) (some 93) (vals 3)) (some 94) (vals 4)) (some 95) (vals 5)) W
    have hT := hS
    rw [hf 5 (by decide)] at hT
    have HSt1 : Hid (St (fun k => k = pb ∨ k = sb) w c g N w2.heap.size d pb o M sb (ActD.mk sk si sx sf sw) L1 e1 L e W) := hT
    rw [putAll_zero, ev0, ev1, ev2, ev3, ev4, ev5]
    obtain ⟨ws1, rfl⟩ : ∃ v, v = W := ⟨_, rfl⟩
    clear hS hT hG hf ev0 ev1 ev2 ev3 ev4 ev5
    clear vals fq
    go_simp
    go_upto_region 26 with fail
    refine region_ssa2 (fun f W => St (fun k => k = pb ∨ k = sb) w c g N w2.heap.size d pb o M sb (ActD.mk sk si sx sf sw) L1 e1 (bif f 6 then L1 else L) (bif f 6 then e1 else e) W) (fun jq vq wq => (∀ xq, (([some (.pointer (some ⟨d, 0, none⟩)), some (.int .i64 (N : Int)), some (.agg #[.int .i64 sk, .int .i64 si, .int .i64 sx, .bool sf, .bool sw]), some (.int .i64 wd), some (.agg #[.int .i64 sk, .int .i64 si, .int .i64 sx, .bool sf, .bool sw]), some (.int .i64 nm), some (.tuple #[])] : List (Option Value)).getD jq none) = some xq → vq = xq)) (by kernel_rfl) (by kernel_rfl) ?_ ?_ ?_
    · intro fq hf
      exact (by rw [hf 6 (by decide)]; exact (unhide HSt1).below (Below.refl _ _).drew)
    · intro iq op ho fq AQ W hf hdep hS hK hG
      have hlt : iq < 7 := (Array.getElem?_eq_some_iff.1 ho).1
      match iq, hlt with
      | 0, _ =>
        obtain rfl := (Option.some.inj ho).symm
        have d10 : AQ.tmps.getD 10 undef = .pointer (some ⟨d, 0, none⟩) := hK.2.2 10 (by kernel_rfl)
        exact wpOp_val (v := (.pointer (some ⟨d, 0, none⟩))) (w' := W) rfl (wanted_none rfl) (by simp [execOp, Act.eval, d10, go_sem]) ⟨_, rfl, hS, fun _ _ h => h, (by intro x hx; cases hx; rfl)⟩
      | 1, _ =>
        obtain rfl := (Option.some.inj ho).symm
        have d8 : AQ.tmps.getD 8 undef = .int .i64 (N : Int) := hK.2.2 8 (by kernel_rfl)
        exact wpOp_val (v := (.int .i64 (N : Int))) (w' := W) rfl (wanted_none rfl) (by simp [execOp, Act.eval, d8, go_sem]) ⟨_, rfl, hS, fun _ _ h => h, (by intro x hx; cases hx; rfl)⟩
      | 2, _ =>
        obtain rfl := (Option.some.inj ho).symm
        have d16 : AQ.tmps.getD 16 undef = .pointer (some ⟨sb, 0, none⟩) := hK.2.2 16 (by kernel_rfl)
        have m0 := hS.sc.cell 0 _ rfl
        have m1 := hS.sc.cell 1 _ rfl
        have m2 := hS.sc.cell 2 _ rfl
        have m3 := hS.sc.cell 3 _ rfl
        have m4 := hS.sc.cell 4 _ rfl
        exact wpOp_val (v := (.agg #[.int .i64 sk, .int .i64 si, .int .i64 sx, .bool sf, .bool sw])) (w' := W) rfl (wanted_none rfl) (by simp [execOp, Act.eval, d16, m0, m1, m2, m3, m4, go_sem]) ⟨_, rfl, hS, fun _ _ h => h, (by intro x hx; cases hx; rfl)⟩
      | 3, _ =>
        obtain rfl := (Option.some.inj ho).symm
        have d98 : AQ.tmps.getD 98 undef = .agg #[.int .i64 sk, .int .i64 si, .int .i64 sx, .bool sf, .bool sw] := ((hG ⟨2, .data⟩ (by simp) rfl).2 98 rfl) _ rfl
        refine wpOp_call (f := 15) (args := #[.agg #[.int .i64 sk, .int .i64 si, .int .i64 sx, .bool sf, .bool sw]]) (w' := W) rfl (wanted_none rfl) (by simp [execOp, Act.eval, d98, go_sem]) ?_
        refine (unhide KW W).mono ?_
        rintro e9 w9 ⟨rfl, hb⟩
        exact ⟨_, rfl, _, rfl, St.below hS hb, fun _ _ h => h, (by intro x hx; cases hx; rfl)⟩
      | 4, _ =>
        obtain rfl := (Option.some.inj ho).symm
        have d16 : AQ.tmps.getD 16 undef = .pointer (some ⟨sb, 0, none⟩) := hK.2.2 16 (by kernel_rfl)
        have m0 := hS.sc.cell 0 _ rfl
        have m1 := hS.sc.cell 1 _ rfl
        have m2 := hS.sc.cell 2 _ rfl
        have m3 := hS.sc.cell 3 _ rfl
        have m4 := hS.sc.cell 4 _ rfl
        exact wpOp_val (v := (.agg #[.int .i64 sk, .int .i64 si, .int .i64 sx, .bool sf, .bool sw])) (w' := W) rfl (wanted_none rfl) (by simp [execOp, Act.eval, d16, m0, m1, m2, m3, m4, go_sem]) ⟨_, rfl, hS, fun _ _ h => h, (by intro x hx; cases hx; rfl)⟩
      | 5, _ =>
        obtain rfl := (Option.some.inj ho).symm
        have d100 : AQ.tmps.getD 100 undef = .agg #[.int .i64 sk, .int .i64 si, .int .i64 sx, .bool sf, .bool sw] := ((hG ⟨4, .data⟩ (by simp) rfl).2 100 rfl) _ rfl
        refine wpOp_call (f := 16) (args := #[.agg #[.int .i64 sk, .int .i64 si, .int .i64 sx, .bool sf, .bool sw]]) (w' := W) rfl (wanted_none rfl) (by simp [execOp, Act.eval, d100, go_sem]) ?_
        refine (unhide KN W).mono ?_
        rintro e9 w9 ⟨rfl, hb⟩
        exact ⟨_, rfl, _, rfl, St.below hS hb, fun _ _ h => h, (by intro x hx; cases hx; rfl)⟩
      | 6, _ =>
        obtain rfl := (Option.some.inj ho).symm
        have d96 : AQ.tmps.getD 96 undef = .pointer (some ⟨d, 0, none⟩) := ((hG ⟨0, .data⟩ (by simp) rfl).2 96 rfl) _ rfl
        have d97 : AQ.tmps.getD 97 undef = .int .i64 (N : Int) := ((hG ⟨1, .data⟩ (by simp) rfl).2 97 rfl) _ rfl
        have d99 : AQ.tmps.getD 99 undef = .int .i64 wd := ((hG ⟨3, .data⟩ (by simp) rfl).2 99 rfl) _ rfl
        have d101 : AQ.tmps.getD 101 undef = .int .i64 nm := ((hG ⟨5, .data⟩ (by simp) rfl).2 101 rfl) _ rfl
        have h0 : St (fun k => k = pb ∨ k = sb) w c g N w2.heap.size d pb o M sb (ActD.mk sk si sx sf sw) L1 e1 L e W := by
          have h := hS
          rw [hf] at h
          exact h
        refine wpOp_call (f := 17) (args := #[.pointer (some ⟨d, 0, none⟩), .int .i64 0, .int .i64 (N : Int), .int .i64 wd, .int .i64 nm]) (w' := W) rfl (wanted_none rfl) (by simp [execOp, Act.eval, d96, d97, d99, d101, go_sem]) ?_
        refine (rput_any (fun k => k = pb ∨ k = sb) w2.heap.size d N 0 N L e wd nm W h0.both.rg (by omega) (by omega)).mono ?_
        rintro e9 w9 ⟨rfl, hb, hr, hc⟩
        exact ⟨_, rfl, _, rfl, St.stepP (unhide HRk) (.inl rfl) (.inr rfl) h0 hb (by rw [unhide HL1, unhide He1] at hr; exact hr) hc, fun _ _ h => h, (by intro x hx; cases hx; rfl)⟩
    · intro fq W vals hf hS hG
      have ev0 : vals 0 = .pointer (some ⟨d, 0, none⟩) := (hG 0 96 (by decide) rfl) _ rfl
      have ev1 : vals 1 = .int .i64 (N : Int) := (hG 1 97 (by decide) rfl) _ rfl
      have ev2 : vals 2 = .agg #[.int .i64 sk, .int .i64 si, .int .i64 sx, .bool sf, .bool sw] := (hG 2 98 (by decide) rfl) _ rfl
      have ev3 : vals 3 = .int .i64 wd := (hG 3 99 (by decide) rfl) _ rfl
      have ev4 : vals 4 = .agg #[.int .i64 sk, .int .i64 si, .int .i64 sx, .bool sf, .bool sw] := (hG 4 100 (by decide) rfl) _ rfl
      have ev5 : vals 5 = .int .i64 nm := (hG 5 101 (by decide) rfl) _ rfl
      have ev6 : vals 6 = .tuple #[] := (hG 6 102 (by decide) rfl) _ rfl
      change (_ : Exit → Act → World → Prop) Exit.normal (Act.put (Act.put (Act.put (Act.put (Act.put (Act.put (Act.put _ (some 96) (vals 0)) (some 97) (vals 1)) (some 98) (vals 2)) (some 99) (vals 3)) (some 100) (vals 4)) (some 101) (vals 5)) (some 102) (vals 6)) W
      have hT := hS
      rw [hf 6 (by decide)] at hT
      have HSt2 : Hid (St (fun k => k = pb ∨ k = sb) w c g N w2.heap.size d pb o M sb (ActD.mk sk si sx sf sw) L1 e1 L1 e1 W) := hT
      rw [putAll_zero, ev0, ev1, ev2, ev3, ev4, ev5, ev6]
      obtain ⟨ws2, rfl⟩ : ∃ v, v = W := ⟨_, rfl⟩
      clear hS hT hG hf ev0 ev1 ev2 ev3 ev4 ev5 ev6
      clear vals fq
      go_wp2
      exact unhide HK _ _ _ _ _ _ _ _ _ _ _ _ _ _ _ _ _ _ _ _ _ _ _ _ _ _ _ _ _ _ _ _ _ _ _ _ _ _ _ _ _ _ _ _ _ _ _ _ _ _ _ _ _ _ _ _ _ _ _ _ _ _ _ _ _ _ _ _ _ _ _ _ _ _ _ _ _ _ _ L1 e1 ((unhide HSt2).both.other (fun k _ h => .inl h))

set_option maxRecDepth 100000 in
set_option maxHeartbeats 8000000 in
theorem sw_k1 (w w2 ws : World) (c g N d pb o M sb at_ : Nat) (sk si sx : Int) (sf sw : Bool) (L : List Int) (e wd nm : Int) (i0 : TypeInfo) (Q : Exit → Act → World → Prop) (hN31 : N ≤ 31)
    (HSt0 : Hid (St (fun k => k = pb ∨ k = sb) w c g N w2.heap.size d pb o M sb (ActD.mk sk si sx sf sw) L e L e ws)) (HRk : Hid (Ranks w c g w2.heap.size d pb sb))
    (KW : Hid (∀ W, Calls Try.prog 15 #[.agg #[.int .i64 sk, .int .i64 si, .int .i64 sx, .bool sf, .bool sw]] W fun r w' => r = .returned (.int .i64 wd) ∧ Below W.heap.size W w'))
    (KN : Hid (∀ W, Calls Try.prog 16 #[.agg #[.int .i64 sk, .int .i64 si, .int .i64 sx, .bool sf, .bool sw]] W fun r w' => r = .returned (.int .i64 nm) ∧ Below W.heap.size W w'))
    (HM1 : Hid (at_ + M ≤ N)) (HM2 : Hid (o + M ≤ N)) (HM3 : Hid (0 < M → o = at_)) (HI0 : Hid (Try.prog.info? 3 = some i0 ∧ i0.zero = some (.int .i64 0) ∧ i0.size = 1 ∧ i0.bytes = 8))
    (u0 u1 u2 u3 u4 u5 u6 u7 u14 u15 u18 u19 u20 u21 u22 u23 u24 u25 u26 u27 u28 u29 u30 u31 u32 u33 u34 u35 u36 u37 u38 u39 u40 u41 u42 u43 u44 u45 u46 u47 u48 u49 u50 u51 u52 u53 u54 u55 u56 u57 u58 u59 u60 u61 u62 u63 u64 u65 u66 u67 u68 u69 u70 u71 u72 u73 u74 u75 u76 u77 u78 u80 u81 u82 u83 u84 u85 u86 u87 u88 u89 u90 u91 u92 u93 u94 u95 u96 u97 u98 u99 u100 u101 u102 u103 u104 u105 u106 u107 u108 u109 u110 u111 u112 u113 u114 u115 u116 u117 u118 u119 u120 u121 u122 u123 u124 u125 u126 u127 u128 u129 u130 u131 u132 u133 u134 u135 u136 u137 u138 u139 u140 u141 u142 u143 u144 u145 u146 u147 u148 u149 u150 u151 u152 u153 u154 u155 u156 u157 u158 u159 u160 u161 u162 u163 u164 u165 u166 u167 u168 u169 u170 u171 u172 u173 u174 u175 u176 u177 u178 u179 u180 u181 u182 u183 u184 u185 u186 u187 u188 u189 u190 u191 u192 u193 u194 u195 : Value)
    (hK : ∀ (v80 v81 v82 v83 v84 v85 v86 v87 v88 v89 v90 v91 v92 v93 v94 v95 v96 v97 v98 v99 v100 v101 v102 v103 v104 v105 v106 v107 v108 v109 v110 v111 v112 v113 v114 v115 v116 v117 v118 v119 v120 v121 v122 v123 v124 v125 v126 v127 v128 v129 v130 v131 v132 v133 v134 v135 v136 v137 v138 v139 v140 v141 v142 v143 v144 v145 v146 v147 v148 v149 v150 v151 v152 v153 v154 v155 v156 v157 : Value) (wc : World) (L1 : List Int) (e1 : Int), Hid (Both (fun k => k = pb) w c g N w2.heap.size d pb o M L1 e1 L1 e1 wc) → Q .normal ⟨#[u0, u1, u2, u3, u4, u5, u6, u7, .int .i64 (N : Int), .pointer (some ⟨c, 0, none⟩), .pointer (some ⟨d, 0, none⟩), .int .i64 (at_ : Int), .int .i64 (M : Int), .pointer (some ⟨pb, 0, none⟩), u14, u15, .pointer (some ⟨sb, 0, none⟩), .bool true, u18, u19, u20, u21, u22, u23, u24, u25, u26, u27, u28, u29, u30, u31, u32, u33, u34, u35, u36, u37, u38, u39, u40, u41, u42, u43, u44, u45, u46, u47, u48, u49, u50, u51, u52, u53, u54, u55, u56, u57, u58, u59, u60, u61, u62, u63, u64, u65, u66, u67, u68, u69, u70, u71, u72, u73, u74, u75, u76, u77, u78, .int .i64 1, v80, v81, v82, v83, v84, v85, v86, v87, v88, v89, v90, v91, v92, v93, v94, v95, v96, v97, v98, v99, v100, v101, v102, v103, v104, v105, v106, v107, v108, v109, v110, v111, v112, v113, v114, v115, v116, v117, v118, v119, v120, v121, v122, v123, v124, v125, v126, v127, v128, v129, v130, v131, v132, v133, v134, v135, v136, v137, v138, v139, v140, v141, v142, v143, v144, v145, v146, v147, v148, v149, v150, v151, v152, v153, v154, v155, v156, v157, u158, u159, u160, u161, u162, u163, u164, u165, u166, u167, u168, u169, u170, u171, u172, u173, u174, u175, u176, u177, u178, u179, u180, u181, u182, u183, u184, u185, u186, u187, u188, u189, u190, u191, u192, u193, u194, u195], []⟩ wc) :
    Code.wp Try.prog sw2 Q ⟨#[u0, u1, u2, u3, u4, u5, u6, u7, .int .i64 (N : Int), .pointer (some ⟨c, 0, none⟩), .pointer (some ⟨d, 0, none⟩), .int .i64 (at_ : Int), .int .i64 (M : Int), .pointer (some ⟨pb, 0, none⟩), u14, u15, .pointer (some ⟨sb, 0, none⟩), .bool true, u18, u19, u20, u21, u22, u23, u24, u25, u26, u27, u28, u29, u30, u31, u32, u33, u34, u35, u36, u37, u38, u39, u40, u41, u42, u43, u44, u45, u46, u47, u48, u49, u50, u51, u52, u53, u54, u55, u56, u57, u58, u59, u60, u61, u62, u63, u64, u65, u66, u67, u68, u69, u70, u71, u72, u73, u74, u75, u76, u77, u78, .int .i64 1, u80, u81, u82, u83, u84, u85, u86, u87, u88, u89, u90, u91, u92, u93, u94, u95, u96, u97, u98, u99, u100, u101, u102, u103, u104, u105, u106, u107, u108, u109, u110, u111, u112, u113, u114, u115, u116, u117, u118, u119, u120, u121, u122, u123, u124, u125, u126, u127, u128, u129, u130, u131, u132, u133, u134, u135, u136, u137, u138, u139, u140, u141, u142, u143, u144, u145, u146, u147, u148, u149, u150, u151, u152, u153, u154, u155, u156, u157, u158, u159, u160, u161, u162, u163, u164, u165, u166, u167, u168, u169, u170, u171, u172, u173, u174, u175, u176, u177, u178, u179, u180, u181, u182, u183, u184, u185, u186, u187, u188, u189, u190, u191, u192, u193, u194, u195], []⟩ ws := by
  have HK := hide hK
  clear hK
  conv => arg 2; whnf
  obtain ⟨L1, hL1⟩ : ∃ l, putL L 0 N wd nm = l := ⟨_, rfl⟩
  obtain ⟨e1, he1⟩ : ∃ l, putE N wd nm e = l := ⟨_, rfl⟩
  have HL1 := hide hL1
  have He1 := hide he1
  clear hL1 he1
  go_upto_region 25 with fail
  refine region_ssa2 (fun f W => St (fun k => k = pb ∨ k = sb) w c g N w2.heap.size d pb o M sb (ActD.mk sk si sx sf sw) (bif f 5 then L1 else L) (bif f 5 then e1 else e) L e W) (fun jq vq wq => (∀ xq, (([some (.pointer (some ⟨c, 0, none⟩)), some (.agg #[.int .i64 sk, .int .i64 si, .int .i64 sx, .bool sf, .bool sw]), some (.int .i64 wd), some (.agg #[.int .i64 sk, .int .i64 si, .int .i64 sx, .bool sf, .bool sw]), some (.int .i64 nm), some (.tuple #[])] : List (Option Value)).getD jq none) = some xq → vq = xq)) (by kernel_rfl) (by kernel_rfl) ?_ ?_ ?_
  · intro fq hf
    exact (by rw [hf 5 (by decide)]; exact (unhide HSt0).below (Below.refl _ _).drew)
  · intro iq op ho fq AQ W hf hdep hS hK hG
    have hlt : iq < 6 := (Array.getElem?_eq_some_iff.1 ho).1
    match iq, hlt with
    | 0, _ =>
      obtain rfl := (Option.some.inj ho).symm
      have d9 : AQ.tmps.getD 9 undef = .pointer (some ⟨c, 0, none⟩) := hK.2.2 9 (by kernel_rfl)
      exact wpOp_val (v := (.pointer (some ⟨c, 0, none⟩))) (w' := W) rfl (wanted_none rfl) (by simp [execOp, Act.eval, d9, go_sem]) ⟨_, rfl, hS, fun _ _ h => h, (by intro x hx; cases hx; rfl)⟩
    | 1, _ =>
      obtain rfl := (Option.some.inj ho).symm
      have d16 : AQ.tmps.getD 16 undef = .pointer (some ⟨sb, 0, none⟩) := hK.2.2 16 (by kernel_rfl)
      have m0 := hS.sc.cell 0 _ rfl
      have m1 := hS.sc.cell 1 _ rfl
      have m2 := hS.sc.cell 2 _ rfl
      have m3 := hS.sc.cell 3 _ rfl
      have m4 := hS.sc.cell 4 _ rfl
      exact wpOp_val (v := (.agg #[.int .i64 sk, .int .i64 si, .int .i64 sx, .bool sf, .bool sw])) (w' := W) rfl (wanted_none rfl) (by simp [execOp, Act.eval, d16, m0, m1, m2, m3, m4, go_sem]) ⟨_, rfl, hS, fun _ _ h => h, (by intro x hx; cases hx; rfl)⟩
    | 2, _ =>
      obtain rfl := (Option.some.inj ho).symm
      have d91 : AQ.tmps.getD 91 undef = .agg #[.int .i64 sk, .int .i64 si, .int .i64 sx, .bool sf, .bool sw] := ((hG ⟨1, .data⟩ (by simp) rfl).2 91 rfl) _ rfl
      refine wpOp_call (f := 15) (args := #[.agg #[.int .i64 sk, .int .i64 si, .int .i64 sx, .bool sf, .bool sw]]) (w' := W) rfl (wanted_none rfl) (by simp [execOp, Act.eval, d91, go_sem]) ?_
      refine (unhide KW W).mono ?_
      rintro e9 w9 ⟨rfl, hb⟩
      exact ⟨_, rfl, _, rfl, St.below hS hb, fun _ _ h => h, (by intro x hx; cases hx; rfl)⟩
    | 3, _ =>
      obtain rfl := (Option.some.inj ho).symm
      have d16 : AQ.tmps.getD 16 undef = .pointer (some ⟨sb, 0, none⟩) := hK.2.2 16 (by kernel_rfl)
      have m0 := hS.sc.cell 0 _ rfl
      have m1 := hS.sc.cell 1 _ rfl
      have m2 := hS.sc.cell 2 _ rfl
      have m3 := hS.sc.cell 3 _ rfl
      have m4 := hS.sc.cell 4 _ rfl
      exact wpOp_val (v := (.agg #[.int .i64 sk, .int .i64 si, .int .i64 sx, .bool sf, .bool sw])) (w' := W) rfl (wanted_none rfl) (by simp [execOp, Act.eval, d16, m0, m1, m2, m3, m4, go_sem]) ⟨_, rfl, hS, fun _ _ h => h, (by intro x hx; cases hx; rfl)⟩
    | 4, _ =>
      obtain rfl := (Option.some.inj ho).symm
      have d93 : AQ.tmps.getD 93 undef = .agg #[.int .i64 sk, .int .i64 si, .int .i64 sx, .bool sf, .bool sw] := ((hG ⟨3, .data⟩ (by simp) rfl).2 93 rfl) _ rfl
      refine wpOp_call (f := 16) (args := #[.agg #[.int .i64 sk, .int .i64 si, .int .i64 sx, .bool sf, .bool sw]]) (w' := W) rfl (wanted_none rfl) (by simp [execOp, Act.eval, d93, go_sem]) ?_
      refine (unhide KN W).mono ?_
      rintro e9 w9 ⟨rfl, hb⟩
      exact ⟨_, rfl, _, rfl, St.below hS hb, fun _ _ h => h, (by intro x hx; cases hx; rfl)⟩
    | 5, _ =>
      obtain rfl := (Option.some.inj ho).symm
      have d90 : AQ.tmps.getD 90 undef = .pointer (some ⟨c, 0, none⟩) := ((hG ⟨0, .data⟩ (by simp) rfl).2 90 rfl) _ rfl
      have d92 : AQ.tmps.getD 92 undef = .int .i64 wd := ((hG ⟨2, .data⟩ (by simp) rfl).2 92 rfl) _ rfl
      have d94 : AQ.tmps.getD 94 undef = .int .i64 nm := ((hG ⟨4, .data⟩ (by simp) rfl).2 94 rfl) _ rfl
      have h0 : St (fun k => k = pb ∨ k = sb) w c g N w2.heap.size d pb o M sb (ActD.mk sk si sx sf sw) L e L e W := by
        have h := hS
        rw [hf] at h
        exact h
      refine wpOp_call (f := 14) (args := #[.pointer (some ⟨c, 0, none⟩), .int .i64 wd, .int .i64 nm]) (w' := W) rfl (wanted_none rfl) (by simp [execOp, Act.eval, d90, d92, d94, go_sem]) ?_
      refine (aput_any c g N L e wd nm W h0.both.ar).mono ?_
      rintro e9 w9 ⟨rfl, ht, ha⟩
      exact ⟨_, rfl, _, rfl, St.stepA (unhide HRk) h0 ht (by rw [unhide HL1, unhide He1] at ha; exact ha), fun _ _ h => h, (by intro x hx; cases hx; rfl)⟩
  · intro fq W vals hf hS hG
    have ev0 : vals 0 = .pointer (some ⟨c, 0, none⟩) := (hG 0 90 (by decide) rfl) _ rfl
    have ev1 : vals 1 = .agg #[.int .i64 sk, .int .i64 si, .int .i64 sx, .bool sf, .bool sw] := (hG 1 91 (by decide) rfl) _ rfl
    have ev2 : vals 2 = .int .i64 wd := (hG 2 92 (by decide) rfl) _ rfl
    have ev3 : vals 3 = .agg #[.int .i64 sk, .int .i64 si, .int .i64 sx, .bool sf, .bool sw] := (hG 3 93 (by decide) rfl) _ rfl
    have ev4 : vals 4 = .int .i64 nm := (hG 4 94 (by decide) rfl) _ rfl
    have ev5 : vals 5 = .tuple #[] := (hG 5 95 (by decide) rfl) _ rfl
    change (_ : Exit → Act → World → Prop) Exit.normal (Act.put (Act.put (Act.put (Act.put (Act.put (Act.put _ (some 90) (vals 0)) (some 91) (vals 1)) (some 92) (vals 2)) (some 93) (vals 3)) (some 94) (vals 4)) (some 95) (vals 5)) W
    have hT := hS
    rw [hf 5 (by decide)] at hT
    have HSt1 : Hid (St (fun k => k = pb ∨ k = sb) w c g N w2.heap.size d pb o M sb (ActD.mk sk si sx sf sw) L1 e1 L e W) := hT
    rw [putAll_zero, ev0, ev1, ev2, ev3, ev4, ev5]
    obtain ⟨ws1, rfl⟩ : ∃ v, v = W := ⟨_, rfl⟩
    clear hS hT hG hf ev0 ev1 ev2 ev3 ev4 ev5
    clear vals fq
    go_simp
    go_upto_region 26 with fail
    refine region_ssa2 (fun f W => St (fun k => k = pb ∨ k = sb) w c g N w2.heap.size d pb o M sb (ActD.mk sk si sx sf sw) L1 e1 (bif f 6 then L1 else L) (bif f 6 then e1 else e) W) (fun jq vq wq => (∀ xq, (([some (.pointer (some ⟨d, 0, none⟩)), some (.int .i64 (N : Int)), some (.agg #[.int .i64 sk, .int .i64 si, .int .i64 sx, .bool sf, .bool sw]), some (.int .i64 wd), some (.agg #[.int .i64 sk, .int .i64 si, .int .i64 sx, .bool sf, .bool sw]), some (.int .i64 nm), some (.tuple #[])] : List (Option Value)).getD jq none) = some xq → vq = xq)) (by kernel_rfl) (by kernel_rfl) ?_ ?_ ?_
    · intro fq hf
      exact (by rw [hf 6 (by decide)]; exact (unhide HSt1).below (Below.refl _ _).drew)
    · intro iq op ho fq AQ W hf hdep hS hK hG
      have hlt : iq < 7 := (Array.getElem?_eq_some_iff.1 ho).1
      match iq, hlt with
      | 0, _ =>
        obtain rfl := (Option.some.inj ho).symm
        have d10 : AQ.tmps.getD 10 undef = .pointer (some ⟨d, 0, none⟩) := hK.2.2 10 (by kernel_rfl)
        exact wpOp_val (v := (.pointer (some ⟨d, 0, none⟩))) (w' := W) rfl (wanted_none rfl) (by simp [execOp, Act.eval, d10, go_sem]) ⟨_, rfl, hS, fun _ _ h => h, (by intro x hx; cases hx; rfl)⟩
      | 1, _ =>
        obtain rfl := (Option.some.inj ho).symm
        have d8 : AQ.tmps.getD 8 undef = .int .i64 (N : Int) := hK.2.2 8 (by kernel_rfl)
        exact wpOp_val (v := (.int .i64 (N : Int))) (w' := W) rfl (wanted_none rfl) (by simp [execOp, Act.eval, d8, go_sem]) ⟨_, rfl, hS, fun _ _ h => h, (by intro x hx; cases hx; rfl)⟩
      | 2, _ =>
        obtain rfl := (Option.some.inj ho).symm
        have d16 : AQ.tmps.getD 16 undef = .pointer (some ⟨sb, 0, none⟩) := hK.2.2 16 (by kernel_rfl)
        have m0 := hS.sc.cell 0 _ rfl
        have m1 := hS.sc.cell 1 _ rfl
        have m2 := hS.sc.cell 2 _ rfl
        have m3 := hS.sc.cell 3 _ rfl
        have m4 := hS.sc.cell 4 _ rfl
        exact wpOp_val (v := (.agg #[.int .i64 sk, .int .i64 si, .int .i64 sx, .bool sf, .bool sw])) (w' := W) rfl (wanted_none rfl) (by simp [execOp, Act.eval, d16, m0, m1, m2, m3, m4, go_sem]) ⟨_, rfl, hS, fun _ _ h => h, (by intro x hx; cases hx; rfl)⟩
      | 3, _ =>
        obtain rfl := (Option.some.inj ho).symm
        have d98 : AQ.tmps.getD 98 undef = .agg #[.int .i64 sk, .int .i64 si, .int .i64 sx, .bool sf, .bool sw] := ((hG ⟨2, .data⟩ (by simp) rfl).2 98 rfl) _ rfl
        refine wpOp_call (f := 15) (args := #[.agg #[.int .i64 sk, .int .i64 si, .int .i64 sx, .bool sf, .bool sw]]) (w' := W) rfl (wanted_none rfl) (by simp [execOp, Act.eval, d98, go_sem]) ?_
        refine (unhide KW W).mono ?_
        rintro e9 w9 ⟨rfl, hb⟩
        exact ⟨_, rfl, _, rfl, St.below hS hb, fun _ _ h => h, (by intro x hx; cases hx; rfl)⟩
      | 4, _ =>
        obtain rfl := (Option.some.inj ho).symm
        have d16 : AQ.tmps.getD 16 undef = .pointer (some ⟨sb, 0, none⟩) := hK.2.2 16 (by kernel_rfl)
        have m0 := hS.sc.cell 0 _ rfl
        have m1 := hS.sc.cell 1 _ rfl
        have m2 := hS.sc.cell 2 _ rfl
        have m3 := hS.sc.cell 3 _ rfl
        have m4 := hS.sc.cell 4 _ rfl
        exact wpOp_val (v := (.agg #[.int .i64 sk, .int .i64 si, .int .i64 sx, .bool sf, .bool sw])) (w' := W) rfl (wanted_none rfl) (by simp [execOp, Act.eval, d16, m0, m1, m2, m3, m4, go_sem]) ⟨_, rfl, hS, fun _ _ h => h, (by intro x hx; cases hx; rfl)⟩
      | 5, _ =>
        obtain rfl := (Option.some.inj ho).symm
        have d100 : AQ.tmps.getD 100 undef = .agg #[.int .i64 sk, .int .i64 si, .int .i64 sx, .bool sf, .bool sw] := ((hG ⟨4, .data⟩ (by simp) rfl).2 100 rfl) _ rfl
        refine wpOp_call (f := 16) (args := #[.agg #[.int .i64 sk, .int .i64 si, .int .i64 sx, .bool sf, .bool sw]]) (w' := W) rfl (wanted_none rfl) (by simp [execOp, Act.eval, d100, go_sem]) ?_
        refine (unhide KN W).mono ?_
        rintro e9 w9 ⟨rfl, hb⟩
        exact ⟨_, rfl, _, rfl, St.below hS hb, fun _ _ h => h, (by intro x hx; cases hx; rfl)⟩
      | 6, _ =>
        obtain rfl := (Option.some.inj ho).symm
        have d96 : AQ.tmps.getD 96 undef = .pointer (some ⟨d, 0, none⟩) := ((hG ⟨0, .data⟩ (by simp) rfl).2 96 rfl) _ rfl
        have d97 : AQ.tmps.getD 97 undef = .int .i64 (N : Int) := ((hG ⟨1, .data⟩ (by simp) rfl).2 97 rfl) _ rfl
        have d99 : AQ.tmps.getD 99 undef = .int .i64 wd := ((hG ⟨3, .data⟩ (by simp) rfl).2 99 rfl) _ rfl
        have d101 : AQ.tmps.getD 101 undef = .int .i64 nm := ((hG ⟨5, .data⟩ (by simp) rfl).2 101 rfl) _ rfl
        have h0 : St (fun k => k = pb ∨ k = sb) w c g N w2.heap.size d pb o M sb (ActD.mk sk si sx sf sw) L1 e1 L e W := by
          have h := hS
          rw [hf] at h
          exact h
        refine wpOp_call (f := 17) (args := #[.pointer (some ⟨d, 0, none⟩), .int .i64 0, .int .i64 (N : Int), .int .i64 wd, .int .i64 nm]) (w' := W) rfl (wanted_none rfl) (by simp [execOp, Act.eval, d96, d97, d99, d101, go_sem]) ?_
        refine (rput_any (fun k => k = pb ∨ k = sb) w2.heap.size d N 0 N L e wd nm W h0.both.rg (by omega) (by omega)).mono ?_
        rintro e9 w9 ⟨rfl, hb, hr, hc⟩
        exact ⟨_, rfl, _, rfl, St.stepP (unhide HRk) (.inl rfl) (.inr rfl) h0 hb (by rw [unhide HL1, unhide He1] at hr; exact hr) hc, fun _ _ h => h, (by intro x hx; cases hx; rfl)⟩
    · intro fq W vals hf hS hG
      have ev0 : vals 0 = .pointer (some ⟨d, 0, none⟩) := (hG 0 96 (by decide) rfl) _ rfl
      have ev1 : vals 1 = .int .i64 (N : Int) := (hG 1 97 (by decide) rfl) _ rfl
      have ev2 : vals 2 = .agg #[.int .i64 sk, .int .i64 si, .int .i64 sx, .bool sf, .bool sw] := (hG 2 98 (by decide) rfl) _ rfl
      have ev3 : vals 3 = .int .i64 wd := (hG 3 99 (by decide) rfl) _ rfl
      have ev4 : vals 4 = .agg #[.int .i64 sk, .int .i64 si, .int .i64 sx, .bool sf, .bool sw] := (hG 4 100 (by decide) rfl) _ rfl
      have ev5 : vals 5 = .int .i64 nm := (hG 5 101 (by decide) rfl) _ rfl
      have ev6 : vals 6 = .tuple #[] := (hG 6 102 (by decide) rfl) _ rfl
      change (_ : Exit → Act → World → Prop) Exit.normal (Act.put (Act.put (Act.put (Act.put (Act.put (Act.put (Act.put _ (some 96) (vals 0)) (some 97) (vals 1)) (some 98) (vals 2)) (some 99) (vals 3)) (some 100) (vals 4)) (some 101) (vals 5)) (some 102) (vals 6)) W
      have hT := hS
      rw [hf 6 (by decide)] at hT
      have HSt2 : Hid (St (fun k => k = pb ∨ k = sb) w c g N w2.heap.size d pb o M sb (ActD.mk sk si sx sf sw) L1 e1 L1 e1 W) := hT
      rw [putAll_zero, ev0, ev1, ev2, ev3, ev4, ev5, ev6]
      obtain ⟨ws2, rfl⟩ : ∃ v, v = W := ⟨_, rfl⟩
      clear hS hT hG hf ev0 ev1 ev2 ev3 ev4 ev5 ev6
      clear vals fq
      go_wp2
      exact unhide HK _ _ _ _ _ _ _ _ _ _ _ _ _ _ _ _ _ _ _ _ _ _ _ _ _ _ _ _ _ _ _ _ _ _ _ _ _ _ _ _ _ _ _ _ _ _ _ _ _ _ _ _ _ _ _ _ _ _ _ _ _ _ _ _ _ _ _ _ _ _ _ _ _ _ _ _ _ _ _ L1 e1 ((unhide HSt2).both.other (fun k _ h => .inl h))
end Go.Proofs.Ytbekechjphangaa
