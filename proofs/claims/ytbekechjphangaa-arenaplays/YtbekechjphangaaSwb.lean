/- The acts of ArenaPlays, case by case: 3, 4. -/
import Derived.Test.YtbekechjphangaaSw
namespace Go.Proofs.Ytbekechjphangaa
open Go.RowKit
set_option linter.unusedVariables false

set_option maxRecDepth 100000 in
set_option maxHeartbeats 8000000 in
theorem sw_k3 (w w2 ws : World) (c g N d pb o M sb at_ : Nat) (sk si sx : Int) (sf sw : Bool) (L : List Int) (e wd nm : Int) (i0 : TypeInfo) (Q : Exit → Act → World → Prop) (hN31 : N ≤ 31)
    (HSt0 : Hid (St (fun k => k = pb ∨ k = sb) w c g N w2.heap.size d pb o M sb (ActD.mk sk si sx sf sw) L e L e ws)) (HRk : Hid (Ranks w c g w2.heap.size d pb sb))
    (KW : Hid (∀ W, Calls Try.prog 15 #[.agg #[.int .i64 sk, .int .i64 si, .int .i64 sx, .bool sf, .bool sw]] W fun r w' => r = .returned (.int .i64 wd) ∧ Below W.heap.size W w'))
    (KN : Hid (∀ W, Calls Try.prog 16 #[.agg #[.int .i64 sk, .int .i64 si, .int .i64 sx, .bool sf, .bool sw]] W fun r w' => r = .returned (.int .i64 nm) ∧ Below W.heap.size W w'))
    (HM1 : Hid (at_ + M ≤ N)) (HM2 : Hid (o + M ≤ N)) (HM3 : Hid (0 < M → o = at_)) (HI0 : Hid (Try.prog.info? 3 = some i0 ∧ i0.zero = some (.int .i64 0) ∧ i0.size = 1 ∧ i0.bytes = 8))
    (u0 u1 u2 u3 u4 u5 u6 u7 u14 u15 u18 u19 u20 u21 u22 u23 u24 u25 u26 u27 u28 u29 u30 u31 u32 u33 u34 u35 u36 u37 u38 u39 u40 u41 u42 u43 u44 u45 u46 u47 u48 u49 u50 u51 u52 u53 u54 u55 u56 u57 u58 u59 u60 u61 u62 u63 u64 u65 u66 u67 u68 u69 u70 u71 u72 u73 u74 u75 u76 u77 u78 u80 u81 u82 u83 u84 u85 u86 u87 u88 u89 u90 u91 u92 u93 u94 u95 u96 u97 u98 u99 u100 u101 u102 u103 u104 u105 u106 u107 u108 u109 u110 u111 u112 u113 u114 u115 u116 u117 u118 u119 u120 u121 u122 u123 u124 u125 u126 u127 u128 u129 u130 u131 u132 u133 u134 u135 u136 u137 u138 u139 u140 u141 u142 u143 u144 u145 u146 u147 u148 u149 u150 u151 u152 u153 u154 u155 u156 u157 u158 u159 u160 u161 u162 u163 u164 u165 u166 u167 u168 u169 u170 u171 u172 u173 u174 u175 u176 u177 u178 u179 u180 u181 u182 u183 u184 u185 u186 u187 u188 u189 u190 u191 u192 u193 u194 u195 : Value)
    (hK : ∀ (v80 v81 v82 v83 v84 v85 v86 v87 v88 v89 v90 v91 v92 v93 v94 v95 v96 v97 v98 v99 v100 v101 v102 v103 v104 v105 v106 v107 v108 v109 v110 v111 v112 v113 v114 v115 v116 v117 v118 v119 v120 v121 v122 v123 v124 v125 v126 v127 v128 v129 v130 v131 v132 v133 v134 v135 v136 v137 v138 v139 v140 v141 v142 v143 v144 v145 v146 v147 v148 v149 v150 v151 v152 v153 v154 v155 v156 v157 : Value) (wc : World) (L1 : List Int) (e1 : Int), Hid (Both (fun k => k = pb) w c g N w2.heap.size d pb o M L1 e1 L1 e1 wc) → Q .normal ⟨#[u0, u1, u2, u3, u4, u5, u6, u7, .int .i64 (N : Int), .pointer (some ⟨c, 0, none⟩), .pointer (some ⟨d, 0, none⟩), .int .i64 (at_ : Int), .int .i64 (M : Int), .pointer (some ⟨pb, 0, none⟩), u14, u15, .pointer (some ⟨sb, 0, none⟩), .bool true, u18, u19, u20, u21, u22, u23, u24, u25, u26, u27, u28, u29, u30, u31, u32, u33, u34, u35, u36, u37, u38, u39, u40, u41, u42, u43, u44, u45, u46, u47, u48, u49, u50, u51, u52, u53, u54, u55, u56, u57, u58, u59, u60, u61, u62, u63, u64, u65, u66, u67, u68, u69, u70, u71, u72, u73, u74, u75, u76, u77, u78, .int .i64 3, v80, v81, v82, v83, v84, v85, v86, v87, v88, v89, v90, v91, v92, v93, v94, v95, v96, v97, v98, v99, v100, v101, v102, v103, v104, v105, v106, v107, v108, v109, v110, v111, v112, v113, v114, v115, v116, v117, v118, v119, v120, v121, v122, v123, v124, v125, v126, v127, v128, v129, v130, v131, v132, v133, v134, v135, v136, v137, v138, v139, v140, v141, v142, v143, v144, v145, v146, v147, v148, v149, v150, v151, v152, v153, v154, v155, v156, v157, u158, u159, u160, u161, u162, u163, u164, u165, u166, u167, u168, u169, u170, u171, u172, u173, u174, u175, u176, u177, u178, u179, u180, u181, u182, u183, u184, u185, u186, u187, u188, u189, u190, u191, u192, u193, u194, u195], []⟩ wc) :
    Code.wp Try.prog sw2 Q ⟨#[u0, u1, u2, u3, u4, u5, u6, u7, .int .i64 (N : Int), .pointer (some ⟨c, 0, none⟩), .pointer (some ⟨d, 0, none⟩), .int .i64 (at_ : Int), .int .i64 (M : Int), .pointer (some ⟨pb, 0, none⟩), u14, u15, .pointer (some ⟨sb, 0, none⟩), .bool true, u18, u19, u20, u21, u22, u23, u24, u25, u26, u27, u28, u29, u30, u31, u32, u33, u34, u35, u36, u37, u38, u39, u40, u41, u42, u43, u44, u45, u46, u47, u48, u49, u50, u51, u52, u53, u54, u55, u56, u57, u58, u59, u60, u61, u62, u63, u64, u65, u66, u67, u68, u69, u70, u71, u72, u73, u74, u75, u76, u77, u78, .int .i64 3, u80, u81, u82, u83, u84, u85, u86, u87, u88, u89, u90, u91, u92, u93, u94, u95, u96, u97, u98, u99, u100, u101, u102, u103, u104, u105, u106, u107, u108, u109, u110, u111, u112, u113, u114, u115, u116, u117, u118, u119, u120, u121, u122, u123, u124, u125, u126, u127, u128, u129, u130, u131, u132, u133, u134, u135, u136, u137, u138, u139, u140, u141, u142, u143, u144, u145, u146, u147, u148, u149, u150, u151, u152, u153, u154, u155, u156, u157, u158, u159, u160, u161, u162, u163, u164, u165, u166, u167, u168, u169, u170, u171, u172, u173, u174, u175, u176, u177, u178, u179, u180, u181, u182, u183, u184, u185, u186, u187, u188, u189, u190, u191, u192, u193, u194, u195], []⟩ ws := by
  have HK := hide hK
  clear hK
  conv => arg 2; whnf
  obtain ⟨L1, hL1⟩ : ∃ l, putL L o M wd nm = l := ⟨_, rfl⟩
  obtain ⟨e1, he1⟩ : ∃ l, putE M wd nm e = l := ⟨_, rfl⟩
  have HL1 := hide hL1
  have He1 := hide he1
  clear hL1 he1
  go_upto_region 31 with fail
  refine region_ssa2 (fun f W => St (fun k => k = pb ∨ k = sb) w c g N w2.heap.size d pb o M sb (ActD.mk sk si sx sf sw) (bif f 5 then L1 else L) (bif f 5 then e1 else e) L e W) (fun jq vq wq => (∀ xq, (([some (.pointer (some ⟨pb, 0, none⟩)), some (.agg #[.int .i64 sk, .int .i64 si, .int .i64 sx, .bool sf, .bool sw]), some (.int .i64 wd), some (.agg #[.int .i64 sk, .int .i64 si, .int .i64 sx, .bool sf, .bool sw]), some (.int .i64 nm), some (.tuple #[])] : List (Option Value)).getD jq none) = some xq → vq = xq)) (by kernel_rfl) (by kernel_rfl) ?_ ?_ ?_
  · intro fq hf
    exact (by rw [hf 5 (by decide)]; exact (unhide HSt0).below (Below.refl _ _).drew)
  · intro iq op ho fq AQ W hf hdep hS hK hG
    have hlt : iq < 6 := (Array.getElem?_eq_some_iff.1 ho).1
    match iq, hlt with
    | 0, _ =>
      obtain rfl := (Option.some.inj ho).symm
      have d13 : AQ.tmps.getD 13 undef = .pointer (some ⟨pb, 0, none⟩) := hK.2.2 13 (by kernel_rfl)
      exact wpOp_val (v := (.pointer (some ⟨pb, 0, none⟩))) (w' := W) rfl (wanted_none rfl) (by simp [execOp, Act.eval, d13, go_sem]) ⟨_, rfl, hS, fun _ _ h => h, (by intro x hx; cases hx; rfl)⟩
    | 1, _ =>
      obtain rfl := (Option.some.inj ho).symm
      have d16 : AQ.tmps.getD 16 undef = .pointer (some ⟨sb, 0, none⟩) := hK.2.2 16 (by kernel_rfl)
      have m0 := hS.sc.cell 0 _ rfl
      have m1 := hS.sc.cell 1 _ rfl
      have m2 := hS.sc.cell 2 _ rfl
      have m3 := hS.sc.cell 3 _ rfl
      have m4 := hS.sc.cell 4 _ rfl
      exact wpOp_val (v := (.agg #[.int .i64 sk, .int .i64 si, .int .i64 sx, .bool sf, .bool sw])) (w' := W) rfl (wanted_none rfl) (by simp [execOp, Act.eval, d16, m0, m1, m2, m3, m4, go_sem]) ⟨_, rfl, hS, fun _ _ h => h, (by intro x hx; cases hx; rfl)⟩
    | 2, _ =>
      obtain rfl := (Option.some.inj ho).symm
      have d119 : AQ.tmps.getD 119 undef = .agg #[.int .i64 sk, .int .i64 si, .int .i64 sx, .bool sf, .bool sw] := ((hG ⟨1, .data⟩ (by simp) rfl).2 119 rfl) _ rfl
      refine wpOp_call (f := 15) (args := #[.agg #[.int .i64 sk, .int .i64 si, .int .i64 sx, .bool sf, .bool sw]]) (w' := W) rfl (wanted_none rfl) (by simp [execOp, Act.eval, d119, go_sem]) ?_
      refine (unhide KW W).mono ?_
      rintro e9 w9 ⟨rfl, hb⟩
      exact ⟨_, rfl, _, rfl, St.below hS hb, fun _ _ h => h, (by intro x hx; cases hx; rfl)⟩
    | 3, _ =>
      obtain rfl := (Option.some.inj ho).symm
      have d16 : AQ.tmps.getD 16 undef = .pointer (some ⟨sb, 0, none⟩) := hK.2.2 16 (by kernel_rfl)
      have m0 := hS.sc.cell 0 _ rfl
      have m1 := hS.sc.cell 1 _ rfl
      have m2 := hS.sc.cell 2 _ rfl
      have m3 := hS.sc.cell 3 _ rfl
      have m4 := hS.sc.cell 4 _ rfl
      exact wpOp_val (v := (.agg #[.int .i64 sk, .int .i64 si, .int .i64 sx, .bool sf, .bool sw])) (w' := W) rfl (wanted_none rfl) (by simp [execOp, Act.eval, d16, m0, m1, m2, m3, m4, go_sem]) ⟨_, rfl, hS, fun _ _ h => h, (by intro x hx; cases hx; rfl)⟩
    | 4, _ =>
      obtain rfl := (Option.some.inj ho).symm
      have d121 : AQ.tmps.getD 121 undef = .agg #[.int .i64 sk, .int .i64 si, .int .i64 sx, .bool sf, .bool sw] := ((hG ⟨3, .data⟩ (by simp) rfl).2 121 rfl) _ rfl
      refine wpOp_call (f := 16) (args := #[.agg #[.int .i64 sk, .int .i64 si, .int .i64 sx, .bool sf, .bool sw]]) (w' := W) rfl (wanted_none rfl) (by simp [execOp, Act.eval, d121, go_sem]) ?_
      refine (unhide KN W).mono ?_
      rintro e9 w9 ⟨rfl, hb⟩
      exact ⟨_, rfl, _, rfl, St.below hS hb, fun _ _ h => h, (by intro x hx; cases hx; rfl)⟩
    | 5, _ =>
      obtain rfl := (Option.some.inj ho).symm
      have d118 : AQ.tmps.getD 118 undef = .pointer (some ⟨pb, 0, none⟩) := ((hG ⟨0, .data⟩ (by simp) rfl).2 118 rfl) _ rfl
      have d120 : AQ.tmps.getD 120 undef = .int .i64 wd := ((hG ⟨2, .data⟩ (by simp) rfl).2 120 rfl) _ rfl
      have d122 : AQ.tmps.getD 122 undef = .int .i64 nm := ((hG ⟨4, .data⟩ (by simp) rfl).2 122 rfl) _ rfl
      have h0 : St (fun k => k = pb ∨ k = sb) w c g N w2.heap.size d pb o M sb (ActD.mk sk si sx sf sw) L e L e W := by
        have h := hS
        rw [hf] at h
        exact h
      refine wpOp_call (f := 20) (args := #[.pointer (some ⟨pb, 0, none⟩), .int .i64 wd, .int .i64 nm]) (w' := W) rfl (wanted_none rfl) (by simp [execOp, Act.eval, d118, d120, d122, go_sem]) ?_
      refine (pput_any pb c g o M N L e wd nm W h0.both.pt h0.both.ar (unhide HM2)).mono ?_
      rintro e9 w9 ⟨rfl, ht, ha⟩
      exact ⟨_, rfl, _, rfl, St.stepA (unhide HRk) h0 ht (by rw [unhide HL1, unhide He1] at ha; exact ha), fun _ _ h => h, (by intro x hx; cases hx; rfl)⟩
  · intro fq W vals hf hS hG
    have ev0 : vals 0 = .pointer (some ⟨pb, 0, none⟩) := (hG 0 118 (by decide) rfl) _ rfl
    have ev1 : vals 1 = .agg #[.int .i64 sk, .int .i64 si, .int .i64 sx, .bool sf, .bool sw] := (hG 1 119 (by decide) rfl) _ rfl
    have ev2 : vals 2 = .int .i64 wd := (hG 2 120 (by decide) rfl) _ rfl
    have ev3 : vals 3 = .agg #[.int .i64 sk, .int .i64 si, .int .i64 sx, .bool sf, .bool sw] := (hG 3 121 (by decide) rfl) _ rfl
    have ev4 : vals 4 = .int .i64 nm := (hG 4 122 (by decide) rfl) _ rfl
    have ev5 : vals 5 = .tuple #[] := (hG 5 123 (by decide) rfl) _ rfl
    change (_ : Exit → Act → World → Prop) Exit.normal (Act.put (Act.put (Act.put (Act.put (Act.put (Act.put _ (some 118) (vals 0)) (some 119) (vals 1)) (some 120) (vals 2)) (some 121) (vals 3)) (some 122) (vals 4)) (some 123) (vals 5)) W
    have hT := hS
    rw [hf 5 (by decide)] at hT
    have HSt1 : Hid (St (fun k => k = pb ∨ k = sb) w c g N w2.heap.size d pb o M sb (ActD.mk sk si sx sf sw) L1 e1 L e W) := hT
    rw [putAll_zero, ev0, ev1, ev2, ev3, ev4, ev5]
    obtain ⟨ws1, rfl⟩ : ∃ v, v = W := ⟨_, rfl⟩
    clear hS hT hG hf ev0 ev1 ev2 ev3 ev4 ev5
    clear vals fq
    go_simp
    go_upto_region 32 with fail
    refine region_ssa2 (fun f W => St (fun k => k = pb ∨ k = sb) w c g N w2.heap.size d pb o M sb (ActD.mk sk si sx sf sw) L1 e1 (bif f 7 then L1 else L) (bif f 7 then e1 else e) W) (fun jq vq wq => (∀ xq, (([some (.pointer (some ⟨d, 0, none⟩)), some (.int .i64 (at_ : Int)), some (.int .i64 (M : Int)), some (.agg #[.int .i64 sk, .int .i64 si, .int .i64 sx, .bool sf, .bool sw]), some (.int .i64 wd), some (.agg #[.int .i64 sk, .int .i64 si, .int .i64 sx, .bool sf, .bool sw]), some (.int .i64 nm), some (.tuple #[])] : List (Option Value)).getD jq none) = some xq → vq = xq)) (by kernel_rfl) (by kernel_rfl) ?_ ?_ ?_
    · intro fq hf
      exact (by rw [hf 7 (by decide)]; exact (unhide HSt1).below (Below.refl _ _).drew)
    · intro iq op ho fq AQ W hf hdep hS hK hG
      have hlt : iq < 8 := (Array.getElem?_eq_some_iff.1 ho).1
      match iq, hlt with
      | 0, _ =>
        obtain rfl := (Option.some.inj ho).symm
        have d10 : AQ.tmps.getD 10 undef = .pointer (some ⟨d, 0, none⟩) := hK.2.2 10 (by kernel_rfl)
        exact wpOp_val (v := (.pointer (some ⟨d, 0, none⟩))) (w' := W) rfl (wanted_none rfl) (by simp [execOp, Act.eval, d10, go_sem]) ⟨_, rfl, hS, fun _ _ h => h, (by intro x hx; cases hx; rfl)⟩
      | 1, _ =>
        obtain rfl := (Option.some.inj ho).symm
        have d11 : AQ.tmps.getD 11 undef = .int .i64 (at_ : Int) := hK.2.2 11 (by kernel_rfl)
        exact wpOp_val (v := (.int .i64 (at_ : Int))) (w' := W) rfl (wanted_none rfl) (by simp [execOp, Act.eval, d11, go_sem]) ⟨_, rfl, hS, fun _ _ h => h, (by intro x hx; cases hx; rfl)⟩
      | 2, _ =>
        obtain rfl := (Option.some.inj ho).symm
        have d12 : AQ.tmps.getD 12 undef = .int .i64 (M : Int) := hK.2.2 12 (by kernel_rfl)
        exact wpOp_val (v := (.int .i64 (M : Int))) (w' := W) rfl (wanted_none rfl) (by simp [execOp, Act.eval, d12, go_sem]) ⟨_, rfl, hS, fun _ _ h => h, (by intro x hx; cases hx; rfl)⟩
      | 3, _ =>
        obtain rfl := (Option.some.inj ho).symm
        have d16 : AQ.tmps.getD 16 undef = .pointer (some ⟨sb, 0, none⟩) := hK.2.2 16 (by kernel_rfl)
        have m0 := hS.sc.cell 0 _ rfl
        have m1 := hS.sc.cell 1 _ rfl
        have m2 := hS.sc.cell 2 _ rfl
        have m3 := hS.sc.cell 3 _ rfl
        have m4 := hS.sc.cell 4 _ rfl
        exact wpOp_val (v := (.agg #[.int .i64 sk, .int .i64 si, .int .i64 sx, .bool sf, .bool sw])) (w' := W) rfl (wanted_none rfl) (by simp [execOp, Act.eval, d16, m0, m1, m2, m3, m4, go_sem]) ⟨_, rfl, hS, fun _ _ h => h, (by intro x hx; cases hx; rfl)⟩
      | 4, _ =>
        obtain rfl := (Option.some.inj ho).symm
        have d127 : AQ.tmps.getD 127 undef = .agg #[.int .i64 sk, .int .i64 si, .int .i64 sx, .bool sf, .bool sw] := ((hG ⟨3, .data⟩ (by simp) rfl).2 127 rfl) _ rfl
        refine wpOp_call (f := 15) (args := #[.agg #[.int .i64 sk, .int .i64 si, .int .i64 sx, .bool sf, .bool sw]]) (w' := W) rfl (wanted_none rfl) (by simp [execOp, Act.eval, d127, go_sem]) ?_
        refine (unhide KW W).mono ?_
        rintro e9 w9 ⟨rfl, hb⟩
        exact ⟨_, rfl, _, rfl, St.below hS hb, fun _ _ h => h, (by intro x hx; cases hx; rfl)⟩
      | 5, _ =>
        obtain rfl := (Option.some.inj ho).symm
        have d16 : AQ.tmps.getD 16 undef = .pointer (some ⟨sb, 0, none⟩) := hK.2.2 16 (by kernel_rfl)
        have m0 := hS.sc.cell 0 _ rfl
        have m1 := hS.sc.cell 1 _ rfl
        have m2 := hS.sc.cell 2 _ rfl
        have m3 := hS.sc.cell 3 _ rfl
        have m4 := hS.sc.cell 4 _ rfl
        exact wpOp_val (v := (.agg #[.int .i64 sk, .int .i64 si, .int .i64 sx, .bool sf, .bool sw])) (w' := W) rfl (wanted_none rfl) (by simp [execOp, Act.eval, d16, m0, m1, m2, m3, m4, go_sem]) ⟨_, rfl, hS, fun _ _ h => h, (by intro x hx; cases hx; rfl)⟩
      | 6, _ =>
        obtain rfl := (Option.some.inj ho).symm
        have d129 : AQ.tmps.getD 129 undef = .agg #[.int .i64 sk, .int .i64 si, .int .i64 sx, .bool sf, .bool sw] := ((hG ⟨5, .data⟩ (by simp) rfl).2 129 rfl) _ rfl
        refine wpOp_call (f := 16) (args := #[.agg #[.int .i64 sk, .int .i64 si, .int .i64 sx, .bool sf, .bool sw]]) (w' := W) rfl (wanted_none rfl) (by simp [execOp, Act.eval, d129, go_sem]) ?_
        refine (unhide KN W).mono ?_
        rintro e9 w9 ⟨rfl, hb⟩
        exact ⟨_, rfl, _, rfl, St.below hS hb, fun _ _ h => h, (by intro x hx; cases hx; rfl)⟩
      | 7, _ =>
        obtain rfl := (Option.some.inj ho).symm
        have d124 : AQ.tmps.getD 124 undef = .pointer (some ⟨d, 0, none⟩) := ((hG ⟨0, .data⟩ (by simp) rfl).2 124 rfl) _ rfl
        have d125 : AQ.tmps.getD 125 undef = .int .i64 (at_ : Int) := ((hG ⟨1, .data⟩ (by simp) rfl).2 125 rfl) _ rfl
        have d126 : AQ.tmps.getD 126 undef = .int .i64 (M : Int) := ((hG ⟨2, .data⟩ (by simp) rfl).2 126 rfl) _ rfl
        have d128 : AQ.tmps.getD 128 undef = .int .i64 wd := ((hG ⟨4, .data⟩ (by simp) rfl).2 128 rfl) _ rfl
        have d130 : AQ.tmps.getD 130 undef = .int .i64 nm := ((hG ⟨6, .data⟩ (by simp) rfl).2 130 rfl) _ rfl
        have hq : putL L at_ M wd nm = L1 := by rw [← putL_off (unhide HM3)]; exact unhide HL1
        have h0 : St (fun k => k = pb ∨ k = sb) w c g N w2.heap.size d pb o M sb (ActD.mk sk si sx sf sw) L1 e1 L e W := by
          have h := hS
          rw [hf] at h
          exact h
        refine wpOp_call (f := 17) (args := #[.pointer (some ⟨d, 0, none⟩), .int .i64 (at_ : Int), .int .i64 (M : Int), .int .i64 wd, .int .i64 nm]) (w' := W) rfl (wanted_none rfl) (by simp [execOp, Act.eval, d124, d125, d126, d128, d130, go_sem]) ?_
        refine (rput_any (fun k => k = pb ∨ k = sb) w2.heap.size d N at_ M L e wd nm W h0.both.rg (unhide HM1) (by omega)).mono ?_
        rintro e9 w9 ⟨rfl, hb, hr, hc⟩
        exact ⟨_, rfl, _, rfl, St.stepP (unhide HRk) (.inl rfl) (.inr rfl) h0 hb (by rw [hq, unhide He1] at hr; exact hr) hc, fun _ _ h => h, (by intro x hx; cases hx; rfl)⟩
    · intro fq W vals hf hS hG
      have ev0 : vals 0 = .pointer (some ⟨d, 0, none⟩) := (hG 0 124 (by decide) rfl) _ rfl
      have ev1 : vals 1 = .int .i64 (at_ : Int) := (hG 1 125 (by decide) rfl) _ rfl
      have ev2 : vals 2 = .int .i64 (M : Int) := (hG 2 126 (by decide) rfl) _ rfl
      have ev3 : vals 3 = .agg #[.int .i64 sk, .int .i64 si, .int .i64 sx, .bool sf, .bool sw] := (hG 3 127 (by decide) rfl) _ rfl
      have ev4 : vals 4 = .int .i64 wd := (hG 4 128 (by decide) rfl) _ rfl
      have ev5 : vals 5 = .agg #[.int .i64 sk, .int .i64 si, .int .i64 sx, .bool sf, .bool sw] := (hG 5 129 (by decide) rfl) _ rfl
      have ev6 : vals 6 = .int .i64 nm := (hG 6 130 (by decide) rfl) _ rfl
      have ev7 : vals 7 = .tuple #[] := (hG 7 131 (by decide) rfl) _ rfl
      change (_ : Exit → Act → World → Prop) Exit.normal (Act.put (Act.put (Act.put (Act.put (Act.put (Act.put (Act.put (Act.put _ (some 124) (vals 0)) (some 125) (vals 1)) (some 126) (vals 2)) (some 127) (vals 3)) (some 128) (vals 4)) (some 129) (vals 5)) (some 130) (vals 6)) (some 131) (vals 7)) W
      have hT := hS
      rw [hf 7 (by decide)] at hT
      have HSt2 : Hid (St (fun k => k = pb ∨ k = sb) w c g N w2.heap.size d pb o M sb (ActD.mk sk si sx sf sw) L1 e1 L1 e1 W) := hT
      rw [putAll_zero, ev0, ev1, ev2, ev3, ev4, ev5, ev6, ev7]
      obtain ⟨ws2, rfl⟩ : ∃ v, v = W := ⟨_, rfl⟩
      clear hS hT hG hf ev0 ev1 ev2 ev3 ev4 ev5 ev6 ev7
      clear vals fq
      go_wp2
      exact unhide HK _ _ _ _ _ _ _ _ _ _ _ _ _ _ _ _ _ _ _ _ _ _ _ _ _ _ _ _ _ _ _ _ _ _ _ _ _ _ _ _ _ _ _ _ _ _ _ _ _ _ _ _ _ _ _ _ _ _ _ _ _ _ _ _ _ _ _ _ _ _ _ _ _ _ _ _ _ _ _ L1 e1 ((unhide HSt2).both.other (fun k _ h => .inl h))

set_option maxRecDepth 100000 in
set_option maxHeartbeats 8000000 in
theorem sw_k4 (w w2 ws : World) (c g N d pb o M sb at_ : Nat) (sk si sx : Int) (sf sw : Bool) (L : List Int) (e wd nm : Int) (i0 : TypeInfo) (Q : Exit → Act → World → Prop) (hN31 : N ≤ 31)
    (HSt0 : Hid (St (fun k => k = pb ∨ k = sb) w c g N w2.heap.size d pb o M sb (ActD.mk sk si sx sf sw) L e L e ws)) (HRk : Hid (Ranks w c g w2.heap.size d pb sb))
    (KW : Hid (∀ W, Calls Try.prog 15 #[.agg #[.int .i64 sk, .int .i64 si, .int .i64 sx, .bool sf, .bool sw]] W fun r w' => r = .returned (.int .i64 wd) ∧ Below W.heap.size W w'))
    (KN : Hid (∀ W, Calls Try.prog 16 #[.agg #[.int .i64 sk, .int .i64 si, .int .i64 sx, .bool sf, .bool sw]] W fun r w' => r = .returned (.int .i64 nm) ∧ Below W.heap.size W w'))
    (HM1 : Hid (at_ + M ≤ N)) (HM2 : Hid (o + M ≤ N)) (HM3 : Hid (0 < M → o = at_)) (HI0 : Hid (Try.prog.info? 3 = some i0 ∧ i0.zero = some (.int .i64 0) ∧ i0.size = 1 ∧ i0.bytes = 8))
    (u0 u1 u2 u3 u4 u5 u6 u7 u14 u15 u18 u19 u20 u21 u22 u23 u24 u25 u26 u27 u28 u29 u30 u31 u32 u33 u34 u35 u36 u37 u38 u39 u40 u41 u42 u43 u44 u45 u46 u47 u48 u49 u50 u51 u52 u53 u54 u55 u56 u57 u58 u59 u60 u61 u62 u63 u64 u65 u66 u67 u68 u69 u70 u71 u72 u73 u74 u75 u76 u77 u78 u80 u81 u82 u83 u84 u85 u86 u87 u88 u89 u90 u91 u92 u93 u94 u95 u96 u97 u98 u99 u100 u101 u102 u103 u104 u105 u106 u107 u108 u109 u110 u111 u112 u113 u114 u115 u116 u117 u118 u119 u120 u121 u122 u123 u124 u125 u126 u127 u128 u129 u130 u131 u132 u133 u134 u135 u136 u137 u138 u139 u140 u141 u142 u143 u144 u145 u146 u147 u148 u149 u150 u151 u152 u153 u154 u155 u156 u157 u158 u159 u160 u161 u162 u163 u164 u165 u166 u167 u168 u169 u170 u171 u172 u173 u174 u175 u176 u177 u178 u179 u180 u181 u182 u183 u184 u185 u186 u187 u188 u189 u190 u191 u192 u193 u194 u195 : Value)
    (hK : ∀ (v80 v81 v82 v83 v84 v85 v86 v87 v88 v89 v90 v91 v92 v93 v94 v95 v96 v97 v98 v99 v100 v101 v102 v103 v104 v105 v106 v107 v108 v109 v110 v111 v112 v113 v114 v115 v116 v117 v118 v119 v120 v121 v122 v123 v124 v125 v126 v127 v128 v129 v130 v131 v132 v133 v134 v135 v136 v137 v138 v139 v140 v141 v142 v143 v144 v145 v146 v147 v148 v149 v150 v151 v152 v153 v154 v155 v156 v157 : Value) (wc : World) (L1 : List Int) (e1 : Int), Hid (Both (fun k => k = pb) w c g N w2.heap.size d pb o M L1 e1 L1 e1 wc) → Q .normal ⟨#[u0, u1, u2, u3, u4, u5, u6, u7, .int .i64 (N : Int), .pointer (some ⟨c, 0, none⟩), .pointer (some ⟨d, 0, none⟩), .int .i64 (at_ : Int), .int .i64 (M : Int), .pointer (some ⟨pb, 0, none⟩), u14, u15, .pointer (some ⟨sb, 0, none⟩), .bool true, u18, u19, u20, u21, u22, u23, u24, u25, u26, u27, u28, u29, u30, u31, u32, u33, u34, u35, u36, u37, u38, u39, u40, u41, u42, u43, u44, u45, u46, u47, u48, u49, u50, u51, u52, u53, u54, u55, u56, u57, u58, u59, u60, u61, u62, u63, u64, u65, u66, u67, u68, u69, u70, u71, u72, u73, u74, u75, u76, u77, u78, .int .i64 4, v80, v81, v82, v83, v84, v85, v86, v87, v88, v89, v90, v91, v92, v93, v94, v95, v96, v97, v98, v99, v100, v101, v102, v103, v104, v105, v106, v107, v108, v109, v110, v111, v112, v113, v114, v115, v116, v117, v118, v119, v120, v121, v122, v123, v124, v125, v126, v127, v128, v129, v130, v131, v132, v133, v134, v135, v136, v137, v138, v139, v140, v141, v142, v143, v144, v145, v146, v147, v148, v149, v150, v151, v152, v153, v154, v155, v156, v157, u158, u159, u160, u161, u162, u163, u164, u165, u166, u167, u168, u169, u170, u171, u172, u173, u174, u175, u176, u177, u178, u179, u180, u181, u182, u183, u184, u185, u186, u187, u188, u189, u190, u191, u192, u193, u194, u195], []⟩ wc) :
    Code.wp Try.prog sw2 Q ⟨#[u0, u1, u2, u3, u4, u5, u6, u7, .int .i64 (N : Int), .pointer (some ⟨c, 0, none⟩), .pointer (some ⟨d, 0, none⟩), .int .i64 (at_ : Int), .int .i64 (M : Int), .pointer (some ⟨pb, 0, none⟩), u14, u15, .pointer (some ⟨sb, 0, none⟩), .bool true, u18, u19, u20, u21, u22, u23, u24, u25, u26, u27, u28, u29, u30, u31, u32, u33, u34, u35, u36, u37, u38, u39, u40, u41, u42, u43, u44, u45, u46, u47, u48, u49, u50, u51, u52, u53, u54, u55, u56, u57, u58, u59, u60, u61, u62, u63, u64, u65, u66, u67, u68, u69, u70, u71, u72, u73, u74, u75, u76, u77, u78, .int .i64 4, u80, u81, u82, u83, u84, u85, u86, u87, u88, u89, u90, u91, u92, u93, u94, u95, u96, u97, u98, u99, u100, u101, u102, u103, u104, u105, u106, u107, u108, u109, u110, u111, u112, u113, u114, u115, u116, u117, u118, u119, u120, u121, u122, u123, u124, u125, u126, u127, u128, u129, u130, u131, u132, u133, u134, u135, u136, u137, u138, u139, u140, u141, u142, u143, u144, u145, u146, u147, u148, u149, u150, u151, u152, u153, u154, u155, u156, u157, u158, u159, u160, u161, u162, u163, u164, u165, u166, u167, u168, u169, u170, u171, u172, u173, u174, u175, u176, u177, u178, u179, u180, u181, u182, u183, u184, u185, u186, u187, u188, u189, u190, u191, u192, u193, u194, u195], []⟩ ws := by
  have HK := hide hK
  clear hK
  conv => arg 2; whnf
  obtain ⟨L1, hL1⟩ : ∃ l, putL L o M wd nm = l := ⟨_, rfl⟩
  obtain ⟨e1, he1⟩ : ∃ l, putE M wd nm e = l := ⟨_, rfl⟩
  have HL1 := hide hL1
  have He1 := hide he1
  clear hL1 he1
  go_upto_region 31 with fail
  refine region_ssa2 (fun f W => St (fun k => k = pb ∨ k = sb) w c g N w2.heap.size d pb o M sb (ActD.mk sk si sx sf sw) (bif f 5 then L1 else L) (bif f 5 then e1 else e) L e W) (fun jq vq wq => (∀ xq, (([some (.pointer (some ⟨pb, 0, none⟩)), some (.agg #[.int .i64 sk, .int .i64 si, .int .i64 sx, .bool sf, .bool sw]), some (.int .i64 wd), some (.agg #[.int .i64 sk, .int .i64 si, .int .i64 sx, .bool sf, .bool sw]), some (.int .i64 nm), some (.tuple #[])] : List (Option Value)).getD jq none) = some xq → vq = xq)) (by kernel_rfl) (by kernel_rfl) ?_ ?_ ?_
  · intro fq hf
    exact (by rw [hf 5 (by decide)]; exact (unhide HSt0).below (Below.refl _ _).drew)
  · intro iq op ho fq AQ W hf hdep hS hK hG
    have hlt : iq < 6 := (Array.getElem?_eq_some_iff.1 ho).1
    match iq, hlt with
    | 0, _ =>
      obtain rfl := (Option.some.inj ho).symm
      have d13 : AQ.tmps.getD 13 undef = .pointer (some ⟨pb, 0, none⟩) := hK.2.2 13 (by kernel_rfl)
      exact wpOp_val (v := (.pointer (some ⟨pb, 0, none⟩))) (w' := W) rfl (wanted_none rfl) (by simp [execOp, Act.eval, d13, go_sem]) ⟨_, rfl, hS, fun _ _ h => h, (by intro x hx; cases hx; rfl)⟩
    | 1, _ =>
      obtain rfl := (Option.some.inj ho).symm
      have d16 : AQ.tmps.getD 16 undef = .pointer (some ⟨sb, 0, none⟩) := hK.2.2 16 (by kernel_rfl)
      have m0 := hS.sc.cell 0 _ rfl
      have m1 := hS.sc.cell 1 _ rfl
      have m2 := hS.sc.cell 2 _ rfl
      have m3 := hS.sc.cell 3 _ rfl
      have m4 := hS.sc.cell 4 _ rfl
      exact wpOp_val (v := (.agg #[.int .i64 sk, .int .i64 si, .int .i64 sx, .bool sf, .bool sw])) (w' := W) rfl (wanted_none rfl) (by simp [execOp, Act.eval, d16, m0, m1, m2, m3, m4, go_sem]) ⟨_, rfl, hS, fun _ _ h => h, (by intro x hx; cases hx; rfl)⟩
    | 2, _ =>
      obtain rfl := (Option.some.inj ho).symm
      have d119 : AQ.tmps.getD 119 undef = .agg #[.int .i64 sk, .int .i64 si, .int .i64 sx, .bool sf, .bool sw] := ((hG ⟨1, .data⟩ (by simp) rfl).2 119 rfl) _ rfl
      refine wpOp_call (f := 15) (args := #[.agg #[.int .i64 sk, .int .i64 si, .int .i64 sx, .bool sf, .bool sw]]) (w' := W) rfl (wanted_none rfl) (by simp [execOp, Act.eval, d119, go_sem]) ?_
      refine (unhide KW W).mono ?_
      rintro e9 w9 ⟨rfl, hb⟩
      exact ⟨_, rfl, _, rfl, St.below hS hb, fun _ _ h => h, (by intro x hx; cases hx; rfl)⟩
    | 3, _ =>
      obtain rfl := (Option.some.inj ho).symm
      have d16 : AQ.tmps.getD 16 undef = .pointer (some ⟨sb, 0, none⟩) := hK.2.2 16 (by kernel_rfl)
      have m0 := hS.sc.cell 0 _ rfl
      have m1 := hS.sc.cell 1 _ rfl
      have m2 := hS.sc.cell 2 _ rfl
      have m3 := hS.sc.cell 3 _ rfl
      have m4 := hS.sc.cell 4 _ rfl
      exact wpOp_val (v := (.agg #[.int .i64 sk, .int .i64 si, .int .i64 sx, .bool sf, .bool sw])) (w' := W) rfl (wanted_none rfl) (by simp [execOp, Act.eval, d16, m0, m1, m2, m3, m4, go_sem]) ⟨_, rfl, hS, fun _ _ h => h, (by intro x hx; cases hx; rfl)⟩
    | 4, _ =>
      obtain rfl := (Option.some.inj ho).symm
      have d121 : AQ.tmps.getD 121 undef = .agg #[.int .i64 sk, .int .i64 si, .int .i64 sx, .bool sf, .bool sw] := ((hG ⟨3, .data⟩ (by simp) rfl).2 121 rfl) _ rfl
      refine wpOp_call (f := 16) (args := #[.agg #[.int .i64 sk, .int .i64 si, .int .i64 sx, .bool sf, .bool sw]]) (w' := W) rfl (wanted_none rfl) (by simp [execOp, Act.eval, d121, go_sem]) ?_
      refine (unhide KN W).mono ?_
      rintro e9 w9 ⟨rfl, hb⟩
      exact ⟨_, rfl, _, rfl, St.below hS hb, fun _ _ h => h, (by intro x hx; cases hx; rfl)⟩
    | 5, _ =>
      obtain rfl := (Option.some.inj ho).symm
      have d118 : AQ.tmps.getD 118 undef = .pointer (some ⟨pb, 0, none⟩) := ((hG ⟨0, .data⟩ (by simp) rfl).2 118 rfl) _ rfl
      have d120 : AQ.tmps.getD 120 undef = .int .i64 wd := ((hG ⟨2, .data⟩ (by simp) rfl).2 120 rfl) _ rfl
      have d122 : AQ.tmps.getD 122 undef = .int .i64 nm := ((hG ⟨4, .data⟩ (by simp) rfl).2 122 rfl) _ rfl
      have h0 : St (fun k => k = pb ∨ k = sb) w c g N w2.heap.size d pb o M sb (ActD.mk sk si sx sf sw) L e L e W := by
        have h := hS
        rw [hf] at h
        exact h
      refine wpOp_call (f := 20) (args := #[.pointer (some ⟨pb, 0, none⟩), .int .i64 wd, .int .i64 nm]) (w' := W) rfl (wanted_none rfl) (by simp [execOp, Act.eval, d118, d120, d122, go_sem]) ?_
      refine (pput_any pb c g o M N L e wd nm W h0.both.pt h0.both.ar (unhide HM2)).mono ?_
      rintro e9 w9 ⟨rfl, ht, ha⟩
      exact ⟨_, rfl, _, rfl, St.stepA (unhide HRk) h0 ht (by rw [unhide HL1, unhide He1] at ha; exact ha), fun _ _ h => h, (by intro x hx; cases hx; rfl)⟩
  · intro fq W vals hf hS hG
    have ev0 : vals 0 = .pointer (some ⟨pb, 0, none⟩) := (hG 0 118 (by decide) rfl) _ rfl
    have ev1 : vals 1 = .agg #[.int .i64 sk, .int .i64 si, .int .i64 sx, .bool sf, .bool sw] := (hG 1 119 (by decide) rfl) _ rfl
    have ev2 : vals 2 = .int .i64 wd := (hG 2 120 (by decide) rfl) _ rfl
    have ev3 : vals 3 = .agg #[.int .i64 sk, .int .i64 si, .int .i64 sx, .bool sf, .bool sw] := (hG 3 121 (by decide) rfl) _ rfl
    have ev4 : vals 4 = .int .i64 nm := (hG 4 122 (by decide) rfl) _ rfl
    have ev5 : vals 5 = .tuple #[] := (hG 5 123 (by decide) rfl) _ rfl
    change (_ : Exit → Act → World → Prop) Exit.normal (Act.put (Act.put (Act.put (Act.put (Act.put (Act.put _ (some 118) (vals 0)) (some 119) (vals 1)) (some 120) (vals 2)) (some 121) (vals 3)) (some 122) (vals 4)) (some 123) (vals 5)) W
    have hT := hS
    rw [hf 5 (by decide)] at hT
    have HSt1 : Hid (St (fun k => k = pb ∨ k = sb) w c g N w2.heap.size d pb o M sb (ActD.mk sk si sx sf sw) L1 e1 L e W) := hT
    rw [putAll_zero, ev0, ev1, ev2, ev3, ev4, ev5]
    obtain ⟨ws1, rfl⟩ : ∃ v, v = W := ⟨_, rfl⟩
    clear hS hT hG hf ev0 ev1 ev2 ev3 ev4 ev5
    clear vals fq
    go_simp
    go_upto_region 32 with fail
    refine region_ssa2 (fun f W => St (fun k => k = pb ∨ k = sb) w c g N w2.heap.size d pb o M sb (ActD.mk sk si sx sf sw) L1 e1 (bif f 7 then L1 else L) (bif f 7 then e1 else e) W) (fun jq vq wq => (∀ xq, (([some (.pointer (some ⟨d, 0, none⟩)), some (.int .i64 (at_ : Int)), some (.int .i64 (M : Int)), some (.agg #[.int .i64 sk, .int .i64 si, .int .i64 sx, .bool sf, .bool sw]), some (.int .i64 wd), some (.agg #[.int .i64 sk, .int .i64 si, .int .i64 sx, .bool sf, .bool sw]), some (.int .i64 nm), some (.tuple #[])] : List (Option Value)).getD jq none) = some xq → vq = xq)) (by kernel_rfl) (by kernel_rfl) ?_ ?_ ?_
    · intro fq hf
      exact (by rw [hf 7 (by decide)]; exact (unhide HSt1).below (Below.refl _ _).drew)
    · intro iq op ho fq AQ W hf hdep hS hK hG
      have hlt : iq < 8 := (Array.getElem?_eq_some_iff.1 ho).1
      match iq, hlt with
      | 0, _ =>
        obtain rfl := (Option.some.inj ho).symm
        have d10 : AQ.tmps.getD 10 undef = .pointer (some ⟨d, 0, none⟩) := hK.2.2 10 (by kernel_rfl)
        exact wpOp_val (v := (.pointer (some ⟨d, 0, none⟩))) (w' := W) rfl (wanted_none rfl) (by simp [execOp, Act.eval, d10, go_sem]) ⟨_, rfl, hS, fun _ _ h => h, (by intro x hx; cases hx; rfl)⟩
      | 1, _ =>
        obtain rfl := (Option.some.inj ho).symm
        have d11 : AQ.tmps.getD 11 undef = .int .i64 (at_ : Int) := hK.2.2 11 (by kernel_rfl)
        exact wpOp_val (v := (.int .i64 (at_ : Int))) (w' := W) rfl (wanted_none rfl) (by simp [execOp, Act.eval, d11, go_sem]) ⟨_, rfl, hS, fun _ _ h => h, (by intro x hx; cases hx; rfl)⟩
      | 2, _ =>
        obtain rfl := (Option.some.inj ho).symm
        have d12 : AQ.tmps.getD 12 undef = .int .i64 (M : Int) := hK.2.2 12 (by kernel_rfl)
        exact wpOp_val (v := (.int .i64 (M : Int))) (w' := W) rfl (wanted_none rfl) (by simp [execOp, Act.eval, d12, go_sem]) ⟨_, rfl, hS, fun _ _ h => h, (by intro x hx; cases hx; rfl)⟩
      | 3, _ =>
        obtain rfl := (Option.some.inj ho).symm
        have d16 : AQ.tmps.getD 16 undef = .pointer (some ⟨sb, 0, none⟩) := hK.2.2 16 (by kernel_rfl)
        have m0 := hS.sc.cell 0 _ rfl
        have m1 := hS.sc.cell 1 _ rfl
        have m2 := hS.sc.cell 2 _ rfl
        have m3 := hS.sc.cell 3 _ rfl
        have m4 := hS.sc.cell 4 _ rfl
        exact wpOp_val (v := (.agg #[.int .i64 sk, .int .i64 si, .int .i64 sx, .bool sf, .bool sw])) (w' := W) rfl (wanted_none rfl) (by simp [execOp, Act.eval, d16, m0, m1, m2, m3, m4, go_sem]) ⟨_, rfl, hS, fun _ _ h => h, (by intro x hx; cases hx; rfl)⟩
      | 4, _ =>
        obtain rfl := (Option.some.inj ho).symm
        have d127 : AQ.tmps.getD 127 undef = .agg #[.int .i64 sk, .int .i64 si, .int .i64 sx, .bool sf, .bool sw] := ((hG ⟨3, .data⟩ (by simp) rfl).2 127 rfl) _ rfl
        refine wpOp_call (f := 15) (args := #[.agg #[.int .i64 sk, .int .i64 si, .int .i64 sx, .bool sf, .bool sw]]) (w' := W) rfl (wanted_none rfl) (by simp [execOp, Act.eval, d127, go_sem]) ?_
        refine (unhide KW W).mono ?_
        rintro e9 w9 ⟨rfl, hb⟩
        exact ⟨_, rfl, _, rfl, St.below hS hb, fun _ _ h => h, (by intro x hx; cases hx; rfl)⟩
      | 5, _ =>
        obtain rfl := (Option.some.inj ho).symm
        have d16 : AQ.tmps.getD 16 undef = .pointer (some ⟨sb, 0, none⟩) := hK.2.2 16 (by kernel_rfl)
        have m0 := hS.sc.cell 0 _ rfl
        have m1 := hS.sc.cell 1 _ rfl
        have m2 := hS.sc.cell 2 _ rfl
        have m3 := hS.sc.cell 3 _ rfl
        have m4 := hS.sc.cell 4 _ rfl
        exact wpOp_val (v := (.agg #[.int .i64 sk, .int .i64 si, .int .i64 sx, .bool sf, .bool sw])) (w' := W) rfl (wanted_none rfl) (by simp [execOp, Act.eval, d16, m0, m1, m2, m3, m4, go_sem]) ⟨_, rfl, hS, fun _ _ h => h, (by intro x hx; cases hx; rfl)⟩
      | 6, _ =>
        obtain rfl := (Option.some.inj ho).symm
        have d129 : AQ.tmps.getD 129 undef = .agg #[.int .i64 sk, .int .i64 si, .int .i64 sx, .bool sf, .bool sw] := ((hG ⟨5, .data⟩ (by simp) rfl).2 129 rfl) _ rfl
        refine wpOp_call (f := 16) (args := #[.agg #[.int .i64 sk, .int .i64 si, .int .i64 sx, .bool sf, .bool sw]]) (w' := W) rfl (wanted_none rfl) (by simp [execOp, Act.eval, d129, go_sem]) ?_
        refine (unhide KN W).mono ?_
        rintro e9 w9 ⟨rfl, hb⟩
        exact ⟨_, rfl, _, rfl, St.below hS hb, fun _ _ h => h, (by intro x hx; cases hx; rfl)⟩
      | 7, _ =>
        obtain rfl := (Option.some.inj ho).symm
        have d124 : AQ.tmps.getD 124 undef = .pointer (some ⟨d, 0, none⟩) := ((hG ⟨0, .data⟩ (by simp) rfl).2 124 rfl) _ rfl
        have d125 : AQ.tmps.getD 125 undef = .int .i64 (at_ : Int) := ((hG ⟨1, .data⟩ (by simp) rfl).2 125 rfl) _ rfl
        have d126 : AQ.tmps.getD 126 undef = .int .i64 (M : Int) := ((hG ⟨2, .data⟩ (by simp) rfl).2 126 rfl) _ rfl
        have d128 : AQ.tmps.getD 128 undef = .int .i64 wd := ((hG ⟨4, .data⟩ (by simp) rfl).2 128 rfl) _ rfl
        have d130 : AQ.tmps.getD 130 undef = .int .i64 nm := ((hG ⟨6, .data⟩ (by simp) rfl).2 130 rfl) _ rfl
        have hq : putL L at_ M wd nm = L1 := by rw [← putL_off (unhide HM3)]; exact unhide HL1
        have h0 : St (fun k => k = pb ∨ k = sb) w c g N w2.heap.size d pb o M sb (ActD.mk sk si sx sf sw) L1 e1 L e W := by
          have h := hS
          rw [hf] at h
          exact h
        refine wpOp_call (f := 17) (args := #[.pointer (some ⟨d, 0, none⟩), .int .i64 (at_ : Int), .int .i64 (M : Int), .int .i64 wd, .int .i64 nm]) (w' := W) rfl (wanted_none rfl) (by simp [execOp, Act.eval, d124, d125, d126, d128, d130, go_sem]) ?_
        refine (rput_any (fun k => k = pb ∨ k = sb) w2.heap.size d N at_ M L e wd nm W h0.both.rg (unhide HM1) (by omega)).mono ?_
        rintro e9 w9 ⟨rfl, hb, hr, hc⟩
        exact ⟨_, rfl, _, rfl, St.stepP (unhide HRk) (.inl rfl) (.inr rfl) h0 hb (by rw [hq, unhide He1] at hr; exact hr) hc, fun _ _ h => h, (by intro x hx; cases hx; rfl)⟩
    · intro fq W vals hf hS hG
      have ev0 : vals 0 = .pointer (some ⟨d, 0, none⟩) := (hG 0 124 (by decide) rfl) _ rfl
      have ev1 : vals 1 = .int .i64 (at_ : Int) := (hG 1 125 (by decide) rfl) _ rfl
      have ev2 : vals 2 = .int .i64 (M : Int) := (hG 2 126 (by decide) rfl) _ rfl
      have ev3 : vals 3 = .agg #[.int .i64 sk, .int .i64 si, .int .i64 sx, .bool sf, .bool sw] := (hG 3 127 (by decide) rfl) _ rfl
      have ev4 : vals 4 = .int .i64 wd := (hG 4 128 (by decide) rfl) _ rfl
      have ev5 : vals 5 = .agg #[.int .i64 sk, .int .i64 si, .int .i64 sx, .bool sf, .bool sw] := (hG 5 129 (by decide) rfl) _ rfl
      have ev6 : vals 6 = .int .i64 nm := (hG 6 130 (by decide) rfl) _ rfl
      have ev7 : vals 7 = .tuple #[] := (hG 7 131 (by decide) rfl) _ rfl
      change (_ : Exit → Act → World → Prop) Exit.normal (Act.put (Act.put (Act.put (Act.put (Act.put (Act.put (Act.put (Act.put _ (some 124) (vals 0)) (some 125) (vals 1)) (some 126) (vals 2)) (some 127) (vals 3)) (some 128) (vals 4)) (some 129) (vals 5)) (some 130) (vals 6)) (some 131) (vals 7)) W
      have hT := hS
      rw [hf 7 (by decide)] at hT
      have HSt2 : Hid (St (fun k => k = pb ∨ k = sb) w c g N w2.heap.size d pb o M sb (ActD.mk sk si sx sf sw) L1 e1 L1 e1 W) := hT
      rw [putAll_zero, ev0, ev1, ev2, ev3, ev4, ev5, ev6, ev7]
      obtain ⟨ws2, rfl⟩ : ∃ v, v = W := ⟨_, rfl⟩
      clear hS hT hG hf ev0 ev1 ev2 ev3 ev4 ev5 ev6 ev7
      clear vals fq
      go_wp2
      exact unhide HK _ _ _ _ _ _ _ _ _ _ _ _ _ _ _ _ _ _ _ _ _ _ _ _ _ _ _ _ _ _ _ _ _ _ _ _ _ _ _ _ _ _ _ _ _ _ _ _ _ _ _ _ _ _ _ _ _ _ _ _ _ _ _ _ _ _ _ _ _ _ _ _ _ _ _ _ _ _ _ L1 e1 ((unhide HSt2).both.other (fun k _ h => .inl h))
end Go.Proofs.Ytbekechjphangaa
