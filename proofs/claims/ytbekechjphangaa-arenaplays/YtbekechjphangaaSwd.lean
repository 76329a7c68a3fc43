/- The acts of ArenaPlays, case by case: 6, 7. -/
import Derived.Test.YtbekechjphangaaSw
namespace Go.Proofs.Ytbekechjphangaa
open Go.RowKit
set_option linter.unusedVariables false

set_option maxRecDepth 100000 in
set_option maxHeartbeats 8000000 in
theorem sw_k6 (w w2 ws : World) (c g N d pb o M sb at_ : Nat) (sk si sx : Int) (sf sw : Bool) (L : List Int) (e wd nm : Int) (i0 : TypeInfo) (Q : Exit → Act → World → Prop) (hN31 : N ≤ 31)
    (HSt0 : Hid (St (fun k => k = pb ∨ k = sb) w c g N w2.heap.size d pb o M sb (ActD.mk sk si sx sf sw) L e L e ws)) (HRk : Hid (Ranks w c g w2.heap.size d pb sb))
    (KW : Hid (∀ W, Calls Try.prog 15 #[.agg #[.int .i64 sk, .int .i64 si, .int .i64 sx, .bool sf, .bool sw]] W fun r w' => r = .returned (.int .i64 wd) ∧ Below W.heap.size W w'))
    (KN : Hid (∀ W, Calls Try.prog 16 #[.agg #[.int .i64 sk, .int .i64 si, .int .i64 sx, .bool sf, .bool sw]] W fun r w' => r = .returned (.int .i64 nm) ∧ Below W.heap.size W w'))
    (HM1 : Hid (at_ + M ≤ N)) (HM2 : Hid (o + M ≤ N)) (HM3 : Hid (0 < M → o = at_)) (HI0 : Hid (Try.prog.info? 3 = some i0 ∧ i0.zero = some (.int .i64 0) ∧ i0.size = 1 ∧ i0.bytes = 8))
    (u0 u1 u2 u3 u4 u5 u6 u7 u14 u15 u18 u19 u20 u21 u22 u23 u24 u25 u26 u27 u28 u29 u30 u31 u32 u33 u34 u35 u36 u37 u38 u39 u40 u41 u42 u43 u44 u45 u46 u47 u48 u49 u50 u51 u52 u53 u54 u55 u56 u57 u58 u59 u60 u61 u62 u63 u64 u65 u66 u67 u68 u69 u70 u71 u72 u73 u74 u75 u76 u77 u78 u80 u81 u82 u83 u84 u85 u86 u87 u88 u89 u90 u91 u92 u93 u94 u95 u96 u97 u98 u99 u100 u101 u102 u103 u104 u105 u106 u107 u108 u109 u110 u111 u112 u113 u114 u115 u116 u117 u118 u119 u120 u121 u122 u123 u124 u125 u126 u127 u128 u129 u130 u131 u132 u133 u134 u135 u136 u137 u138 u139 u140 u141 u142 u143 u144 u145 u146 u147 u148 u149 u150 u151 u152 u153 u154 u155 u156 u157 u158 u159 u160 u161 u162 u163 u164 u165 u166 u167 u168 u169 u170 u171 u172 u173 u174 u175 u176 u177 u178 u179 u180 u181 u182 u183 u184 u185 u186 u187 u188 u189 u190 u191 u192 u193 u194 u195 : Value)
    (hK : ∀ (v80 v81 v82 v83 v84 v85 v86 v87 v88 v89 v90 v91 v92 v93 v94 v95 v96 v97 v98 v99 v100 v101 v102 v103 v104 v105 v106 v107 v108 v109 v110 v111 v112 v113 v114 v115 v116 v117 v118 v119 v120 v121 v122 v123 v124 v125 v126 v127 v128 v129 v130 v131 v132 v133 v134 v135 v136 v137 v138 v139 v140 v141 v142 v143 v144 v145 v146 v147 v148 v149 v150 v151 v152 v153 v154 v155 v156 v157 : Value) (wc : World) (L1 : List Int) (e1 : Int), Hid (Both (fun k => k = pb) w c g N w2.heap.size d pb o M L1 e1 L1 e1 wc) → Q .normal ⟨#[u0, u1, u2, u3, u4, u5, u6, u7, .int .i64 (N : Int), .pointer (some ⟨c, 0, none⟩), .pointer (some ⟨d, 0, none⟩), .int .i64 (at_ : Int), .int .i64 (M : Int), .pointer (some ⟨pb, 0, none⟩), u14, u15, .pointer (some ⟨sb, 0, none⟩), .bool true, u18, u19, u20, u21, u22, u23, u24, u25, u26, u27, u28, u29, u30, u31, u32, u33, u34, u35, u36, u37, u38, u39, u40, u41, u42, u43, u44, u45, u46, u47, u48, u49, u50, u51, u52, u53, u54, u55, u56, u57, u58, u59, u60, u61, u62, u63, u64, u65, u66, u67, u68, u69, u70, u71, u72, u73, u74, u75, u76, u77, u78, .int .i64 6, v80, v81, v82, v83, v84, v85, v86, v87, v88, v89, v90, v91, v92, v93, v94, v95, v96, v97, v98, v99, v100, v101, v102, v103, v104, v105, v106, v107, v108, v109, v110, v111, v112, v113, v114, v115, v116, v117, v118, v119, v120, v121, v122, v123, v124, v125, v126, v127, v128, v129, v130, v131, v132, v133, v134, v135, v136, v137, v138, v139, v140, v141, v142, v143, v144, v145, v146, v147, v148, v149, v150, v151, v152, v153, v154, v155, v156, v157, u158, u159, u160, u161, u162, u163, u164, u165, u166, u167, u168, u169, u170, u171, u172, u173, u174, u175, u176, u177, u178, u179, u180, u181, u182, u183, u184, u185, u186, u187, u188, u189, u190, u191, u192, u193, u194, u195], []⟩ wc) :
    Code.wp Try.prog sw2 Q ⟨#[u0, u1, u2, u3, u4, u5, u6, u7, .int .i64 (N : Int), .pointer (some ⟨c, 0, none⟩), .pointer (some ⟨d, 0, none⟩), .int .i64 (at_ : Int), .int .i64 (M : Int), .pointer (some ⟨pb, 0, none⟩), u14, u15, .pointer (some ⟨sb, 0, none⟩), .bool true, u18, u19, u20, u21, u22, u23, u24, u25, u26, u27, u28, u29, u30, u31, u32, u33, u34, u35, u36, u37, u38, u39, u40, u41, u42, u43, u44, u45, u46, u47, u48, u49, u50, u51, u52, u53, u54, u55, u56, u57, u58, u59, u60, u61, u62, u63, u64, u65, u66, u67, u68, u69, u70, u71, u72, u73, u74, u75, u76, u77, u78, .int .i64 6, u80, u81, u82, u83, u84, u85, u86, u87, u88, u89, u90, u91, u92, u93, u94, u95, u96, u97, u98, u99, u100, u101, u102, u103, u104, u105, u106, u107, u108, u109, u110, u111, u112, u113, u114, u115, u116, u117, u118, u119, u120, u121, u122, u123, u124, u125, u126, u127, u128, u129, u130, u131, u132, u133, u134, u135, u136, u137, u138, u139, u140, u141, u142, u143, u144, u145, u146, u147, u148, u149, u150, u151, u152, u153, u154, u155, u156, u157, u158, u159, u160, u161, u162, u163, u164, u165, u166, u167, u168, u169, u170, u171, u172, u173, u174, u175, u176, u177, u178, u179, u180, u181, u182, u183, u184, u185, u186, u187, u188, u189, u190, u191, u192, u193, u194, u195], []⟩ ws := by
  have HK := hide hK
  clear hK
  conv => arg 2; whnf
  obtain ⟨xs, hxs⟩ : ∃ l, ActD.row (ActD.mk sk si sx sf sw) N = l := ⟨_, rfl⟩
  obtain ⟨R, hR⟩ : ∃ R, xs.length = R := ⟨_, rfl⟩
  have HR := hide hR
  have KR : Hid (∀ W, Calls Try.prog 23 #[.agg #[.int .i64 sk, .int .i64 si, .int .i64 sx, .bool sf, .bool sw], .int .i64 (N : Int)] W fun r w' => ∃ a cap, r = .returned (.slice a R cap) ∧ Lies w' a xs ∧ (a = none → R = 0 ∧ cap = 0) ∧ (∀ p, a = some p → W.heap.size ≤ p.block) ∧ Below W.heap.size W w') := by
    intro W
    refine (actrow_any sk si sx sf sw N (by omega) W).mono ?_
    rintro r w' ⟨a, cap, m, rfl, h1, h2, h3, h4, h5⟩
    rw [hxs] at h1 h2
    obtain rfl : R = m := by rw [← h2]; exact hR.symm
    exact ⟨a, cap, rfl, h1, h3, h4, h5⟩
  obtain ⟨L1, hL1⟩ : ∃ l, setL N L xs = l := ⟨_, rfl⟩
  obtain ⟨e1, he1⟩ : ∃ l, e = l := ⟨_, rfl⟩
  obtain ⟨gi, hgi⟩ : ∃ l, setE N xs = l := ⟨_, rfl⟩
  have HL1 := hide hL1
  have Hgi := hide hgi
  clear hL1 hgi hxs hR
  go_upto_region 36 with fail
  refine region_ssa2 (fun f W => St (fun k => k = pb ∨ k = sb) w c g N w2.heap.size d pb o M sb (ActD.mk sk si sx sf sw) (bif f 4 then L1 else L) e (bif f 9 then L1 else L) e W) (fun jq vq wq => (∀ xq, (([some (.pointer (some ⟨c, 0, none⟩)), some (.agg #[.int .i64 sk, .int .i64 si, .int .i64 sx, .bool sf, .bool sw]), some (.int .i64 (N : Int)), none, some (.int .i64 gi), some (.pointer (some ⟨d, 0, none⟩)), some (.agg #[.int .i64 sk, .int .i64 si, .int .i64 sx, .bool sf, .bool sw]), some (.int .i64 (N : Int)), none, some (.int .i64 gi), some (.bool true), some (.bool true)] : List (Option Value)).getD jq none) = some xq → vq = xq) ∧ (jq = 3 → RowOk sb R xs vq wq) ∧ (jq = 8 → RowOk sb R xs vq wq)) (by kernel_rfl) (by kernel_rfl) ?_ ?_ ?_
  · intro fq hf
    exact (by rw [hf 4 (by decide)]; rw [hf 9 (by decide)]; exact (unhide HSt0).below (Below.refl _ _).drew)
  · intro iq op ho fq AQ W hf hdep hS hK hG
    have hlt : iq < 12 := (Array.getElem?_eq_some_iff.1 ho).1
    match iq, hlt with
    | 0, _ =>
      obtain rfl := (Option.some.inj ho).symm
      have d9 : AQ.tmps.getD 9 undef = .pointer (some ⟨c, 0, none⟩) := hK.2.2 9 (by kernel_rfl)
      exact wpOp_val (v := (.pointer (some ⟨c, 0, none⟩))) (w' := W) rfl (wanted_none rfl) (by simp [execOp, Act.eval, d9, go_sem]) ⟨_, rfl, hS, fun _ _ h => h, ⟨(by intro x hx; cases hx; rfl), (by intro h; cases h), (by intro h; cases h)⟩⟩
    | 1, _ =>
      obtain rfl := (Option.some.inj ho).symm
      have d16 : AQ.tmps.getD 16 undef = .pointer (some ⟨sb, 0, none⟩) := hK.2.2 16 (by kernel_rfl)
      have m0 := hS.sc.cell 0 _ rfl
      have m1 := hS.sc.cell 1 _ rfl
      have m2 := hS.sc.cell 2 _ rfl
      have m3 := hS.sc.cell 3 _ rfl
      have m4 := hS.sc.cell 4 _ rfl
      exact wpOp_val (v := (.agg #[.int .i64 sk, .int .i64 si, .int .i64 sx, .bool sf, .bool sw])) (w' := W) rfl (wanted_none rfl) (by simp [execOp, Act.eval, d16, m0, m1, m2, m3, m4, go_sem]) ⟨_, rfl, hS, fun _ _ h => h, ⟨(by intro x hx; cases hx; rfl), (by intro h; cases h), (by intro h; cases h)⟩⟩
    | 2, _ =>
      obtain rfl := (Option.some.inj ho).symm
      have d8 : AQ.tmps.getD 8 undef = .int .i64 (N : Int) := hK.2.2 8 (by kernel_rfl)
      exact wpOp_val (v := (.int .i64 (N : Int))) (w' := W) rfl (wanted_none rfl) (by simp [execOp, Act.eval, d8, go_sem]) ⟨_, rfl, hS, fun _ _ h => h, ⟨(by intro x hx; cases hx; rfl), (by intro h; cases h), (by intro h; cases h)⟩⟩
    | 3, _ =>
      obtain rfl := (Option.some.inj ho).symm
      have d148 : AQ.tmps.getD 148 undef = .agg #[.int .i64 sk, .int .i64 si, .int .i64 sx, .bool sf, .bool sw] := ((hG ⟨1, .data⟩ (by simp) rfl).2 148 rfl).1 _ rfl
      have d149 : AQ.tmps.getD 149 undef = .int .i64 (N : Int) := ((hG ⟨2, .data⟩ (by simp) rfl).2 149 rfl).1 _ rfl
      refine wpOp_call (f := 23) (args := #[.agg #[.int .i64 sk, .int .i64 si, .int .i64 sx, .bool sf, .bool sw], .int .i64 (N : Int)]) (w' := W) rfl (wanted_none rfl) (by simp [execOp, Act.eval, d148, d149, go_sem]) ?_
      refine (unhide KR W).mono ?_
      rintro e9 w9 ⟨ar, cr, rfl, hl, hn, hp, hb⟩
      have rok : RowOk sb R xs (.slice ar R cr) w9 := ⟨ar, cr, rfl, hl, hn, fun p hp' => Nat.le_trans (Nat.le_of_lt hS.sc.lt) (hp p hp')⟩
      exact ⟨_, rfl, _, rfl, St.below hS hb, fun _ _ h => ⟨h.1, fun q => (h.2.1 q).below hb, fun q => (h.2.2 q).below hb⟩, ⟨(by intro x hx; cases hx), fun _ => rok, (by intro h; cases h)⟩⟩
    | 4, _ =>
      obtain rfl := (Option.some.inj ho).symm
      have d147 : AQ.tmps.getD 147 undef = .pointer (some ⟨c, 0, none⟩) := ((hG ⟨0, .data⟩ (by simp) rfl).2 147 rfl).1 _ rfl
      have g150 := ((hG ⟨3, .data⟩ (by simp) rfl).2 150 rfl).2.1 rfl
      obtain ⟨ar, cr, d150, hl, hn, hp⟩ := g150
      have h0 : St (fun k => k = pb ∨ k = sb) w c g N w2.heap.size d pb o M sb (ActD.mk sk si sx sf sw) L e (bif fq 9 then L1 else L) e W := by
        have h := hS
        rw [hf] at h
        exact h
      refine wpOp_call (f := 22) (args := #[.pointer (some ⟨c, 0, none⟩), .slice ar R cr]) (w' := W) rfl (wanted_none rfl) (by simp [execOp, Act.eval, d147, d150, go_sem]) ?_
      refine (by have hk := set_any c g N R cr ar xs L e W h0.both.ar hl (unhide HR) (by omega); rw [unhide Hgi, unhide HL1] at hk; exact hk : Calls Try.prog 22 #[.pointer (some ⟨c, 0, none⟩), .slice ar R cr] W fun r w' => r = .returned (.int .i64 gi) ∧ Two c g W w' ∧ Ar c g N w' L1 e).mono ?_
      rintro e9 w9 ⟨rfl, ht, ha⟩
      have hcs : c < sb := Nat.lt_of_lt_of_le (unhide HRk).cB (unhide HRk).Bs
      have hgs : g < sb := Nat.lt_of_lt_of_le (unhide HRk).gB (unhide HRk).Bs
      exact ⟨_, rfl, _, rfl, St.stepA (unhide HRk) h0 ht ha, fun _ _ h => ⟨h.1, fun q => (h.2.1 q).two ht hcs hgs, fun q => (h.2.2 q).two ht hcs hgs⟩, ⟨(by intro x hx; cases hx; rfl), (by intro h; cases h), (by intro h; cases h)⟩⟩
    | 5, _ =>
      obtain rfl := (Option.some.inj ho).symm
      have d10 : AQ.tmps.getD 10 undef = .pointer (some ⟨d, 0, none⟩) := hK.2.2 10 (by kernel_rfl)
      exact wpOp_val (v := (.pointer (some ⟨d, 0, none⟩))) (w' := W) rfl (wanted_none rfl) (by simp [execOp, Act.eval, d10, go_sem]) ⟨_, rfl, hS, fun _ _ h => h, ⟨(by intro x hx; cases hx; rfl), (by intro h; cases h), (by intro h; cases h)⟩⟩
    | 6, _ =>
      obtain rfl := (Option.some.inj ho).symm
      have d16 : AQ.tmps.getD 16 undef = .pointer (some ⟨sb, 0, none⟩) := hK.2.2 16 (by kernel_rfl)
      have m0 := hS.sc.cell 0 _ rfl
      have m1 := hS.sc.cell 1 _ rfl
      have m2 := hS.sc.cell 2 _ rfl
      have m3 := hS.sc.cell 3 _ rfl
      have m4 := hS.sc.cell 4 _ rfl
      exact wpOp_val (v := (.agg #[.int .i64 sk, .int .i64 si, .int .i64 sx, .bool sf, .bool sw])) (w' := W) rfl (wanted_none rfl) (by simp [execOp, Act.eval, d16, m0, m1, m2, m3, m4, go_sem]) ⟨_, rfl, hS, fun _ _ h => h, ⟨(by intro x hx; cases hx; rfl), (by intro h; cases h), (by intro h; cases h)⟩⟩
    | 7, _ =>
      obtain rfl := (Option.some.inj ho).symm
      have d8 : AQ.tmps.getD 8 undef = .int .i64 (N : Int) := hK.2.2 8 (by kernel_rfl)
      exact wpOp_val (v := (.int .i64 (N : Int))) (w' := W) rfl (wanted_none rfl) (by simp [execOp, Act.eval, d8, go_sem]) ⟨_, rfl, hS, fun _ _ h => h, ⟨(by intro x hx; cases hx; rfl), (by intro h; cases h), (by intro h; cases h)⟩⟩
    | 8, _ =>
      obtain rfl := (Option.some.inj ho).symm
      have d153 : AQ.tmps.getD 153 undef = .agg #[.int .i64 sk, .int .i64 si, .int .i64 sx, .bool sf, .bool sw] := ((hG ⟨6, .data⟩ (by simp) rfl).2 153 rfl).1 _ rfl
      have d154 : AQ.tmps.getD 154 undef = .int .i64 (N : Int) := ((hG ⟨7, .data⟩ (by simp) rfl).2 154 rfl).1 _ rfl
      refine wpOp_call (f := 23) (args := #[.agg #[.int .i64 sk, .int .i64 si, .int .i64 sx, .bool sf, .bool sw], .int .i64 (N : Int)]) (w' := W) rfl (wanted_none rfl) (by simp [execOp, Act.eval, d153, d154, go_sem]) ?_
      refine (unhide KR W).mono ?_
      rintro e9 w9 ⟨ar, cr, rfl, hl, hn, hp, hb⟩
      have rok : RowOk sb R xs (.slice ar R cr) w9 := ⟨ar, cr, rfl, hl, hn, fun p hp' => Nat.le_trans (Nat.le_of_lt hS.sc.lt) (hp p hp')⟩
      exact ⟨_, rfl, _, rfl, St.below hS hb, fun _ _ h => ⟨h.1, fun q => (h.2.1 q).below hb, fun q => (h.2.2 q).below hb⟩, ⟨(by intro x hx; cases hx), (by intro h; cases h), fun _ => rok⟩⟩
    | 9, _ =>
      obtain rfl := (Option.some.inj ho).symm
      have d152 : AQ.tmps.getD 152 undef = .pointer (some ⟨d, 0, none⟩) := ((hG ⟨5, .data⟩ (by simp) rfl).2 152 rfl).1 _ rfl
      have g155 := ((hG ⟨8, .data⟩ (by simp) rfl).2 155 rfl).2.2 rfl
      obtain ⟨ar, cr, d155, hl, hn, hp⟩ := g155
      have h0 : St (fun k => k = pb ∨ k = sb) w c g N w2.heap.size d pb o M sb (ActD.mk sk si sx sf sw) (bif fq 4 then L1 else L) e L e W := by
        have h := hS
        rw [hf] at h
        exact h
      refine wpOp_call (f := 24) (args := #[.pointer (some ⟨d, 0, none⟩), .slice ar R cr]) (w' := W) rfl (wanted_none rfl) (by simp [execOp, Act.eval, d152, d155, go_sem]) ?_
      refine (by have hk := rset_any (fun k => k = pb ∨ k = sb) w2.heap.size d N R cr ar xs L e W h0.both.rg hl (unhide HR) (by omega) hn (by
        rintro k (rfl | rfl)
        · exact Cells.lt h0.both.pt
        · exact h0.sc.lt); rw [unhide Hgi, unhide HL1] at hk; exact hk : Calls Try.prog 24 #[.pointer (some ⟨d, 0, none⟩), .slice ar R cr] W fun r w' => r = .returned (.int .i64 gi) ∧ Only d W w' ∧ Rg (fun k => k = pb ∨ k = sb) w2.heap.size d N w' L1 e).mono ?_
      rintro e9 w9 ⟨rfl, ho, hr⟩
      exact ⟨_, rfl, _, rfl, St.stepD (unhide HRk) h0 ho hr, fun _ _ h => ⟨h.1, fun q => (h.2.1 q).only ho (unhide HRk).ds, fun q => (h.2.2 q).only ho (unhide HRk).ds⟩, ⟨(by intro x hx; cases hx; rfl), (by intro h; cases h), (by intro h; cases h)⟩⟩
    | 10, _ =>
      obtain rfl := (Option.some.inj ho).symm
      have d151 : AQ.tmps.getD 151 undef = .int .i64 gi := ((hG ⟨4, .data⟩ (by simp) rfl).2 151 rfl).1 _ rfl
      have d156 : AQ.tmps.getD 156 undef = .int .i64 gi := ((hG ⟨9, .data⟩ (by simp) rfl).2 156 rfl).1 _ rfl
      exact wpOp_val (v := (.bool true)) (w' := W) rfl (wanted_none rfl) (by simp [execOp, Act.eval, d151, d156, go_sem]) ⟨_, rfl, hS, fun _ _ h => h, ⟨(by intro x hx; cases hx; rfl), (by intro h; cases h), (by intro h; cases h)⟩⟩
    | 11, _ =>
      obtain rfl := (Option.some.inj ho).symm
      have d157 : AQ.tmps.getD 157 undef = .bool true := ((hG ⟨10, .data⟩ (by simp) rfl).2 157 rfl).1 _ rfl
      exact wpOp_val (v := (.bool true)) (w' := W) rfl (wanted_none rfl) (by simp [execOp, Act.eval, d157, go_sem]) ⟨_, rfl, hS, fun _ _ h => h, ⟨(by intro x hx; cases hx; rfl), (by intro h; cases h), (by intro h; cases h)⟩⟩
  · intro fq W vals hf hS hG
    have ev0 : vals 0 = .pointer (some ⟨c, 0, none⟩) := (hG 0 147 (by decide) rfl).1 _ rfl
    have ev1 : vals 1 = .agg #[.int .i64 sk, .int .i64 si, .int .i64 sx, .bool sf, .bool sw] := (hG 1 148 (by decide) rfl).1 _ rfl
    have ev2 : vals 2 = .int .i64 (N : Int) := (hG 2 149 (by decide) rfl).1 _ rfl
    have g3 := (hG 3 150 (by decide) rfl).2.1 rfl
    have ev4 : vals 4 = .int .i64 gi := (hG 4 151 (by decide) rfl).1 _ rfl
    have ev5 : vals 5 = .pointer (some ⟨d, 0, none⟩) := (hG 5 152 (by decide) rfl).1 _ rfl
    have ev6 : vals 6 = .agg #[.int .i64 sk, .int .i64 si, .int .i64 sx, .bool sf, .bool sw] := (hG 6 153 (by decide) rfl).1 _ rfl
    have ev7 : vals 7 = .int .i64 (N : Int) := (hG 7 154 (by decide) rfl).1 _ rfl
    have g8 := (hG 8 155 (by decide) rfl).2.2 rfl
    have ev9 : vals 9 = .int .i64 gi := (hG 9 156 (by decide) rfl).1 _ rfl
    have ev10 : vals 10 = .bool true := (hG 10 157 (by decide) rfl).1 _ rfl
    have ev11 : vals 11 = .bool true := (hG 11 17 (by decide) rfl).1 _ rfl
    change (_ : Exit → Act → World → Prop) Exit.normal (Act.put (Act.put (Act.put (Act.put (Act.put (Act.put (Act.put (Act.put (Act.put (Act.put (Act.put (Act.put _ (some 147) (vals 0)) (some 148) (vals 1)) (some 149) (vals 2)) (some 150) (vals 3)) (some 151) (vals 4)) (some 152) (vals 5)) (some 153) (vals 6)) (some 154) (vals 7)) (some 155) (vals 8)) (some 156) (vals 9)) (some 157) (vals 10)) (some 17) (vals 11)) W
    have hT := hS
    rw [hf 4 (by decide)] at hT
    rw [hf 9 (by decide)] at hT
    have HSt2 : Hid (St (fun k => k = pb ∨ k = sb) w c g N w2.heap.size d pb o M sb (ActD.mk sk si sx sf sw) L1 e L1 e W) := hT
    obtain ⟨ar1, cr1, v3, _, _, _⟩ := g3
    obtain ⟨ar2, cr2, v8, _, _, _⟩ := g8
    rw [putAll_zero, ev0, ev1, ev2, ev4, ev5, ev6, ev7, ev9, ev10, ev11, v3, v8]
    obtain ⟨ws2, rfl⟩ : ∃ v, v = W := ⟨_, rfl⟩
    clear hS hT v3 v8 hG hf ev0 ev1 ev2 ev4 ev5 ev6 ev7 ev9 ev10 ev11
    clear vals fq
    subst he1
    go_wp2
    exact unhide HK _ _ _ _ _ _ _ _ _ _ _ _ _ _ _ _ _ _ _ _ _ _ _ _ _ _ _ _ _ _ _ _ _ _ _ _ _ _ _ _ _ _ _ _ _ _ _ _ _ _ _ _ _ _ _ _ _ _ _ _ _ _ _ _ _ _ _ _ _ _ _ _ _ _ _ _ _ _ _ L1 _ ((unhide HSt2).both.other (fun k _ h => .inl h))

set_option maxRecDepth 100000 in
set_option maxHeartbeats 8000000 in
theorem sw_k7 (w w2 ws : World) (c g N d pb o M sb at_ : Nat) (sk si sx : Int) (sf sw : Bool) (L : List Int) (e wd nm : Int) (i0 : TypeInfo) (Q : Exit → Act → World → Prop) (hN31 : N ≤ 31)
    (HSt0 : Hid (St (fun k => k = pb ∨ k = sb) w c g N w2.heap.size d pb o M sb (ActD.mk sk si sx sf sw) L e L e ws)) (HRk : Hid (Ranks w c g w2.heap.size d pb sb))
    (KW : Hid (∀ W, Calls Try.prog 15 #[.agg #[.int .i64 sk, .int .i64 si, .int .i64 sx, .bool sf, .bool sw]] W fun r w' => r = .returned (.int .i64 wd) ∧ Below W.heap.size W w'))
    (KN : Hid (∀ W, Calls Try.prog 16 #[.agg #[.int .i64 sk, .int .i64 si, .int .i64 sx, .bool sf, .bool sw]] W fun r w' => r = .returned (.int .i64 nm) ∧ Below W.heap.size W w'))
    (HM1 : Hid (at_ + M ≤ N)) (HM2 : Hid (o + M ≤ N)) (HM3 : Hid (0 < M → o = at_)) (HI0 : Hid (Try.prog.info? 3 = some i0 ∧ i0.zero = some (.int .i64 0) ∧ i0.size = 1 ∧ i0.bytes = 8))
    (u0 u1 u2 u3 u4 u5 u6 u7 u14 u15 u18 u19 u20 u21 u22 u23 u24 u25 u26 u27 u28 u29 u30 u31 u32 u33 u34 u35 u36 u37 u38 u39 u40 u41 u42 u43 u44 u45 u46 u47 u48 u49 u50 u51 u52 u53 u54 u55 u56 u57 u58 u59 u60 u61 u62 u63 u64 u65 u66 u67 u68 u69 u70 u71 u72 u73 u74 u75 u76 u77 u78 u80 u81 u82 u83 u84 u85 u86 u87 u88 u89 u90 u91 u92 u93 u94 u95 u96 u97 u98 u99 u100 u101 u102 u103 u104 u105 u106 u107 u108 u109 u110 u111 u112 u113 u114 u115 u116 u117 u118 u119 u120 u121 u122 u123 u124 u125 u126 u127 u128 u129 u130 u131 u132 u133 u134 u135 u136 u137 u138 u139 u140 u141 u142 u143 u144 u145 u146 u147 u148 u149 u150 u151 u152 u153 u154 u155 u156 u157 u158 u159 u160 u161 u162 u163 u164 u165 u166 u167 u168 u169 u170 u171 u172 u173 u174 u175 u176 u177 u178 u179 u180 u181 u182 u183 u184 u185 u186 u187 u188 u189 u190 u191 u192 u193 u194 u195 : Value)
    (hK : ∀ (v80 v81 v82 v83 v84 v85 v86 v87 v88 v89 v90 v91 v92 v93 v94 v95 v96 v97 v98 v99 v100 v101 v102 v103 v104 v105 v106 v107 v108 v109 v110 v111 v112 v113 v114 v115 v116 v117 v118 v119 v120 v121 v122 v123 v124 v125 v126 v127 v128 v129 v130 v131 v132 v133 v134 v135 v136 v137 v138 v139 v140 v141 v142 v143 v144 v145 v146 v147 v148 v149 v150 v151 v152 v153 v154 v155 v156 v157 : Value) (wc : World) (L1 : List Int) (e1 : Int), Hid (Both (fun k => k = pb) w c g N w2.heap.size d pb o M L1 e1 L1 e1 wc) → Q .normal ⟨#[u0, u1, u2, u3, u4, u5, u6, u7, .int .i64 (N : Int), .pointer (some ⟨c, 0, none⟩), .pointer (some ⟨d, 0, none⟩), .int .i64 (at_ : Int), .int .i64 (M : Int), .pointer (some ⟨pb, 0, none⟩), u14, u15, .pointer (some ⟨sb, 0, none⟩), .bool true, u18, u19, u20, u21, u22, u23, u24, u25, u26, u27, u28, u29, u30, u31, u32, u33, u34, u35, u36, u37, u38, u39, u40, u41, u42, u43, u44, u45, u46, u47, u48, u49, u50, u51, u52, u53, u54, u55, u56, u57, u58, u59, u60, u61, u62, u63, u64, u65, u66, u67, u68, u69, u70, u71, u72, u73, u74, u75, u76, u77, u78, .int .i64 7, v80, v81, v82, v83, v84, v85, v86, v87, v88, v89, v90, v91, v92, v93, v94, v95, v96, v97, v98, v99, v100, v101, v102, v103, v104, v105, v106, v107, v108, v109, v110, v111, v112, v113, v114, v115, v116, v117, v118, v119, v120, v121, v122, v123, v124, v125, v126, v127, v128, v129, v130, v131, v132, v133, v134, v135, v136, v137, v138, v139, v140, v141, v142, v143, v144, v145, v146, v147, v148, v149, v150, v151, v152, v153, v154, v155, v156, v157, u158, u159, u160, u161, u162, u163, u164, u165, u166, u167, u168, u169, u170, u171, u172, u173, u174, u175, u176, u177, u178, u179, u180, u181, u182, u183, u184, u185, u186, u187, u188, u189, u190, u191, u192, u193, u194, u195], []⟩ wc) :
    Code.wp Try.prog sw2 Q ⟨#[u0, u1, u2, u3, u4, u5, u6, u7, .int .i64 (N : Int), .pointer (some ⟨c, 0, none⟩), .pointer (some ⟨d, 0, none⟩), .int .i64 (at_ : Int), .int .i64 (M : Int), .pointer (some ⟨pb, 0, none⟩), u14, u15, .pointer (some ⟨sb, 0, none⟩), .bool true, u18, u19, u20, u21, u22, u23, u24, u25, u26, u27, u28, u29, u30, u31, u32, u33, u34, u35, u36, u37, u38, u39, u40, u41, u42, u43, u44, u45, u46, u47, u48, u49, u50, u51, u52, u53, u54, u55, u56, u57, u58, u59, u60, u61, u62, u63, u64, u65, u66, u67, u68, u69, u70, u71, u72, u73, u74, u75, u76, u77, u78, .int .i64 7, u80, u81, u82, u83, u84, u85, u86, u87, u88, u89, u90, u91, u92, u93, u94, u95, u96, u97, u98, u99, u100, u101, u102, u103, u104, u105, u106, u107, u108, u109, u110, u111, u112, u113, u114, u115, u116, u117, u118, u119, u120, u121, u122, u123, u124, u125, u126, u127, u128, u129, u130, u131, u132, u133, u134, u135, u136, u137, u138, u139, u140, u141, u142, u143, u144, u145, u146, u147, u148, u149, u150, u151, u152, u153, u154, u155, u156, u157, u158, u159, u160, u161, u162, u163, u164, u165, u166, u167, u168, u169, u170, u171, u172, u173, u174, u175, u176, u177, u178, u179, u180, u181, u182, u183, u184, u185, u186, u187, u188, u189, u190, u191, u192, u193, u194, u195], []⟩ ws := by
  have HK := hide hK
  clear hK
  conv => arg 2; whnf
  go_wp2_with fail
  have HStz := HSt0
  refine (zero_any c g N L e _ (unhide HStz).both.ar).mono ?_
  rintro e9 w9 ⟨rfl, ht, ha⟩
  have HStA := hide (St.stepA (unhide HRk) (unhide HStz) ht ha)
  clear ht ha
  go_wp2_with (at_make; refine wpList_make_full _ rfl _ _ 41 rfl w9.heap.size 3 i0 (.int .i64 0) 1 Try.underlying41 (unhide HI0).1 (unhide HI0).2.1 (unhide HI0).2.2.1 _ _ _ _ N rfl rfl rfl rfl ?m1 ?m2 ?m3 ?_)
  case m1 => rw [(unhide HI0).2.2.2]; omega
  case m2 => unfold maxLen; omega
  case m3 => exact Nat.le_refl _
  intro w10 hown hgr
  rw [ints_zero] at hown
  have HC10 := hide (own_cells hown)
  have HB10 := hide ((Below.refl w9.heap.size w9).grown hgr (Nat.le_refl _) (fun _ h => by cases h))
  have HSt10 := hide ((unhide HStA).below (unhide HB10))
  clear hown hgr
  obtain ⟨hh, hhc, hcd, _⟩ := (unhide HSt10).both.rg.open
  have hfd := (unhide HSt10).both.rg.free 0
  have HSt2 : Hid (Both (fun k => k = pb ∨ k = sb) w c g N w2.heap.size d pb o M (List.replicate N 0) e (List.replicate N 0) e (w10.setCell ⟨d, 0, none⟩ (.slice (some ⟨w9.heap.size, 0, none⟩) N N))) := by
    refine Both.stepD (unhide HRk) (unhide HSt10).both (Only.setHere 0 _) ?_
    have hd9 : d < w9.heap.size := lt_of_cell (unhide HStA).both.rg.err
    refine (unhide HSt10).both.rg.setRow (rest := []) ?_ (Nat.le_of_lt (unhide HStA).both.rg.size) (by omega) (by rw [List.append_nil]; exact unhide HC10) (by simp)
    rintro (h | h)
    · have := Cells.lt (unhide HStA).both.pt; omega
    · have := (unhide HStA).sc.lt; omega
  go_wp2
  exact unhide HK _ _ _ _ _ _ _ _ _ _ _ _ _ _ _ _ _ _ _ _ _ _ _ _ _ _ _ _ _ _ _ _ _ _ _ _ _ _ _ _ _ _ _ _ _ _ _ _ _ _ _ _ _ _ _ _ _ _ _ _ _ _ _ _ _ _ _ _ _ _ _ _ _ _ _ _ _ _ _ _ _ ((unhide HSt2).other (fun k _ h => .inl h))
end Go.Proofs.Ytbekechjphangaa
