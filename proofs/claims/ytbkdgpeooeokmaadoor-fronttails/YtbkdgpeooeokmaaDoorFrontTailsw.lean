/- FrontTails: the walk. -/
import Derived.Test.YtbkdgpeooeokmaaDoorFrontKeep
import Derived.Test.YtbkdgpeooeokmaaDoorFrontSets
import Derived.Test.YtbkdgpeooeokmaaDoorFrontTailz
import Derived.Deep.CutBlock
import Derived.Deep.DeepCutAuto
namespace Go.Proofs.YtbkdgpeooeokmaaDoor
open Go.RowKit
set_option linter.unusedVariables false

set_option maxRecDepth 100000 in
set_option maxHeartbeats 6400000 in
theorem tails_walk (hop coefs pre : Int) (wide many : Bool) (count : Int) (b0 b1 b2 : Bool) (w : World) (hc : In64 count) (hq : Quar w) :
    Calls Tryd.prog 5 #[.agg #[.int .i64 hop, .int .i64 coefs, .int .i64 pre, .bool wide, .bool many], .int .i64 count, .agg #[.bool b0, .bool b1, .bool b2]] w fun e w' => e = .returned (.bool true) ∧ Below w.heap.size w w' := by
  obtain ⟨i0, hi, hz0, hz1, hz2⟩ := info_parts Tryd.info3
  have HI : Hid (Tryd.prog.info? 3 = some i0 ∧ i0.zero = some (.int .i64 0) ∧ i0.size = 1 ∧ i0.bytes = 8) := ⟨hi, hz0, hz1, hz2⟩
  obtain ⟨n, p, B, C, r, hspc, hfront⟩ := spec_any hop coefs pre wide many
  obtain ⟨F, hF⟩ : ∃ F, w.heap.size = F := ⟨_, rfl⟩
  obtain ⟨W0, hW0⟩ : ∃ W0, (w.alloc (.cells #[.int .i64 hop, .int .i64 coefs, .int .i64 pre, .bool wide, .bool many] 23)).alloc (.cells #[.bool b0, .bool b1, .bool b2] 45) = W0 := ⟨_, rfl⟩
  have HF := hide (show Cells W0 F [.int .i64 hop, .int .i64 coefs, .int .i64 pre, .bool wide, .bool many] by rw [← hW0, ← hF]; exact (cells_new w [.int .i64 hop, .int .i64 coefs, .int .i64 pre, .bool wide, .bool many] _).alloc _)
  have HH := hide (show Cells W0 (F + 1) [.bool b0, .bool b1, .bool b2] by
    rw [← hW0, ← hF]
    have := cells_new (w.alloc (.cells #[.int .i64 hop, .int .i64 coefs, .int .i64 pre, .bool wide, .bool many] 23)) [.bool b0, .bool b1, .bool b2] 45
    simpa using this)
  have HB := hide (show Below w.heap.size w W0 by rw [← hW0]; exact (alloc_below w _).alloc (by simp) _)
  have HQ := hide (hq.below (unhide HB))
  have HS := hide hspc
  have HFR := hide hfront
  have HQ0 := hide hq
  have HCI := hide hc
  have hn16 : 16 ≤ n := by have := hspc.sz; omega
  have HSZ0 := hide (show W0.heap.size = F + 2 by rw [← hW0, ← hF]; simp)
  have HFE := hide hF
  clear hq hspc hfront hi hz0 hz1 hz2
  go_enter Tryd.func5, Tryd.ntmps5
  go_wp2_with fail
  clear hW0 hF
  refine (awake_any W0 (unhide HQ)).mono ?_
  rintro e w1 ⟨rfl, hb1⟩
  have HB1 := hide (below_trans (unhide HB) hb1)
  have HQ1 := hide ((unhide HQ).below hb1)
  have HH1 := hide ((unhide HH).below hb1)
  obtain ⟨f0, f1, f2, f3, f4⟩ := show w1.cell? ⟨F, 0, none⟩ = some (.int .i64 hop) ∧ w1.cell? ⟨F, 1, none⟩ = some (.int .i64 coefs) ∧ w1.cell? ⟨F, 2, none⟩ = some (.int .i64 pre) ∧ w1.cell? ⟨F, 3, none⟩ = some (.bool wide) ∧ w1.cell? ⟨F, 4, none⟩ = some (.bool many) from ⟨((unhide HF).below hb1).cell 0 _ rfl, ((unhide HF).below hb1).cell 1 _ rfl, ((unhide HF).below hb1).cell 2 _ rfl, ((unhide HF).below hb1).cell 3 _ rfl, ((unhide HF).below hb1).cell 4 _ rfl⟩
  clear hb1
  go_wp2_with fail
  refine (unhide HFR w1).mono ?_
  rintro e w2 ⟨rfl, hb2⟩
  have HB2 := hide (below_trans (unhide HB1) hb2)
  have HQ2 := hide ((unhide HQ1).below hb2)
  have HH2 := hide ((unhide HH1).below hb2)
  clear hb2 f0 f1 f2 f3 f4
  go_upto_region 4 with fail
  obtain ⟨G, hG⟩ : ∃ G, w2.heap.size = G := ⟨_, rfl⟩
  obtain ⟨lst, hlst⟩ : ∃ l, count / 1099511627776 = l := ⟨_, rfl⟩
  have HLI := hide (show -8388608 ≤ lst ∧ lst ≤ 8388607 by have h := unhide HCI; unfold In64 at h; omega)
  obtain ⟨W2, hW2⟩ : ∃ W2, (w2.alloc (.cells #[.int .i64 (n : Int), .int .i64 (p : Int), .int .i64 (B : Int), .int .i64 (C : Int), .int .i64 r] 27)).alloc (.cells #[.int .i64 count, .int .i64 lst, .slice none 0 0] 40) = W2 := ⟨_, rfl⟩
  rw [hlst, hW2, hG]
  have HG2 := hide (show Cells W2 G [.int .i64 (n : Int), .int .i64 (p : Int), .int .i64 (B : Int), .int .i64 (C : Int), .int .i64 r] by rw [← hW2, ← hG]; exact (cells_new w2 [.int .i64 (n : Int), .int .i64 (p : Int), .int .i64 (B : Int), .int .i64 (C : Int), .int .i64 r] _).alloc _)
  have HT2 := hide (show Cells W2 (G + 1) [.int .i64 count, .int .i64 lst, .slice none 0 0] by
    rw [← hW2, ← hG]
    have := cells_new (w2.alloc (.cells #[.int .i64 (n : Int), .int .i64 (p : Int), .int .i64 (B : Int), .int .i64 (C : Int), .int .i64 r] 27)) [.int .i64 count, .int .i64 lst, .slice none 0 0] 40
    simpa using this)
  have hbW2 : Below w2.heap.size w2 W2 := by rw [← hW2]; exact (alloc_below w2 _).alloc (by simp) _
  have HSZ2 := hide (show W2.heap.size = G + 2 by rw [← hW2, ← hG]; simp)
  have HBW2 := hide (below_trans (unhide HB2) hbW2)
  have HQW2 := hide ((unhide HQ2).below hbW2)
  have HHW := hide ((unhide HH2).below hbW2)
  have HORD := hide (show w.heap.size ≤ G ∧ F + 1 < G by have h1 := (unhide HB2).size; have h2 := (unhide HH2).lt; omega)
  clear hbW2 hW2 hG hlst
  have hh0 := (unhide HHW).cell 0 _ rfl
  have HC0 := hide hc
  go_upto_if 25 with fail
  go_cut [8] (fun x wy => ∃ cnt : Int, x = .pointer (some ⟨G, 0, none⟩) ∧ Hid (In64 cnt) ∧ Hid (Cells wy (G + 1) [.int .i64 cnt, .int .i64 lst, .slice none 0 0]) ∧ Hid (Only (G + 1) W2 wy))
  case first =>
    cases b0
    · go_wp2_with fail
      go_meet
      exact ⟨count, rfl, unhide HC0, unhide HT2, Only.refl _ _⟩
    · obtain ⟨K, hK, hK1⟩ := front_mod count 60 (by omega) (by omega)
      have k0 := (unhide HT2).cell 0 _ rfl
      have z0 := (unhide HT2).free 0
      have hK60 : (wrap64 (count.tmod 60 + 60)).tmod 60 = (K : Int) := hK
      clear hK
      go_wp2_with fail
      go_meet
      exact ⟨(K : Int), rfl, by show In64 _; unfold In64; omega, (unhide HT2).set 0 _, (Only.refl (G + 1) W2).setCell rfl _⟩
  case rest =>
    obtain ⟨cnt, rfl, HCN, HT3, HO3⟩ := hcut
    obtain ⟨w3, rfl⟩ : ∃ x, x = wc := ⟨_, rfl⟩
    have k0 := (unhide HT3).cell 0 _ rfl
    have HG3 := hide ((unhide HG2).only (unhide HO3) (by omega))
    have HH3 := hide ((unhide HHW).only (unhide HO3) (by have := unhide HORD; omega))
    have HSZ3 := hide (show W2.heap.size ≤ w3.heap.size from (unhide HO3).size)
    go_upto_region 6 with fail
    go_cut [38] (fun x wy => x = .bool (decide (0 < cnt ∧ cnt ≤ 4611686018427387904)) ∧ w3 = wy)
    case first =>
      by_cases hpos : 0 < cnt
      · by_cases hle : cnt ≤ 4611686018427387904
        · go_wp2_with fail
          go_meet
          exact ⟨by simp [hpos, hle], rfl⟩
        · go_wp2_with fail
          go_meet
          exact ⟨by simp [hpos, hle], rfl⟩
      · go_wp2_with fail
        go_meet
        exact ⟨congrArg Value.bool (decide_eq_false (by omega)).symm, rfl⟩
    case rest =>
    obtain ⟨rfl, rfl⟩ := hcut
    go_upto_if 38 with fail
    go_cut [8] (fun x wy => ∃ (v : Value) (R : List Int), x = .pointer (some ⟨G, 0, none⟩) ∧ R.length ≤ 64 ∧ Hid (wy.ownsRow W2.heap.size 3 1 v R.length (ints R)) ∧ Hid (Cells wy (G + 1) [.int .i64 cnt, .int .i64 lst, v]) ∧ Hid (Only (G + 1) W2 wy))
    case first =>
      by_cases hpos : 0 < cnt
      · by_cases hle : cnt ≤ 4611686018427387904
        · obtain ⟨N, rfl⟩ : ∃ N : Nat, cnt = (N : Int) := ⟨cnt.toNat, by omega⟩
          have hN : N ≤ 4611686018427387904 := by omega
          have hfr := frames_rest n p N (unhide HS).hp0 (unhide HS).hp
          obtain ⟨K, hK⟩ : ∃ K, framesN n p N = K := ⟨_, rfl⟩
          obtain ⟨P, hP⟩ : ∃ P, K * p = P := ⟨_, rfl⟩
          rw [hK, hP] at hfr
          obtain ⟨m, hm⟩ : ∃ m, N - P = m := ⟨_, rfl⟩
          have hm64 : m < 64 := by have := (unhide HS).sz; omega
          have hKP : (K : Int) * (p : Int) = (P : Int) := by rw [← hP]; push_cast; rfl
          have hPw : IntKind.i64.wrap (P : Int) = (P : Int) := by rw [IntKind.wrap_i64]; omega
          have hNP : (N : Int) - (P : Int) = (m : Int) := by omega
          have hmw : IntKind.i64.wrap (m : Int) = (m : Int) := by rw [IntKind.wrap_i64]; omega
          have HFRM : Hid (∀ w' : World, Calls Tryd.prog 19 #[.agg #[.int .i64 (n : Int), .int .i64 (p : Int), .int .i64 (B : Int), .int .i64 (C : Int), .int .i64 r], .int .i64 (N : Int)] w' fun e w'' => e = .returned (.int .i64 (K : Int)) ∧ Below w'.heap.size w' w'') := fun w' => by
            rw [← hK]
            exact rframes_any n p (B : Int) (C : Int) r N w' (by have := (unhide HS).sz; omega) (unhide HS).hp0 hN
          have hdec : decide (0 < (N : Int) ∧ (N : Int) ≤ 4611686018427387904) = true := decide_eq_true ⟨hpos, hle⟩
          rw [hdec]
          have HALL := hide (And.intro hKP (And.intro hPw (And.intro hNP (And.intro hmw hm64))))
          clear hfr hm hK hP hdec hKP hPw hNP hmw hm64
          obtain ⟨g0, g1, g2, g3, g4⟩ := show w3.cell? ⟨G, 0, none⟩ = some (.int .i64 (n : Int)) ∧ w3.cell? ⟨G, 1, none⟩ = some (.int .i64 (p : Int)) ∧ w3.cell? ⟨G, 2, none⟩ = some (.int .i64 (B : Int)) ∧ w3.cell? ⟨G, 3, none⟩ = some (.int .i64 (C : Int)) ∧ w3.cell? ⟨G, 4, none⟩ = some (.int .i64 r) from ⟨(unhide HG3).cell 0 _ rfl, (unhide HG3).cell 1 _ rfl, (unhide HG3).cell 2 _ rfl, (unhide HG3).cell 3 _ rfl, (unhide HG3).cell 4 _ rfl⟩
          have k0 := (unhide HT3).cell 0 _ rfl
          go_wp2_with fail
          -- R7 BEGIN
          have hdr : Below w3.heap.size w3 w3.drew := ⟨rfl, rfl, rfl, Nat.le_refl _, fun _ _ => rfl⟩
          have hszG : G + 1 < W2.heap.size := by have := unhide HSZ2; omega
          obtain ⟨hKP, hPw, hNP, hmw, hm64⟩ := unhide HALL
          refine region_ssa2 (fun f W => TailZ w3 W2.heap.size G m [.int .i64 (n : Int), .int .i64 (p : Int), .int .i64 (B : Int), .int .i64 (C : Int), .int .i64 r] (.int .i64 (N : Int)) (.int .i64 lst) (f 12) W) (fun jq vq wq => (∀ xq, (([some (.pointer (some ⟨G + 1, 0, none⟩)), some (.int .i64 (N : Int)), some (.agg #[.int .i64 (n : Int), .int .i64 (p : Int), .int .i64 (B : Int), .int .i64 (C : Int), .int .i64 r]), some (.pointer (some ⟨G + 1, 0, none⟩)), some (.int .i64 (N : Int)), some (.int .i64 (K : Int)), some (.pointer (some ⟨G, 1, none⟩)), some (.int .i64 (p : Int)), some (.int .i64 (P : Int)), some (.int .i64 (m : Int)), none, some (.pointer (some ⟨G + 1, 2, none⟩)), none] : List (Option Value)).getD jq none) = some xq → vq = xq) ∧ (jq = 10 → wq.ownsRow W2.heap.size 3 1 vq m (ints (List.replicate m 0)))) (by kernel_rfl) (by kernel_rfl) ?_ ?_ ?_
          · intro fq hf
            refine ⟨(unhide HG3).below hdr, (Only.refl (G + 1) w3).drew, ((unhide HT3).below hdr).cell 0 _ rfl, fun _ => (unhide HT3).below hdr, fun e => ?_⟩
            rw [hf 12 (by decide)] at e; cases e
          · intro iq op ho fq AQ W hf hdep hS hK hG
            have hlt : iq < 13 := (Array.getElem?_eq_some_iff.1 ho).1
            match iq, hlt with
            | 0, _ =>
              obtain rfl := (Option.some.inj ho).symm
              have d9 : AQ.tmps.getD 9 undef = .pointer (some ⟨G + 1, 0, none⟩) := hK.2.2 9 (by kernel_rfl)
              exact wpOp_val (v := (.pointer (some ⟨G + 1, 0, none⟩))) (w' := W) rfl (wanted_none rfl) (by simp [execOp, Act.eval, d9, go_sem]) ⟨_, rfl, hS, fun _ _ h => h, ⟨(by intro x hx; cases hx; rfl), (by intro h; cases h)⟩⟩
            | 1, _ =>
              obtain rfl := (Option.some.inj ho).symm
              have d39 : AQ.tmps.getD 39 undef = .pointer (some ⟨G + 1, 0, none⟩) := ((hG ⟨0, .data⟩ (by simp) rfl).2 39 rfl).1 _ rfl
              have hc := hS.count
              exact wpOp_val (v := (.int .i64 (N : Int))) (w' := W) rfl (wanted_none rfl) (by simp [execOp, Act.eval, d39, hc, go_sem]) ⟨_, rfl, hS, fun _ _ h => h, ⟨(by intro x hx; cases hx; rfl), (by intro h; cases h)⟩⟩
            | 2, _ =>
              obtain rfl := (Option.some.inj ho).symm
              have d8 : AQ.tmps.getD 8 undef = .pointer (some ⟨G, 0, none⟩) := hK.2.2 8 (by kernel_rfl)
              have hc0 := hS.front.cell 0 _ rfl
              have hc1 := hS.front.cell 1 _ rfl
              have hc2 := hS.front.cell 2 _ rfl
              have hc3 := hS.front.cell 3 _ rfl
              have hc4 := hS.front.cell 4 _ rfl
              exact wpOp_val (v := (.agg #[.int .i64 (n : Int), .int .i64 (p : Int), .int .i64 (B : Int), .int .i64 (C : Int), .int .i64 r])) (w' := W) rfl (wanted_none rfl) (by simp [execOp, Act.eval, d8, hc0, hc1, hc2, hc3, hc4, go_sem]) ⟨_, rfl, hS, fun _ _ h => h, ⟨(by intro x hx; cases hx; rfl), (by intro h; cases h)⟩⟩
            | 3, _ =>
              obtain rfl := (Option.some.inj ho).symm
              have d9 : AQ.tmps.getD 9 undef = .pointer (some ⟨G + 1, 0, none⟩) := hK.2.2 9 (by kernel_rfl)
              exact wpOp_val (v := (.pointer (some ⟨G + 1, 0, none⟩))) (w' := W) rfl (wanted_none rfl) (by simp [execOp, Act.eval, d9, go_sem]) ⟨_, rfl, hS, fun _ _ h => h, ⟨(by intro x hx; cases hx; rfl), (by intro h; cases h)⟩⟩
            | 4, _ =>
              obtain rfl := (Option.some.inj ho).symm
              have d42 : AQ.tmps.getD 42 undef = .pointer (some ⟨G + 1, 0, none⟩) := ((hG ⟨3, .data⟩ (by simp) rfl).2 42 rfl).1 _ rfl
              have hc := hS.count
              exact wpOp_val (v := (.int .i64 (N : Int))) (w' := W) rfl (wanted_none rfl) (by simp [execOp, Act.eval, d42, hc, go_sem]) ⟨_, rfl, hS, fun _ _ h => h, ⟨(by intro x hx; cases hx; rfl), (by intro h; cases h)⟩⟩
            | 5, _ =>
              obtain rfl := (Option.some.inj ho).symm
              have d41 : AQ.tmps.getD 41 undef = .agg #[.int .i64 (n : Int), .int .i64 (p : Int), .int .i64 (B : Int), .int .i64 (C : Int), .int .i64 r] := ((hG ⟨2, .data⟩ (by simp) rfl).2 41 rfl).1 _ rfl
              have d43 : AQ.tmps.getD 43 undef = .int .i64 (N : Int) := ((hG ⟨4, .data⟩ (by simp) rfl).2 43 rfl).1 _ rfl
              have h12 : fq 12 = false := by
                cases hb : fq 12 with
                | false => rfl
                | true =>
                  have q10 := hdep 12 _ rfl hb ⟨10, .data⟩ (by simp) rfl
                  have q9 := hdep 10 _ rfl q10 ⟨9, .data⟩ (by simp) rfl
                  have q8 := hdep 9 _ rfl q9 ⟨8, .data⟩ (by simp) rfl
                  have q5 := hdep 8 _ rfl q8 ⟨5, .data⟩ (by simp) rfl
                  rw [hf] at q5; cases q5
              refine wpOp_call (f := 19) (args := #[.agg #[.int .i64 (n : Int), .int .i64 (p : Int), .int .i64 (B : Int), .int .i64 (C : Int), .int .i64 r], .int .i64 (N : Int)]) (w' := W) rfl (wanted_none rfl) (by simp [execOp, Act.eval, d41, d43, go_sem]) ?_
              refine (unhide HFRM W).mono ?_
              rintro ee w' ⟨rfl, hb⟩
              exact ⟨_, rfl, _, rfl, hS.call h12 hb, (fun j u h => ⟨h.1, fun e => frows_under (h.2 e) hb⟩), ⟨(by intro x hx; cases hx; rfl), (by intro h; cases h)⟩⟩
            | 6, _ =>
              obtain rfl := (Option.some.inj ho).symm
              have d8 : AQ.tmps.getD 8 undef = .pointer (some ⟨G, 0, none⟩) := hK.2.2 8 (by kernel_rfl)
              exact wpOp_val (v := (.pointer (some ⟨G, 1, none⟩))) (w' := W) rfl (wanted_none rfl) (by simp [execOp, Act.eval, d8, go_sem]) ⟨_, rfl, hS, fun _ _ h => h, ⟨(by intro x hx; cases hx; rfl), (by intro h; cases h)⟩⟩
            | 7, _ =>
              obtain rfl := (Option.some.inj ho).symm
              have d45 : AQ.tmps.getD 45 undef = .pointer (some ⟨G, 1, none⟩) := ((hG ⟨6, .data⟩ (by simp) rfl).2 45 rfl).1 _ rfl
              have hc := hS.front.cell 1 _ rfl
              exact wpOp_val (v := (.int .i64 (p : Int))) (w' := W) rfl (wanted_none rfl) (by simp [execOp, Act.eval, d45, hc, go_sem]) ⟨_, rfl, hS, fun _ _ h => h, ⟨(by intro x hx; cases hx; rfl), (by intro h; cases h)⟩⟩
            | 8, _ =>
              obtain rfl := (Option.some.inj ho).symm
              have d44 : AQ.tmps.getD 44 undef = .int .i64 (K : Int) := ((hG ⟨5, .data⟩ (by simp) rfl).2 44 rfl).1 _ rfl
              have d46 : AQ.tmps.getD 46 undef = .int .i64 (p : Int) := ((hG ⟨7, .data⟩ (by simp) rfl).2 46 rfl).1 _ rfl
              exact wpOp_val (v := (.int .i64 (P : Int))) (w' := W) rfl (wanted_none rfl) (by simp [execOp, Act.eval, d44, d46, hKP, hPw, go_sem]) ⟨_, rfl, hS, fun _ _ h => h, ⟨(by intro x hx; cases hx; rfl), (by intro h; cases h)⟩⟩
            | 9, _ =>
              obtain rfl := (Option.some.inj ho).symm
              have d40 : AQ.tmps.getD 40 undef = .int .i64 (N : Int) := ((hG ⟨1, .data⟩ (by simp) rfl).2 40 rfl).1 _ rfl
              have d47 : AQ.tmps.getD 47 undef = .int .i64 (P : Int) := ((hG ⟨8, .data⟩ (by simp) rfl).2 47 rfl).1 _ rfl
              exact wpOp_val (v := (.int .i64 (m : Int))) (w' := W) rfl (wanted_none rfl) (by simp [execOp, Act.eval, d40, d47, hNP, hmw, go_sem]) ⟨_, rfl, hS, fun _ _ h => h, ⟨(by intro x hx; cases hx; rfl), (by intro h; cases h)⟩⟩
            | 10, _ =>
              obtain rfl := (Option.some.inj ho).symm
              have d48 : AQ.tmps.getD 48 undef = .int .i64 (m : Int) := ((hG ⟨9, .data⟩ (by simp) rfl).2 48 rfl).1 _ rfl
              have h12 : fq 12 = false := by
                cases hb : fq 12 with
                | false => rfl
                | true =>
                  have q10 := hdep 12 _ rfl hb ⟨10, .data⟩ (by simp) rfl
                  rw [hf] at q10; cases q10
              obtain ⟨w5, hrun, hown, hgr⟩ := run_makeSlice_full (P := Tryd.prog) W W2.heap.size 24 3 i0 (.int .i64 0) 1 Tryd.underlying24 (unhide HI).1 (unhide HI).2.1 (unhide HI).2.2.1 .i64 .i64 m (by omega) (by rw [(unhide HI).2.2.2]; omega) (by unfold maxLen; omega) (by have := unhide HSZ3; have := hS.only.size; omega)
              have hb : Below W.heap.size W w5 := (Below.refl W.heap.size W).grown hgr (Nat.le_refl _) (fun _ h => by cases h)
              have hown' : w5.ownsRow W2.heap.size 3 1 (.slice (some ⟨W.heap.size, 0, none⟩) m m) m (ints (List.replicate m 0)) := by rw [← ints_zero]; have h := hown; rw [Nat.mul_one] at h; exact h
              exact tail_make rfl (wanted_none rfl) rfl (p := .int .i64 (m : Int)) (q := .int .i64 (m : Int)) (by simp [Act.eval, d48]) (by simp [Act.eval, d48]) hrun ⟨_, rfl, hS.call h12 hb, (fun j u h => ⟨h.1, fun e => frows_under (h.2 e) hb⟩), ⟨(by intro x hx; cases hx), (fun _ => hown')⟩⟩
            | 11, _ =>
              obtain rfl := (Option.some.inj ho).symm
              have d9 : AQ.tmps.getD 9 undef = .pointer (some ⟨G + 1, 0, none⟩) := hK.2.2 9 (by kernel_rfl)
              exact wpOp_val (v := (.pointer (some ⟨G + 1, 2, none⟩))) (w' := W) rfl (wanted_none rfl) (by simp [execOp, Act.eval, d9, go_sem]) ⟨_, rfl, hS, fun _ _ h => h, ⟨(by intro x hx; cases hx; rfl), (by intro h; cases h)⟩⟩
            | 12, _ =>
              obtain rfl := (Option.some.inj ho).symm
              have d50 : AQ.tmps.getD 50 undef = .pointer (some ⟨G + 1, 2, none⟩) := ((hG ⟨11, .data⟩ (by simp) rfl).2 50 rfl).1 _ rfl
              have g49 := ((hG ⟨10, .data⟩ (by simp) rfl).2 49 rfl).2 rfl
              have g49' := hG
              have hc := (hS.still hf).cell 2 _ rfl
              have hfz := (hS.still hf).free 2
              obtain ⟨va, vc, e49, _⟩ := owned_slot g49
              exact tail_skip (w' := W.setCell ⟨G + 1, 2, none⟩ (.slice va m vc)) rfl (wanted_none rfl) (by simp [execOp, Act.eval, d50, e49, hc, hfz, go_sem]) ⟨_, rfl, hS.stored hf (by rw [e49] at g49; exact g49) hszG, (fun j u h => ⟨h.1, fun e => owns_only2 (h.2 e) (Only.setCell (p := ⟨G + 1, 2, none⟩) (Only.refl (G + 1) W) rfl _) hszG⟩), ⟨(by intro x hx; cases hx), (by intro h; cases h)⟩⟩
          · intro fq W vals hf hS hG
            have ev0 : vals 0 = .pointer (some ⟨G + 1, 0, none⟩) := (hG 0 39 (by decide) rfl).1 _ rfl
            have ev1 : vals 1 = .int .i64 (N : Int) := (hG 1 40 (by decide) rfl).1 _ rfl
            have ev2 : vals 2 = .agg #[.int .i64 (n : Int), .int .i64 (p : Int), .int .i64 (B : Int), .int .i64 (C : Int), .int .i64 r] := (hG 2 41 (by decide) rfl).1 _ rfl
            have ev3 : vals 3 = .pointer (some ⟨G + 1, 0, none⟩) := (hG 3 42 (by decide) rfl).1 _ rfl
            have ev4 : vals 4 = .int .i64 (N : Int) := (hG 4 43 (by decide) rfl).1 _ rfl
            have ev5 : vals 5 = .int .i64 (K : Int) := (hG 5 44 (by decide) rfl).1 _ rfl
            have ev6 : vals 6 = .pointer (some ⟨G, 1, none⟩) := (hG 6 45 (by decide) rfl).1 _ rfl
            have ev7 : vals 7 = .int .i64 (p : Int) := (hG 7 46 (by decide) rfl).1 _ rfl
            have ev8 : vals 8 = .int .i64 (P : Int) := (hG 8 47 (by decide) rfl).1 _ rfl
            have ev9 : vals 9 = .int .i64 (m : Int) := (hG 9 48 (by decide) rfl).1 _ rfl
            have g10 := (hG 10 49 (by decide) rfl).2 rfl
            have ev11 : vals 11 = .pointer (some ⟨G + 1, 2, none⟩) := (hG 11 50 (by decide) rfl).1 _ rfl
            change (_ : Exit → Act → World → Prop) Exit.normal (Act.put (Act.put (Act.put (Act.put (Act.put (Act.put (Act.put (Act.put (Act.put (Act.put (Act.put (Act.put (Act.put _ (some 39) (vals 0)) (some 40) (vals 1)) (some 41) (vals 2)) (some 42) (vals 3)) (some 43) (vals 4)) (some 44) (vals 5)) (some 45) (vals 6)) (some 46) (vals 7)) (some 47) (vals 8)) (some 48) (vals 9)) (some 49) (vals 10)) (some 50) (vals 11)) none (vals 12)) W
            rw [putAll_zero, ev0, ev1, ev2, ev3, ev4, ev5, ev6, ev7, ev8, ev9, ev11]
            have hS' := hS
            obtain ⟨v, hvO, hvC⟩ := hS'.done (hf 12 (by decide))
            have HVC := hide hvC
            have HVO := hide hvO
            have HVP := hide hS'.only
            generalize vals 10 = xv10
            generalize vals 12 = xv12
            obtain ⟨wz, hwz⟩ : ∃ x, x = W := ⟨_, rfl⟩
            rw [← hwz] at HVC HVO HVP ⊢
            clear hS hS' hG hf hvC hvO hwz g10 ev0 ev1 ev2 ev3 ev4 ev5 ev6 ev7 ev8 ev9 ev11
            clear vals fq
            go_simp
            clear hKP hPw hNP hmw g0 g1 g2 g3 g4 k0
            go_wp2_with fail
            go_meet
            exact ⟨v, List.replicate m 0, rfl, by rw [List.length_replicate]; omega, by rw [List.length_replicate]; exact HVO, HVC, (unhide HO3).trans (unhide HVP)⟩
          -- R7 END
        · have hdec : decide (0 < cnt ∧ cnt ≤ 4611686018427387904) = false := decide_eq_false fun h => hle h.2
          rw [hdec]
          clear hdec
          go_wp2_with fail
          go_meet
          exact ⟨.slice none 0 0, [], rfl, by simp, World.ownsRow_nil _ _ _ _, unhide HT3, unhide HO3⟩
      · have hdec : decide (0 < cnt ∧ cnt ≤ 4611686018427387904) = false := decide_eq_false fun h => hpos h.1
        rw [hdec]
        clear hdec
        go_wp2_with fail
        go_meet
        exact ⟨.slice none 0 0, [], rfl, by simp, World.ownsRow_nil _ _ _ _, unhide HT3, unhide HO3⟩
    case rest =>
      obtain ⟨v4, R, rfl, hR64, HO4w, HT4, HO4⟩ := hcut
      obtain ⟨w4, rfl⟩ : ∃ x, x = wc := ⟨_, rfl⟩
      have HSZ4 := hide (show W2.heap.size ≤ w4.heap.size from (unhide HO4).size)
      have HH4 := hide ((unhide HHW).only (unhide HO4) (by have := unhide HORD; omega))
      have hh1 := (unhide HH4).cell 1 _ rfl
      clear k0
      go_upto_if 52 with fail
      go_cut [8] (fun x wy => ∃ (v : Value) (R : List Int), x = .pointer (some ⟨G, 0, none⟩) ∧ R.length ≤ 65 ∧ Hid (wy.ownsRow W2.heap.size 3 1 v R.length (ints R)) ∧ Hid (Cells wy (G + 1) [.int .i64 cnt, .int .i64 lst, v]) ∧ Hid (Only (G + 1) W2 wy))
      case first =>
        cases b1
        · go_wp2_with fail
          go_meet
          exact ⟨v4, R, rfl, by omega, HO4w, HT4, HO4⟩
        · have k2 := (unhide HT4).cell 2 _ rfl
          have hown0 := unhide HO4w
          go_wp2_with (at_builtin; go_loud (refine wpList_append_own _ rfl _ _ 24 rfl W2.heap.size 3 i0 (.int .i64 0) 1 8 Tryd.underlying24 (unhide HI).1 (unhide HI).2.1 (unhide HI).2.2.1 (unhide HI).2.2.2 rfl (by decide) _ _ _ rfl (hown0.alloc _) ⟨w4.heap.size, 0, none⟩ 1 1 [.int .i64 0] rfl rfl ?d1 ?d2 ?d3 ?d4 ?d5 ?_))
          case d1 => exact cell_one_new _ _ _
          case d2 => exact ints_one [0]
          case d3 => unfold maxLen; omega
          case d4 => omega
          case d5 => have := unhide HSZ4; simp; omega
          intro v5 w5 hown5 hg5 _
          have hgr : ∀ q, Value.ownBlock v4 = some q → W2.heap.size ≤ q := fun q hq => (hown0.lt q hq).1
          have hT5 : Cells w5 (G + 1) [.int .i64 cnt, .int .i64 lst, v4] := ((unhide HT4).alloc _).grown hg5 (fun e => by have := hgr _ e; have := unhide HSZ2; omega)
          have s2 := hT5.cell 2 _ rfl
          have z2 := hT5.free 2
          have HT5 := hide hT5
          have HOwn5 := hide (show w5.ownsRow W2.heap.size 3 1 v5 (R.length + 1) (ints (R ++ [0])) by simpa [ints] using hown5)
          have HON5 := hide (show Only (G + 1) W2 w5 from ((Kept.of_only (unhide HO4) (Nat.le_refl _)).trans ((Kept.of_below ((Below.refl w4.heap.size w4).alloc (Nat.le_refl _) _) (unhide HSZ4)).trans (Kept.of_grown hg5 hgr (by have := unhide HSZ4; simp; omega)))).only)
          obtain ⟨a5', c5', rfl, -⟩ := owned_slot (unhide HOwn5)
          clear k2 hown0 hown5 hg5 hgr hT5
          go_wp2_with fail
          go_meet
          exact ⟨.slice a5' (R.length + 1) c5', R ++ [0], rfl, by rw [List.length_append]; simp; omega, by rw [List.length_append]; exact owns_only2 (unhide HOwn5) ((Only.refl (G + 1) w5).setCell rfl _) (by have := unhide HSZ2; omega), (unhide HT5).set 2 _, (unhide HON5).setCell rfl _⟩
      case rest =>
        clear HO4w HT4 HO4 HSZ4 HH4 hh1 hR64
        obtain ⟨v5, R, rfl, hR65, HO5w, HT5, HO5⟩ := hcut
        obtain ⟨w5, rfl⟩ : ∃ x, x = wc := ⟨_, rfl⟩
        obtain ⟨a5, c5, rfl, _, hRc, hc63, hlR, hslR, hbR⟩ := owned_slot (unhide HO5w)
        have HL5 := hide hlR
        have HSL5 := hide hslR
        have HBR := hide hbR
        have HSZ5 := hide (show W2.heap.size ≤ w5.heap.size from (unhide HO5).size)
        have HH5 := hide ((unhide HHW).only (unhide HO5) (by have := unhide HORD; omega))
        have hh2 := (unhide HH5).cell 2 _ rfl
        have k2 := (unhide HT5).cell 2 _ rfl
        clear hlR hslR hbR
        obtain ⟨l, hl⟩ : ∃ l, R.length = l := ⟨_, rfl⟩
        have HRL := hide hl
        rw [hl] at k2 hR65 hRc
        clear hl
        go_upto_region 10 with fail
        go_cut [65] (fun x wy => x = .bool (b2 && decide (0 < l)) ∧ w5 = wy)
        case first =>
          cases b2
          · go_wp2_with fail
            go_meet
            exact ⟨rfl, rfl⟩
          · by_cases hl0 : 0 < l
            · have hli : (0 : Int) < (l : Int) := by omega
              go_wp2_with fail
              go_meet
              exact ⟨by simp [hl0], rfl⟩
            · obtain rfl : l = 0 := by omega
              go_wp2_with fail
              go_meet
              exact ⟨by simp, rfl⟩
        case rest =>
        obtain ⟨rfl, rfl⟩ := hcut
        go_upto_if 65 with fail
        go_cut [8] (fun x wy => ∃ (a : Option Addr) (c : Nat) (R : List Int), x = .pointer (some ⟨G, 0, none⟩) ∧ R.length ≤ 65 ∧ Hid (Cells wy (G + 1) [.int .i64 cnt, .int .i64 lst, .slice a R.length c]) ∧ Hid (Lies wy a R ∧ Slot a R.length c ∧ ∀ q, a = some q → W2.heap.size ≤ q.block) ∧ Hid (Only (G + 1) W2 wy))
        case first =>
          have HSTAY : Hid (R.length ≤ 65 ∧ Cells w5 (G + 1) [.int .i64 cnt, .int .i64 lst, .slice a5 R.length c5] ∧ (Lies w5 a5 R ∧ Slot a5 R.length c5 ∧ ∀ q, a5 = some q → W2.heap.size ≤ q.block) ∧ Only (G + 1) W2 w5) := ⟨by rw [unhide HRL]; exact hR65, unhide HT5, ⟨unhide HL5, unhide HSL5, unhide HBR⟩, unhide HO5⟩
          cases b2
          · have hdec : (false && decide (0 < l)) = false := rfl
            rw [hdec]
            clear hdec
            go_wp2_with fail
            go_meet
            exact ⟨a5, c5, R, rfl, (unhide HSTAY).1, (unhide HSTAY).2.1, (unhide HSTAY).2.2.1, (unhide HSTAY).2.2.2⟩
          · by_cases hl0 : 0 < l
            · obtain ⟨L, hL⟩ : ∃ L, L + 1 = l := ⟨l - 1, by omega⟩
              have hdec : (true && decide (0 < l)) = true := by simp [hl0]
              rw [hdec]
              obtain ⟨g, cap, eg, hg1, hg2⟩ := owned_block (unhide HO5w) (by rw [unhide HRL]; exact hl0)
              injection eg with eg1 eg2 eg3
              subst eg1 eg3
              have hne : ¬ g = G + 1 := by have := unhide HSZ2; omega
              obtain ⟨u, hu⟩ : ∃ u, (ints R)[L]? = some u := ⟨_, List.getElem?_eq_getElem (by simp only [ints, List.length_map]; rw [unhide HRL]; omega)⟩
              have cx := (unhide HO5w).cellAt L (by rw [unhide HRL]; omega)
              rw [hu] at cx
              have hli : (l : Int) - 1 = (L : Int) := by omega
              have hlw : IntKind.i64.wrap (L : Int) = (L : Int) := by rw [IntKind.wrap_i64]; omega
              have hlt : (L : Int) < (l : Int) := by omega
              obtain ⟨q4, hq4⟩ : ∃ q, lst * 4 = q := ⟨_, rfl⟩
              have hqw : IntKind.i64.wrap q4 = q4 := by rw [IntKind.wrap_i64]; have := unhide HLI; omega
              have k1 := (unhide HT5).cell 1 _ rfl
              have zg := (unhide HO5w).frozenAt L
              clear hdec hL hu
              have HST := hide ((unhide HO5w).stored L (.int .i64 q4))
              have HNE := hide hne
              have HG12 := hide (And.intro hg1 hg2)
              clear hg1 hg2
              go_wp2_with fail
              go_meet
              obtain ⟨hst1, hst2⟩ := unhide HST
              have hN : (w5.setCell ⟨g, L, none⟩ (.int .i64 q4)).ownsRow W2.heap.size 3 1 (.slice (some ⟨g, 0, none⟩) R.length c5) R.length (ints (R.set L q4)) := by
                rw [show ints (R.set L q4) = (ints R).set L (.int .i64 q4) from List.map_set]; exact hst1
              obtain ⟨a', c', e', _, _, _, hl', hs', hb'⟩ := owned_slot hN
              injection e' with e1 _ e3
              subst e1 e3
              have hkn : Only (G + 1) W2 (w5.setCell ⟨g, L, none⟩ (.int .i64 q4)) := ((Kept.of_only (unhide HO5) (Nat.le_refl _)).trans (Kept.of_grown hst2 (fun k hk => by cases hk; exact (unhide HG12).1) (unhide HSZ5))).only
              refine ⟨some ⟨g, 0, none⟩, c5, R.set L q4, rfl, by rw [List.length_set, unhide HRL]; exact hR65, ?_, ?_, hkn⟩
              · rw [List.length_set]
                exact cells_other (unhide HT5) (by omega)
              · rw [List.length_set]
                exact ⟨hl', hs', hb'⟩
            · have hdec : (true && decide (0 < l)) = false := by simp [hl0]
              rw [hdec]
              clear hdec
              go_wp2_with fail
              go_meet
              exact ⟨a5, c5, R, rfl, (unhide HSTAY).1, (unhide HSTAY).2.1, (unhide HSTAY).2.2.1, (unhide HSTAY).2.2.2⟩
        case rest =>
          obtain ⟨a, c, R, rfl, hR65, HT6, HL6, HO6⟩ := hcut
          obtain ⟨w6, rfl⟩ : ∃ x, x = wc := ⟨_, rfl⟩
          have HB6 := hide ((unhide HBW2).trans ((unhide HO6).below (by have := unhide HORD; omega) (unhide HBW2).size))
          have HG6 := hide ((unhide HG2).only (unhide HO6) (by omega))
          have HSZ6 := hide (show W2.heap.size ≤ w6.heap.size from (unhide HO6).size)
          have HWL := hide (show w.heap.size ≤ w6.heap.size from (unhide HB6).size)
          have HNE := hide (show R ≠ [] → ∀ q, a = some q → q.block < w6.heap.size from fun h q hq => by
            obtain ⟨b, off, e, hlt, _⟩ := (unhide HL6).1.some h
            rw [hq] at e; cases e; exact hlt)
          have HGL := hide (show G + 1 < w6.heap.size from (unhide HT6).lt)
          have HSL := hide (unhide HL6).2.1
          obtain ⟨g0, g1, g2, g3, g4⟩ := show w6.cell? ⟨G, 0, none⟩ = some (.int .i64 (n : Int)) ∧ w6.cell? ⟨G, 1, none⟩ = some (.int .i64 (p : Int)) ∧ w6.cell? ⟨G, 2, none⟩ = some (.int .i64 (B : Int)) ∧ w6.cell? ⟨G, 3, none⟩ = some (.int .i64 (C : Int)) ∧ w6.cell? ⟨G, 4, none⟩ = some (.int .i64 r) from ⟨(unhide HG6).cell 0 _ rfl, (unhide HG6).cell 1 _ rfl, (unhide HG6).cell 2 _ rfl, (unhide HG6).cell 3 _ rfl, (unhide HG6).cell 4 _ rfl⟩
          go_wp2_with fail
          refine (new_yes n p B C r (unhide HS) w6).mono ?_
          rintro e w7 ⟨c7, rfl, hc7, hst7, hb7⟩
          have HST7 := hide hst7
          have HB7 := hide (below_trans (unhide HB6) hb7)
          have HT7 := hide ((unhide HT6).below hb7)
          have HG7 := hide ((unhide HG6).below hb7)
          have HL7 := hide ((unhide HL6).1.below hb7)
          have HC7 := hide (show w6.heap.size ≤ c7 ∧ c7 < w7.heap.size from ⟨hc7, hst7.lt⟩)
          clear hst7 hb7 hc7 g0 g1 g2 g3 g4
          go_wp2_with fail
          obtain ⟨W7, hW7⟩ : ∃ W7, w7.alloc (.cells #[.int .i64 1, .int .i64 2, .int .i64 3] 3) = W7 := ⟨_, rfl⟩
          rw [hW7]
          have HL1 := hide (show Lies W7 (some ⟨w7.heap.size, 0, none⟩) [1, 2, 3] by rw [← hW7]; exact lies_new w7 [1, 2, 3] _ rfl)
          have hbW7 : Below w7.heap.size w7 W7 := by rw [← hW7]; exact alloc_below w7 _
          have HST7W := hide ((unhide HST7).below hbW7)
          have HBW7 := hide (below_trans (unhide HB7) hbW7)
          have HT7W := hide ((unhide HT7).below hbW7)
          have HG7W := hide ((unhide HG7).below hbW7)
          have HL7W := hide ((unhide HL7).below hbW7)
          have HQ7W := hide ((unhide HQ0).below (unhide HBW7))
          have hszW : w7.heap.size ≤ W7.heap.size := hbW7.size
          clear hW7 hbW7
          refine (push_any c7 n p B C r (unhide HS) stNone (stOk_none n (by omega)) _ 3 3 [1, 2, 3] W7 (unhide HST7W) (unhide HL1) rfl (by decide) (fun y hy => by simp at hy; unfold Smp; omega) (fun _ q hq => by cases hq; show w7.heap.size ≠ c7; have := unhide HC7; omega) (by show 0 + 3 ≤ _; omega) (unhide HQ7W)).mono ?_
          rintro e w8 ⟨v8, rs8, rfl, -, -, -, hs8, hon8⟩
          have hok8 : StOk n (stPush n p r stNone [1, 2, 3]) := stOk_push (unhide HS) (stOk_none n (by omega)) _ (fun y hy => by simp at hy; unfold Smp; omega)
          obtain ⟨t8, ht8⟩ : ∃ t, stPush n p r stNone [1, 2, 3] = t := ⟨_, rfl⟩
          rw [ht8] at hs8 hok8
          have HST8 := hide hs8
          have HB8 := hide ((unhide HBW7).trans (hon8.below (by have := unhide HC7; have := unhide HWL; omega) (unhide HBW7).size))
          have HT8 := hide ((unhide HT7W).only hon8 (by have := unhide HC7; have := unhide HGL; omega))
          have HG8 := hide ((unhide HG7W).only hon8 (by have := unhide HC7; have := unhide HGL; omega))
          have HL8 := hide ((unhide HL7W).only hon8 (fun h q hq => by have := unhide HNE h q hq; have := unhide HC7; omega))
          obtain ⟨NT, hNT⟩ : ∃ x : Int, (t8.n : Int) = x := ⟨_, rfl⟩
          obtain ⟨LT, hLT⟩ : ∃ x : Int, t8.last = x := ⟨_, rfl⟩
          obtain ⟨RT, hRT⟩ : ∃ x : List Int, t8.rest = x := ⟨_, rfl⟩
          have hRT32 : RT.length ≤ 32 := by rw [← hRT]; have := hok8.few; have := (unhide HS).sz; omega
          have HTA : Hid (∀ w' : World, Stm c7 n p B C r t8 w' → Calls Tryd.prog 15 #[.pointer (some ⟨c7, 0, none⟩)] w' (TailC NT LT RT w')) := fun w' h => by
            rw [← hNT, ← hLT, ← hRT]
            exact tail_any c7 n p B C r t8 w' h (by rw [hRT]; omega)
          clear hs8 hon8 ht8 hok8 hNT hLT hRT hszW
          go_wp2_with fail
          refine (unhide HTA w8 (unhide HST8)).mono ?_
          rintro e w9 ⟨aT, cT, rfl, hoT, hb9⟩
          have HOT := hide hoT
          have HB9 := hide hb9
          clear hoT hb9
          go_upto_region 15 with fail
          obtain ⟨W9, hW9⟩ : ∃ W9, w9.alloc (.cells #[.int .i64 NT, .int .i64 LT, .slice aT RT.length cT] 40) = W9 := ⟨_, rfl⟩
          rw [hW9]
          obtain ⟨U, hU⟩ : ∃ U, w9.heap.size = U := ⟨_, rfl⟩
          have HWAS := hide (show Cells W9 U [.int .i64 NT, .int .i64 LT, .slice aT RT.length cT] by rw [← hW9, ← hU]; exact cells_new w9 [.int .i64 NT, .int .i64 LT, .slice aT RT.length cT] _)
          have hbW9 : Below w9.heap.size w9 W9 := by rw [← hW9]; exact alloc_below w9 _
          have hb89 := below_trans (unhide HB9) hbW9
          obtain ⟨aT', cT', eT, _, _, _, hlT, hsT, _⟩ := owned_slot (frows_under (unhide HOT) hbW9)
          injection eT with eT1 _ eT3
          subst eT1 eT3
          have HLT9 := hide hlT
          have HST9 := hide ((unhide HST8).below hb89)
          have HT9 := hide ((unhide HT8).below hb89)
          have HG9 := hide ((unhide HG8).below hb89)
          have HL9 := hide ((unhide HL8).below hb89)
          have HBW9 := hide (below_trans (unhide HB8) hb89)
          have HCU := hide (show c7 < U by have := (unhide HST8).lt; have := (unhide HB9).size; omega)
          have HWU := hide (show w.heap.size ≤ U ∧ G + 1 < U by have := unhide HCU; have := unhide HC7; have := unhide HGL; have := unhide HWL; omega)
          rw [hU]
          clear hlT hsT hbW9 hb89 hW9 hU
          obtain ⟨g0, g1, g2, g3, g4⟩ := show W9.cell? ⟨G, 0, none⟩ = some (.int .i64 (n : Int)) ∧ W9.cell? ⟨G, 1, none⟩ = some (.int .i64 (p : Int)) ∧ W9.cell? ⟨G, 2, none⟩ = some (.int .i64 (B : Int)) ∧ W9.cell? ⟨G, 3, none⟩ = some (.int .i64 (C : Int)) ∧ W9.cell? ⟨G, 4, none⟩ = some (.int .i64 r) from ⟨(unhide HG9).cell 0 _ rfl, (unhide HG9).cell 1 _ rfl, (unhide HG9).cell 2 _ rfl, (unhide HG9).cell 3 _ rfl, (unhide HG9).cell 4 _ rfl⟩
          have k0 := (unhide HT9).cell 0 _ rfl
          have k1 := (unhide HT9).cell 1 _ rfl
          have k2 := (unhide HT9).cell 2 _ rfl
          obtain ⟨m, hm⟩ : ∃ m, R.length = m := ⟨_, rfl⟩
          have HRM := hide hm
          rw [hm] at k2 hR65
          clear hm
          go_wp2_with fail
          refine (rmay_tail n p B C r (unhide HS) cnt lst a m c R W9 (unhide HL9) (unhide HRM) (by omega) (unhide HCN)).mono ?_
          rintro e w10 ⟨rfl, hb10⟩
          obtain ⟨dm, hdm⟩ : ∃ d, decide (mayT n p cnt lst R) = d := ⟨_, rfl⟩
          rw [hdm]
          have HDM := hide hdm
          have HST10 := hide ((unhide HST9).below hb10)
          have HT10 := hide ((unhide HT9).below hb10)
          have HL10 := hide ((unhide HL9).below hb10)
          have HB10 := hide (below_trans (unhide HBW9) hb10)
          have HLT10 := hide ((unhide HLT9).below hb10)
          have HWAS10 := hide ((unhide HWAS).below hb10)
          clear hdm hb10 g0 g1 g2 g3 g4 k0 k1 k2
          have k0 := (unhide HT10).cell 0 _ rfl
          have k1 := (unhide HT10).cell 1 _ rfl
          have k2 := (unhide HT10).cell 2 _ rfl
          rw [unhide HRM] at k2
          go_wp2_with fail
          refine (set_any c7 n p B C r (unhide HS) t8 w10 (unhide HST10) cnt lst a m c R (unhide HL10) (unhide HRM) (by omega) (by have h := unhide HSL; rw [unhide HRM] at h; exact h) (unhide HCN)).mono ?_
          rintro e w11 ⟨hyes, hno⟩
          clear k0 k1 k2
          by_cases hmay : mayT n p cnt lst R
          · obtain ⟨rfl, hs11, hon11⟩ := hyes hmay
            obtain rfl : dm = true := by rw [← unhide HDM]; exact decide_eq_true hmay
            have hcn : ((cnt.toNat : Nat) : Int) = cnt := Int.toNat_of_nonneg hmay.1.1
            have HTB : Hid (Calls Tryd.prog 15 #[.pointer (some ⟨c7, 0, none⟩)] w11 (TailC cnt lst R w11)) := by
              have h := tail_any c7 n p B C r ⟨cnt.toNat, lst, R⟩ w11 hs11 (by show R.length ≤ 1000000; rw [unhide HRM]; omega)
              show Calls _ _ _ _ _
              unfold TailC at h ⊢
              rw [← hcn]
              exact h
            have HB11 := hide ((unhide HB10).trans (hon11.below (by have := unhide HC7; have := unhide HWL; omega) (unhide HB10).size))
            have HT11 := hide ((unhide HT10).only hon11 (by have := unhide HC7; have := unhide HGL; omega))
            have HL11 := hide ((unhide HL10).only hon11 (fun h q hq => by have := unhide HNE h q hq; have := unhide HC7; omega))
            clear hs11 hon11 hyes hno hmay hcn
            go_wp2_with fail
            refine (unhide HTB).mono ?_
            rintro e w12 ⟨aN, cN, rfl, hoN, hb12⟩
            rw [unhide HRM] at hoN
            rw [unhide HRM]
            have HON := hide hoN
            have HB12 := hide hb12
            clear hoN hb12
            go_upto_region 18 with fail
            obtain ⟨V, hV⟩ : ∃ V, w12.heap.size = V := ⟨_, rfl⟩
            obtain ⟨W12, hW12⟩ : ∃ W12, w12.alloc (.cells #[.int .i64 cnt, .int .i64 lst, .slice aN m cN] 40) = W12 := ⟨_, rfl⟩
            rw [hW12, hV]
            have HNOW := hide (show Cells W12 V [.int .i64 cnt, .int .i64 lst, .slice aN m cN] by rw [← hW12, ← hV]; exact cells_new w12 [.int .i64 cnt, .int .i64 lst, .slice aN m cN] _)
            have hbW12 : Below w12.heap.size w12 W12 := by rw [← hW12]; exact alloc_below w12 _
            have hb12 := below_trans (unhide HB12) hbW12
            obtain ⟨aN', cN', eN, _, _, _, hlN, _, _⟩ := owned_slot (frows_under (unhide HON) hbW12)
            injection eN with eN1 _ eN3
            subst eN1 eN3
            have HLN := hide hlN
            have HT12 := hide ((unhide HT11).below hb12)
            have HL12 := hide ((unhide HL11).below hb12)
            have HBW12 := hide (below_trans (unhide HB11) hb12)
            clear hlN hbW12 hb12 hW12 hV
            have k2 := (unhide HT12).cell 2 _ rfl
            rw [unhide HRM] at k2
            have n2 := (unhide HNOW).cell 2 _ rfl
            go_wp2_with fail
            refine (same_any aN a cN c R m (unhide HRM) (by omega) W12 (unhide HLN) (unhide HL12)).mono ?_
            rintro e w13 ⟨rfl, hb13⟩
            have HB13 := hide (below_trans (unhide HBW12) hb13)
            have hT13 := (unhide HT12).below hb13
            have hN13 := (unhide HNOW).below hb13
            have k0 := hT13.cell 0 _ rfl
            have k1 := hT13.cell 1 _ rfl
            have n0 := hN13.cell 0 _ rfl
            have n1 := hN13.cell 1 _ rfl
            clear k2 n2 hT13 hN13 hb13
            go_wp2
            go_ret
            exact ⟨rfl, unhide HB13⟩
          · obtain ⟨rfl, hb11⟩ := hno hmay
            obtain rfl : dm = false := by rw [← unhide HDM]; exact decide_eq_false hmay
            have HST11 := hide ((unhide HST10).below hb11)
            have HB11 := hide (below_trans (unhide HB10) hb11)
            have HW11 := hide ((unhide HWAS10).below hb11)
            have HL11 := hide ((unhide HLT10).below hb11)
            clear hb11 hyes hno hmay
            go_wp2_with fail
            refine (unhide HTA w11 (unhide HST11)).mono ?_
            rintro e w12 ⟨aN, cN, rfl, hoN, hb12⟩
            have HON := hide hoN
            have HB12 := hide hb12
            clear hoN hb12
            go_upto_region 18 with fail
            obtain ⟨V, hV⟩ : ∃ V, w12.heap.size = V := ⟨_, rfl⟩
            obtain ⟨W12, hW12⟩ : ∃ W12, w12.alloc (.cells #[.int .i64 NT, .int .i64 LT, .slice aN RT.length cN] 40) = W12 := ⟨_, rfl⟩
            rw [hW12, hV]
            have HNOW := hide (show Cells W12 V [.int .i64 NT, .int .i64 LT, .slice aN RT.length cN] by rw [← hW12, ← hV]; exact cells_new w12 [.int .i64 NT, .int .i64 LT, .slice aN RT.length cN] _)
            have hbW12 : Below w12.heap.size w12 W12 := by rw [← hW12]; exact alloc_below w12 _
            have hb12 := below_trans (unhide HB12) hbW12
            obtain ⟨aN', cN', eN, _, _, _, hlN, _, _⟩ := owned_slot (frows_under (unhide HON) hbW12)
            injection eN with eN1 _ eN3
            subst eN1 eN3
            have HLN := hide hlN
            have HW12 := hide ((unhide HW11).below hb12)
            have HL12 := hide ((unhide HL11).below hb12)
            have HBW12 := hide (below_trans (unhide HB11) hb12)
            clear hlN hbW12 hb12 hW12 hV
            have k2 := (unhide HW12).cell 2 _ rfl
            have n2 := (unhide HNOW).cell 2 _ rfl
            go_wp2_with fail
            refine (same_any aN aT cN cT RT RT.length rfl (by omega) W12 (unhide HLN) (unhide HL12)).mono ?_
            rintro e w13 ⟨rfl, hb13⟩
            have HB13 := hide (below_trans (unhide HBW12) hb13)
            have hT13 := (unhide HW12).below hb13
            have hN13 := (unhide HNOW).below hb13
            have k0 := hT13.cell 0 _ rfl
            have k1 := hT13.cell 1 _ rfl
            have n0 := hN13.cell 0 _ rfl
            have n1 := hN13.cell 1 _ rfl
            clear k2 n2 hT13 hN13 hb13
            go_wp2
            go_ret
            exact ⟨rfl, unhide HB13⟩
end Go.Proofs.YtbkdgpeooeokmaaDoor
