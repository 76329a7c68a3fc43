/- The walk of LoopApart. -/
import Derived.Test.YtclikkhaaiihdaaTwo
import Derived.Deep.CutBlock
import Derived.Deep.DeepCutAuto
namespace Go.Proofs.Ytclikkhaaiihdaa
open Go.RowKit
set_option linter.unusedVariables false

set_option maxRecDepth 100000 in
set_option maxHeartbeats 8000000 in
theorem apart_any (q0 q1 : Int) (a : Option Addr) (len cap : Nat) (bs : List Bool) (w : World) (hlen : len ≤ 9223372036854775807) (hbs : bs.length = min len 40) (hl : LiesB w a bs) :
    Calls Try.prog 6 #[.agg #[.int .i64 q0, .int .i64 q1], .slice a len cap] w fun r w' => r = .returned (.bool true) ∧ Below w.heap.size w w' := by
  obtain ⟨i0, hi, hz0, hz1, hz2⟩ := info_parts Try.info3
  have HI : Hid (Try.prog.info? 3 = some i0 ∧ i0.zero = some (.int .i64 0) ∧ i0.size = 1 ∧ i0.bytes = 8) := ⟨hi, hz0, hz1, hz2⟩
  have HL := hide hl
  obtain ⟨N, hN⟩ : ∃ N, min len 40 = N := ⟨_, rfl⟩
  rw [hN] at hbs
  have HBS := hide hbs
  have HN := hide hN
  have hN1 : N ≤ len := by omega
  have hN2 : N ≤ 40 := by omega
  clear hi hz0 hz1 hz2 hl hbs hN
  obtain ⟨d, hd0, hd1, hd2⟩ := mod_five q0
  obtain ⟨e, he0, he1, he2⟩ := mod_five q1
  obtain ⟨w0, hw0⟩ : ∃ w0, w0 = w.alloc (.cells #[.int .i64 q0, .int .i64 q1] 53) := ⟨_, rfl⟩
  have HB0 : Hid (Below w.heap.size w w0) := by rw [hw0]; exact (Below.refl _ _).alloc (Nat.le_refl _) _
  have HM0 : Hid (Cells w0 w.heap.size [.int .i64 q0, .int .i64 q1]) := by rw [hw0]; exact cells_new w [_, _] _
  have h1d : (1 : Int) + ((d : Int) - 1) = (d : Int) := by omega
  have h1e : (1 : Int) + ((e : Int) - 1) = (e : Int) := by omega
  go_enter Try.func6, Try.ntmps6
  go_wp2_with fail
  rw [← hw0]
  refine (wake_any _).mono ?_
  rintro e' w1 ⟨rfl, hb⟩
  have HM1 := hide ((unhide HM0).below hb)
  have HB1 := hide (below_trans (unhide HB0) hb)
  clear hb hw0 HM0 HB0
  have m0 : ∀ x y t, (w1.alloc (.cells #[x, y] t)).cell? ⟨w.heap.size, 0, none⟩ = some (.int .i64 q0) := fun x y t => ((unhide HM1).alloc _).cell 0 _ rfl
  have m1 : ∀ x y t, (w1.alloc (.cells #[x, y] t)).cell? ⟨w.heap.size, 1, none⟩ = some (.int .i64 q1) := fun x y t => ((unhide HM1).alloc _).cell 1 _ rfl
  have f0 : ∀ x y t, (w1.alloc (.cells #[x, y] t)).cell? ⟨w1.heap.size, 0, none⟩ = some x := fun x y t => (cells_new w1 [x, y] t).cell 0 _ rfl
  have f1 : ∀ x y t, (w1.alloc (.cells #[x, y] t)).cell? ⟨w1.heap.size, 1, none⟩ = some y := fun x y t => (cells_new w1 [x, y] t).cell 1 _ rfl
  obtain ⟨D, hD⟩ : ∃ D : Nat, 3 * d = D := ⟨_, rfl⟩
  obtain ⟨E, hE⟩ : ∃ E : Nat, 2 * e = E := ⟨_, rfl⟩
  obtain ⟨n, hn⟩ : ∃ n : Nat, D + E = n := ⟨_, rfl⟩
  have hD3 : 3 * (d : Int) = (D : Int) := by omega
  have hE2 : 2 * (e : Int) = (E : Int) := by omega
  have hnn : (D : Int) + (E : Int) = (n : Int) := by omega
  have hn4 : n ≤ 4096 := by omega
  have hDw : IntKind.i64.wrap (D : Int) = (D : Int) := by rw [IntKind.wrap_i64]; omega
  have hEw : IntKind.i64.wrap (E : Int) = (E : Int) := by rw [IntKind.wrap_i64]; omega
  have HR : Hid (roomN D (d : Int) = 3 ∧ 3 * d ≤ D ∧ roomN E (e : Int) = 2 ∧ 2 * e ≤ E) := by
    show _ ∧ _
    unfold roomN
    rw [if_neg (by omega), if_neg (by omega), Int.toNat_natCast, Int.toNat_natCast, ← hD, ← hE]
    exact ⟨Nat.mul_div_cancel 3 (by omega), Nat.le_refl _, Nat.mul_div_cancel 2 (by omega), Nat.le_refl _⟩
  go_wp2_with fail
  obtain ⟨w2, hw2⟩ : ∃ w2, w2 = w1.alloc (.cells #[.int .i64 (d : Int), .int .i64 (e : Int)] 53) := ⟨_, rfl⟩
  rw [← hw2]
  have HQ2 : Hid (Cells w2 w1.heap.size [.int .i64 (d : Int), .int .i64 (e : Int)]) := by rw [hw2]; exact cells_new w1 [_, _] _
  have HB2 : Hid (Below w.heap.size w w2) := by rw [hw2]; exact (unhide HB1).alloc (unhide HB1).size _
  have HL2 := hide ((unhide HL).below (unhide HB2))
  clear m0 m1 f0 f1 hw2 HB1 HM1 HL
  generalize w1.heap.size = qb at *
  refine (new_any n hn4 _).mono ?_
  rintro e' w3 ⟨c, g, rfl, hc, hg, har, hb⟩
  have HA3 := hide har
  have HQ3 := hide ((unhide HQ2).below hb)
  have HB3 := hide hb
  have HS3 : Hid (w2.heap.size ≤ c ∧ w2.heap.size ≤ g ∧ c < w3.heap.size ∧ g < w3.heap.size) := ⟨hc, hg, har.me.lt, har.row.lt⟩
  clear hc hg har hb hd0 he0
  go_upto_region 6 with fail
  refine region_ssa2 (fun _ W => Cells W qb [.int .i64 (d : Int), .int .i64 (e : Int)] ∧ Below w3.heap.size w3 W) (fun jq vq wq => (∀ xq, (([some (.pointer (some ⟨c, 0, none⟩)), some (.pointer (some ⟨qb, 0, none⟩)), some (.int .i64 (d : Int)), some (.int .i64 (D : Int)), none, some (.pointer (some ⟨qb, 0, none⟩)), some (.int .i64 (d : Int)), none, none] : List (Option Value)).getD jq none) = some xq → vq = xq) ∧ (jq = 4 → PtG w3.heap.size c g 0 D vq wq) ∧ (jq = 7 → LpG w2.heap.size w3.heap.size c g 0 D n d 3 (List.replicate n 0) vq wq) ∧ (jq = 8 → LpG w2.heap.size w3.heap.size c g 0 D n d 3 (List.replicate n 0) vq wq)) (by kernel_rfl) (by kernel_rfl) ?_ ?_ ?_
  · intro fq hf
    exact ⟨Cells.drew (unhide HQ3), (Below.refl _ _).drew⟩
  · intro iq op ho fq AQ W hf hdep hS hK hG
    have hlt : iq < 9 := (Array.getElem?_eq_some_iff.1 ho).1
    match iq, hlt with
    | 0, _ =>
      obtain rfl := (Option.some.inj ho).symm
      have d7 : AQ.tmps.getD 7 undef = .pointer (some ⟨c, 0, none⟩) := hK.2.2 7 (by kernel_rfl)
      exact wpOp_val (v := (.pointer (some ⟨c, 0, none⟩))) (w' := W) rfl (wanted_none rfl) (by simp [execOp, Act.eval, d7, go_sem]) ⟨_, rfl, hS, fun _ _ h => h, ⟨(by intro x hx; cases hx; rfl), (by intro h; cases h), (by intro h; cases h), (by intro h; cases h)⟩⟩
    | 1, _ =>
      obtain rfl := (Option.some.inj ho).symm
      have d6 : AQ.tmps.getD 6 undef = .pointer (some ⟨qb, 0, none⟩) := hK.2.2 6 (by kernel_rfl)
      exact wpOp_val (v := (.pointer (some ⟨qb, 0, none⟩))) (w' := W) rfl (wanted_none rfl) (by simp [execOp, Act.eval, d6, go_sem]) ⟨_, rfl, hS, fun _ _ h => h, ⟨(by intro x hx; cases hx; rfl), (by intro h; cases h), (by intro h; cases h), (by intro h; cases h)⟩⟩
    | 2, _ =>
      obtain rfl := (Option.some.inj ho).symm
      have d45 : AQ.tmps.getD 45 undef = .pointer (some ⟨qb, 0, none⟩) := ((hG ⟨1, .data⟩ (by simp) rfl).2 45 rfl).1 _ rfl
      have hc := hS.1.cell 0 _ rfl
      exact wpOp_val (v := (.int .i64 (d : Int))) (w' := W) rfl (wanted_none rfl) (by simp [execOp, Act.eval, d45, hc, go_sem]) ⟨_, rfl, hS, fun _ _ h => h, ⟨(by intro x hx; cases hx; rfl), (by intro h; cases h), (by intro h; cases h), (by intro h; cases h)⟩⟩
    | 3, _ =>
      obtain rfl := (Option.some.inj ho).symm
      have d46 : AQ.tmps.getD 46 undef = .int .i64 (d : Int) := ((hG ⟨2, .data⟩ (by simp) rfl).2 46 rfl).1 _ rfl
      exact wpOp_val (v := (.int .i64 (D : Int))) (w' := W) rfl (wanted_none rfl) (by simp [execOp, Act.eval, d46, hD3, hDw, go_sem]) ⟨_, rfl, hS, fun _ _ h => h, ⟨(by intro x hx; cases hx; rfl), (by intro h; cases h), (by intro h; cases h), (by intro h; cases h)⟩⟩
    | 4, _ =>
      obtain rfl := (Option.some.inj ho).symm
      have d44 : AQ.tmps.getD 44 undef = .pointer (some ⟨c, 0, none⟩) := ((hG ⟨0, .data⟩ (by simp) rfl).2 44 rfl).1 _ rfl
      have d47 : AQ.tmps.getD 47 undef = .int .i64 (D : Int) := ((hG ⟨3, .data⟩ (by simp) rfl).2 47 rfl).1 _ rfl
      refine wpOp_call (f := 11) (args := #[.pointer (some ⟨c, 0, none⟩), .int .i64 0, .int .i64 (D : Int)]) (w' := W) rfl (wanted_none rfl) (by simp [execOp, Act.eval, d44, d47, go_sem]) ?_
      refine (part_G w3.heap.size c g n 0 D _ W ((unhide HA3).below hS.2) hn4 (by omega) (by omega) hS.2.size).mono ?_
      rintro ee w' ⟨v, rfl, hg, hb⟩
      exact ⟨_, rfl, _, rfl, ⟨hS.1.below hb, hS.2.trans (hb.mono hS.2.size)⟩, fun j u h => ⟨h.1, fun ej => (h.2.1 ej).below hb, fun ej => (h.2.2.1 ej).below hb, fun ej => (h.2.2.2 ej).below hb⟩, ⟨(by intro x hx; cases hx), fun _ => hg, (by intro h; cases h), (by intro h; cases h)⟩⟩
    | 5, _ =>
      obtain rfl := (Option.some.inj ho).symm
      have d6 : AQ.tmps.getD 6 undef = .pointer (some ⟨qb, 0, none⟩) := hK.2.2 6 (by kernel_rfl)
      exact wpOp_val (v := (.pointer (some ⟨qb, 0, none⟩))) (w' := W) rfl (wanted_none rfl) (by simp [execOp, Act.eval, d6, go_sem]) ⟨_, rfl, hS, fun _ _ h => h, ⟨(by intro x hx; cases hx; rfl), (by intro h; cases h), (by intro h; cases h), (by intro h; cases h)⟩⟩
    | 6, _ =>
      obtain rfl := (Option.some.inj ho).symm
      have d49 : AQ.tmps.getD 49 undef = .pointer (some ⟨qb, 0, none⟩) := ((hG ⟨5, .data⟩ (by simp) rfl).2 49 rfl).1 _ rfl
      have hc := hS.1.cell 0 _ rfl
      exact wpOp_val (v := (.int .i64 (d : Int))) (w' := W) rfl (wanted_none rfl) (by simp [execOp, Act.eval, d49, hc, go_sem]) ⟨_, rfl, hS, fun _ _ h => h, ⟨(by intro x hx; cases hx; rfl), (by intro h; cases h), (by intro h; cases h), (by intro h; cases h)⟩⟩
    | 7, _ =>
      obtain rfl := (Option.some.inj ho).symm
      have g48 := ((hG ⟨4, .data⟩ (by simp) rfl).2 48 rfl).2.1 rfl
      have d50 : AQ.tmps.getD 50 undef = .int .i64 (d : Int) := ((hG ⟨6, .data⟩ (by simp) rfl).2 50 rfl).1 _ rfl
      refine wpOp_call (f := 10) (args := #[AQ.tmps.getD 48 undef, .int .i64 (d : Int)]) (w' := W) rfl (wanted_none rfl) (by simp [execOp, Act.eval, d50, go_sem]) ?_
      refine (lnew_G w2.heap.size w3.heap.size c g 0 D n d 3 _ _ W g48 ((unhide HA3).below hS.2) (by omega) hn4 (by omega) (by omega) (unhide HR).1 (by decide) (unhide HS3).2.2.1 (unhide HS3).2.2.2 ⟨(unhide HS3).1, (unhide HS3).2.1⟩).mono ?_
      rintro ee w' ⟨v, rfl, hg, hb⟩
      exact ⟨_, rfl, _, rfl, ⟨hS.1.below hb, hS.2.trans (hb.mono hS.2.size)⟩, fun j u h => ⟨h.1, fun ej => (h.2.1 ej).below hb, fun ej => (h.2.2.1 ej).below hb, fun ej => (h.2.2.2 ej).below hb⟩, ⟨(by intro x hx; cases hx), (by intro h; cases h), fun _ => hg, (by intro h; cases h)⟩⟩
    | 8, _ =>
      obtain rfl := (Option.some.inj ho).symm
      have g51 := ((hG ⟨7, .data⟩ (by simp) rfl).2 51 rfl).2.2.1 rfl
      obtain ⟨l, b, d51, h1, h2, h3⟩ := g51
      exact wpOp_val (v := (.pointer (some ⟨l, 0, none⟩))) (w' := W) rfl (wanted_none rfl) (by simp [execOp, Act.eval, d51, go_sem]) ⟨_, rfl, hS, fun _ _ h => h, ⟨(by intro x hx; cases hx), (by intro h; cases h), (by intro h; cases h), fun _ => ⟨l, b, rfl, h1, h2, h3⟩⟩⟩
  · intro fq W vals hf hS hG
    have ev0 : vals 0 = .pointer (some ⟨c, 0, none⟩) := (hG 0 44 (by decide) rfl).1 _ rfl
    have ev1 : vals 1 = .pointer (some ⟨qb, 0, none⟩) := (hG 1 45 (by decide) rfl).1 _ rfl
    have ev2 : vals 2 = .int .i64 (d : Int) := (hG 2 46 (by decide) rfl).1 _ rfl
    have ev3 : vals 3 = .int .i64 (D : Int) := (hG 3 47 (by decide) rfl).1 _ rfl
    have g4 := (hG 4 48 (by decide) rfl).2.1 rfl
    have ev5 : vals 5 = .pointer (some ⟨qb, 0, none⟩) := (hG 5 49 (by decide) rfl).1 _ rfl
    have ev6 : vals 6 = .int .i64 (d : Int) := (hG 6 50 (by decide) rfl).1 _ rfl
    have g7 := (hG 7 51 (by decide) rfl).2.2.1 rfl
    have g8 := (hG 8 8 (by decide) rfl).2.2.2 rfl
    change (_ : Exit → Act → World → Prop) Exit.normal (Act.put (Act.put (Act.put (Act.put (Act.put (Act.put (Act.put (Act.put (Act.put _ (some 44) (vals 0)) (some 45) (vals 1)) (some 46) (vals 2)) (some 47) (vals 3)) (some 48) (vals 4)) (some 49) (vals 5)) (some 50) (vals 6)) (some 51) (vals 7)) (some 8) (vals 8)) W
    obtain ⟨lx, bx, v8, hx1, hx2, hx3⟩ := g8
    rw [putAll_zero, ev0, ev1, ev2, ev3, ev5, ev6, v8]
    generalize vals 4 = xv4
    generalize vals 7 = xv7
    obtain ⟨w4, hw4⟩ : ∃ w4, w4 = W := ⟨_, rfl⟩
    subst hw4
    have HA4 := hide ((unhide HA3).below hS.2)
    have HQ4 := hide hS.1
    have HB4 := hide (below_trans (unhide HB3) hS.2)
    have HX4 := hide hx3
    have HS4 : Hid (w3.heap.size ≤ bx ∧ bx < lx ∧ lx < w4.heap.size) := ⟨hx1, hx2, hx3.lo.me.lt⟩
    clear hS hG hf g4 g7 v8 hx1 hx2 hx3 ev0 ev1 ev2 ev3 ev5 ev6
    clear vals fq HA3 HQ3 HB3
    go_simp
    go_upto_region 7 with fail
    refine region_ssa2 (fun _ W => Cells W qb [.int .i64 (d : Int), .int .i64 (e : Int)] ∧ Below w4.heap.size w4 W) (fun jq vq wq => (∀ xq, (([some (.pointer (some ⟨c, 0, none⟩)), some (.pointer (some ⟨qb, 0, none⟩)), some (.int .i64 (d : Int)), some (.int .i64 (D : Int)), some (.pointer (some ⟨qb, 1, none⟩)), some (.int .i64 (e : Int)), some (.int .i64 (E : Int)), none, some (.pointer (some ⟨qb, 1, none⟩)), some (.int .i64 (e : Int)), none, none] : List (Option Value)).getD jq none) = some xq → vq = xq) ∧ (jq = 7 → PtG w4.heap.size c g D E vq wq) ∧ (jq = 10 → LpG w2.heap.size w4.heap.size c g D E n e 2 (List.replicate n 0) vq wq) ∧ (jq = 11 → LpG w2.heap.size w4.heap.size c g D E n e 2 (List.replicate n 0) vq wq)) (by kernel_rfl) (by kernel_rfl) ?_ ?_ ?_
    · intro fq hf
      exact ⟨Cells.drew (unhide HQ4), (Below.refl _ _).drew⟩
    · intro iq op ho fq AQ W hf hdep hS hK hG
      have hlt : iq < 12 := (Array.getElem?_eq_some_iff.1 ho).1
      match iq, hlt with
      | 0, _ =>
        obtain rfl := (Option.some.inj ho).symm
        have d7 : AQ.tmps.getD 7 undef = .pointer (some ⟨c, 0, none⟩) := hK.2.2 7 (by kernel_rfl)
        exact wpOp_val (v := (.pointer (some ⟨c, 0, none⟩))) (w' := W) rfl (wanted_none rfl) (by simp [execOp, Act.eval, d7, go_sem]) ⟨_, rfl, hS, fun _ _ h => h, ⟨(by intro x hx; cases hx; rfl), (by intro h; cases h), (by intro h; cases h), (by intro h; cases h)⟩⟩
      | 1, _ =>
        obtain rfl := (Option.some.inj ho).symm
        have d6 : AQ.tmps.getD 6 undef = .pointer (some ⟨qb, 0, none⟩) := hK.2.2 6 (by kernel_rfl)
        exact wpOp_val (v := (.pointer (some ⟨qb, 0, none⟩))) (w' := W) rfl (wanted_none rfl) (by simp [execOp, Act.eval, d6, go_sem]) ⟨_, rfl, hS, fun _ _ h => h, ⟨(by intro x hx; cases hx; rfl), (by intro h; cases h), (by intro h; cases h), (by intro h; cases h)⟩⟩
      | 2, _ =>
        obtain rfl := (Option.some.inj ho).symm
        have d53 : AQ.tmps.getD 53 undef = .pointer (some ⟨qb, 0, none⟩) := ((hG ⟨1, .data⟩ (by simp) rfl).2 53 rfl).1 _ rfl
        have hc := hS.1.cell 0 _ rfl
        exact wpOp_val (v := (.int .i64 (d : Int))) (w' := W) rfl (wanted_none rfl) (by simp [execOp, Act.eval, d53, hc, go_sem]) ⟨_, rfl, hS, fun _ _ h => h, ⟨(by intro x hx; cases hx; rfl), (by intro h; cases h), (by intro h; cases h), (by intro h; cases h)⟩⟩
      | 3, _ =>
        obtain rfl := (Option.some.inj ho).symm
        have d54 : AQ.tmps.getD 54 undef = .int .i64 (d : Int) := ((hG ⟨2, .data⟩ (by simp) rfl).2 54 rfl).1 _ rfl
        exact wpOp_val (v := (.int .i64 (D : Int))) (w' := W) rfl (wanted_none rfl) (by simp [execOp, Act.eval, d54, hD3, hDw, go_sem]) ⟨_, rfl, hS, fun _ _ h => h, ⟨(by intro x hx; cases hx; rfl), (by intro h; cases h), (by intro h; cases h), (by intro h; cases h)⟩⟩
      | 4, _ =>
        obtain rfl := (Option.some.inj ho).symm
        have d6 : AQ.tmps.getD 6 undef = .pointer (some ⟨qb, 0, none⟩) := hK.2.2 6 (by kernel_rfl)
        exact wpOp_val (v := (.pointer (some ⟨qb, 1, none⟩))) (w' := W) rfl (wanted_none rfl) (by simp [execOp, Act.eval, d6, go_sem]) ⟨_, rfl, hS, fun _ _ h => h, ⟨(by intro x hx; cases hx; rfl), (by intro h; cases h), (by intro h; cases h), (by intro h; cases h)⟩⟩
      | 5, _ =>
        obtain rfl := (Option.some.inj ho).symm
        have d56 : AQ.tmps.getD 56 undef = .pointer (some ⟨qb, 1, none⟩) := ((hG ⟨4, .data⟩ (by simp) rfl).2 56 rfl).1 _ rfl
        have hc := hS.1.cell 1 _ rfl
        exact wpOp_val (v := (.int .i64 (e : Int))) (w' := W) rfl (wanted_none rfl) (by simp [execOp, Act.eval, d56, hc, go_sem]) ⟨_, rfl, hS, fun _ _ h => h, ⟨(by intro x hx; cases hx; rfl), (by intro h; cases h), (by intro h; cases h), (by intro h; cases h)⟩⟩
      | 6, _ =>
        obtain rfl := (Option.some.inj ho).symm
        have d57 : AQ.tmps.getD 57 undef = .int .i64 (e : Int) := ((hG ⟨5, .data⟩ (by simp) rfl).2 57 rfl).1 _ rfl
        exact wpOp_val (v := (.int .i64 (E : Int))) (w' := W) rfl (wanted_none rfl) (by simp [execOp, Act.eval, d57, hE2, hEw, go_sem]) ⟨_, rfl, hS, fun _ _ h => h, ⟨(by intro x hx; cases hx; rfl), (by intro h; cases h), (by intro h; cases h), (by intro h; cases h)⟩⟩
      | 7, _ =>
        obtain rfl := (Option.some.inj ho).symm
        have d52 : AQ.tmps.getD 52 undef = .pointer (some ⟨c, 0, none⟩) := ((hG ⟨0, .data⟩ (by simp) rfl).2 52 rfl).1 _ rfl
        have d55 : AQ.tmps.getD 55 undef = .int .i64 (D : Int) := ((hG ⟨3, .data⟩ (by simp) rfl).2 55 rfl).1 _ rfl
        have d58 : AQ.tmps.getD 58 undef = .int .i64 (E : Int) := ((hG ⟨6, .data⟩ (by simp) rfl).2 58 rfl).1 _ rfl
        refine wpOp_call (f := 11) (args := #[.pointer (some ⟨c, 0, none⟩), .int .i64 (D : Int), .int .i64 (E : Int)]) (w' := W) rfl (wanted_none rfl) (by simp [execOp, Act.eval, d52, d55, d58, go_sem]) ?_
        refine (part_G w4.heap.size c g n D E _ W ((unhide HA4).below hS.2) hn4 (by omega) (by omega) hS.2.size).mono ?_
        rintro ee w' ⟨v, rfl, hg, hb⟩
        exact ⟨_, rfl, _, rfl, ⟨hS.1.below hb, hS.2.trans (hb.mono hS.2.size)⟩, fun j u h => ⟨h.1, fun ej => (h.2.1 ej).below hb, fun ej => (h.2.2.1 ej).below hb, fun ej => (h.2.2.2 ej).below hb⟩, ⟨(by intro x hx; cases hx), fun _ => hg, (by intro h; cases h), (by intro h; cases h)⟩⟩
      | 8, _ =>
        obtain rfl := (Option.some.inj ho).symm
        have d6 : AQ.tmps.getD 6 undef = .pointer (some ⟨qb, 0, none⟩) := hK.2.2 6 (by kernel_rfl)
        exact wpOp_val (v := (.pointer (some ⟨qb, 1, none⟩))) (w' := W) rfl (wanted_none rfl) (by simp [execOp, Act.eval, d6, go_sem]) ⟨_, rfl, hS, fun _ _ h => h, ⟨(by intro x hx; cases hx; rfl), (by intro h; cases h), (by intro h; cases h), (by intro h; cases h)⟩⟩
      | 9, _ =>
        obtain rfl := (Option.some.inj ho).symm
        have d60 : AQ.tmps.getD 60 undef = .pointer (some ⟨qb, 1, none⟩) := ((hG ⟨8, .data⟩ (by simp) rfl).2 60 rfl).1 _ rfl
        have hc := hS.1.cell 1 _ rfl
        exact wpOp_val (v := (.int .i64 (e : Int))) (w' := W) rfl (wanted_none rfl) (by simp [execOp, Act.eval, d60, hc, go_sem]) ⟨_, rfl, hS, fun _ _ h => h, ⟨(by intro x hx; cases hx; rfl), (by intro h; cases h), (by intro h; cases h), (by intro h; cases h)⟩⟩
      | 10, _ =>
        obtain rfl := (Option.some.inj ho).symm
        have g59 := ((hG ⟨7, .data⟩ (by simp) rfl).2 59 rfl).2.1 rfl
        have d61 : AQ.tmps.getD 61 undef = .int .i64 (e : Int) := ((hG ⟨9, .data⟩ (by simp) rfl).2 61 rfl).1 _ rfl
        refine wpOp_call (f := 10) (args := #[AQ.tmps.getD 59 undef, .int .i64 (e : Int)]) (w' := W) rfl (wanted_none rfl) (by simp [execOp, Act.eval, d61, go_sem]) ?_
        refine (lnew_G w2.heap.size w4.heap.size c g D E n e 2 _ _ W g59 ((unhide HA4).below hS.2) (by omega) hn4 (by omega) (by omega) (unhide HR).2.2.1 (by decide) (by have := unhide HS3; have := unhide HS4; omega) (by have := unhide HS3; have := unhide HS4; omega) ⟨(unhide HS3).1, (unhide HS3).2.1⟩).mono ?_
        rintro ee w' ⟨v, rfl, hg, hb⟩
        exact ⟨_, rfl, _, rfl, ⟨hS.1.below hb, hS.2.trans (hb.mono hS.2.size)⟩, fun j u h => ⟨h.1, fun ej => (h.2.1 ej).below hb, fun ej => (h.2.2.1 ej).below hb, fun ej => (h.2.2.2 ej).below hb⟩, ⟨(by intro x hx; cases hx), (by intro h; cases h), fun _ => hg, (by intro h; cases h)⟩⟩
      | 11, _ =>
        obtain rfl := (Option.some.inj ho).symm
        have g62 := ((hG ⟨10, .data⟩ (by simp) rfl).2 62 rfl).2.2.1 rfl
        obtain ⟨l, b, d62, h1, h2, h3⟩ := g62
        exact wpOp_val (v := (.pointer (some ⟨l, 0, none⟩))) (w' := W) rfl (wanted_none rfl) (by simp [execOp, Act.eval, d62, go_sem]) ⟨_, rfl, hS, fun _ _ h => h, ⟨(by intro x hx; cases hx), (by intro h; cases h), (by intro h; cases h), fun _ => ⟨l, b, rfl, h1, h2, h3⟩⟩⟩
    · intro fq W vals hf hS hG
      have ev0 : vals 0 = .pointer (some ⟨c, 0, none⟩) := (hG 0 52 (by decide) rfl).1 _ rfl
      have ev1 : vals 1 = .pointer (some ⟨qb, 0, none⟩) := (hG 1 53 (by decide) rfl).1 _ rfl
      have ev2 : vals 2 = .int .i64 (d : Int) := (hG 2 54 (by decide) rfl).1 _ rfl
      have ev3 : vals 3 = .int .i64 (D : Int) := (hG 3 55 (by decide) rfl).1 _ rfl
      have ev4 : vals 4 = .pointer (some ⟨qb, 1, none⟩) := (hG 4 56 (by decide) rfl).1 _ rfl
      have ev5 : vals 5 = .int .i64 (e : Int) := (hG 5 57 (by decide) rfl).1 _ rfl
      have ev6 : vals 6 = .int .i64 (E : Int) := (hG 6 58 (by decide) rfl).1 _ rfl
      have g7 := (hG 7 59 (by decide) rfl).2.1 rfl
      have ev8 : vals 8 = .pointer (some ⟨qb, 1, none⟩) := (hG 8 60 (by decide) rfl).1 _ rfl
      have ev9 : vals 9 = .int .i64 (e : Int) := (hG 9 61 (by decide) rfl).1 _ rfl
      have g10 := (hG 10 62 (by decide) rfl).2.2.1 rfl
      have g11 := (hG 11 9 (by decide) rfl).2.2.2 rfl
      change (_ : Exit → Act → World → Prop) Exit.normal (Act.put (Act.put (Act.put (Act.put (Act.put (Act.put (Act.put (Act.put (Act.put (Act.put (Act.put (Act.put _ (some 52) (vals 0)) (some 53) (vals 1)) (some 54) (vals 2)) (some 55) (vals 3)) (some 56) (vals 4)) (some 57) (vals 5)) (some 58) (vals 6)) (some 59) (vals 7)) (some 60) (vals 8)) (some 61) (vals 9)) (some 62) (vals 10)) (some 9) (vals 11)) W
      obtain ⟨ly, by_, v11, hx1, hx2, hx3⟩ := g11
      rw [putAll_zero, ev0, ev1, ev2, ev3, ev4, ev5, ev6, ev8, ev9, v11]
      generalize vals 7 = yv7
      generalize vals 10 = yv10
      obtain ⟨w5, hw5⟩ : ∃ w5, w5 = W := ⟨_, rfl⟩
      subst hw5
      have HQ5 := hide hS.1
      have HB5 := hide (below_trans (unhide HB4) hS.2)
      have HX5 := hide ((unhide HX4).below hS.2)
      have HY5 := hide hx3
      have HS5 : Hid (w4.heap.size ≤ by_ ∧ by_ < ly ∧ ly < w5.heap.size) := ⟨hx1, hx2, hx3.lo.me.lt⟩
      clear hS hG hf g7 g10 v11 hx1 hx2 hx3 ev0 ev1 ev2 ev3 ev4 ev5 ev6 ev8 ev9
      clear vals fq HA4 HQ4 HB4 HX4
      go_simp
      go_upto_region 8 with fail
      refine region_ssa2 (fun _ W => Cells W qb [.int .i64 (d : Int), .int .i64 (e : Int)] ∧ Below w5.heap.size w5 W) (fun jq vq wq => (∀ xq, (([some (.pointer (some ⟨qb, 1, none⟩)), some (.int .i64 (e : Int)), some (.int .i64 (E : Int)), none, some (.pointer (some ⟨qb, 1, none⟩)), some (.int .i64 (e : Int)), some (.int .i64 (E : Int)), none, some (.pointer (some ⟨qb, 1, none⟩)), some (.int .i64 (e : Int)), none, none] : List (Option Value)).getD jq none) = some xq → vq = xq) ∧ (jq = 3 → ArG w5.heap.size E vq wq) ∧ (jq = 7 → PtA w5.heap.size E vq wq) ∧ (jq = 10 → LpA w2.heap.size w5.heap.size E e 2 vq wq) ∧ (jq = 11 → LpA w2.heap.size w5.heap.size E e 2 vq wq)) (by kernel_rfl) (by kernel_rfl) ?_ ?_ ?_
      · intro fq hf
        exact ⟨Cells.drew (unhide HQ5), (Below.refl _ _).drew⟩
      · intro iq op ho fq AQ W hf hdep hS hK hG
        have hlt : iq < 12 := (Array.getElem?_eq_some_iff.1 ho).1
        match iq, hlt with
        | 0, _ =>
          obtain rfl := (Option.some.inj ho).symm
          have d6 : AQ.tmps.getD 6 undef = .pointer (some ⟨qb, 0, none⟩) := hK.2.2 6 (by kernel_rfl)
          exact wpOp_val (v := (.pointer (some ⟨qb, 1, none⟩))) (w' := W) rfl (wanted_none rfl) (by simp [execOp, Act.eval, d6, go_sem]) ⟨_, rfl, hS, fun _ _ h => h, ⟨(by intro x hx; cases hx; rfl), (by intro h; cases h), (by intro h; cases h), (by intro h; cases h), (by intro h; cases h)⟩⟩
        | 1, _ =>
          obtain rfl := (Option.some.inj ho).symm
          have d63 : AQ.tmps.getD 63 undef = .pointer (some ⟨qb, 1, none⟩) := ((hG ⟨0, .data⟩ (by simp) rfl).2 63 rfl).1 _ rfl
          have hc := hS.1.cell 1 _ rfl
          exact wpOp_val (v := (.int .i64 (e : Int))) (w' := W) rfl (wanted_none rfl) (by simp [execOp, Act.eval, d63, hc, go_sem]) ⟨_, rfl, hS, fun _ _ h => h, ⟨(by intro x hx; cases hx; rfl), (by intro h; cases h), (by intro h; cases h), (by intro h; cases h), (by intro h; cases h)⟩⟩
        | 2, _ =>
          obtain rfl := (Option.some.inj ho).symm
          have d64 : AQ.tmps.getD 64 undef = .int .i64 (e : Int) := ((hG ⟨1, .data⟩ (by simp) rfl).2 64 rfl).1 _ rfl
          exact wpOp_val (v := (.int .i64 (E : Int))) (w' := W) rfl (wanted_none rfl) (by simp [execOp, Act.eval, d64, hE2, hEw, go_sem]) ⟨_, rfl, hS, fun _ _ h => h, ⟨(by intro x hx; cases hx; rfl), (by intro h; cases h), (by intro h; cases h), (by intro h; cases h), (by intro h; cases h)⟩⟩
        | 3, _ =>
          obtain rfl := (Option.some.inj ho).symm
          have d65 : AQ.tmps.getD 65 undef = .int .i64 (E : Int) := ((hG ⟨2, .data⟩ (by simp) rfl).2 65 rfl).1 _ rfl
          refine wpOp_call (f := 9) (args := #[.int .i64 (E : Int)]) (w' := W) rfl (wanted_none rfl) (by simp [execOp, Act.eval, d65, go_sem]) ?_
          refine (new_G E w5.heap.size (by omega) W hS.2.size).mono ?_
          rintro ee w' ⟨v, rfl, hg, hb⟩
          exact ⟨_, rfl, _, rfl, ⟨hS.1.below hb, hS.2.trans (hb.mono hS.2.size)⟩, fun j u h => ⟨h.1, fun ej => (h.2.1 ej).below hb, fun ej => (h.2.2.1 ej).below hb, fun ej => (h.2.2.2.1 ej).below hb, fun ej => (h.2.2.2.2 ej).below hb⟩, ⟨(by intro x hx; cases hx), fun _ => hg, (by intro h; cases h), (by intro h; cases h), (by intro h; cases h)⟩⟩
        | 4, _ =>
          obtain rfl := (Option.some.inj ho).symm
          have d6 : AQ.tmps.getD 6 undef = .pointer (some ⟨qb, 0, none⟩) := hK.2.2 6 (by kernel_rfl)
          exact wpOp_val (v := (.pointer (some ⟨qb, 1, none⟩))) (w' := W) rfl (wanted_none rfl) (by simp [execOp, Act.eval, d6, go_sem]) ⟨_, rfl, hS, fun _ _ h => h, ⟨(by intro x hx; cases hx; rfl), (by intro h; cases h), (by intro h; cases h), (by intro h; cases h), (by intro h; cases h)⟩⟩
        | 5, _ =>
          obtain rfl := (Option.some.inj ho).symm
          have d67 : AQ.tmps.getD 67 undef = .pointer (some ⟨qb, 1, none⟩) := ((hG ⟨4, .data⟩ (by simp) rfl).2 67 rfl).1 _ rfl
          have hc := hS.1.cell 1 _ rfl
          exact wpOp_val (v := (.int .i64 (e : Int))) (w' := W) rfl (wanted_none rfl) (by simp [execOp, Act.eval, d67, hc, go_sem]) ⟨_, rfl, hS, fun _ _ h => h, ⟨(by intro x hx; cases hx; rfl), (by intro h; cases h), (by intro h; cases h), (by intro h; cases h), (by intro h; cases h)⟩⟩
        | 6, _ =>
          obtain rfl := (Option.some.inj ho).symm
          have d68 : AQ.tmps.getD 68 undef = .int .i64 (e : Int) := ((hG ⟨5, .data⟩ (by simp) rfl).2 68 rfl).1 _ rfl
          exact wpOp_val (v := (.int .i64 (E : Int))) (w' := W) rfl (wanted_none rfl) (by simp [execOp, Act.eval, d68, hE2, hEw, go_sem]) ⟨_, rfl, hS, fun _ _ h => h, ⟨(by intro x hx; cases hx; rfl), (by intro h; cases h), (by intro h; cases h), (by intro h; cases h), (by intro h; cases h)⟩⟩
        | 7, _ =>
          obtain rfl := (Option.some.inj ho).symm
          have g66 := ((hG ⟨3, .data⟩ (by simp) rfl).2 66 rfl).2.1 rfl
          have d69 : AQ.tmps.getD 69 undef = .int .i64 (E : Int) := ((hG ⟨6, .data⟩ (by simp) rfl).2 69 rfl).1 _ rfl
          refine wpOp_call (f := 11) (args := #[AQ.tmps.getD 66 undef, .int .i64 0, .int .i64 (E : Int)]) (w' := W) rfl (wanted_none rfl) (by simp [execOp, Act.eval, d69, go_sem]) ?_
          refine (part_A w5.heap.size E _ W g66 (by omega) (by omega)).mono ?_
          rintro ee w' ⟨v, rfl, hg, hb⟩
          exact ⟨_, rfl, _, rfl, ⟨hS.1.below hb, hS.2.trans (hb.mono hS.2.size)⟩, fun j u h => ⟨h.1, fun ej => (h.2.1 ej).below hb, fun ej => (h.2.2.1 ej).below hb, fun ej => (h.2.2.2.1 ej).below hb, fun ej => (h.2.2.2.2 ej).below hb⟩, ⟨(by intro x hx; cases hx), (by intro h; cases h), fun _ => hg, (by intro h; cases h), (by intro h; cases h)⟩⟩
        | 8, _ =>
          obtain rfl := (Option.some.inj ho).symm
          have d6 : AQ.tmps.getD 6 undef = .pointer (some ⟨qb, 0, none⟩) := hK.2.2 6 (by kernel_rfl)
          exact wpOp_val (v := (.pointer (some ⟨qb, 1, none⟩))) (w' := W) rfl (wanted_none rfl) (by simp [execOp, Act.eval, d6, go_sem]) ⟨_, rfl, hS, fun _ _ h => h, ⟨(by intro x hx; cases hx; rfl), (by intro h; cases h), (by intro h; cases h), (by intro h; cases h), (by intro h; cases h)⟩⟩
        | 9, _ =>
          obtain rfl := (Option.some.inj ho).symm
          have d71 : AQ.tmps.getD 71 undef = .pointer (some ⟨qb, 1, none⟩) := ((hG ⟨8, .data⟩ (by simp) rfl).2 71 rfl).1 _ rfl
          have hc := hS.1.cell 1 _ rfl
          exact wpOp_val (v := (.int .i64 (e : Int))) (w' := W) rfl (wanted_none rfl) (by simp [execOp, Act.eval, d71, hc, go_sem]) ⟨_, rfl, hS, fun _ _ h => h, ⟨(by intro x hx; cases hx; rfl), (by intro h; cases h), (by intro h; cases h), (by intro h; cases h), (by intro h; cases h)⟩⟩
        | 10, _ =>
          obtain rfl := (Option.some.inj ho).symm
          have g70 := ((hG ⟨7, .data⟩ (by simp) rfl).2 70 rfl).2.2.1 rfl
          have d72 : AQ.tmps.getD 72 undef = .int .i64 (e : Int) := ((hG ⟨9, .data⟩ (by simp) rfl).2 72 rfl).1 _ rfl
          refine wpOp_call (f := 10) (args := #[AQ.tmps.getD 70 undef, .int .i64 (e : Int)]) (w' := W) rfl (wanted_none rfl) (by simp [execOp, Act.eval, d72, go_sem]) ?_
          refine (lnew_A w2.heap.size w5.heap.size E e 2 _ W g70 (by omega) (by omega) (by omega) (unhide HR).2.2.1 (by decide) (by have := unhide HS3; have := unhide HS4; have := unhide HS5; omega)).mono ?_
          rintro ee w' ⟨v, rfl, hg, hb⟩
          exact ⟨_, rfl, _, rfl, ⟨hS.1.below hb, hS.2.trans (hb.mono hS.2.size)⟩, fun j u h => ⟨h.1, fun ej => (h.2.1 ej).below hb, fun ej => (h.2.2.1 ej).below hb, fun ej => (h.2.2.2.1 ej).below hb, fun ej => (h.2.2.2.2 ej).below hb⟩, ⟨(by intro x hx; cases hx), (by intro h; cases h), (by intro h; cases h), fun _ => hg, (by intro h; cases h)⟩⟩
        | 11, _ =>
          obtain rfl := (Option.some.inj ho).symm
          have g73 := ((hG ⟨10, .data⟩ (by simp) rfl).2 73 rfl).2.2.2.1 rfl
          obtain ⟨l, b, c3, g3, d73, h1, h2, h3, h4, h5, h6⟩ := g73
          exact wpOp_val (v := (.pointer (some ⟨l, 0, none⟩))) (w' := W) rfl (wanted_none rfl) (by simp [execOp, Act.eval, d73, go_sem]) ⟨_, rfl, hS, fun _ _ h => h, ⟨(by intro x hx; cases hx), (by intro h; cases h), (by intro h; cases h), (by intro h; cases h), fun _ => ⟨l, b, c3, g3, rfl, h1, h2, h3, h4, h5, h6⟩⟩⟩
      · intro fq W vals hf hS hG
        have ev0 : vals 0 = .pointer (some ⟨qb, 1, none⟩) := (hG 0 63 (by decide) rfl).1 _ rfl
        have ev1 : vals 1 = .int .i64 (e : Int) := (hG 1 64 (by decide) rfl).1 _ rfl
        have ev2 : vals 2 = .int .i64 (E : Int) := (hG 2 65 (by decide) rfl).1 _ rfl
        have g3 := (hG 3 66 (by decide) rfl).2.1 rfl
        have ev4 : vals 4 = .pointer (some ⟨qb, 1, none⟩) := (hG 4 67 (by decide) rfl).1 _ rfl
        have ev5 : vals 5 = .int .i64 (e : Int) := (hG 5 68 (by decide) rfl).1 _ rfl
        have ev6 : vals 6 = .int .i64 (E : Int) := (hG 6 69 (by decide) rfl).1 _ rfl
        have g7 := (hG 7 70 (by decide) rfl).2.2.1 rfl
        have ev8 : vals 8 = .pointer (some ⟨qb, 1, none⟩) := (hG 8 71 (by decide) rfl).1 _ rfl
        have ev9 : vals 9 = .int .i64 (e : Int) := (hG 9 72 (by decide) rfl).1 _ rfl
        have g10 := (hG 10 73 (by decide) rfl).2.2.2.1 rfl
        have g11 := (hG 11 10 (by decide) rfl).2.2.2.2 rfl
        change (_ : Exit → Act → World → Prop) Exit.normal (Act.put (Act.put (Act.put (Act.put (Act.put (Act.put (Act.put (Act.put (Act.put (Act.put (Act.put (Act.put _ (some 63) (vals 0)) (some 64) (vals 1)) (some 65) (vals 2)) (some 66) (vals 3)) (some 67) (vals 4)) (some 68) (vals 5)) (some 69) (vals 6)) (some 70) (vals 7)) (some 71) (vals 8)) (some 72) (vals 9)) (some 73) (vals 10)) (some 10) (vals 11)) W
        obtain ⟨lz, bz, cz, gz, v11, hz1, hz2, hz3, hz4, hz5, hz6⟩ := g11
        rw [putAll_zero, ev0, ev1, ev2, ev4, ev5, ev6, ev8, ev9, v11]
        generalize vals 3 = zv3
        generalize vals 7 = zv7
        generalize vals 10 = zv10
        obtain ⟨w6, hw6⟩ : ∃ w6, w6 = W := ⟨_, rfl⟩
        subst hw6
        have HB6 := hide (below_trans (unhide HB5) hS.2)
        have HX6 := hide ((unhide HX5).below hS.2)
        have HY6 := hide ((unhide HY5).below hS.2)
        have HZ6 := hide hz6
        have HS : Hid (w2.heap.size ≤ c ∧ w2.heap.size ≤ g ∧ c < w3.heap.size ∧ g < w3.heap.size ∧ w3.heap.size ≤ bx ∧ bx < lx ∧ lx < by_ ∧ by_ < ly ∧ ly < cz ∧ ly < gz ∧ cz < bz ∧ gz < bz ∧ bz < lz) := by
          have h3 := unhide HS3; have h4 := unhide HS4; have h5 := unhide HS5
          show _ ∧ _
          omega
        clear hS hG hf g3 g7 g10 v11 hz1 hz2 hz3 hz4 hz5 hz6 ev0 ev1 ev2 ev4 ev5 ev6 ev8 ev9
        clear HS3 HS4 HS5
        clear vals fq HQ5 HB5 HX5 HY5
        go_simp
        have HAL : Hid (Alike D E (List.replicate n 0) (List.replicate E 0)) := by rw [← hn]; exact alike_zero D E
        clear hD3 hE2 hDw hEw hnn h1d h1e hn hD hE
        obtain ⟨d1, hdd⟩ : ∃ d1 : Nat, (d : Int) - 1 = (d1 : Int) := ⟨d - 1, by omega⟩
        rw [hdd]
        go_wp2
        go_loopw [11, 12, 13, 14, 15, 16, 17, 18, 19, 20] (fun iv _ _ _ _ _ _ _ _ _ wr => ∃ (i cx cy : Nat) (L La : List Int), i ≤ N ∧ cx + cy = i ∧ iv = .int .i64 (i : Int) ∧ Hid (Own w2.heap.size lx bx c g 0 D n d 3 (cx : Int) wr L) ∧ Hid (Own w2.heap.size ly by_ c g D E n e 2 (cy : Int) wr L) ∧ Hid (Own w2.heap.size lz bz cz gz 0 E E e 2 (cy : Int) wr La) ∧ Hid (Alike D E L La) ∧ Hid (Below w2.heap.size w2 wr)) (fun iv _ _ _ _ _ _ _ _ _ _ => N - (intOf iv).toNat)
        case atStart => exact ⟨0, 0, 0, _, _, by omega, rfl, rfl, HX6, HY6, HZ6, HAL, HB6⟩
        case round =>
          obtain ⟨i, cx, cy, L, La, hi, hcc, rfl, HXr, HYr, HZr, HAr, HBr⟩ := hrel
          obtain ⟨w7, hw7⟩ : ∃ w7, w7 = wr := ⟨_, rfl⟩
          subst hw7
          clear HX6 HY6 HZ6 HAL HB6
          by_cases hlt : i < N
          · have hib : i < bs.length := by rw [unhide HBS]; exact hlt
            obtain ⟨bb, bo, ha, hbc⟩ : ∃ bb bo, a = some ⟨bb, bo, none⟩ ∧ w7.cell? ⟨bb, bo + i, none⟩ = some (.bool bs[i]) := by
              rcases (unhide HL2).below (unhide HBr) with h | ⟨bb, bo, h1, _, h2⟩
              · rw [h] at hib; simp at hib
              · exact ⟨bb, bo, h1, h2 i hib⟩
            subst ha
            obtain ⟨bit, hbit⟩ : ∃ bit, bs[i] = bit := ⟨_, rfl⟩
            rw [hbit] at hbc
            have hj1 : (i : Int) < len := by omega
            have hj2 : (i : Int) < 40 := by omega
            have qd := ((unhide HQ2).below (unhide HBr)).cell 0 _ rfl
            have qe := ((unhide HQ2).below (unhide HBr)).cell 1 _ rfl
            clear hbit hib
            cases bit
            · -- the first loop
              go_wp2_with (at_make; refine wpList_make_full _ rfl _ _ 34 rfl w7.heap.size 3 i0 (.int .i64 0) 1 Try.underlying34 (unhide HI).1 (unhide HI).2.1 (unhide HI).2.2.1 _ _ _ _ d rfl rfl rfl rfl ?m1 ?m2 ?m3 ?_)
              case m1 => rw [(unhide HI).2.2.2]; omega
              case m2 => unfold maxLen; omega
              case m3 => exact Nat.le_refl _
              intro w8 hown hgr
              rw [ints_zero] at hown
              have hb : Below w7.heap.size w7 w8 := (Below.refl w7.heap.size w7).grown hgr (Nat.le_refl _) (fun _ h => by cases h)
              have HF8 : Hid (Fr w7.heap.size d w8 (List.replicate d 0)) := ⟨own_cells hown, by simp, ok_zero d⟩
              have HQ : Hid (lz < w7.heap.size) := (unhide HZr).lo.me.lt
              have HX8 := hide ((unhide HXr).below hb)
              have HY8 := hide ((unhide HYr).below hb)
              have HZ8 := hide ((unhide HZr).below hb)
              have HB8 := hide (below_trans (unhide HBr) hb)
              clear HXr HYr HZr HBr
              clear hown hgr hb
              have qd8 := ((unhide HQ2).below (unhide HB8)).cell 0 _ rfl
              generalize w7.heap.size = q at *
              have hcell := (unhide HF8).1.cell d1 _ (ints_at (List.replicate d 0) d1 (by simp; omega))
              have hfree := (unhide HF8).1.free d1
              generalize (List.replicate d 0).getD d1 0 = z at hcell
              go_wp2_with fail
              obtain ⟨w9, hw9⟩ : ∃ w9, w9 = w8.setCell ⟨q, d1, none⟩ (.int .i64 (-(i : Int))) := ⟨_, rfl⟩
              rw [← hw9]
              have hbt : But (fun j => j = q) w8 w9 := by rw [hw9]; exact But.of_only (Only.setHere _ _) rfl
              have HF9 : Hid (Fr q d w9 ((List.replicate d 0).set d1 (-(i : Int)))) := by rw [hw9]; exact (unhide HF8).set d1 ⟨by omega, by omega⟩
              have hs := unhide HS
              have hq := unhide HQ
              have HX9 := hide ((unhide HX8).but hbt (by omega) (by omega) (by omega) (by omega))
              have HY9 := hide ((unhide HY8).but hbt (by omega) (by omega) (by omega) (by omega))
              have HZ9 := hide ((unhide HZ8).but hbt (by omega) (by omega) (by omega) (by omega))
              have HB9 := hide ((unhide HB8).trans (hbt.below (fun j hj => by rw [hj]; omega) (unhide HB8).size))
              clear hw9 hbt hcell hfree qd8 qd qe HX8 HY8 HZ8 HF8 HB8 z
              refine ((unhide HX9).pushF (by omega) (unhide HF9) (by omega)).mono ?_
              rintro e' w10 ⟨rfl, ho, hbt⟩
              have HXt := hide ho
              have HYt := hide ((unhide HY9).swap hbt ho.ar (by omega) (by omega))
              have HZt := hide ((unhide HZ9).but hbt (by omega) (by omega) (by omega) (by omega))
              have HBt := hide ((unhide HB9).trans (hbt.lg_below (unhide HX9).ge.1 (unhide HX9).ge.2.2.2 (unhide HB9).size))
              have HAt := hide ((unhide HAr).first (R := 3) (d := d) (F := (List.replicate d 0).set d1 (-(i : Int))) cx (by decide) (unhide HR).2.1)
              clear ho hbt HX9 HY9 HZ9 HF9 HB9 HAr hs hq HQ
              obtain ⟨vx, hvx⟩ : ∃ vx : Nat, (cx : Int) + 1 = (vx : Int) := ⟨cx + 1, by omega⟩
              rw [hvx] at HXt
              generalize pushL L 0 3 d (cx : Int) ((List.replicate d 0).set d1 (-(i : Int))) = Lt at HXt HYt HAt
              obtain ⟨u, hu⟩ : ∃ u : Nat, cy = u := ⟨_, rfl⟩
              rw [hu] at HYt HZt
              obtain ⟨Lat, hLat⟩ : ∃ Lat, La = Lat := ⟨_, rfl⟩
              rw [hLat] at HZt HAt
              have hsum : vx + u = i + 1 := by omega
              clear hu hvx hcc hLat
              clear cx cy
              by_cases hu1 : 1 ≤ u
              · skip
                obtain ⟨τ, hτ⟩ : ∃ τ : Nat, (u : Int) - 1 = (τ : Int) := ⟨u - 1, by omega⟩
                have HH : Hid (hasI (u : Int) 2 (τ : Int)) := ⟨by unfold oldI; omega, by omega⟩
                have HRow := hide ((unhide HAt).row τ (R := 2) (d := e) (by decide) (unhide HR).2.2.2)
                go_wp2_with fail
                refine (lcount_any ly by_ c g D E 2 e _ _ (unhide HYt).lo (by omega) (by omega)).mono ?_
                rintro e' wx ⟨rfl, rfl⟩
                go_wp2_with fail
                refine (lget_yes ly by_ c g D E n 2 e _ (τ : Int) Lt _ (unhide HYt).lo (unhide HYt).ar (unhide HYt).hm (by omega) (by omega) (unhide HH)).mono ?_
                rw [Int.toNat_natCast]
                rintro e' w20 ⟨r1, rfl, hr, hc, hb⟩
                have HC20 : Hid (∃ F : List Int, F.length = e ∧ Cells w20 r1 (ints F)) := ⟨_, row_len _ _ _, hc⟩
                have HQ : Hid (lz < r1) := Nat.lt_of_lt_of_le (unhide HZt).lo.me.lt hr
                have HX20 := hide ((unhide HXt).below hb)
                have HY20 := hide ((unhide HYt).below hb)
                have HZ20 := hide ((unhide HZt).below hb)
                have HB20 := hide (below_trans (unhide HBt) hb)
                clear HXt HYt HZt HBt
                clear hr hc hb
                go_wp2
                go_loopw [16] (fun jv wr => ∃ j : Nat, j ≤ e ∧ jv = .int .i64 (j : Int) ∧ Hid (Own w2.heap.size lx bx c g 0 D n d 3 (vx : Int) wr Lt) ∧ Hid (Own w2.heap.size ly by_ c g D E n e 2 (u : Int) wr Lt) ∧ Hid (Own w2.heap.size lz bz cz gz 0 E E e 2 (u : Int) wr Lat) ∧ Hid (∃ F : List Int, F.length = e ∧ Cells wr r1 (ints F)) ∧ Hid (Below w2.heap.size w2 wr)) (fun jv _ => e - (intOf jv).toNat)
                case atStart => exact ⟨0, by omega, rfl, HX20, HY20, HZ20, HC20, HB20⟩
                case round =>
                  obtain ⟨j, hj, rfl, HXj, HYj, HZj, HCj, HBj⟩ := hrel
                  obtain ⟨w21, hw21⟩ : ∃ w21, w21 = wr := ⟨_, rfl⟩
                  subst hw21
                  clear HX20 HY20 HZ20 HC20 HB20
                  by_cases hlj : j < e
                  · obtain ⟨F, hF, hCF⟩ := unhide HCj
                    have hcell := hCF.cell j _ (ints_at F j (by omega))
                    have hfree := hCF.free j
                    generalize F.getD j 0 = z at hcell
                    have HCF := hide hCF
                    clear hCF HCj
                    go_wp2
                    have hbt : But (fun k => k = r1) w21 (w21.setCell ⟨r1, j, none⟩ (.int .i64 7777)) := But.of_only (Only.setHere _ _) rfl
                    have hs := unhide HS
                    have hq := unhide HQ
                    have HX22 := hide ((unhide HXj).but hbt (by omega) (by omega) (by omega) (by omega))
                    have HY22 := hide ((unhide HYj).but hbt (by omega) (by omega) (by omega) (by omega))
                    have HZ22 := hide ((unhide HZj).but hbt (by omega) (by omega) (by omega) (by omega))
                    have HB22 := hide ((unhide HBj).trans (hbt.below (fun k hk => by rw [hk]; omega) (unhide HBj).size))
                    have HC22 : Hid (∃ F : List Int, F.length = e ∧ Cells (w21.setCell ⟨r1, j, none⟩ (.int .i64 7777)) r1 (ints F)) := ⟨F.set j 7777, by simp [hF], by rw [← ints_set]; exact (unhide HCF).set j _⟩
                    go_roundw
                    case rel => exact ⟨j + 1, by omega, by simp, HX22, HY22, HZ22, HC22, HB22⟩
                    case measure => simp [intOf]; omega
                  · obtain rfl : e = j := by omega
                    clear HCj HQ
                    go_wp2_with fail
                    refine (lcount_any ly by_ c g D E 2 e _ _ (unhide HYj).lo (by omega) (by omega)).mono ?_
                    rintro e' wx ⟨rfl, rfl⟩
                    go_wp2_with fail
                    refine (lget_yes ly by_ c g D E n 2 e _ (τ : Int) Lt _ (unhide HYj).lo (unhide HYj).ar (unhide HYj).hm (by omega) (by omega) (unhide HH)).mono ?_
                    rw [Int.toNat_natCast]
                    rintro e' w23 ⟨r2, rfl, hr, hc, hb⟩
                    have HC23 := hide hc
                    have HX23 := hide ((unhide HXj).below hb)
                    have HY23 := hide ((unhide HYj).below hb)
                    have HZ23 := hide ((unhide HZj).below hb)
                    have HB23 := hide (below_trans (unhide HBj) hb)
                    clear HXj HYj HZj HBj
                    clear hr hc hb
                    go_wp2_with fail
                    refine (lcount_any lz bz cz gz 0 E 2 e _ _ (unhide HZ23).lo (by omega) (by omega)).mono ?_
                    rintro e' wx ⟨rfl, rfl⟩
                    go_wp2_with fail
                    refine (lget_yes lz bz cz gz 0 E E 2 e _ (τ : Int) Lat _ (unhide HZ23).lo (unhide HZ23).ar (unhide HZ23).hm (by omega) (by omega) (unhide HH)).mono ?_
                    rw [Int.toNat_natCast, ← unhide HRow]
                    rintro e' w24 ⟨r3, rfl, hr, hc, hb⟩
                    have HD24 := hide hc
                    have HC24 := hide ((unhide HC23).below hb)
                    have HX24 := hide ((unhide HX23).below hb)
                    have HY24 := hide ((unhide HY23).below hb)
                    have HZ24 := hide ((unhide HZ23).below hb)
                    have HB24 := hide (below_trans (unhide HB23) hb)
                    clear HX23 HY23 HZ23 HB23
                    clear hr hc hb HC23
                    go_wp2_with fail
                    refine (same_any _ _ e e _ e (row_len _ _ _) (by omega) _ (unhide HC24).lies (unhide HD24).lies).mono ?_
                    rintro e' w25 ⟨rfl, hb⟩
                    have HX25 := hide ((unhide HX24).below hb)
                    have HY25 := hide ((unhide HY24).below hb)
                    have HZ25 := hide ((unhide HZ24).below hb)
                    have HB25 := hide (below_trans (unhide HB24) hb)
                    clear HX24 HY24 HZ24 HB24
                    clear hb HC24 HD24
                    go_wp2
                    go_roundw
                    case rel => exact ⟨i + 1, vx, u, Lt, Lat, by omega, hsum, by simp, HX25, HY25, HZ25, HAt, HB25⟩
                    case measure => simp [intOf]; omega
              · skip
                have hu0 : (u : Int) = 0 := by omega
                have HNo : Hid (¬ hasI (u : Int) 2 (-1)) := fun h => by have := h.1; have := (old_bd (u : Int) 2 (by omega)).1; omega
                go_wp2_with fail
                refine (lcount_any ly by_ c g D E 2 e _ _ (unhide HYt).lo (by omega) (by omega)).mono ?_
                rintro e' wx ⟨rfl, rfl⟩
                go_wp2_with fail
                refine (lget_no ly by_ c g D E 2 e _ (-1) _ (unhide HYt).lo (by omega) (by omega) ⟨by omega, by omega⟩ (unhide HNo)).mono ?_
                rintro e' w20 ⟨rfl, n20, rfl⟩
                have HX20 := hide ((unhide HXt).below (below_drewN _ n20))
                have HY20 := hide ((unhide HYt).below (below_drewN _ n20))
                have HZ20 := hide ((unhide HZt).below (below_drewN _ n20))
                have HB20 := hide (below_trans (unhide HBt) (below_drewN _ n20))
                clear HXt HYt HZt HBt
                go_wp2
                obtain ⟨w21, hw21⟩ : ∃ w21, w21 = wx.drewN n20 := ⟨_, rfl⟩
                rw [← hw21] at HX20 HY20 HZ20 HB20 ⊢
                clear hw21
                go_loopw [16] (fun jv wr => jv = .int .i64 0 ∧ wr = w21) (fun jv _ => 0)
                case atStart => exact ⟨rfl, rfl⟩
                case round =>
                  obtain ⟨rfl, rfl⟩ := hrel
                  go_wp2_with fail
                  refine (lcount_any ly by_ c g D E 2 e _ _ (unhide HY20).lo (by omega) (by omega)).mono ?_
                  rintro e' wx ⟨rfl, rfl⟩
                  go_wp2_with fail
                  refine (lget_no ly by_ c g D E 2 e _ (-1) _ (unhide HY20).lo (by omega) (by omega) ⟨by omega, by omega⟩ (unhide HNo)).mono ?_
                  rintro e' w23 ⟨rfl, n23, rfl⟩
                  have HX23 := hide ((unhide HX20).below (below_drewN _ n23))
                  have HY23 := hide ((unhide HY20).below (below_drewN _ n23))
                  have HZ23 := hide ((unhide HZ20).below (below_drewN _ n23))
                  have HB23 := hide (below_trans (unhide HB20) (below_drewN _ n23))
                  clear HX20 HY20 HZ20 HB20
                  obtain ⟨v23, hv23⟩ : ∃ v23, v23 = wx.drewN n23 := ⟨_, rfl⟩
                  rw [← hv23] at HX23 HY23 HZ23 HB23 ⊢
                  clear hv23
                  go_wp2_with fail
                  refine (lcount_any lz bz cz gz 0 E 2 e _ _ (unhide HZ23).lo (by omega) (by omega)).mono ?_
                  rintro e' wx ⟨rfl, rfl⟩
                  go_wp2_with fail
                  refine (lget_no lz bz cz gz 0 E 2 e _ (-1) _ (unhide HZ23).lo (by omega) (by omega) ⟨by omega, by omega⟩ (unhide HNo)).mono ?_
                  rintro e' w24 ⟨rfl, n24, rfl⟩
                  have HX24 := hide ((unhide HX23).below (below_drewN _ n24))
                  have HY24 := hide ((unhide HY23).below (below_drewN _ n24))
                  have HZ24 := hide ((unhide HZ23).below (below_drewN _ n24))
                  have HB24 := hide (below_trans (unhide HB23) (below_drewN _ n24))
                  clear HX23 HY23 HZ23 HB23
                  obtain ⟨v24, hv24⟩ : ∃ v24, v24 = wx.drewN n24 := ⟨_, rfl⟩
                  rw [← hv24] at HX24 HY24 HZ24 HB24 ⊢
                  clear hv24
                  go_wp2_with fail
                  refine (same_any none none 0 0 [] 0 rfl (by omega) _ (Or.inl rfl) (Or.inl rfl)).mono ?_
                  rintro e' w25 ⟨rfl, hb⟩
                  have HX25 := hide ((unhide HX24).below hb)
                  have HY25 := hide ((unhide HY24).below hb)
                  have HZ25 := hide ((unhide HZ24).below hb)
                  have HB25 := hide (below_trans (unhide HB24) hb)
                  clear HX24 HY24 HZ24 HB24
                  clear hb
                  go_wp2
                  go_roundw
                  case rel => exact ⟨i + 1, vx, u, Lt, Lat, by omega, hsum, by simp, HX25, HY25, HZ25, HAt, HB25⟩
                  case measure => simp [intOf]; omega
            · -- the second one, and the one alone
              go_wp2_with (at_make; refine wpList_make_full _ rfl _ _ 34 rfl w7.heap.size 3 i0 (.int .i64 0) 1 Try.underlying34 (unhide HI).1 (unhide HI).2.1 (unhide HI).2.2.1 _ _ _ _ e rfl rfl rfl rfl ?m1 ?m2 ?m3 ?_)
              case m1 => rw [(unhide HI).2.2.2]; omega
              case m2 => unfold maxLen; omega
              case m3 => exact Nat.le_refl _
              intro w8 hown hgr
              rw [ints_zero] at hown
              have hb : Below w7.heap.size w7 w8 := (Below.refl w7.heap.size w7).grown hgr (Nat.le_refl _) (fun _ h => by cases h)
              have HF8 : Hid (Fr w7.heap.size e w8 (List.replicate e 0)) := ⟨own_cells hown, by simp, ok_zero e⟩
              have HQ : Hid (lz < w7.heap.size) := (unhide HZr).lo.me.lt
              have HX8 := hide ((unhide HXr).below hb)
              have HY8 := hide ((unhide HYr).below hb)
              have HZ8 := hide ((unhide HZr).below hb)
              have HB8 := hide (below_trans (unhide HBr) hb)
              clear HXr HYr HZr HBr
              clear hown hgr hb
              have qd8 := ((unhide HQ2).below (unhide HB8)).cell 0 _ rfl
              generalize w7.heap.size = q at *
              have hcell := (unhide HF8).1.cell 0 _ (ints_at (List.replicate e 0) 0 (by simp; omega))
              have hfree := (unhide HF8).1.free 0
              generalize (List.replicate e 0).getD 0 0 = z at hcell
              go_wp2_with fail
              obtain ⟨w9, hw9⟩ : ∃ w9, w9 = w8.setCell ⟨q, 0, none⟩ (.int .i64 ((i : Int))) := ⟨_, rfl⟩
              rw [← hw9]
              have hbt : But (fun j => j = q) w8 w9 := by rw [hw9]; exact But.of_only (Only.setHere _ _) rfl
              have HF9 : Hid (Fr q e w9 ((List.replicate e 0).set 0 ((i : Int)))) := by rw [hw9]; exact (unhide HF8).set 0 ⟨by omega, by omega⟩
              have hs := unhide HS
              have hq := unhide HQ
              have HX9 := hide ((unhide HX8).but hbt (by omega) (by omega) (by omega) (by omega))
              have HY9 := hide ((unhide HY8).but hbt (by omega) (by omega) (by omega) (by omega))
              have HZ9 := hide ((unhide HZ8).but hbt (by omega) (by omega) (by omega) (by omega))
              have HB9 := hide ((unhide HB8).trans (hbt.below (fun j hj => by rw [hj]; omega) (unhide HB8).size))
              clear hw9 hbt hcell hfree qd8 qd qe HX8 HY8 HZ8 HF8 HB8 z
              refine ((unhide HY9).pushF (by omega) (unhide HF9) (by omega)).mono ?_
              rintro e' w10 ⟨rfl, ho, hbt⟩
              have HY10 := hide ho
              have HX10 := hide ((unhide HX9).swap hbt ho.ar (by omega) (by omega))
              have HZ10 := hide ((unhide HZ9).but hbt (by omega) (by omega) (by omega) (by omega))
              have HF10 := hide ((unhide HF9).but hbt (by omega))
              have HB10 := hide ((unhide HB9).trans (hbt.lg_below (unhide HY9).ge.1 (unhide HY9).ge.2.2.2 (unhide HB9).size))
              clear ho hbt HX9 HY9 HZ9 HF9 HB9
              go_wp2_with fail
              refine ((unhide HZ10).pushF (by omega) (unhide HF10) (by omega)).mono ?_
              rintro e' w11 ⟨rfl, ho, hbt⟩
              have HZt := hide ho
              have HXt := hide ((unhide HX10).but hbt (by omega) (by omega) (by omega) (by omega))
              have HYt := hide ((unhide HY10).but hbt (by omega) (by omega) (by omega) (by omega))
              have HBt := hide ((unhide HB10).trans (hbt.lg_below (unhide HZ10).ge.1 (unhide HZ10).ge.2.2.2 (unhide HB10).size))
              have HAt := hide ((unhide HAr).both (R := 2) (d := e) (F := (List.replicate e 0).set 0 (i : Int)) cy)
              clear ho hbt HX10 HY10 HZ10 HF10 HB10 HAr hs hq HQ
              obtain ⟨u, hu⟩ : ∃ u : Nat, (cy : Int) + 1 = (u : Int) := ⟨cy + 1, by omega⟩
              rw [hu] at HYt HZt
              generalize pushL L D 2 e (cy : Int) ((List.replicate e 0).set 0 (i : Int)) = Lt at HXt HYt HAt
              generalize pushL La 0 2 e (cy : Int) ((List.replicate e 0).set 0 (i : Int)) = Lat at HZt HAt
              obtain ⟨vx, hvx⟩ : ∃ vx : Nat, cx = vx := ⟨_, rfl⟩
              rw [hvx] at HXt
              have hsum : vx + u = i + 1 := by omega
              have hu1 : 1 ≤ u := by omega
              clear hu hvx hcc
              clear cx cy
              obtain ⟨τ, hτ⟩ : ∃ τ : Nat, (u : Int) - 1 = (τ : Int) := ⟨u - 1, by omega⟩
              have HH : Hid (hasI (u : Int) 2 (τ : Int)) := ⟨by unfold oldI; omega, by omega⟩
              have HRow := hide ((unhide HAt).row τ (R := 2) (d := e) (by decide) (unhide HR).2.2.2)
              go_wp2_with fail
              refine (lcount_any ly by_ c g D E 2 e _ _ (unhide HYt).lo (by omega) (by omega)).mono ?_
              rintro e' wx ⟨rfl, rfl⟩
              go_wp2_with fail
              refine (lget_yes ly by_ c g D E n 2 e _ (τ : Int) Lt _ (unhide HYt).lo (unhide HYt).ar (unhide HYt).hm (by omega) (by omega) (unhide HH)).mono ?_
              rw [Int.toNat_natCast]
              rintro e' w20 ⟨r1, rfl, hr, hc, hb⟩
              have HC20 : Hid (∃ F : List Int, F.length = e ∧ Cells w20 r1 (ints F)) := ⟨_, row_len _ _ _, hc⟩
              have HQ : Hid (lz < r1) := Nat.lt_of_lt_of_le (unhide HZt).lo.me.lt hr
              have HX20 := hide ((unhide HXt).below hb)
              have HY20 := hide ((unhide HYt).below hb)
              have HZ20 := hide ((unhide HZt).below hb)
              have HB20 := hide (below_trans (unhide HBt) hb)
              clear HXt HYt HZt HBt
              clear hr hc hb
              go_wp2
              go_loopw [16] (fun jv wr => ∃ j : Nat, j ≤ e ∧ jv = .int .i64 (j : Int) ∧ Hid (Own w2.heap.size lx bx c g 0 D n d 3 (vx : Int) wr Lt) ∧ Hid (Own w2.heap.size ly by_ c g D E n e 2 (u : Int) wr Lt) ∧ Hid (Own w2.heap.size lz bz cz gz 0 E E e 2 (u : Int) wr Lat) ∧ Hid (∃ F : List Int, F.length = e ∧ Cells wr r1 (ints F)) ∧ Hid (Below w2.heap.size w2 wr)) (fun jv _ => e - (intOf jv).toNat)
              case atStart => exact ⟨0, by omega, rfl, HX20, HY20, HZ20, HC20, HB20⟩
              case round =>
                obtain ⟨j, hj, rfl, HXj, HYj, HZj, HCj, HBj⟩ := hrel
                obtain ⟨w21, hw21⟩ : ∃ w21, w21 = wr := ⟨_, rfl⟩
                subst hw21
                clear HX20 HY20 HZ20 HC20 HB20
                by_cases hlj : j < e
                · obtain ⟨F, hF, hCF⟩ := unhide HCj
                  have hcell := hCF.cell j _ (ints_at F j (by omega))
                  have hfree := hCF.free j
                  generalize F.getD j 0 = z at hcell
                  have HCF := hide hCF
                  clear hCF HCj
                  go_wp2
                  have hbt : But (fun k => k = r1) w21 (w21.setCell ⟨r1, j, none⟩ (.int .i64 7777)) := But.of_only (Only.setHere _ _) rfl
                  have hs := unhide HS
                  have hq := unhide HQ
                  have HX22 := hide ((unhide HXj).but hbt (by omega) (by omega) (by omega) (by omega))
                  have HY22 := hide ((unhide HYj).but hbt (by omega) (by omega) (by omega) (by omega))
                  have HZ22 := hide ((unhide HZj).but hbt (by omega) (by omega) (by omega) (by omega))
                  have HB22 := hide ((unhide HBj).trans (hbt.below (fun k hk => by rw [hk]; omega) (unhide HBj).size))
                  have HC22 : Hid (∃ F : List Int, F.length = e ∧ Cells (w21.setCell ⟨r1, j, none⟩ (.int .i64 7777)) r1 (ints F)) := ⟨F.set j 7777, by simp [hF], by rw [← ints_set]; exact (unhide HCF).set j _⟩
                  go_roundw
                  case rel => exact ⟨j + 1, by omega, by simp, HX22, HY22, HZ22, HC22, HB22⟩
                  case measure => simp [intOf]; omega
                · obtain rfl : e = j := by omega
                  clear HCj HQ
                  go_wp2_with fail
                  refine (lcount_any ly by_ c g D E 2 e _ _ (unhide HYj).lo (by omega) (by omega)).mono ?_
                  rintro e' wx ⟨rfl, rfl⟩
                  go_wp2_with fail
                  refine (lget_yes ly by_ c g D E n 2 e _ (τ : Int) Lt _ (unhide HYj).lo (unhide HYj).ar (unhide HYj).hm (by omega) (by omega) (unhide HH)).mono ?_
                  rw [Int.toNat_natCast]
                  rintro e' w23 ⟨r2, rfl, hr, hc, hb⟩
                  have HC23 := hide hc
                  have HX23 := hide ((unhide HXj).below hb)
                  have HY23 := hide ((unhide HYj).below hb)
                  have HZ23 := hide ((unhide HZj).below hb)
                  have HB23 := hide (below_trans (unhide HBj) hb)
                  clear HXj HYj HZj HBj
                  clear hr hc hb
                  go_wp2_with fail
                  refine (lcount_any lz bz cz gz 0 E 2 e _ _ (unhide HZ23).lo (by omega) (by omega)).mono ?_
                  rintro e' wx ⟨rfl, rfl⟩
                  go_wp2_with fail
                  refine (lget_yes lz bz cz gz 0 E E 2 e _ (τ : Int) Lat _ (unhide HZ23).lo (unhide HZ23).ar (unhide HZ23).hm (by omega) (by omega) (unhide HH)).mono ?_
                  rw [Int.toNat_natCast, ← unhide HRow]
                  rintro e' w24 ⟨r3, rfl, hr, hc, hb⟩
                  have HD24 := hide hc
                  have HC24 := hide ((unhide HC23).below hb)
                  have HX24 := hide ((unhide HX23).below hb)
                  have HY24 := hide ((unhide HY23).below hb)
                  have HZ24 := hide ((unhide HZ23).below hb)
                  have HB24 := hide (below_trans (unhide HB23) hb)
                  clear HX23 HY23 HZ23 HB23
                  clear hr hc hb HC23
                  go_wp2_with fail
                  refine (same_any _ _ e e _ e (row_len _ _ _) (by omega) _ (unhide HC24).lies (unhide HD24).lies).mono ?_
                  rintro e' w25 ⟨rfl, hb⟩
                  have HX25 := hide ((unhide HX24).below hb)
                  have HY25 := hide ((unhide HY24).below hb)
                  have HZ25 := hide ((unhide HZ24).below hb)
                  have HB25 := hide (below_trans (unhide HB24) hb)
                  clear HX24 HY24 HZ24 HB24
                  clear hb HC24 HD24
                  go_wp2
                  go_roundw
                  case rel => exact ⟨i + 1, vx, u, Lt, Lat, by omega, hsum, by simp, HX25, HY25, HZ25, HAt, HB25⟩
                  case measure => simp [intOf]; omega
          · skip
            have hiN : i = N := by omega
            have hmin := unhide HN
            clear HAr
            by_cases hl40 : len ≤ 40
            case' pos =>
              have hs1 : (cx : Int) + (cy : Int) = (len : Int) := by omega
            case' neg =>
              have hs1 : (cx : Int) + (cy : Int) = 40 := by omega
            all_goals (
              go_wp2_with fail
              refine (lcount_any lx bx c g 0 D 3 d _ _ (unhide HXr).lo (by omega) (by omega)).mono ?_
              rintro e' wx ⟨rfl, rfl⟩
              go_wp2_with fail
              refine (lcount_any ly by_ c g D E 2 e _ _ (unhide HYr).lo (by omega) (by omega)).mono ?_
              rintro e' wx ⟨rfl, rfl⟩
              go_wp2_with fail
              refine (err_any c g n L 0 _ (unhide HXr).ar).mono ?_
              rintro e' wx ⟨rfl, rfl⟩
              go_wp2
              go_ret
              exact ⟨by simp, (unhide HB2).trans ((unhide HBr).mono (unhide HB2).size)⟩)
end Go.Proofs.Ytclikkhaaiihdaa
