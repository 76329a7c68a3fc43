/- Package front: a stream's Push. -/
import Derived.Test.YtbkdgpeooeokmaaDoorFrontStm
import Derived.Deep.CutBlock
import Derived.Deep.DeepCutAuto
namespace Go.Proofs.YtbkdgpeooeokmaaDoor
open Go.RowKit
set_option linter.unusedVariables false

/-- What Push answers: the frames that have become whole; the stream has more. -/
def Pushed (c n p B C : Nat) (pre : Int) (t : StD) (ys : List Int) (w : World) (e : Ending) (w' : World) : Prop := ∃ (v : Value) (rs : List Rr), e = .returned (.tuple #[v, .int .i64 0]) ∧ w'.ownsRow w.heap.size 24 1 v rs.length (rs.map rowV) ∧ (∀ r ∈ rs, FRow w.heap.size w' r) ∧ rs.map (fun r => r.2.2) = stTold (frameI n B C) n p pre t ys ∧ Stm c n p B C pre (stPush n p pre t ys) w' ∧ Only c w w'

def PushedL (c n p B C : Nat) (pre : Int) (t : StD) (ys : List Int) (w : World) (e : Ending) (w' : World) : Prop := ∃ (v : Value) (rs : List Rr), e = .returned (.tuple #[v, .int .i64 0]) ∧ w'.ownsRow w.heap.size 24 1 v rs.length (rs.map rowV) ∧ (∀ r ∈ rs, FRow w.heap.size w' r) ∧ rs.map (fun r => r.2.2) = stTold (frameI n B C) n p pre t ys ∧ StmL w.heap.size c n p B C pre (stPush n p pre t ys) w' ∧ Only c w w'

set_option maxRecDepth 100000 in
set_option maxHeartbeats 3200000 in
theorem push_low (c n p B C : Nat) (pre : Int) (hs : Spc n p B C pre) (t : StD) (ht : StOk n t) (a : Option Addr) (m cap : Nat) (ys : List Int) (w : World) (hst : Stm c n p B C pre t w) (hl : Lies w a ys) (hm : ys.length = m) (hm2 : m ≤ 1000) (hys : ∀ y ∈ ys, Smp y)
    (hne : 0 < m → ∀ q, a = some q → q.block ≠ c) (hn : t.n + m ≤ 9223372036854775807) (hq : Quar w) :
    Calls Tryd.prog 11 #[.pointer (some ⟨c, 0, none⟩), .slice a m cap] w (PushedL c n p B C pre t ys w) := by
  obtain ⟨a0, m0, cap0, hc, hm0, hk0, hl0, hb0⟩ := hst
  have hn32 : n ≤ 32 := by have := hs.sz; omega
  have hm0n : m0 < 32 := by have := ht.few; omega
  have HMK := hide (made_yes c n p B C pre hs _ _ _ w hc)
  have HAL := hide (show allIn ys (-32768) 32767 = true from allIn_iff' fun y hy => hys y hy)
  have HC := hide hc
  have HL := hide hl
  have HM := hide hm
  have HY := hide hys
  have HNE := hide hne
  have HQ := hide hq
  have HT := hide ht
  have HS := hide hs
  have HM0 := hide hm0
  have HK0 := hide hk0
  have HL0 := hide hl0
  have HB0 := hide hb0
  clear hc hl hm hys hne hq ht hs hm0 hk0 hl0 hb0
  go_enter Tryd.func11, Tryd.ntmps11
  go_wp2_with fail
  refine (unhide HMK).mono ?_
  rintro e w1 ⟨rfl, hb1⟩
  have HB1 := hide hb1
  have HL1 := hide ((unhide HL).below hb1)
  clear hb1 HMK
  go_wp2_with fail
  refine (within_any a cap m ys (-32768) 32767 w1 (unhide HL1) (unhide HM) (by omega)).mono ?_
  rintro e w2 ⟨rfl, rfl⟩
  rw [unhide HAL]
  have HC2 := hide ((unhide HC).below (unhide HB1))
  have k0 := (unhide HC2).cell 0 _ rfl
  have k1 := (unhide HC2).cell 1 _ rfl
  have k2 := (unhide HC2).cell 2 _ rfl
  have k3 := (unhide HC2).cell 3 _ rfl
  have k4 := (unhide HC2).cell 4 _ rfl
  have k6 := (unhide HC2).cell 6 _ rfl
  have k7 := (unhide HC2).cell 7 _ rfl
  have HQ2 := hide ((unhide HQ).below (unhide HB1))
  have keep : ∀ {w' : World}, Below w2.heap.size w2 w' → w'.cell? ⟨c, 0, none⟩ = some (.int .i64 (n : Int)) ∧ w'.cell? ⟨c, 1, none⟩ = some (.int .i64 (p : Int)) ∧ w'.cell? ⟨c, 2, none⟩ = some (.int .i64 (B : Int)) ∧ w'.cell? ⟨c, 3, none⟩ = some (.int .i64 (C : Int)) ∧ w'.cell? ⟨c, 4, none⟩ = some (.int .i64 pre) ∧ w'.cell? ⟨c, 6, none⟩ = some (.int .i64 t.last) ∧ w'.cell? ⟨c, 7, none⟩ = some (.slice a0 m0 cap0) := fun hb => by
    have h := (unhide HC2).below hb
    exact ⟨h.cell 0 _ rfl, h.cell 1 _ rfl, h.cell 2 _ rfl, h.cell 3 _ rfl, h.cell 4 _ rfl, h.cell 6 _ rfl, h.cell 7 _ rfl⟩
  have HF : Hid (∀ w, Below w2.heap.size w2 w → Calls Tryd.prog 27 #[.agg #[.int .i64 (n : Int), .int .i64 (p : Int), .int .i64 (B : Int), .int .i64 (C : Int), .int .i64 pre], .int .i64 t.last, .slice a m cap] w fun e w' => ∃ g, e = .returned (.slice (some ⟨g, 0, none⟩) m m) ∧ w.heap.size ≤ g ∧ Cells w' g (ints (flatFrom pre t.last ys)) ∧ Below w.heap.size w w') := fun w hb =>
    flattened_any (n : Int) (p : Int) (B : Int) (C : Int) pre t.last a m cap ys w ((unhide HL1).below hb) (unhide HM) (by omega) (unhide HY) (unhide HT).last (unhide HS).r0 (unhide HS).r1
  have HCT : Hid (∀ (g : Nat) (w : World), Below w2.heap.size w2 w → Cells w g (ints (flatFrom pre t.last ys)) → Calls Tryd.prog 26 #[.slice (some ⟨w.heap.size, 0, none⟩) 2 2] (w.alloc (.cells #[.slice a0 m0 cap0, .slice (some ⟨g, 0, none⟩) m m] 24)) (OwnC (t.rest ++ flatFrom pre t.last ys) (w.alloc (.cells #[.slice a0 m0 cap0, .slice (some ⟨g, 0, none⟩) m m] 24)))) := fun g w hb hc => by
    refine concat_two w.heap.size a0 (some ⟨g, 0, none⟩) m0 cap0 m m t.rest (flatFrom pre t.last ys) _ ?_ ?_ (((unhide HL0).below (unhide HB1)).below (below_trans hb (alloc_below w _))) (hc.lies.below (alloc_below w _)) (unhide HM0) (by rw [flat_len]; exact unhide HM) (by omega) (by omega) (unhide HK0) (.inr ⟨_, rfl⟩)
    · rw [World.cell?_alloc_at _ _ _ _ rfl]; rfl
    · rw [World.cell?_alloc_at _ _ _ _ rfl]; rfl
  have HCU : Hid (∀ (a' : Option Addr) (m' c' : Nat) (w : World), Below w2.heap.size w2 w → (t.rest ++ flatFrom pre t.last ys).length = m' → m' ≤ c' → c' ≤ 9223372036854775807 → Lies w a' (t.rest ++ flatFrom pre t.last ys) → Slot a' m' c' → Calls Tryd.prog 25 #[.agg #[.int .i64 (n : Int), .int .i64 (p : Int), .int .i64 (B : Int), .int .i64 (C : Int), .int .i64 pre], .slice a' m' c'] w _) := fun a' m' c' w hb h1 h2 h3 h4 h5 =>
    cut_any n p B C pre (unhide HS) a' m' c' (t.rest ++ flatFrom pre t.last ys) w h4 h1 h2 h3 (by rw [List.length_append, flat_len, unhide HM0, unhide HM] at h1; omega) h5 (fun y hy => by
      rcases List.mem_append.1 hy with hy | hy
      · exact (unhide HT).rest y hy
      · exact flat_bd pre (unhide HS).r0 (unhide HS).r1 _ _ (unhide HT).last (unhide HY) y hy) ((unhide HQ2).below hb)
  obtain ⟨mv, hmv⟩ : ∃ mv, (t.rest ++ flatFrom pre t.last ys).length = mv := ⟨_, rfl⟩
  have HMV := hide hmv
  clear hmv
  have hbd : Below w2.heap.size w2 w2.drew := ⟨rfl, rfl, rfl, Nat.le_refl _, fun _ _ => rfl⟩
  go_wp2_with fail
  go_region_held3 (fun w' => w'.cell? ⟨c, 0, none⟩ = some (.int .i64 (n : Int)) ∧ w'.cell? ⟨c, 1, none⟩ = some (.int .i64 (p : Int)) ∧ w'.cell? ⟨c, 2, none⟩ = some (.int .i64 (B : Int)) ∧ w'.cell? ⟨c, 3, none⟩ = some (.int .i64 (C : Int)) ∧ w'.cell? ⟨c, 4, none⟩ = some (.int .i64 pre) ∧ w'.cell? ⟨c, 6, none⟩ = some (.int .i64 t.last) ∧ w'.cell? ⟨c, 7, none⟩ = some (.slice a0 m0 cap0))
    (first | exact ⟨k0, k1, k2, k3, k4, k6, k7⟩ | exact keep hbC | exact keep hbV | exact keep hbF | go_keep)
    (first
      | (go_at_call 25; go_must (with_reducible refine (unhide HCU av mv cv _ hbV hvl hvc hvm hvL hvS).mono ?_); rintro e w5 ⟨v5, a5, m5, c5, rs, rfl, ho5, hf5, ht5, hl5, hm5, hmm5, hs5, hab5, hb5⟩; have hbC := below_trans hbV hb5)
      | (go_at_call 26; go_must (with_reducible refine (unhide HCT g3 w3 hbF hc3).mono ?_); rintro e w4 ⟨v4, rfl, ho4, hb4⟩; have hbV := below_trans (below_trans hbF (alloc_below w3 _)) hb4; rw [unhide HMV] at ho4; obtain ⟨av, cv, rfl, hvl, hvc, hvm, hvL, hvS, hvB⟩ := owned_slot ho4)
      | (go_at_call 27; go_must (with_reducible refine (unhide HF w2.drew hbd).mono ?_); rintro e w3 ⟨g3, rfl, hg3, hc3, hb3⟩; have hbF := spin_undrew hb3))
  have HC5 := hide ((unhide HC2).below hbC)
  have HB5 := hide (below_trans (unhide HB1) hbC)
  have hcl := (unhide HC).lt
  have HRS := hide (show (∀ q, a5 = some q → c < q.block) ∧ Slot a5 m5 c5 ∧ Lies w5 a5 (restF n p (t.rest ++ flatFrom pre t.last ys)) ∧ (restF n p (t.rest ++ flatFrom pre t.last ys)).length = m5 from by
    refine ⟨fun q hq => ?_, hs5, hl5, hm5⟩
    rw [hq] at hab5
    obtain ⟨q', hq', e⟩ := Option.map_eq_some_iff.1 hab5.symm
    have h1 := hvB q' hq'
    have h2 := hbF.size
    have h3 := (unhide HB1).size
    have h4 : (w3.alloc (.cells #[.slice a0 m0 cap0, .slice (some ⟨g3, 0, none⟩) m m] 24)).heap.size = w3.heap.size + 1 := by simp
    omega)
  have hsz5 : w.heap.size ≤ w4.heap.size := by have := (unhide HB1).size; have := hbV.size; omega
  have HR5 := hide (And.intro (owns_lower ho5 hsz5) (And.intro (fun r hr => (hf5 r hr).mono hsz5) ht5))
  have hm5n : m5 ≤ 64 := by
    have := rest_less n p (t.rest ++ flatFrom pre t.last ys) (unhide HS).hp0 (unhide HS).hp
    omega
  have HL5 := hide ((unhide HL1).below hbC)
  clear ho5 hf5 ht5 hl5 hm5 hmm5 hs5 hab5 hb5 hbC hbV hb4 hvl hvc hvm hvL hvS hvB hbF hb3 hc3 hg3 keep k0 k1 k2 k3 k4 k6 k7 hbd HCU HCT HF HC HC2 ho4
  have k5 := (unhide HC5).cell 5 _ rfl
  have z5 := (unhide HC5).free 5
  obtain ⟨N, hN⟩ : ∃ N : Nat, t.n + m = N := ⟨_, rfl⟩
  have hNI : (t.n : Int) + (m : Int) = (N : Int) := by omega
  have hNw : IntKind.i64.wrap ((t.n : Int) + (m : Int)) = (N : Int) := by rw [IntKind.wrap_i64]; omega
  go_upto_region 7 with fail
  obtain ⟨w6, hw6⟩ : ∃ w6, w5.setCell ⟨c, 5, none⟩ (.int .i64 (N : Int)) = w6 := ⟨_, rfl⟩
  rw [hw6]
  have HO6 := hide (show Only c w5 w6 by rw [← hw6]; exact (Only.refl c w5).setCell rfl _)
  have HC6 := hide (show Cells w6 c [.int .i64 (n : Int), .int .i64 (p : Int), .int .i64 (B : Int), .int .i64 (C : Int), .int .i64 pre, .int .i64 (N : Int), .int .i64 t.last, .slice a0 m0 cap0] by rw [← hw6]; exact (unhide HC5).set 5 _)
  clear hw6 k5 z5 HC5
  rcases Nat.eq_zero_or_pos m with h0 | h0
  case' inl =>
    subst h0
    have HLL := hide (show lastOf t.last ys = t.last by rw [List.length_eq_zero_iff.1 (unhide HM)]; rfl)
    obtain ⟨w7, rfl⟩ : ∃ w7, w7 = w6 := ⟨_, rfl⟩
    have HC7 := HC6
    have HO7 := HO6
    clear HC6 HO6
    go_wp2_with fail
  case' inr =>
    obtain ⟨ba, oa, rfl, hlta, hca⟩ := (unhide HL5).some (by intro h; have := unhide HM; subst h; simp at this; omega)
    obtain ⟨m1, hm1⟩ : ∃ m1, m1 + 1 = m := ⟨m - 1, by omega⟩
    have hm1I : (m : Int) - 1 = (m1 : Int) := by omega
    obtain ⟨x, hx⟩ : ∃ x, ys.getD m1 0 = x := ⟨_, rfl⟩
    have hbc : ba ≠ c := unhide HNE h0 _ rfl
    have cx : w6.cell? ⟨ba, oa + m1, none⟩ = some (.int .i64 x) := by
      rw [World.cell?_of_block ((unhide HO6).block ba hlta hbc), ← hx]
      exact hca m1 (by rw [unhide HM]; omega)
    have HLL := hide (show lastOf t.last ys = x by
      rw [last_at, if_neg (by rw [unhide HM]; omega), unhide HM, ← hx, show m - 1 = m1 by omega])
    have k6 := (unhide HC6).cell 6 _ rfl
    have z6 := (unhide HC6).free 6
    have hmp : (0 : Int) < (m : Int) := by omega
    have hm1b : (m1 : Int) < (m : Int) := by omega
    clear hca hx
    go_wp2_with fail
    obtain ⟨w7, hw7⟩ : ∃ w7, w6.setCell ⟨c, 6, none⟩ (.int .i64 x) = w7 := ⟨_, rfl⟩
    rw [hw7]
    have HO7 := hide (show Only c w5 w7 by rw [← hw7]; exact (unhide HO6).setCell rfl _)
    have HC7 := hide (show Cells w7 c [.int .i64 (n : Int), .int .i64 (p : Int), .int .i64 (B : Int), .int .i64 (C : Int), .int .i64 pre, .int .i64 (N : Int), .int .i64 x, .slice a0 m0 cap0] by rw [← hw7]; exact (unhide HC6).set 6 _)
    clear hw7 k6 z6 cx HO6 HC6 hm1 hm1I hbc
  all_goals (
    refine (owned_any a5 m5 c5 (restF n p (t.rest ++ flatFrom pre t.last ys)) w7 ((unhide HRS).2.2.1.only (unhide HO7) (fun _ q hq => by have := (unhide HRS).1 q hq; omega)) (unhide HRS).2.2.2 (by omega) (unhide HRS).2.1).mono ?_
    rintro e w8 ⟨v8, rfl, ho8, hb8⟩
    rw [(unhide HRS).2.2.2] at ho8
    obtain ⟨a8, c8, rfl, hl8, hc8, _, hL8, hs8, hbl8⟩ := owned_slot ho8
    have HC8 := hide ((unhide HC7).below hb8)
    have k7 := (unhide HC8).cell 7 _ rfl
    have z7 := (unhide HC8).free 7
    have HO8 := hide (((unhide HO7).trans (Only.of_below hb8)).setCell (p := ⟨c, 7, none⟩) rfl (.slice a8 m5 c8))
    have hcw7 : c < w7.heap.size := (unhide HC7).lt
    have HSZ7 := hide (show w.heap.size ≤ w7.heap.size from Nat.le_trans (unhide HB5).size (unhide HO7).size)
    have HS8 := hide (show StmL w.heap.size c n p B C pre (stPush n p pre t ys) (w8.setCell ⟨c, 7, none⟩ (.slice a8 m5 c8)) from by
      refine ⟨a8, m5, c8, ?_, hl8, hs8, hL8.only ((Only.refl c w8).setCell rfl _) (fun _ q hq => by have := hbl8 q hq; omega), fun q hq => by have := hbl8 q hq; omega, fun q hq => by have := hbl8 q hq; have := unhide HSZ7; omega⟩
      have h9 := (unhide HC8).set 7 (.slice a8 m5 c8)
      show Cells _ _ [.int .i64 (n : Int), .int .i64 (p : Int), .int .i64 (B : Int), .int .i64 (C : Int), .int .i64 pre, .int .i64 ((t.n + ys.length : Nat) : Int), .int .i64 (lastOf t.last ys), .slice a8 m5 c8]
      rw [unhide HM, hN, unhide HLL]
      exact h9)
    clear ho8 hb8 hl8 hc8 hL8 hs8 hbl8 HC7 HO7 HC8
    go_wp2_with fail
    go_ret2
    obtain ⟨r1, r2, r3⟩ := unhide HR5
    exact ⟨v5, rs, rfl, owns_only2 r1 (unhide HO8) hcl, fun r hr => (r2 r hr).only (unhide HO8) hcl, r3, unhide HS8, (Only.of_below (unhide HB5)).trans (unhide HO8)⟩)
theorem push_any (c n p B C : Nat) (pre : Int) (hs : Spc n p B C pre) (t : StD) (ht : StOk n t) (a : Option Addr) (m cap : Nat) (ys : List Int) (w : World) (hst : Stm c n p B C pre t w) (hl : Lies w a ys) (hm : ys.length = m) (hm2 : m ≤ 1000) (hys : ∀ y ∈ ys, Smp y)
    (hne : 0 < m → ∀ q, a = some q → q.block ≠ c) (hn : t.n + m ≤ 9223372036854775807) (hq : Quar w) :
    Calls Tryd.prog 11 #[.pointer (some ⟨c, 0, none⟩), .slice a m cap] w (Pushed c n p B C pre t ys w) :=
  (push_low c n p B C pre hs t ht a m cap ys w hst hl hm hm2 hys hne hn hq).mono fun e w' ⟨v, rs, h1, h2, h3, h4, h5, h6⟩ => ⟨v, rs, h1, h2, h3, h4, h5.stm, h6⟩
end Go.Proofs.YtbkdgpeooeokmaaDoor
