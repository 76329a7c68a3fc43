/- The document's spins: May, Sum, Power: what they answer. -/
import Derived.Test.YtafbdkebokhnlaaDoorEach
import Derived.Test.YtafbdkebokhnlaaDoorFsum
import Derived.Test.YtafbdkebokhnlaaDoorRnew
namespace Go.Proofs.YtafbdkebokhnlaaDoor
open Go.RowKit
set_option linter.unusedVariables false

theorem mayF_iff (n : Nat) : mayF n ↔ mayN (n / 2) ∧ n % 2 = 0 := by
  constructor
  · intro h; unfold mayF at h; unfold mayN; omega
  · rintro ⟨h, h2⟩; unfold mayN at h; unfold mayF; omega
theorem rfmay_yes (n : Nat) (w : World) (h : mayF n) : Calls Tryd.prog 25 #[.int .i64 (n : Int)] w fun e w' => e = .returned (.bool true) ∧ w' = w := by
  obtain ⟨h1, h2⟩ := (mayF_iff n).1 h
  obtain ⟨k, hk⟩ : ∃ k, n / 2 = k := ⟨_, rfl⟩
  have hki : (n : Int) / 2 = (k : Int) := by omega
  have hmod : (n : Int) % 2 = 0 := by omega
  have hmod2 : (n : Int).tmod 2 = 0 := by rw [Int.tmod_eq_emod_of_nonneg (by omega)]; exact hmod
  have hn := mayF_le h
  rw [hk] at h1
  have HM := hide h1
  clear h h1 h2 hk
  go_enter Tryd.func25, Tryd.ntmps25
  go_wp2_with fail
  refine (rmay_yes k _ (unhide HM)).mono ?_
  rintro e w1 ⟨rfl, rfl⟩
  go_wp2
  go_ret
  exact ⟨rfl, rfl⟩
theorem rfmay_no (n : Nat) (w : World) (h : ¬ mayF n) (hn : n ≤ 1000) : Calls Tryd.prog 25 #[.int .i64 (n : Int)] w fun e w' => e = .returned (.bool false) ∧ w' = w := by
  obtain ⟨k, hk⟩ : ∃ k, n / 2 = k := ⟨_, rfl⟩
  have hki : (n : Int) / 2 = (k : Int) := by omega
  have h' : ¬ (mayN k ∧ n % 2 = 0) := by rw [← hk]; exact fun c => h ((mayF_iff n).2 c)
  by_cases c : mayN k
  · have hmod : (n : Int) % 2 = 1 := by have : ¬ n % 2 = 0 := fun e => h' ⟨c, e⟩; omega
    have hmod2 : (n : Int).tmod 2 = 1 := by rw [Int.tmod_eq_emod_of_nonneg (by omega)]; exact hmod
    have HM := hide c
    clear h h' hk c
    go_enter Tryd.func25, Tryd.ntmps25
    go_wp2_with fail
    refine (rmay_yes k _ (unhide HM)).mono ?_
    rintro e w1 ⟨rfl, rfl⟩
    go_wp2
    go_ret
    exact ⟨rfl, rfl⟩
  · have HM := hide c
    by_cases d : n % 2 = 0
    · have hmod : (n : Int) % 2 = 0 := by omega
      have hmod2 : (n : Int).tmod 2 = 0 := by rw [Int.tmod_eq_emod_of_nonneg (by omega)]; exact hmod
      clear h h' hk c d
      go_enter Tryd.func25, Tryd.ntmps25
      go_wp2_with fail
      refine (rmay_no k _ (unhide HM)).mono ?_
      rintro e w1 ⟨rfl, rfl⟩
      go_wp2
      go_ret
      exact ⟨rfl, rfl⟩
    · have hmod : (n : Int) % 2 = 1 := by omega
      have hmod2 : (n : Int).tmod 2 = 1 := by rw [Int.tmod_eq_emod_of_nonneg (by omega)]; exact hmod
      clear h h' hk c d
      go_enter Tryd.func25, Tryd.ntmps25
      go_wp2_with fail
      refine (rmay_no k _ (unhide HM)).mono ?_
      rintro e w1 ⟨rfl, rfl⟩
      go_wp2
      go_ret
      exact ⟨rfl, rfl⟩

set_option maxRecDepth 100000 in
theorem rfsum_yes (a : Option Addr) (cap n h : Nat) (k : Int) (xs : List Int) (w : World) (hl : Lies w a xs) (hs : Small xs) (hn : xs.length = n) (hh : n = 2 * h) (hm : mayN h) (hk : In64 k) :
    Calls Tryd.prog 11 #[.int .i64 k, .slice a n cap] w (ToldN (spinS h k xs) w) := by
  obtain ⟨i0, hi, hz0, hz1, hz2⟩ := info_parts Tryd.info3
  obtain ⟨hp0, hp1⟩ := mayN_pos hm
  obtain ⟨R, hR, hR2⟩ : ∃ R : Nat, k % (n : Int) = R ∧ R < n := ⟨(k % (n : Int)).toNat, by have := Int.emod_nonneg k (b := (n : Int)) (by omega); omega, by have := Int.emod_lt_of_pos k (b := (n : Int)) (by omega); omega⟩
  have HRR := hide (show (R : Int) % (2 * (h : Int)) = k % (2 * (h : Int)) by rw [← hR, hh]; simp)
  have HRI := hide hR
  have hM : mayF n := by rw [hh]; exact mayF_of hm
  have HM := hide hM
  have HL := hide hl
  have HN := hide hn
  have HS := hide hs
  have HH := hide hh
  have hd : (n : Int) / 2 = (h : Int) := by omega
  have hn64 : n ≤ 64 := mayF_le hM
  have hn0 : 0 < n := by omega
  clear hl hn hs hm hM hh hR
  go_enter Tryd.func11, Tryd.ntmps11
  go_wp2_with fail
  refine (rfmay_yes n _ (unhide HM)).mono ?_
  rintro e w0 ⟨rfl, rfl⟩
  go_wp2_with (at_make; refine wpList_make_full _ rfl _ _ 22 rfl w0.heap.size 3 i0 (.int .i64 0) 1 Tryd.underlying22 hi hz0 hz1 _ _ _ _ h rfl rfl rfl rfl ?m1 ?m2 ?m3 ?_)
  case m1 => rw [hz2]; omega
  case m2 => unfold maxLen; omega
  case m3 => exact Nat.le_refl _
  intro w2 hown hgr
  rw [ints_zero] at hown
  have HB2 := hide ((Below.refl w0.heap.size w0).grown hgr (Nat.le_refl _) (fun _ h => by cases h))
  have HO := hide (own_cells hown).lies
  rw [← spinTo_zero h k xs] at HO
  clear hown hgr
  go_wp2
  go_loopw [7, 8] (fun v i wr => ∃ (t : Nat) (p : Option Addr) (c : Nat), t ≤ n ∧ v = .slice p h c ∧ i = .int .i64 (t : Int) ∧ Hid (Lies wr p (spinTo h k xs t)) ∧ Hid (∀ q, p = some q → w0.heap.size ≤ q.block) ∧ Hid (Below w0.heap.size w0 wr))
    (fun _ i _ => n - (intOf i).toNat)
  case atStart => exact ⟨0, _, _, by omega, rfl, rfl, HO, (by intro q hq; cases hq; exact Nat.le_refl _), HB2⟩
  case round =>
    obtain ⟨t, p, c, ht, rfl, rfl, HOr, HAt, HBr⟩ := hrel
    by_cases hlt : t < n
    · obtain ⟨ba, oa, rfl, hlta, hca⟩ := (unhide HL).some (by intro h; have := unhide HN; subst h; simp at this; omega)
      have hcx := hide (show wr.cell? ⟨ba, oa + t, none⟩ = some (.int .i64 (xs.getD t 0)) by rw [(unhide HBr).cell (p := ⟨ba, _, none⟩) hlta]; exact hca t (by rw [unhide HN]; exact hlt))
      obtain ⟨x, hx⟩ : ∃ x, xs.getD t 0 = x := ⟨_, rfl⟩
      have HX := hide hx
      have hxin : In64 x := by rw [← hx]; exact (unhide HS).all t
      rw [hx] at hcx
      have hbw : ba < wr.heap.size := Nat.lt_of_lt_of_le hlta (unhide HBr).size
      clear hca hx HO HB2
      go_wp2_with (at_make; refine wpList_make_full _ rfl _ _ 22 rfl wr.heap.size 3 i0 (.int .i64 0) 1 Tryd.underlying22 hi hz0 hz1 _ _ _ _ h rfl rfl rfl rfl ?m1 ?m2 ?m3 ?_)
      case m1 => rw [hz2]; omega
      case m2 => unfold maxLen; omega
      case m3 => exact Nat.le_refl _
      intro w3 hown hgr
      rw [ints_zero] at hown
      have hb3 := (Below.refl wr.heap.size wr).grown hgr (Nat.le_refl _) (fun _ h => by cases h)
      have HO3 := hide (own_cells hown)
      have cx : w3.cell? ⟨ba, oa + t, none⟩ = some (.int .i64 x) := by rw [hb3.cell (p := ⟨ba, _, none⟩) hbw]; exact unhide hcx
      have hcell := (unhide HO3).cell 0 _ (ints_at _ 0 (by simpa using hp0))
      have hfree := (unhide HO3).free 0
      obtain ⟨P, hP, hP0, hP1⟩ : ∃ P : Int, (R : Int) * (t : Int) = P ∧ 0 ≤ P ∧ P ≤ 4096 := by
        refine ⟨_, rfl, ?_⟩
        have := Nat.mul_le_mul (show R ≤ 64 by omega) (show t ≤ 64 by omega)
        have e : ((R * t : Nat) : Int) = (R : Int) * (t : Int) := by simp
        omega
      have HP := hide hP
      obtain ⟨b1, hb1⟩ : ∃ b, wr.heap.size = b := ⟨_, rfl⟩
      rw [hb1] at hcell hfree HO3 ⊢
      have HB4 := hide (((unhide HBr).trans (hb3.mono (unhide HBr).size)).setCell (p := ⟨b1, 0, none⟩) (by show w0.heap.size ≤ b1; rw [← hb1]; exact (unhide HBr).size) (.int .i64 x))
      have HC4 := hide ((unhide HO3).set 0 (.int .i64 x))
      rw [ints_set, oneL_set h x hp0] at HC4
      have HL4 := hide ((unhide HOr).below (hb3.setCell (p := ⟨b1, 0, none⟩) (by show wr.heap.size ≤ b1; omega) (.int .i64 x)))
      clear hown hgr hb3 hb1 hcx
      go_wp2_with fail
      refine (rrest_any k (n : Int) _ hk (by omega) (by omega)).mono ?_
      rintro e w4 ⟨rfl, rfl⟩
      rw [unhide HRI]
      go_wp2_with fail
      refine (rturn_any _ h (oneL h x) h P _ (unhide HC4).lies (oneL_small h x hxin) (oneL_len h x) (by omega) (by unfold In64; omega)).mono ?_
      rintro e w5 ⟨a5, l5, c5, rfl, h1, h2, h3⟩
      obtain rfl : l5 = h := by rw [← h1, turn_len, oneL_len]
      have HB5 := hide ((unhide HB4).trans (h3.mono (unhide HB4).size))
      have HL5 := hide ((unhide HL4).below h3)
      have HT5 := hide h2
      have HLen := hide h1
      clear h1 h2 h3 HB4 HL4 HC4 HO3 hcell hfree cx HOr HBr
      go_wp2_with fail
      refine (radd_new p a5 l5 l5 c c5 (spinTo l5 k xs t) (turnL (oneL l5 x) P) _ (unhide HL5) (unhide HT5) (spinTo_len _ _ _ _) (unhide HLen) (by omega) (by omega)).mono ?_
      rintro e w6 ⟨a6, l6, c6, rfl, h1, h2, h3, h4⟩
      have HAt6 := hide (show ∀ q, a6 = some q → w0.heap.size ≤ q.block from fun q hq => by have := h4 q hq; have := (unhide HB5).size; omega)
      have es : sum2 (spinTo l5 k xs t) (turnL (oneL l5 x) P) = spinTo l5 k xs (t + 1) := by
        unfold sum2
        rw [if_pos (by rw [unhide HLen, spinTo_len])]
        have := spin_step l5 k P xs t hp0 (by rw [unhide HX]; exact hxin) (by rw [← unhide HP, Int.mul_emod, unhide HRR, ← Int.mul_emod])
        rw [unhide HX] at this
        exact this
      rw [es] at h1 h2
      obtain rfl : l6 = l5 := by rw [← h1, spinTo_len]
      have HB6 := hide ((unhide HB5).trans (h3.mono (unhide HB5).size))
      have HL6 := hide h2
      clear h1 h2 h3 h4 HB5 HL5 HT5 es
      go_wp2
      go_roundw
      case rel => exact ⟨t + 1, a6, c6, by omega, rfl, by simp, HL6, HAt6, HB6⟩
      case measure => simp [intOf]; omega
    · obtain rfl : t = n := by omega
      rw [spinTo_all h k xs t (unhide HN)] at HOr
      go_wp2
      go_ret
      exact ⟨p, h, c, rfl, spinS_len _ _ _, unhide HOr, unhide HBr, unhide HAt⟩

/-- The document's squares. -/
theorem fpow_succ (xs ys : List Int) (j : Nat) (z : Int) (hz : wrap64 (xs.getD j 0 * xs.getD j 0 + ys.getD j 0 * ys.getD j 0) = z) :
    ints (mkL (j + 1) fun b => wrap64 (xs.getD b 0 * xs.getD b 0 + ys.getD b 0 * ys.getD b 0)) = ints (mkL j fun b => wrap64 (xs.getD b 0 * xs.getD b 0 + ys.getD b 0 * ys.getD b 0)) ++ [.int .i64 z] := by
  rw [← hz]; simp [ints, mkL, List.range_succ]

set_option maxRecDepth 100000 in
theorem rfpower_any (a1 a2 : Option Addr) (m1 m2 c1 c2 : Nat) (xs ys : List Int) (w : World) (hx : Lies w a1 xs) (hy : Lies w a2 ys) (sx : Small xs) (sy : Small ys) (h1 : xs.length = m1) (h2 : ys.length = m2) (hm1 : m1 ≤ 1000) (hm2 : m2 ≤ 1000) :
    Calls Tryd.prog 32 #[.slice a1 m1 c1, .slice a2 m2 c2] w (Told (powL xs ys) w) := by
  obtain ⟨i0, hi, hz0, hz1, hz2⟩ := info_parts Tryd.info3
  obtain ⟨m, hm⟩ : ∃ m, min m1 m2 = m := ⟨_, rfl⟩
  have HX := hide hx
  have HY := hide hy
  have S1 := hide sx
  have S2 := hide sy
  have H1 := hide h1
  have H2 := hide h2
  have HM := hide hm
  have hle1 : m ≤ m1 := by omega
  have hle2 : m ≤ m2 := by omega
  have hle3 : m = m1 ∨ m = m2 := by omega
  have HE := hide (show powL xs ys = mkL m fun b => wrap64 (xs.getD b 0 * xs.getD b 0 + ys.getD b 0 * ys.getD b 0) by unfold powL; rw [h1, h2, hm])
  clear hx hy sx sy h1 h2 hm
  go_enter Tryd.func32, Tryd.ntmps32
  go_wp2
  go_loopw [5, 6] (fun v i wr => ∃ j : Nat, j ≤ m ∧ i = .int .i64 (j : Int) ∧ Hid (wr.ownsRow w.heap.size 3 1 v j (ints (mkL j fun b => wrap64 (xs.getD b 0 * xs.getD b 0 + ys.getD b 0 * ys.getD b 0)))) ∧ Hid (Below w.heap.size w wr))
    (fun _ i _ => m - (intOf i).toNat)
  case atStart => exact ⟨0, by omega, rfl, World.ownsRow_nil _ _ _ _, Below.refl _ _⟩
  case round =>
    obtain ⟨j, hj, rfl, HOr, HBr⟩ := hrel
    by_cases hlt : j < m
    · obtain ⟨ba, oa, rfl, hlta, hca⟩ := (unhide HX).some (by intro h; have := unhide H1; subst h; simp at this; omega)
      obtain ⟨bb, ob, rfl, hltb, hcb⟩ := (unhide HY).some (by intro h; have := unhide H2; subst h; simp at this; omega)
      have cx : wr.cell? ⟨ba, oa + j, none⟩ = some (.int .i64 (xs.getD j 0)) := by rw [(unhide HBr).cell (p := ⟨ba, _, none⟩) hlta]; exact hca j (by rw [unhide H1]; omega)
      have cy : wr.cell? ⟨bb, ob + j, none⟩ = some (.int .i64 (ys.getD j 0)) := by rw [(unhide HBr).cell (p := ⟨bb, _, none⟩) hltb]; exact hcb j (by rw [unhide H2]; omega)
      obtain ⟨x, hx⟩ : ∃ x, xs.getD j 0 = x := ⟨_, rfl⟩
      obtain ⟨y, hy⟩ : ∃ x, ys.getD j 0 = x := ⟨_, rfl⟩
      obtain ⟨P, hP⟩ : ∃ P, x * x = P := ⟨_, rfl⟩
      obtain ⟨Q, hQ⟩ : ∃ Q, y * y = Q := ⟨_, rfl⟩
      obtain ⟨p, hp⟩ : ∃ p, IntKind.i64.wrap P = p := ⟨_, rfl⟩
      obtain ⟨q, hq⟩ : ∃ q, IntKind.i64.wrap Q = q := ⟨_, rfl⟩
      obtain ⟨z, hz⟩ : ∃ z, IntKind.i64.wrap (p + q) = z := ⟨_, rfl⟩
      have HSU := hide (fpow_succ xs ys j z (by rw [hx, hy, hP, hQ, ← hz, ← hp, ← hq, IntKind.wrap_i64, IntKind.wrap_i64, IntKind.wrap_i64]; unfold wrap64; omega))
      rw [hx] at cx
      rw [hy] at cy
      have hsz := (unhide HBr).size
      have hjm1 : (j : Int) < (m1 : Int) := by omega
      have hjm2 : (j : Int) < (m2 : Int) := by omega
      have hj0 : (0 : Int) ≤ (j : Int) := by omega
      obtain ⟨LL, hLL⟩ : ∃ LL, ints (mkL j fun b => wrap64 (xs.getD b 0 * xs.getD b 0 + ys.getD b 0 * ys.getD b 0)) = LL := ⟨_, rfl⟩
      rw [hLL] at HOr HSU
      have hownd : ∀ v o, wr.ownsRow w.heap.size 3 1 v j LL → ((wr.alloc o).drew).ownsRow w.heap.size 3 1 v j LL := fun v o h => h.alloc o
      have hown := unhide HOr
      have hbwa : ba < wr.heap.size := by omega
      have hbwb : bb < wr.heap.size := by omega
      have hrow : ∀ t, t = ba → Value.ownBlock u5 ≠ some t := fun t ht e => by have := (hown.lt t e).1; omega
      have hrow2 : ∀ t, t = bb → Value.ownBlock u5 ≠ some t := fun t ht e => by have := (hown.lt t e).1; omega
      clear hca hcb hx hy hLL HOr
      go_wp2
      go_region_held3 (fun w' => w'.cell? ⟨ba, oa + j, none⟩ = some (.int .i64 x) ∧ w'.cell? ⟨bb, ob + j, none⟩ = some (.int .i64 y)) (first | exact ⟨keep_grown hg3 hbwa hrow cx, keep_grown hg3 hbwb hrow2 cy⟩ | go_keep) ((refine step_append_lies _ (by rfl) _ _ 22 (by rfl) w.heap.size 3 i0 (.int .i64 0) 1 8 Tryd.underlying22 hi hz0 hz1 hz2 (by rfl) (by decide) _ j _ (by rfl) (hownd _ _ hown) ⟨wr.heap.size, 0, none⟩ 1 1 [.int .i64 z] (by rfl) (by rfl) (cell_one_new _ _ _) (ints_one [z]) (by decide) (by unfold maxLen; omega) (by omega) (by simp; omega) (wr.heap.size + 1) (by simp) ?_; intro g cp w3 hown3 hg3 hat3 hlt3))
      have HB3 := hide ((((unhide HBr).alloc hsz _).drew).grown hg3 (by show w.heap.size ≤ (wr.alloc _).heap.size; simp; omega) (fun j hj => (hown.lt j hj).1))
      rw [← unhide HSU] at hown3
      have HO3 := hide hown3
      clear hown3 hg3 hat3 hlt3 hownd hrow hrow2 hown
      go_wp2
      go_roundw
      case rel => exact ⟨j + 1, by omega, by go_num, HO3, HB3⟩
      case measure => simp [intOf]; omega
    · have hjm : j = m := by omega
      subst hjm
      obtain ⟨a', cap, hv, hl, hn⟩ := owned_lies (unhide HOr)
      subst hv
      have HLL := hide hl
      clear hl hn HOr
      by_cases d : j < m1
      · have d2 : ¬ j < m2 := by omega
        go_wp2
        go_ret
        rw [Told, unhide HE]
        exact ⟨a', _, cap, rfl, rfl, unhide HLL, unhide HBr⟩
      · go_wp2
        go_ret
        rw [Told, unhide HE]
        exact ⟨a', _, cap, rfl, rfl, unhide HLL, unhide HBr⟩
end Go.Proofs.YtafbdkebokhnlaaDoor
