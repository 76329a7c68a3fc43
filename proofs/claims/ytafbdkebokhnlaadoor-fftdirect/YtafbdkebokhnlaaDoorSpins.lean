/- fft.Spins: what it answers. -/
import Derived.Test.YtafbdkebokhnlaaDoorJoin
import Derived.Laws.EntriesVeiled
namespace Go.Proofs.YtafbdkebokhnlaaDoor
open Go.RowKit
set_option linter.unusedVariables false

/-- So many samples, from number f on, each s further on. -/
def subL (xs : List Int) (s f m : Nat) : List Int := mkL m fun t => xs.getD (f + s * t) 0
theorem sub_evens (xs : List Int) (s f m : Nat) : evens (subL xs s f (2 * m)) m = subL xs (2 * s) f m := by
  unfold evens subL
  refine mkL_congr _ _ _ fun t ht => ?_
  rw [mkL_at _ _ _ (by omega)]
  congr 1
  rw [Nat.mul_comm 2 s, Nat.mul_assoc]
theorem sub_odds (xs : List Int) (s f m : Nat) : odds (subL xs s f (2 * m)) m = subL xs (2 * s) (f + s) m := by
  unfold odds subL
  refine mkL_congr _ _ _ fun t ht => ?_
  rw [mkL_at _ _ _ (by omega)]
  congr 1
  rw [Nat.mul_add, Nat.mul_comm 2 s, Nat.mul_assoc]; omega
theorem sub_all (xs : List Int) (n : Nat) (hn : xs.length = n) : subL xs 1 0 n = xs :=
  mkL_eq _ _ _ hn fun t _ => by congr 1; omega
theorem sub_len (xs : List Int) (s f m : Nat) : (subL xs s f m).length = m := mkL_len _ _
theorem spin_alone (h : Nat) (p : Int) (xs : List Int) (s f : Nat) (hp : p = 0) (h0 : 0 < h) (hx : In64 (xs.getD f 0)) : spinS h p (subL xs s f 1) = oneL h (xs.getD f 0) := by
  subst hp
  unfold spinS oneL
  rw [sub_len]
  refine mkL_congr _ _ _ fun j hj => ?_
  show wrap64 (0 + _ * sg h ((j : Int) - 0 * ((0 : Nat) : Int))) = _
  rw [Int.zero_add, show (j : Int) - 0 * ((0 : Nat) : Int) = (j : Int) by simp]
  unfold subL
  rw [mkL_at _ _ _ (show 0 < 1 by decide), Nat.mul_zero, Nat.add_zero]
  unfold sg
  rw [Int.emod_eq_of_lt (by omega) (by omega)]
  by_cases c : j = 0
  · rw [if_pos (by omega), if_pos c, Int.mul_one, w64_in hx]
  · rw [if_neg (by omega), if_neg (by omega), if_neg c, Int.mul_zero]; exact w64_zero

/-- What the closure holds. -/
structure Env (w : World) (bn bx be : Nat) (a : Option Addr) (n cap : Nat) : Prop where
  hn : w.heap[bn]? = some (.cells #[.int .i64 (n : Int)] 3 (0, 0))
  hx : w.heap[bx]? = some (.cells #[.slice a n cap] 22 (0, 0))
  he : w.heap[be]? = some (.cells #[.func (.func 22) #[] #[.pointer (some ⟨bn, 0, none⟩), .pointer (some ⟨bx, 0, none⟩), .pointer (some ⟨be, 0, none⟩)]] 43 (0, 0))
theorem Env.below {w w' : World} {bn bx be : Nat} {a : Option Addr} {n cap : Nat} (h : Env w bn bx be a n cap) (hb : Below w.heap.size w w') : Env w' bn bx be a n cap :=
  ⟨by rw [hb.block _ (Array.getElem?_eq_some_iff.1 h.hn).1]; exact h.hn, by rw [hb.block _ (Array.getElem?_eq_some_iff.1 h.hx).1]; exact h.hx, by rw [hb.block _ (Array.getElem?_eq_some_iff.1 h.he).1]; exact h.he⟩

theorem join_spins (h m s f n : Nat) (xs : List Int) (hn : n = 2 * h) (hs : n = s * (2 * m)) (h0 : 0 < h) (j : Nat) (hj : j < 2 * m) :
    joinF (fun j => spinS h ((j : Int) * ((2 * s : Nat) : Int)) (subL xs (2 * s) f m)) (fun j => spinS h ((j : Int) * ((2 * s : Nat) : Int)) (subL xs (2 * s) (f + s) m)) m s j = spinS h ((j : Int) * (s : Int)) (subL xs s f (2 * m)) := by
  unfold joinF
  dsimp only
  by_cases c : j < m
  · rw [if_pos c, spin_halves h ((j : Int) * (s : Int)) (subL xs s f (2 * m)) m (sub_len _ _ _ _) h0, sub_evens, sub_odds]
    rw [show (j : Int) * ((2 * s : Nat) : Int) = 2 * ((j : Int) * (s : Int)) by rw [Int.natCast_mul, ← Int.mul_assoc, Int.mul_comm (j : Int), Int.mul_assoc]; rfl]
  · rw [if_neg c]
    have e : (j : Int) * (s : Int) = ((j - m : Nat) : Int) * (s : Int) + (h : Int) := by
      have : (h : Int) = (m : Int) * (s : Int) := by
        have : h = m * s := by
          have e1 : 2 * h = 2 * (m * s) := by rw [← hn, hs, Nat.mul_left_comm, Nat.mul_comm s m]
          omega
        rw [this]; simp
      rw [this, ← Int.add_mul]; congr 1; omega
    rw [e, spin_other h _ (subL xs s f (2 * m)) m (sub_len _ _ _ _) h0, sub_evens, sub_odds]
    rw [show ((j - m : Nat) : Int) * ((2 * s : Nat) : Int) = 2 * (((j - m : Nat) : Int) * (s : Int)) by rw [Int.natCast_mul, ← Int.mul_assoc, Int.mul_comm ((j - m : Nat) : Int), Int.mul_assoc]; rfl]

set_option maxRecDepth 100000 in
theorem every_any (a : Option Addr) (cap n h bn bx be : Nat) (xs : List Int) (hn : xs.length = n) (hh : n = 2 * h) (hm : mayN h) (hs : Small xs) : ∀ (e s f : Nat) (w : World), n = s * 2 ^ e → f < s → Env w bn bx be a n cap → Lies w a xs →
    Calls Tryd.prog 22 #[.int .i64 (s : Int), .int .i64 (f : Int), .pointer (some ⟨bn, 0, none⟩), .pointer (some ⟨bx, 0, none⟩), .pointer (some ⟨be, 0, none⟩)] w fun t w' => ∃ p, t = .returned (.slice p (2 ^ e) (2 ^ e)) ∧ Rws w' p (2 ^ e) (fun j => spinS h ((j : Int) * (s : Int)) (subL xs s f (2 ^ e))) ∧ Below w.heap.size w w' := by
  obtain ⟨hp0, hp1⟩ := mayN_pos hm
  have hn64 : n ≤ 64 := by omega
  intro e
  induction e with
  | zero =>
    intro s f w hse hf henv hl
    obtain rfl : s = n := by simpa using hse.symm
    have c1 := cell_of_one henv.hn
    have c2 := cell_of_one henv.hx
    obtain ⟨ba, oa, rfl, hlta, hca⟩ := hl.some (by intro h; subst h; simp at hn; omega)
    have cx : w.cell? ⟨ba, oa + f, none⟩ = some (.int .i64 (xs.getD f 0)) := hca f (by omega)
    obtain ⟨x, hx⟩ : ∃ x, xs.getD f 0 = x := ⟨_, rfl⟩
    have HX := hide hx
    have hxin : In64 x := by rw [← hx]; exact hs.all f
    rw [hx] at cx
    have HS := hide hs
    have HN := hide hn
    have HH := hide hh
    clear hca hx hs hn hl henv hh hse
    go_enter Tryd.func22, Tryd.ntmps22
    have hbx : bx < w.heap.size := lt_of_cell c2
    have hbn : bn < w.heap.size := lt_of_cell c1
    go_wp2
    have keep : ∀ {w' : World}, Below w.heap.size w w' → w'.cell? ⟨bn, 0, none⟩ = some (.int .i64 (s : Int)) ∧ w'.cell? ⟨bx, 0, none⟩ = some (.slice (some ⟨ba, oa, none⟩) s cap) ∧ w'.cell? ⟨ba, oa + f, none⟩ = some (.int .i64 x) := fun hb =>
      ⟨(hb.cell (p := ⟨bn, _, none⟩) hbn).trans c1, (hb.cell (p := ⟨bx, _, none⟩) hbx).trans c2, (hb.cell (p := ⟨ba, _, none⟩) hlta).trans cx⟩
    go_region_held3 (fun w' => w'.cell? ⟨bn, 0, none⟩ = some (.int .i64 (s : Int)) ∧ w'.cell? ⟨bx, 0, none⟩ = some (.slice (some ⟨ba, oa, none⟩) s cap) ∧ w'.cell? ⟨ba, oa + f, none⟩ = some (.int .i64 x)) (first | exact ⟨c1, c2, cx⟩ | exact keep hb4 | exact keep hb3' | assumption)
      ((go_at_call 23; (with_reducible refine (alone_any x s h w.drew (unhide HH) hp0 (by omega)).mono ?_); rintro t w3 ⟨g, rfl, hg, hc, hb3⟩; have hb3' := spin_undrew hb3; have hb4 := hb3'.alloc hb3'.size (.cells #[.slice (some ⟨g, 0, none⟩) h h] 22)))
    have HB4 := hide hb4
    have HL := hide (show Rws (w3.alloc (.cells #[.slice (some ⟨g, 0, none⟩) h h] 22)) (some ⟨w3.heap.size, 0, none⟩) 1 (fun j => spinS h ((j : Int) * (s : Int)) (subL xs s f 1)) by
      refine ⟨w3.heap.size, [(some ⟨g, 0, none⟩, h, oneL h x)], rfl, ⟨?_, ?_⟩, rfl, fun j hj => ?_⟩
      · have := cells_new w3 [rowV (some ⟨g, 0, none⟩, h, oneL h x)] 22
        unfold rowV at this ⊢
        rw [oneL_len] at this
        simpa [oneL_len] using this
      · intro r hr
        simp at hr
        subst hr
        exact hc.lies.below (alloc_below _ _)
      · obtain rfl : j = 0 := by omega
        show oneL h x = spinS h (((0 : Nat) : Int) * (s : Int)) (subL xs s f 1)
        rw [spin_alone h _ xs s f (by simp) hp0 (by rw [unhide HX]; exact hxin), unhide HX])
    clear hb3 hb3' hb4 hc keep c1 c2 cx
    go_wp2
    go_ret
    exact ⟨_, rfl, unhide HL, unhide HB4⟩
  | succ e ih =>
    intro s f w hse hf henv hl
    have he8 : (2 : Nat) ^ (e + 1) = 2 * 2 ^ e := by rw [Nat.pow_succ, Nat.mul_comm]
    obtain ⟨m, hm2⟩ : ∃ m, 2 ^ e = m := ⟨_, rfl⟩
    have hmp : 0 < m := by rw [← hm2]; exact Nat.two_pow_pos e
    rw [hm2] at ih
    rw [he8, hm2] at hse ⊢
    have hsm : n = (2 * s) * m := by rw [hse, Nat.mul_left_comm, Nat.mul_assoc]
    have hs2 : 2 * s ≤ n := by rw [hsm]; exact Nat.le_mul_of_pos_right _ hmp
    have hmn : m ≤ n := by rw [hsm]; exact Nat.le_mul_of_pos_left _ (by omega)
    have hne : ((s : Int) == (n : Int)) = false := by simp; omega
    have c1 := cell_of_one henv.hn
    have c3 := cell_of_one henv.he
    have hbn : bn < w.heap.size := lt_of_cell c1
    have hbe : be < w.heap.size := lt_of_cell c3
    have IH := hide ih
    have HE := hide henv
    have HL := hide hl
    have HSE := hide hse
    have HSM := hide hsm
    have HH := hide hh
    clear ih henv hl hse hsm hm2 he8 hh
    go_enter Tryd.func22, Tryd.ntmps22
    go_wp2
    obtain ⟨u, hu⟩ : ∃ u, 2 * s = u := ⟨_, rfl⟩
    have hui : (2 : Int) * (s : Int) = (u : Int) := by omega
    have HU := hide hu
    obtain ⟨v, hv⟩ : ∃ v, f + s = v := ⟨_, rfl⟩
    have hvi : (f : Int) + (s : Int) = (v : Int) := by omega
    have HV := hide hv
    rw [hu] at hs2 HSM
    have hfu : f < u := by omega
    have hvu : v < u := by omega
    have hbd : Below w.heap.size w w.drew := ⟨rfl, rfl, rfl, Nat.le_refl _, fun _ _ => rfl⟩
    have hwu : IntKind.i64.wrap (u : Int) = (u : Int) := by rw [IntKind.wrap_i64]; omega
    have hwv : IntKind.i64.wrap (v : Int) = (v : Int) := by rw [IntKind.wrap_i64]; omega
    clear hu hv
    go_region_held3 (fun w' => w'.cell? ⟨be, 0, none⟩ = some (.func (.func 22) #[] #[.pointer (some ⟨bn, 0, none⟩), .pointer (some ⟨bx, 0, none⟩), .pointer (some ⟨be, 0, none⟩)]))
      (first | exact c3 | exact (hb6'.cell (p := ⟨be, _, none⟩) hbe).trans c3 | exact (hb5'.cell (p := ⟨be, _, none⟩) hbe).trans c3 | exact (hb4'.cell (p := ⟨be, _, none⟩) hbe).trans c3 | assumption)
      (first
        | (go_at_call 22; (with_reducible refine (unhide IH u v w4 (unhide HSM) hvu ((unhide HE).below hb4') ((unhide HL).below hb4')).mono ?_); rintro t w5 ⟨p5, rfl, hr5, hb5⟩; have hb5' := below_trans hb4' hb5; have hr4' := hr4.below hb5)
        | (go_at_call 22; (with_reducible refine (unhide IH u f w.drew (unhide HSM) hfu ((unhide HE).below hbd) ((unhide HL).below hbd)).mono ?_); rintro t w4 ⟨p4, rfl, hr4, hb4⟩; have hb4' := spin_undrew hb4)
        | (go_at_call 24; (with_reducible refine (joined_any p4 p5 m m m h s _ _ w5 hr4' hr5 (fun j _ => ⟨spinS_len _ _ _, spinS_small _ _ _⟩) (fun j _ => ⟨spinS_len _ _ _, spinS_small _ _ _⟩) (by omega) (by omega) (by omega)).mono ?_); rintro t w6 ⟨p6, rfl, hr6, hb6⟩; have hb6' := below_trans hb5' hb6))
    have HR6 := hide hr6
    have HB6 := hide hb6'
    clear hr6 hb6' hr5 hr4 hr4' hb4 hb5 hb4' hb5' hb6
    go_wp2
    go_ret
    refine ⟨_, rfl, (unhide HR6).congr fun j hj => ?_, unhide HB6⟩
    have := join_spins h m s f n xs (unhide HH) (unhide HSE) hp0 j hj
    rw [unhide HU, unhide HV] at this
    exact this

theorem mayF_pow {n : Nat} (h : mayF n) : ∃ e, n = 2 ^ e := by
  rcases h with rfl | rfl | rfl | rfl | rfl | rfl
  · exact ⟨1, rfl⟩
  · exact ⟨2, rfl⟩
  · exact ⟨3, rfl⟩
  · exact ⟨4, rfl⟩
  · exact ⟨5, rfl⟩
  · exact ⟨6, rfl⟩

set_option maxRecDepth 100000 in
theorem spins_yes (a : Option Addr) (cap n h : Nat) (xs : List Int) (w : World) (hl : Lies w a xs) (hs : Small xs) (hn : xs.length = n) (hh : n = 2 * h) (hm : mayN h) :
    Calls Tryd.prog 10 #[.slice a n cap] w fun e w' => ∃ p, e = .returned (.slice p n n) ∧ Rws w' p n (fun j => spinS h (j : Int) xs) ∧ Below w.heap.size w w' := by
  have hM : mayF n := by rw [hh]; exact mayF_of hm
  have HM := hide hM
  have HL := hide hl
  have HN := hide hn
  have HS := hide hs
  have HH := hide hh
  clear hl hn hs hM hh
  go_enter Tryd.func10, Tryd.ntmps10
  go_wp2_with fail
  refine (fmay_yes n _ (unhide HM)).mono ?_
  rintro e w0 ⟨rfl, rfl⟩
  go_wp2_with fail
  obtain ⟨W3, h3, hB3, hX3, hN3, hE3⟩ : ∃ W3, (((w.alloc (.cells #[.slice a n cap] 22)).alloc (.cells #[.int .i64 (n : Int)] 3)).alloc (.cells #[.func (.func 22) #[] #[.pointer (some ⟨w.heap.size + 1, 0, none⟩), .pointer (some ⟨w.heap.size, 0, none⟩), .pointer (some ⟨w.heap.size + 1 + 1, 0, none⟩)]] 43)) = W3 ∧ Below w.heap.size w W3 ∧
      W3.heap[w.heap.size]? = some (.cells #[.slice a n cap] 22 (0, 0)) ∧ W3.heap[w.heap.size + 1]? = some (.cells #[.int .i64 (n : Int)] 3 (0, 0)) ∧ W3.heap[w.heap.size + 1 + 1]? = some (.cells #[.func (.func 22) #[] #[.pointer (some ⟨w.heap.size + 1, 0, none⟩), .pointer (some ⟨w.heap.size, 0, none⟩), .pointer (some ⟨w.heap.size + 1 + 1, 0, none⟩)]] 43 (0, 0)) := by
    have b1 := alloc_below w (.cells #[.slice a n cap] 22)
    have b2 := alloc_below (w.alloc (.cells #[.slice a n cap] 22)) (.cells #[.int .i64 (n : Int)] 3)
    have b3 := alloc_below ((w.alloc (.cells #[.slice a n cap] 22)).alloc (.cells #[.int .i64 (n : Int)] 3)) (.cells #[.func (.func 22) #[] #[.pointer (some ⟨w.heap.size + 1, 0, none⟩), .pointer (some ⟨w.heap.size, 0, none⟩), .pointer (some ⟨w.heap.size + 1 + 1, 0, none⟩)]] 43)
    have e2 := new_one (w.alloc (.cells #[.slice a n cap] 22)) (.int .i64 (n : Int)) 3
    have e3 := new_one ((w.alloc (.cells #[.slice a n cap] 22)).alloc (.cells #[.int .i64 (n : Int)] 3)) (.func (.func 22) #[] #[.pointer (some ⟨w.heap.size + 1, 0, none⟩), .pointer (some ⟨w.heap.size, 0, none⟩), .pointer (some ⟨w.heap.size + 1 + 1, 0, none⟩)]) 43
    rw [World.size_alloc] at e2
    rw [World.size_alloc, World.size_alloc] at e3
    refine ⟨_, rfl, below_trans b1 (below_trans b2 b3), ?_, ?_, e3⟩
    · rw [(below_trans b2 b3).block _ (by simp)]; exact new_one _ _ _
    · rw [b3.block _ (by simp)]; exact e2
  rw [h3]
  clear h3
  obtain ⟨e, he⟩ := mayF_pow (unhide HM)
  have hc := every_any a cap n h (w.heap.size + 1) w.heap.size (w.heap.size + 1 + 1) xs (unhide HN) (unhide HH) hm (unhide HS) e 1 0 W3 (by omega) (by decide) ⟨hN3, hX3, hE3⟩ ((unhide HL).below hB3)
  rw [← he] at hc
  have HB3 := hide hB3
  clear hB3 hX3 hN3 hE3 he
  refine Calls.mono hc ?_
  rintro t w4 ⟨p, rfl, hr, hb⟩
  have HR := hide (hr.congr (g := fun j => spinS h (j : Int) xs) fun j hj => by
    rw [sub_all xs n (unhide HN)]; congr 1; simp)
  have HB4 := hide (below_trans (unhide HB3) hb)
  clear hr hb hc
  go_wp2
  go_ret
  exact ⟨p, rfl, unhide HR, unhide HB4⟩

theorem spins_no (a : Option Addr) (cap n : Nat) (w : World) (hM : ¬ mayF n) :
    Calls Tryd.prog 10 #[.slice a n cap] w fun e w' => e = .returned (.slice none 0 0) ∧ Below w.heap.size w w' := by
  have HM := hide hM
  clear hM
  go_enter Tryd.func10, Tryd.ntmps10
  go_wp2_with fail
  refine (fmay_no n _ (unhide HM)).mono ?_
  rintro e w0 ⟨rfl, rfl⟩
  go_wp2
  go_ret
  exact ⟨rfl, below_trans (alloc_below _ _) (alloc_below _ _)⟩
end Go.Proofs.YtafbdkebokhnlaaDoor
