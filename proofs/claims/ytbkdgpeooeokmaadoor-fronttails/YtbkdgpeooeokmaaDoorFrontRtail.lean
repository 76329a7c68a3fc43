/- The document's tail of sound. -/
import Derived.Test.YtbkdgpeooeokmaaDoorFrontMay
import Derived.Test.YtbkdgpeooeokmaaDoorFrontStm
import Derived.Deep.CutBlock
import Derived.Deep.DeepCutAuto
namespace Go.Proofs.YtbkdgpeooeokmaaDoor
open Go.RowKit
set_option linter.unusedVariables false

theorem wanted_none {ops : Array Oper} {o : Oper} {a : Act} (h : o.guard = none) : Region.wanted o (yielded ops a.tmps) = true := by
  unfold Region.wanted; rw [h]
theorem wpOp_val {P : Program} {ops : Array Oper} {Q : Exit → Act → World → Prop} {i : Nat} {o : Oper} {K : Act → World → Prop} {a : Act} {w w' : World} {v : Value} (ho : ops[i]? = some o)
    (hw : Region.wanted o (yielded ops a.tmps) = true) (hx : (execOp a.eval o).run P w = .ok (.value v) w') (h : K (a.put o.dst v) w') : wpOp P ops Q i K a w := by
  unfold wpOp
  simp only [ho, hw, if_true]
  left
  unfold Oper.wp
  rw [hx]
  exact h
theorem wpOp_call {P : Program} {ops : Array Oper} {Q : Exit → Act → World → Prop} {i : Nat} {o : Oper} {K : Act → World → Prop} {a : Act} {w w' : World} {f : FuncId} {args : Array Value} (ho : ops[i]? = some o)
    (hw : Region.wanted o (yielded ops a.tmps) = true) (hx : (execOp a.eval o).run P w = .ok (.enter f args) w') (h : Calls P f args w' fun e w'' => ∃ v, e = .returned v ∧ K (a.put o.dst v) w'') : wpOp P ops Q i K a w := by
  unfold wpOp
  simp only [ho, hw, if_true]
  left
  unfold Oper.wp
  rw [hx]
  show Calls P f args w' _
  refine Calls.mono h ?_
  rintro e w'' ⟨v, rfl, hk⟩
  exact hk
theorem putAll_zero (ops : Array Oper) (vals : Nat → Value) (a : Act) : putAll ops vals 0 a = a := rfl
theorem tail_skip {P : Program} {ops : Array Oper} {Q : Exit → Act → World → Prop} {i : Nat} {o : Oper} {K : Act → World → Prop} {a : Act} {w w' : World} (ho : ops[i]? = some o)
    (hw : Region.wanted o (yielded ops a.tmps) = true) (hx : (execOp a.eval o).run P w = .ok .skip w') (h : K (a.put o.dst undef) w') : wpOp P ops Q i K a w := by
  unfold wpOp
  simp only [ho, hw, if_true]
  left
  unfold Oper.wp
  rw [hx]
  exact h
/-- A row somewhere, from block lo on; a row of one's own. -/
def TailF (lo : Nat) (R : List Int) (m : Nat) (v : Value) (w : World) : Prop := ∃ a c, v = .slice a m c ∧ R.length = m ∧ m ≤ c ∧ c ≤ 9223372036854775807 ∧ Slot a m c ∧ Lies w a R ∧ ∀ q, a = some q → lo ≤ q.block
def TailO (lo : Nat) (R : List Int) (m : Nat) (v : Value) (w : World) : Prop := ∃ a c, v = .slice a m c ∧ w.ownsRow lo 3 1 v m (ints R)
theorem TailF.below {lo : Nat} {R : List Int} {m : Nat} {v : Value} {w w' : World} (h : TailF lo R m v w) (hb : Below w.heap.size w w') : TailF lo R m v w' := by
  obtain ⟨a, c, h1, h2, h3, h4, h5, h6, h7⟩ := h
  exact ⟨a, c, h1, h2, h3, h4, h5, h6.below hb, h7⟩
theorem TailO.below {lo : Nat} {R : List Int} {m : Nat} {v : Value} {w w' : World} (h : TailO lo R m v w) (hb : Below w.heap.size w w') : TailO lo R m v w' := by
  obtain ⟨a, c, h1, h2⟩ := h
  exact ⟨a, c, h1, frows_under h2 hb⟩
theorem TailF.only {lo k : Nat} {R : List Int} {m : Nat} {v : Value} {w w' : World} (h : TailF lo R m v w) (ho : Only k w w') (hk : k < lo) : TailF lo R m v w' := by
  obtain ⟨a, c, h1, h2, h3, h4, h5, h6, h7⟩ := h
  exact ⟨a, c, h1, h2, h3, h4, h5, h6.only ho (fun _ q hq => by have := h7 q hq; omega), h7⟩
theorem TailO.only {lo k : Nat} {R : List Int} {m : Nat} {v : Value} {w w' : World} (h : TailO lo R m v w) (ho : Only k w w') (hk : k < lo) : TailO lo R m v w' := by
  obtain ⟨a, c, h1, h2⟩ := h
  exact ⟨a, c, h1, owns_only2 h2 ho hk⟩

theorem tail_append_none {P : Program} {w : World} {o : Oper} {a : Act} {K : Act → World → Prop} {Q : Exit → Act → World → Prop} (s x : Operand) (t : TypeId)
    (ho : o.op = .call { callee := .builtin .append, args := #[s, x], argTypes := #[t, t] })
    (base : Nat) (e : TypeId) (i : TypeInfo) (size : Nat) (ht : P.underlying t = some (.slice e)) (hi : P.info? e = some i)
    (v : Value) (n : Nat) (xs : List Value) (hs : a.eval s = v) (hown : w.ownsRow base e size v n xs) (hx : a.eval x = .slice none 0 0)
    (h : K (a.put o.dst v) w) : o.wp P a w K Q := by
  have hrun := run_append_owned_none (P := P) (w := w) base t o.type e i size ht hi v n xs hown
  unfold Oper.wp
  simp [execOp, ho, resolve, invoke, builtin, hs, hx, hrun, Result.andThen]
  exact h
theorem tail_cut {w : World} {lo : Nat} {Y R : List Int} {N P fb fo fc : Nat} {fs : Option Nat} (h1 : Y.length = N) (hR : R = Y.drop P) (hL : Lies w (some ⟨fb, fo, fs⟩) Y) (hP : P ≤ N) (hc : N ≤ fc ∧ fc ≤ 9223372036854775807) (hb : ∀ q, (some (⟨fb, fo, fs⟩ : Addr)) = some q → lo ≤ q.block) : TailF lo R R.length (.slice (some ((⟨fb, fo, fs⟩ : Addr).add P)) (N - P) (fc - P)) w := by
  have hl : R.length = N - P := by rw [hR, List.length_drop, h1]
  refine ⟨_, fc - P, by rw [hl], rfl, by omega, by omega, .inr ⟨_, rfl⟩, ?_, fun q hq => ?_⟩
  · by_cases h0 : Y = []
    · left; rw [hR, h0]; simp
    · obtain ⟨b, off, e, _, _⟩ := hL.some h0
      cases e
      rw [Addr.add_lit, hR]
      exact lies_drop hL P (by omega)
  · cases hq
    have : ((⟨fb, fo, fs⟩ : Addr).add P).block = fb := by unfold Addr.add; split <;> rfl
    rw [this]
    exact hb _ rfl
/-- The cut of a row somewhere, from P on. -/
theorem tail_slice {W : World} {lo : Nat} {Y R : List Int} {N P : Nat} {v : Value} (hv : TailF lo Y N v W) (h1 : Y.length = N) (hR : R = Y.drop P) (hP : P ≤ N) {o : Oper} {AQ : Act} {x y : Nat}
    (ho : o.op = .slice 24 (.tmp x) (some (.tmp y)) none none) (hx : AQ.tmps.getD x undef = v) (hy : AQ.tmps.getD y undef = .int .i64 (P : Int)) : ∃ u, (execOp AQ.eval o).run Tryd.prog W = .ok (.value u) W ∧ TailF lo R R.length u W := by
  obtain ⟨fa, fc, e23, hfl, hfc, hfm, hfS, hfL, hfB⟩ := hv
  have hRl : R.length = N - P := by rw [hR, List.length_drop, h1]
  rcases hfS with ⟨rfl, h0, rfl⟩ | ⟨⟨fb, fo, fs⟩, rfl⟩
  · have hP0 : P = 0 := by omega
    have hR0 : R = [] := List.length_eq_zero_iff.1 (by rw [hRl, h0]; exact Nat.zero_sub P)
    subst hP0 h0
    refine ⟨.slice none 0 0, by subst e23; simp [execOp, Act.eval, ho, hx, hy, go_sem], none, 0, by rw [hR0]; rfl, rfl, by rw [hR0]; exact Nat.le_refl _, by omega, .inl ⟨rfl, by rw [hR0]; rfl, rfl⟩, .inl hR0, fun q hq => by cases hq⟩
  · by_cases hcP : fc = P
    · have hN : N = P := by omega
      have hR0 : R = [] := List.length_eq_zero_iff.1 (by rw [hRl, hN]; exact Nat.sub_self P)
      refine ⟨.slice (some ⟨fb, fo, fs⟩) 0 0, by subst e23; simp [execOp, Act.eval, ho, hx, hy, hN, hcP, go_sem], some ⟨fb, fo, fs⟩, 0, by rw [hR0]; rfl, rfl, by rw [hR0]; exact Nat.le_refl _, by omega, .inr ⟨_, rfl⟩, .inl hR0, hfB⟩
    · have hPN : (P : Int) ≤ (N : Int) := by omega
      have hPc : (P : Int) ≤ (fc : Int) := by omega
      have hcPi : ¬ (fc : Int) = (P : Int) := by omega
      have hNPi : (N : Int) - (P : Int) = ((N - P : Nat) : Int) := by omega
      have hcPj : (fc : Int) - (P : Int) = ((fc - P : Nat) : Int) := by omega
      have hcP0 : ¬ fc - P = 0 := by omega
      have hcP1 : ¬ fc ≤ P := by omega
      refine ⟨.slice (some ((⟨fb, fo, fs⟩ : Addr).add P)) (N - P) (fc - P), by subst e23; simp [execOp, Act.eval, ho, hx, hy, go_sem, hPN, hcP], ?_⟩
      exact tail_cut h1 hR hfL hP ⟨by omega, hfm⟩ hfB
theorem tail_wp {P : Program} {ops : Array Oper} {Q : Exit → Act → World → Prop} {i : Nat} {o : Oper} {K : Act → World → Prop} {a : Act} {w : World} (ho : ops[i]? = some o)
    (hw : Region.wanted o (yielded ops a.tmps) = true) (h : o.wp P a w K Q) : wpOp P ops Q i K a w := by
  unfold wpOp
  simp only [ho, hw, if_true]
  exact .inl h
theorem tail_cutop {ops : Array Oper} {Q : Exit → Act → World → Prop} {i : Nat} {o : Oper} {K : Act → World → Prop} {AQ : Act} {W : World} (ho : ops[i]? = some o)
    (hw : Region.wanted o (yielded ops AQ.tmps) = true) {x y : Nat} (hop : o.op = .slice 24 (.tmp x) (some (.tmp y)) none none) {lo : Nat} {Y R : List Int} {N P : Nat} (hv : TailF lo Y N (AQ.tmps.getD x undef) W)
    (h1 : Y.length = N) (hR : R = Y.drop P) (hP : P ≤ N) (hy : AQ.tmps.getD y undef = .int .i64 (P : Int)) (h : ∀ u, TailF lo R R.length u W → K (AQ.put o.dst u) W) : wpOp Tryd.prog ops Q i K AQ W := by
  obtain ⟨u, hu, hT⟩ := tail_slice hv h1 hR hP hop rfl hy
  exact wpOp_val ho hw hu (h u hT)
/-- What holds of the world while the tail's rest is made: b tells whether it has been stored. -/
structure TailS (w wt : World) (F : Nat) (fr : List Value) (x y : Value) (R : List Int) (b : Bool) (W : World) : Prop where
  below : Below w.heap.size w W
  size : wt.heap.size ≤ W.heap.size
  front : Cells W F fr
  res : Cells W (F + 1) [.int .i64 0, .int .i64 0, .slice none 0 0]
  still : b = false → Below wt.heap.size wt W ∧ Cells W (F + 1 + 1) [x, y, .slice none 0 0]
  done : b = true → ∃ v, TailO wt.heap.size R R.length v W ∧ Cells W (F + 1 + 1) [x, y, v]
theorem TailS.call {w wt W W' : World} {F : Nat} {fr : List Value} {x y : Value} {R : List Int} {b : Bool} (h : TailS w wt F fr x y R b W) (hb : b = false) (k : Below W.heap.size W W') : TailS w wt F fr x y R b W' := by
  subst hb
  exact ⟨below_trans h.below k, Nat.le_trans h.size k.size, h.front.below k, h.res.below k, fun _ => ⟨(h.still rfl).1.trans (k.mono (h.still rfl).1.size), (h.still rfl).2.below k⟩, fun e => by cases e⟩
theorem TailS.stored {w wt W : World} {F : Nat} {fr : List Value} {x y v : Value} {R : List Int} {b : Bool} (h : TailS w wt F fr x y R b W) (hb : b = false) (hw : w.heap.size ≤ F) (hv : TailO wt.heap.size R R.length v W) (hlo : F + 1 + 1 < wt.heap.size) : TailS w wt F fr x y R true (W.setCell ⟨F + 1 + 1, 2, none⟩ v) := by
  have ho : Only (F + 1 + 1) W (W.setCell ⟨F + 1 + 1, 2, none⟩ v) := Only.setCell (p := ⟨F + 1 + 1, 2, none⟩) (Only.refl (F + 1 + 1) W) rfl v
  exact ⟨h.below.setCell (by show _ ≤ F + 1 + 1; omega) v, Nat.le_trans h.size ho.size, cells_other h.front (by omega), cells_other h.res (by omega), (fun e => by cases e), fun _ => ⟨v, hv.only ho hlo, (h.still hb).2.set 2 v⟩⟩

set_option maxRecDepth 100000 in
set_option maxHeartbeats 1600000 in
theorem rtail_any (n p B C : Nat) (pre : Int) (hs : Spc n p B C pre) (a : Option Addr) (cap N : Nat) (X : List Int) (w : World) (hl : Lies w a X) (hN : X.length = N) (hN2 : N ≤ 1000) (hX : ∀ x ∈ X, Smp x) :
    Calls Tryd.prog 16 #[.agg #[.int .i64 (n : Int), .int .i64 (p : Int), .int .i64 (B : Int), .int .i64 (C : Int), .int .i64 pre], .slice a N cap] w fun e w' => ∃ v, e = .returned (.agg #[.int .i64 (N : Int), .int .i64 (lastOf 0 X), v]) ∧ TailO w.heap.size (restF n p (flatFrom pre 0 X)) (restF n p (flatFrom pre 0 X)).length v w' ∧ Below w.heap.size w w' := by
  obtain ⟨i0, hi, hz0, hz1, hz2⟩ := info_parts Tryd.info3
  obtain ⟨F, hF⟩ : ∃ F, w.heap.size = F := ⟨_, rfl⟩
  obtain ⟨W0, hW0⟩ : ∃ W0, ((w.alloc (.cells #[.int .i64 (n : Int), .int .i64 (p : Int), .int .i64 (B : Int), .int .i64 (C : Int), .int .i64 pre] 27)).alloc (.cells #[.int .i64 0, .int .i64 0, .slice none 0 0] 40)).alloc (.cells #[.int .i64 (N : Int), .int .i64 0, .slice none 0 0] 40) = W0 := ⟨_, rfl⟩
  have HCF := hide (show Cells W0 F [.int .i64 (n : Int), .int .i64 (p : Int), .int .i64 (B : Int), .int .i64 (C : Int), .int .i64 pre] by rw [← hW0, ← hF]; exact ((cells_new w [.int .i64 (n : Int), .int .i64 (p : Int), .int .i64 (B : Int), .int .i64 (C : Int), .int .i64 pre] _).alloc _).alloc _)
  have HCR := hide (show Cells W0 (F + 1) [.int .i64 0, .int .i64 0, .slice none 0 0] by
    rw [← hW0, ← hF]
    have := (cells_new (w.alloc (.cells #[.int .i64 (n : Int), .int .i64 (p : Int), .int .i64 (B : Int), .int .i64 (C : Int), .int .i64 pre] 27)) [.int .i64 0, .int .i64 0, .slice none 0 0] 40).alloc (.cells #[.int .i64 (N : Int), .int .i64 0, .slice none 0 0] 40)
    simpa using this)
  have HCT := hide (show Cells W0 (F + 1 + 1) [.int .i64 (N : Int), .int .i64 0, .slice none 0 0] by
    rw [← hW0, ← hF]
    have := cells_new ((w.alloc (.cells #[.int .i64 (n : Int), .int .i64 (p : Int), .int .i64 (B : Int), .int .i64 (C : Int), .int .i64 pre] 27)).alloc (.cells #[.int .i64 0, .int .i64 0, .slice none 0 0] 40)) [.int .i64 (N : Int), .int .i64 0, .slice none 0 0] 40
    simpa using this)
  have HB := hide (show Below w.heap.size w W0 by rw [← hW0]; exact ((alloc_below w _).alloc (by simp) _).alloc (by simp; omega) _)
  have HSZ := hide (show W0.heap.size = F + 3 by rw [← hW0, ← hF]; simp)
  have HL := hide (hl.below (unhide HB))
  have HFE := hide hF
  have HN := hide hN
  have HX := hide hX
  have HS := hide hs
  have HW0 := hide hW0
  have hl0 := hl
  clear hl hN hX hs hW0
  go_enter Tryd.func16, Tryd.ntmps16
  go_upto_region 2 with fail
  rw [unhide HW0]
  clear hF HW0
  go_upto_if 11 with fail
  go_cut [1] (fun l wy => l = .slice a N cap ∧ Hid (Cells wy (F + 1 + 1) [.int .i64 (N : Int), .int .i64 (lastOf 0 X), .slice none 0 0]) ∧ Hid (Only (F + 1 + 1) W0 wy))
  case first =>
    rcases Nat.eq_zero_or_pos N with h0 | h0
    · have HCT1 := hide (show Cells W0 (F + 1 + 1) [.int .i64 (N : Int), .int .i64 (lastOf 0 X), .slice none 0 0] by rw [show lastOf 0 X = 0 by rw [List.length_eq_zero_iff.1 ((unhide HN).trans h0)]; rfl]; exact unhide HCT)
      have hN0i : ¬ (0 : Int) < (N : Int) := by omega
      go_wp2_with fail
      go_meet
      exact ⟨by rw [h0], HCT1, Only.refl _ _⟩
    · obtain ⟨ba, oa, rfl, hlta, hca⟩ := (unhide HL).some (by intro h; have := unhide HN; subst h; simp at this; omega)
      obtain ⟨l, hl1⟩ : ∃ l, l + 1 = N := ⟨N - 1, by omega⟩
      have hli : (N : Int) - 1 = (l : Int) := by omega
      obtain ⟨x, hx⟩ : ∃ x, X.getD l 0 = x := ⟨_, rfl⟩
      have cx : W0.cell? ⟨ba, oa + l, none⟩ = some (.int .i64 x) := by rw [← hx]; exact hca l (by rw [unhide HN]; omega)
      have HLST := hide (show lastOf 0 X = x by rw [last_at, if_neg (by rw [unhide HN]; omega), unhide HN, ← hx, show N - 1 = l by omega])
      have k1 := (unhide HCT).cell 1 _ rfl
      have z1 := (unhide HCT).free 1
      have hN0i : (0 : Int) < (N : Int) := by omega
      have hlN : (l : Int) < (N : Int) := by omega
      clear hca hx
      go_wp2_with fail
      go_meet
      refine ⟨rfl, ?_, Only.setCell (p := ⟨F + 1 + 1, 1, none⟩) (Only.refl (F + 1 + 1) W0) rfl _⟩
      show Cells _ _ _
      rw [unhide HLST]
      exact (unhide HCT).set 1 _
  case rest =>
    obtain ⟨rfl, HCT1, HO⟩ := hcut
    obtain ⟨wt, rfl⟩ : ∃ x, x = wc := ⟨_, rfl⟩
    have HBt := hide ((unhide HB).trans ((unhide HO).below (by have := unhide HFE; omega) (unhide HB).size))
    have HCFt := hide ((unhide HCF).only (unhide HO) (by omega))
    have HCRt := hide ((unhide HCR).only (unhide HO) (by omega))
    have hszt : F + 1 + 1 < wt.heap.size := by have := unhide HSZ; have := (unhide HO).size; omega
    have HLt := hide ((unhide HL).only (unhide HO) (fun h q hq => by
      obtain ⟨b, off, e, hlt, _⟩ := hl0.some h
      rw [hq] at e; cases e
      have := unhide HFE
      show b ≠ F + 1 + 1
      omega))
    obtain ⟨Y, hY⟩ : ∃ Y, flatFrom pre 0 X = Y := ⟨_, rfl⟩
    obtain ⟨K, hK⟩ : ∃ K, framesN n p N = K := ⟨_, rfl⟩
    obtain ⟨P, hP⟩ : ∃ P, K * p = P := ⟨_, rfl⟩
    have hYN : Y.length = N := by rw [← hY, flat_len]; exact unhide HN
    have hRY : restF n p Y = Y.drop P := by unfold restF; rw [hYN, hK, hP]
    obtain ⟨R, hR⟩ : ∃ R, restF n p Y = R := ⟨_, rfl⟩
    have hfr := (frames_rest n p N (unhide HS).hp0 (unhide HS).hp).1
    rw [hK, hP] at hfr
    have hRl : R.length = N - P := by rw [← hR, hRY, List.length_drop, hYN]
    have hKP : (K : Int) * (p : Int) = (P : Int) := by rw [← hP]; push_cast; rfl
    have hPw : IntKind.i64.wrap (P : Int) = (P : Int) := by rw [IntKind.wrap_i64]; omega
    have hP64 : wrap64 (P : Int) = (P : Int) := w64_in ⟨by omega, by omega⟩
    have hn64 : n ≤ 64 := by have := (unhide HS).sz; omega
    have hYR : R = Y.drop P := by rw [← hR, hRY]
    have hK' : (framesN n p N : Nat) = K := hK
    have hFw : w.heap.size ≤ F := by have := unhide HFE; omega
    have hRm : R.length ≤ 1000 := by rw [hRl]; exact Nat.le_trans (Nat.sub_le N P) hN2
    have HALL := hide (And.intro hY (And.intro hK' (And.intro hYN (And.intro hR (And.intro hfr (And.intro hRl (And.intro hKP (And.intro hPw (And.intro hP64 (And.intro hYR hRm))))))))))
    clear hRY hY hK hK' hP hYN hR hfr hRl hKP hPw hP64 hYR hRm
    go_wp2_with fail
    obtain ⟨hY, hK', hYN, hR, hfr, hRl, hKP, hPw, hP64, hYR, hRm⟩ := unhide HALL
    clear HALL
    refine region_ssa2 (fun f W => TailS w wt F [.int .i64 (n : Int), .int .i64 (p : Int), .int .i64 (B : Int), .int .i64 (C : Int), .int .i64 pre] (.int .i64 (N : Int)) (.int .i64 (lastOf 0 X)) R (f 15) W) (fun jq vq wq => (∀ xq, (([some (.pointer (some ⟨F + 1 + 1, 2, none⟩)), some (.slice none 0 0), some (.agg #[.int .i64 (n : Int), .int .i64 (p : Int), .int .i64 (B : Int), .int .i64 (C : Int), .int .i64 pre]), some (.slice a N cap), none, some (.agg #[.int .i64 (n : Int), .int .i64 (p : Int), .int .i64 (B : Int), .int .i64 (C : Int), .int .i64 pre]), some (.slice a N cap), some (.int .i64 (N : Int)), some (.int .i64 (K : Int)), some (.pointer (some ⟨F, 1, none⟩)), some (.int .i64 (p : Int)), some (.int .i64 (P : Int)), none, none, some (.pointer (some ⟨F + 1 + 1, 2, none⟩)), none] : List (Option Value)).getD jq none) = some xq → vq = xq) ∧ (jq = 4 → TailF wt.heap.size Y N vq wq) ∧ (jq = 12 → TailF wt.heap.size R R.length vq wq) ∧ (jq = 13 → TailO wt.heap.size R R.length vq wq)) (by kernel_rfl) (by kernel_rfl) ?_ ?_ ?_
    · intro fq hf
      refine ⟨(unhide HBt).drew, Nat.le_refl _, unhide HCFt, unhide HCRt, fun _ => ⟨⟨rfl, rfl, rfl, Nat.le_refl _, fun _ _ => rfl⟩, unhide HCT1⟩, fun e => ?_⟩
      rw [hf 15 (by decide)] at e; cases e
    · intro iq op ho fq AQ W hf hdep hS hK hG
      have hlt : iq < 16 := (Array.getElem?_eq_some_iff.1 ho).1
      match iq, hlt with
      | 0, _ =>
        obtain rfl := (Option.some.inj ho).symm
        have d5 : AQ.tmps.getD 5 undef = .pointer (some ⟨F + 1 + 1, 0, none⟩) := hK.2.2 5 (by kernel_rfl)
        exact wpOp_val (v := (.pointer (some ⟨F + 1 + 1, 2, none⟩))) (w' := W) rfl (wanted_none rfl) (by simp [execOp, Act.eval, d5, go_sem]) ⟨_, rfl, hS, fun _ _ h => h, ⟨(by intro x hx; cases hx; rfl), (by intro h; cases h), (by intro h; cases h), (by intro h; cases h)⟩⟩
      | 1, _ =>
        obtain rfl := (Option.some.inj ho).symm
        have d19 : AQ.tmps.getD 19 undef = .pointer (some ⟨F + 1 + 1, 2, none⟩) := ((hG ⟨0, .data⟩ (by simp) rfl).2 19 rfl).1 _ rfl
        have h15 : fq 15 = false := by
          cases hb : fq 15 with
          | false => rfl
          | true =>
            have q13 := hdep 15 _ rfl hb ⟨13, .data⟩ (by simp) rfl
            have q1 := hdep 13 _ rfl q13 ⟨1, .data⟩ (by simp) rfl
            rw [hf] at q1; cases q1
        have hc := (hS.still h15).2.cell 2 _ rfl
        exact wpOp_val (v := (.slice none 0 0)) (w' := W) rfl (wanted_none rfl) (by simp [execOp, Act.eval, d19, hc, go_sem]) ⟨_, rfl, hS, fun _ _ h => h, ⟨(by intro x hx; cases hx; rfl), (by intro h; cases h), (by intro h; cases h), (by intro h; cases h)⟩⟩
      | 2, _ =>
        obtain rfl := (Option.some.inj ho).symm
        have d2 : AQ.tmps.getD 2 undef = .pointer (some ⟨F, 0, none⟩) := hK.2.2 2 (by kernel_rfl)
        have hc0 := hS.front.cell 0 _ rfl
        have hc1 := hS.front.cell 1 _ rfl
        have hc2 := hS.front.cell 2 _ rfl
        have hc3 := hS.front.cell 3 _ rfl
        have hc4 := hS.front.cell 4 _ rfl
        exact wpOp_val (v := (.agg #[.int .i64 (n : Int), .int .i64 (p : Int), .int .i64 (B : Int), .int .i64 (C : Int), .int .i64 pre])) (w' := W) rfl (wanted_none rfl) (by simp [execOp, Act.eval, d2, hc0, hc1, hc2, hc3, hc4, go_sem]) ⟨_, rfl, hS, fun _ _ h => h, ⟨(by intro x hx; cases hx; rfl), (by intro h; cases h), (by intro h; cases h), (by intro h; cases h)⟩⟩
      | 3, _ =>
        obtain rfl := (Option.some.inj ho).symm
        have d1 : AQ.tmps.getD 1 undef = .slice a N cap := hK.2.2 1 (by kernel_rfl)
        exact wpOp_val (v := (.slice a N cap)) (w' := W) rfl (wanted_none rfl) (by simp [execOp, Act.eval, d1, go_sem]) ⟨_, rfl, hS, fun _ _ h => h, ⟨(by intro x hx; cases hx; rfl), (by intro h; cases h), (by intro h; cases h), (by intro h; cases h)⟩⟩
      | 4, _ =>
        obtain rfl := (Option.some.inj ho).symm
        have d21 : AQ.tmps.getD 21 undef = .agg #[.int .i64 (n : Int), .int .i64 (p : Int), .int .i64 (B : Int), .int .i64 (C : Int), .int .i64 pre] := ((hG ⟨2, .data⟩ (by simp) rfl).2 21 rfl).1 _ rfl
        have d22 : AQ.tmps.getD 22 undef = .slice a N cap := ((hG ⟨3, .data⟩ (by simp) rfl).2 22 rfl).1 _ rfl
        have h15 : fq 15 = false := by
          cases hb : fq 15 with
          | false => rfl
          | true =>
            have q13 := hdep 15 _ rfl hb ⟨13, .data⟩ (by simp) rfl
            have q12 := hdep 13 _ rfl q13 ⟨12, .data⟩ (by simp) rfl
            have q4 := hdep 12 _ rfl q12 ⟨4, .data⟩ (by simp) rfl
            rw [hf] at q4; cases q4
        refine wpOp_call (f := 30) (args := #[.agg #[.int .i64 (n : Int), .int .i64 (p : Int), .int .i64 (B : Int), .int .i64 (C : Int), .int .i64 pre], .slice a N cap]) (w' := W) rfl (wanted_none rfl) (by simp [execOp, Act.eval, d21, d22, go_sem]) ?_
        refine (rflat_any (n : Int) (p : Int) (B : Int) (C : Int) pre a N cap X W ((unhide HLt).below ((hS.still h15).1)) (unhide HN) (by omega) (unhide HX) (unhide HS).r0 (unhide HS).r1).mono ?_
        rintro ee w' ⟨fa, fl, fc, rfl, hfl, hfc, hfm, hfL, hfS, hfB, hb⟩
        rw [hY] at hfl hfL
        obtain rfl : N = fl := hYN.symm.trans hfl
        exact ⟨_, rfl, _, rfl, hS.call h15 hb, (fun j u h => ⟨h.1, fun e => (h.2.1 e).below hb, fun e => (h.2.2.1 e).below hb, fun e => (h.2.2.2 e).below hb⟩), ⟨(by intro x hx; cases hx), (fun _ => ⟨fa, fc, rfl, hYN, hfc, hfm, hfS, hfL, fun q hq => by have := hfB q hq; have := hS.size; omega⟩), (by intro h; cases h), (by intro h; cases h)⟩⟩
      | 5, _ =>
        obtain rfl := (Option.some.inj ho).symm
        have d2 : AQ.tmps.getD 2 undef = .pointer (some ⟨F, 0, none⟩) := hK.2.2 2 (by kernel_rfl)
        have hc0 := hS.front.cell 0 _ rfl
        have hc1 := hS.front.cell 1 _ rfl
        have hc2 := hS.front.cell 2 _ rfl
        have hc3 := hS.front.cell 3 _ rfl
        have hc4 := hS.front.cell 4 _ rfl
        exact wpOp_val (v := (.agg #[.int .i64 (n : Int), .int .i64 (p : Int), .int .i64 (B : Int), .int .i64 (C : Int), .int .i64 pre])) (w' := W) rfl (wanted_none rfl) (by simp [execOp, Act.eval, d2, hc0, hc1, hc2, hc3, hc4, go_sem]) ⟨_, rfl, hS, fun _ _ h => h, ⟨(by intro x hx; cases hx; rfl), (by intro h; cases h), (by intro h; cases h), (by intro h; cases h)⟩⟩
      | 6, _ =>
        obtain rfl := (Option.some.inj ho).symm
        have d1 : AQ.tmps.getD 1 undef = .slice a N cap := hK.2.2 1 (by kernel_rfl)
        exact wpOp_val (v := (.slice a N cap)) (w' := W) rfl (wanted_none rfl) (by simp [execOp, Act.eval, d1, go_sem]) ⟨_, rfl, hS, fun _ _ h => h, ⟨(by intro x hx; cases hx; rfl), (by intro h; cases h), (by intro h; cases h), (by intro h; cases h)⟩⟩
      | 7, _ =>
        obtain rfl := (Option.some.inj ho).symm
        have d25 : AQ.tmps.getD 25 undef = .slice a N cap := ((hG ⟨6, .data⟩ (by simp) rfl).2 25 rfl).1 _ rfl
        exact wpOp_val (v := (.int .i64 (N : Int))) (w' := W) rfl (wanted_none rfl) (by simp [execOp, Act.eval, d25, go_sem]) ⟨_, rfl, hS, fun _ _ h => h, ⟨(by intro x hx; cases hx; rfl), (by intro h; cases h), (by intro h; cases h), (by intro h; cases h)⟩⟩
      | 8, _ =>
        obtain rfl := (Option.some.inj ho).symm
        have d24 : AQ.tmps.getD 24 undef = .agg #[.int .i64 (n : Int), .int .i64 (p : Int), .int .i64 (B : Int), .int .i64 (C : Int), .int .i64 pre] := ((hG ⟨5, .data⟩ (by simp) rfl).2 24 rfl).1 _ rfl
        have d26 : AQ.tmps.getD 26 undef = .int .i64 (N : Int) := ((hG ⟨7, .data⟩ (by simp) rfl).2 26 rfl).1 _ rfl
        have h15 : fq 15 = false := by
          cases hb : fq 15 with
          | false => rfl
          | true =>
            have q13 := hdep 15 _ rfl hb ⟨13, .data⟩ (by simp) rfl
            have q12 := hdep 13 _ rfl q13 ⟨12, .data⟩ (by simp) rfl
            have q11 := hdep 12 _ rfl q12 ⟨11, .data⟩ (by simp) rfl
            have q8 := hdep 11 _ rfl q11 ⟨8, .data⟩ (by simp) rfl
            rw [hf] at q8; cases q8
        refine wpOp_call (f := 19) (args := #[.agg #[.int .i64 (n : Int), .int .i64 (p : Int), .int .i64 (B : Int), .int .i64 (C : Int), .int .i64 pre], .int .i64 (N : Int)]) (w' := W) rfl (wanted_none rfl) (by simp [execOp, Act.eval, d24, d26, go_sem]) ?_
        refine (show Calls Tryd.prog 19 #[.agg #[.int .i64 (n : Int), .int .i64 (p : Int), .int .i64 (B : Int), .int .i64 (C : Int), .int .i64 pre], .int .i64 (N : Int)] W _ from rframes_any n p (B : Int) (C : Int) pre N W hn64 (unhide HS).hp0 (by omega)).mono ?_
        rintro ee w' ⟨rfl, hb⟩
        rw [hK']
        exact ⟨_, rfl, _, rfl, hS.call h15 hb, (fun j u h => ⟨h.1, fun e => (h.2.1 e).below hb, fun e => (h.2.2.1 e).below hb, fun e => (h.2.2.2 e).below hb⟩), ⟨(by intro x hx; cases hx; rfl), (by intro h; cases h), (by intro h; cases h), (by intro h; cases h)⟩⟩
      | 9, _ =>
        obtain rfl := (Option.some.inj ho).symm
        have d2 : AQ.tmps.getD 2 undef = .pointer (some ⟨F, 0, none⟩) := hK.2.2 2 (by kernel_rfl)
        exact wpOp_val (v := (.pointer (some ⟨F, 1, none⟩))) (w' := W) rfl (wanted_none rfl) (by simp [execOp, Act.eval, d2, go_sem]) ⟨_, rfl, hS, fun _ _ h => h, ⟨(by intro x hx; cases hx; rfl), (by intro h; cases h), (by intro h; cases h), (by intro h; cases h)⟩⟩
      | 10, _ =>
        obtain rfl := (Option.some.inj ho).symm
        have d28 : AQ.tmps.getD 28 undef = .pointer (some ⟨F, 1, none⟩) := ((hG ⟨9, .data⟩ (by simp) rfl).2 28 rfl).1 _ rfl
        have hc := hS.front.cell 1 _ rfl
        exact wpOp_val (v := (.int .i64 (p : Int))) (w' := W) rfl (wanted_none rfl) (by simp [execOp, Act.eval, d28, hc, go_sem]) ⟨_, rfl, hS, fun _ _ h => h, ⟨(by intro x hx; cases hx; rfl), (by intro h; cases h), (by intro h; cases h), (by intro h; cases h)⟩⟩
      | 11, _ =>
        obtain rfl := (Option.some.inj ho).symm
        have d27 : AQ.tmps.getD 27 undef = .int .i64 (K : Int) := ((hG ⟨8, .data⟩ (by simp) rfl).2 27 rfl).1 _ rfl
        have d29 : AQ.tmps.getD 29 undef = .int .i64 (p : Int) := ((hG ⟨10, .data⟩ (by simp) rfl).2 29 rfl).1 _ rfl
        exact wpOp_val (v := (.int .i64 (P : Int))) (w' := W) rfl (wanted_none rfl) (by simp [execOp, Act.eval, d27, d29, hKP, hPw, go_sem]) ⟨_, rfl, hS, fun _ _ h => h, ⟨(by intro x hx; cases hx; rfl), (by intro h; cases h), (by intro h; cases h), (by intro h; cases h)⟩⟩
      | 12, _ =>
        obtain rfl := (Option.some.inj ho).symm
        have g23 := ((hG ⟨4, .data⟩ (by simp) rfl).2 23 rfl).2.1 rfl
        have d30 : AQ.tmps.getD 30 undef = .int .i64 (P : Int) := ((hG ⟨11, .data⟩ (by simp) rfl).2 30 rfl).1 _ rfl
        exact tail_cutop rfl (wanted_none rfl) (x := 23) (y := 30) rfl g23 hYN hYR hfr d30 (fun u hT => ⟨_, rfl, hS, fun _ _ h => h, ⟨(by intro x hx; cases hx), (by intro h; cases h), (fun _ => hT), (by intro h; cases h)⟩⟩)
      | 13, _ =>
        obtain rfl := (Option.some.inj ho).symm
        have d20 : AQ.tmps.getD 20 undef = .slice none 0 0 := ((hG ⟨1, .data⟩ (by simp) rfl).2 20 rfl).1 _ rfl
        have g31 := ((hG ⟨12, .data⟩ (by simp) rfl).2 31 rfl).2.2.1 rfl
        have h15 : fq 15 = false := by
          cases hb : fq 15 with
          | false => rfl
          | true =>
            have q13 := hdep 15 _ rfl hb ⟨13, .data⟩ (by simp) rfl
            rw [hf] at q13; cases q13
        obtain ⟨ra, rc, e31, hrl, hrc, hrm, hrS, hrL, hrB⟩ := g31
        have hlo := hS.size
        rcases hrS with ⟨rfl, hr0, rfl⟩ | ⟨ad, rfl⟩
        · have hR0 : R = [] := List.length_eq_zero_iff.1 hr0
          exact tail_wp rfl (wanted_none rfl) (tail_append_none _ _ 24 rfl wt.heap.size 3 i0 1 Tryd.underlying24 hi _ 0 [] (by simp [Act.eval, d20]) (World.ownsRow_nil _ _ _ _) (by simp [Act.eval, e31, hr0]) ⟨_, rfl, hS, fun _ _ h => h, ⟨(by intro x hx; cases hx), (by intro h; cases h), (by intro h; cases h), (fun _ => ⟨none, 0, by rw [hR0]; rfl, by rw [hR0]; exact World.ownsRow_nil _ _ _ _⟩)⟩⟩)
        · refine tail_wp rfl (wanted_none rfl) (wp_append_own _ _ _ 24 rfl wt.heap.size 3 i0 (.int .i64 0) 1 8 Tryd.underlying24 hi hz0 hz1 hz2 rfl (by decide) (.slice none 0 0) 0 [] (by simp [Act.eval, d20]) (World.ownsRow_nil _ _ _ _) ad R.length rc (ints R) (by simp [Act.eval, e31]) (by simp [ints]) (front_news hrL) (by intro u hu; obtain ⟨z, _, rfl⟩ := List.mem_map.1 hu; rfl) (by unfold maxLen; omega) (by omega) hlo ?_)
          intro v' w' hown hg _
          have hb : Below W.heap.size W w' := (Below.refl W.heap.size W).grown hg (Nat.le_refl _) (fun _ h => by cases h)
          rw [Nat.zero_add, List.nil_append] at hown
          obtain ⟨va, vc, ev, _⟩ := owned_slot hown
          exact ⟨_, rfl, hS.call h15 hb, (fun j u h => ⟨h.1, fun e => (h.2.1 e).below hb, fun e => (h.2.2.1 e).below hb, fun e => (h.2.2.2 e).below hb⟩), ⟨(by intro x hx; cases hx), (by intro h; cases h), (by intro h; cases h), (fun _ => ⟨va, vc, ev, hown⟩)⟩⟩
      | 14, _ =>
        obtain rfl := (Option.some.inj ho).symm
        have d5 : AQ.tmps.getD 5 undef = .pointer (some ⟨F + 1 + 1, 0, none⟩) := hK.2.2 5 (by kernel_rfl)
        exact wpOp_val (v := (.pointer (some ⟨F + 1 + 1, 2, none⟩))) (w' := W) rfl (wanted_none rfl) (by simp [execOp, Act.eval, d5, go_sem]) ⟨_, rfl, hS, fun _ _ h => h, ⟨(by intro x hx; cases hx; rfl), (by intro h; cases h), (by intro h; cases h), (by intro h; cases h)⟩⟩
      | 15, _ =>
        obtain rfl := (Option.some.inj ho).symm
        have d33 : AQ.tmps.getD 33 undef = .pointer (some ⟨F + 1 + 1, 2, none⟩) := ((hG ⟨14, .data⟩ (by simp) rfl).2 33 rfl).1 _ rfl
        have g32 := ((hG ⟨13, .data⟩ (by simp) rfl).2 32 rfl).2.2.2 rfl
        obtain ⟨va, vc, e32, hown⟩ := g32
        have hc := (hS.still hf).2.cell 2 _ rfl
        have hfz := (hS.still hf).2.free 2
        exact tail_skip (w' := W.setCell ⟨F + 1 + 1, 2, none⟩ (.slice va R.length vc)) rfl (wanted_none rfl) (by simp [execOp, Act.eval, d33, e32, hc, hfz, go_sem]) ⟨_, rfl, hS.stored hf hFw ⟨va, vc, rfl, by rw [e32] at hown; exact hown⟩ hszt, (fun j u h => ⟨h.1, fun e => (h.2.1 e).only (Only.setCell (p := ⟨F + 1 + 1, 2, none⟩) (Only.refl (F + 1 + 1) W) rfl _) hszt, fun e => (h.2.2.1 e).only (Only.setCell (p := ⟨F + 1 + 1, 2, none⟩) (Only.refl (F + 1 + 1) W) rfl _) hszt, fun e => (h.2.2.2 e).only (Only.setCell (p := ⟨F + 1 + 1, 2, none⟩) (Only.refl (F + 1 + 1) W) rfl _) hszt⟩), ⟨(by intro x hx; cases hx), (by intro h; cases h), (by intro h; cases h), (by intro h; cases h)⟩⟩
    · intro fq W vals hf hS hG
      have ev0 : vals 0 = .pointer (some ⟨F + 1 + 1, 2, none⟩) := (hG 0 19 (by decide) rfl).1 _ rfl
      have ev1 : vals 1 = .slice none 0 0 := (hG 1 20 (by decide) rfl).1 _ rfl
      have ev2 : vals 2 = .agg #[.int .i64 (n : Int), .int .i64 (p : Int), .int .i64 (B : Int), .int .i64 (C : Int), .int .i64 pre] := (hG 2 21 (by decide) rfl).1 _ rfl
      have ev3 : vals 3 = .slice a N cap := (hG 3 22 (by decide) rfl).1 _ rfl
      have g4 := (hG 4 23 (by decide) rfl).2.1 rfl
      have ev5 : vals 5 = .agg #[.int .i64 (n : Int), .int .i64 (p : Int), .int .i64 (B : Int), .int .i64 (C : Int), .int .i64 pre] := (hG 5 24 (by decide) rfl).1 _ rfl
      have ev6 : vals 6 = .slice a N cap := (hG 6 25 (by decide) rfl).1 _ rfl
      have ev7 : vals 7 = .int .i64 (N : Int) := (hG 7 26 (by decide) rfl).1 _ rfl
      have ev8 : vals 8 = .int .i64 (K : Int) := (hG 8 27 (by decide) rfl).1 _ rfl
      have ev9 : vals 9 = .pointer (some ⟨F, 1, none⟩) := (hG 9 28 (by decide) rfl).1 _ rfl
      have ev10 : vals 10 = .int .i64 (p : Int) := (hG 10 29 (by decide) rfl).1 _ rfl
      have ev11 : vals 11 = .int .i64 (P : Int) := (hG 11 30 (by decide) rfl).1 _ rfl
      have g12 := (hG 12 31 (by decide) rfl).2.2.1 rfl
      have g13 := (hG 13 32 (by decide) rfl).2.2.2 rfl
      have ev14 : vals 14 = .pointer (some ⟨F + 1 + 1, 2, none⟩) := (hG 14 33 (by decide) rfl).1 _ rfl
      change (_ : Exit → Act → World → Prop) Exit.normal (Act.put (Act.put (Act.put (Act.put (Act.put (Act.put (Act.put (Act.put (Act.put (Act.put (Act.put (Act.put (Act.put (Act.put (Act.put (Act.put _ (some 19) (vals 0)) (some 20) (vals 1)) (some 21) (vals 2)) (some 22) (vals 3)) (some 23) (vals 4)) (some 24) (vals 5)) (some 25) (vals 6)) (some 26) (vals 7)) (some 27) (vals 8)) (some 28) (vals 9)) (some 29) (vals 10)) (some 30) (vals 11)) (some 31) (vals 12)) (some 32) (vals 13)) (some 33) (vals 14)) none (vals 15)) W
      rw [putAll_zero, ev0, ev1, ev2, ev3, ev5, ev6, ev7, ev8, ev9, ev10, ev11, ev14]
      have hS' := hS
      obtain ⟨v, hvO, hvC⟩ := hS'.done (hf 15 (by decide))
      obtain ⟨av, cv, rfl, hvown⟩ := hvO
      have HVC := hide hvC
      have HVO := hide hvown
      have HVR := hide hS'.res
      have HVB := hide hS'.below
      generalize vals 4 = xv4
      generalize vals 12 = xv12
      generalize vals 13 = xv13
      generalize vals 15 = xv15
      obtain ⟨wz, hwz⟩ : ∃ x, x = W := ⟨_, rfl⟩
      rw [← hwz] at HVC HVO HVR HVB ⊢
      clear hS hS' hG hf hvC hvown hwz g4 g12 g13 ev0 ev1 ev2 ev3 ev5 ev6 ev7 ev8 ev9 ev10 ev11 ev14
      clear vals fq
      go_simp
      obtain ⟨lx, hlx⟩ : ∃ lx, lastOf 0 X = lx := ⟨_, rfl⟩
      rw [hlx] at HVC
      have HLX := hide hlx
      have HRR := hide hR
      have HYY := hide hY
      clear hlx hR hY hK' hYN hfr hRl hKP hPw hP64 hYR hRm HCT1 HO HBt HCFt HCRt HLt HCF HCR HCT HB HL hl0
      have k0 := (unhide HVC).cell 0 _ rfl
      have k1 := (unhide HVC).cell 1 _ rfl
      have k2 := (unhide HVC).cell 2 _ rfl
      have r0 := (unhide HVR).cell 0 _ rfl
      have r1 := (unhide HVR).cell 1 _ rfl
      have r2 := (unhide HVR).cell 2 _ rfl
      have y0 := (unhide HVR).free 0
      have y1 := (unhide HVR).free 1
      have y2 := (unhide HVR).free 2
      go_wp2_with fail
      obtain ⟨w3, hw3⟩ : ∃ w3, ((wz.setCell ⟨F + 1, 0, none⟩ (.int .i64 (N : Int))).setCell ⟨F + 1, 1, none⟩ (.int .i64 lx)).setCell ⟨F + 1, 2, none⟩ (.slice av R.length cv) = w3 := ⟨_, rfl⟩
      rw [hw3]
      have hc3 : Cells w3 (F + 1) [.int .i64 (N : Int), .int .i64 lx, .slice av R.length cv] := by rw [← hw3]; exact (((unhide HVR).set 0 _).set 1 _).set 2 _
      have HO3 := hide (show w3.ownsRow wt.heap.size 3 1 (.slice av R.length cv) R.length (ints R) by rw [← hw3]; exact owns_only2 (unhide HVO) ((((Only.refl (F + 1) wz).setCell rfl _).setCell rfl _).setCell rfl _) (by omega))
      have HB3 := hide (show Below w.heap.size w w3 by rw [← hw3]; exact (((unhide HVB).setCell (by show _ ≤ F + 1; omega) _).setCell (by show _ ≤ F + 1; omega) _).setCell (by show _ ≤ F + 1; omega) _)
      have e0 := hc3.cell 0 _ rfl
      have e1 := hc3.cell 1 _ rfl
      have e2 := hc3.cell 2 _ rfl
      clear hw3 hc3 k0 k1 k2 r0 r1 r2 y0 y1 y2 HVO HVC HVR HVB
      refine bodyPost_ret (v := .agg #[.int .i64 (N : Int), .int .i64 lx, .slice av R.length cv]) (by simp [results, Tryd.results16, go_sem, e0, e1, e2]) rfl ?_
      rw [unhide HLX, unhide HYY, unhide HRR]
      exact ⟨_, rfl, ⟨av, cv, rfl, owns_lower (unhide HO3) (by omega)⟩, unhide HB3⟩
end Go.Proofs.YtbkdgpeooeokmaaDoor
