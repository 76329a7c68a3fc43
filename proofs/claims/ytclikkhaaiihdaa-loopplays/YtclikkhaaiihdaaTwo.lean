/- Two loops in one arena, and one alone: what their making gives, what a frame that is pushed to one of them leaves of the other. -/
import Derived.Test.YtclikkhaaiihdaaOpen
namespace Go.Proofs.Ytclikkhaaiihdaa
open Go.RowKit
set_option linter.unusedVariables false

theorem wanted_none {ops : Array Oper} {o : Oper} {a : Act} (h : o.guard = none) : Region.wanted o (yielded ops a.tmps) = true := by
  unfold Region.wanted; rw [h]
theorem wpOp_val {P : Program} {ops : Array Oper} {Q : Exit → Act → World → Prop} {i : Nat} {o : Oper} {K : Act → World → Prop} {a : Act} {w w' : World} {v : Value} (ho : ops[i]? = some o)
    (hw : Region.wanted o (yielded ops a.tmps) = true) (hx : (execOp a.eval o).run P w = .ok (.value v) w') (h : K (a.put o.dst v) w') : wpOp P ops Q i K a w := by
  unfold wpOp
  simp only [ho, hw, if_true]
  left
  unfold Oper.wp
  rw [hx]
  exact h
theorem wpOp_call {P : Program} {ops : Array Oper} {Q : Exit → Act → World → Prop} {i : Nat} {o : Oper} {K : Act → World → Prop} {a : Act} {w w' : World} {f : FuncId} {args : Array Value} (ho : ops[i]? = some o)
    (hw : Region.wanted o (yielded ops a.tmps) = true) (hx : (execOp a.eval o).run P w = .ok (.enter f args) w') (h : Calls P f args w' fun e w'' => ∃ v, e = .returned v ∧ K (a.put o.dst v) w'') : wpOp P ops Q i K a w := by
  unfold wpOp
  simp only [ho, hw, if_true]
  left
  unfold Oper.wp
  rw [hx]
  show Calls P f args w' _
  refine Calls.mono h ?_
  rintro e w'' ⟨v, rfl, hk⟩
  exact hk
theorem putAll_zero (ops : Array Oper) (vals : Nat → Value) (a : Act) : putAll ops vals 0 a = a := rfl
def ArG (B E : Nat) (v : Value) (w : World) : Prop := ∃ c g, v = .pointer (some ⟨c, 0, none⟩) ∧ B ≤ c ∧ B ≤ g ∧ Ar c g E w (List.replicate E 0) 0
def PtG (B c g o m : Nat) (v : Value) (w : World) : Prop := ∃ b, v = .pointer (some ⟨b, 0, none⟩) ∧ B ≤ b ∧ Pt b c g o m w
def LpG (B0 B c g o m n d R : Nat) (L : List Int) (v : Value) (w : World) : Prop := ∃ l b, v = .pointer (some ⟨l, 0, none⟩) ∧ B ≤ b ∧ b < l ∧ Own B0 l b c g o m n d R 0 w L
def PtA (B E : Nat) (v : Value) (w : World) : Prop := ∃ b c g, v = .pointer (some ⟨b, 0, none⟩) ∧ B ≤ c ∧ B ≤ g ∧ c < b ∧ g < b ∧ Pt b c g 0 E w ∧ Ar c g E w (List.replicate E 0) 0
def LpA (B0 B E d R : Nat) (v : Value) (w : World) : Prop := ∃ l b c g, v = .pointer (some ⟨l, 0, none⟩) ∧ B ≤ c ∧ B ≤ g ∧ c < b ∧ g < b ∧ b < l ∧ Own B0 l b c g 0 E E d R 0 w (List.replicate E 0)
theorem ArG.below {B E : Nat} {v : Value} {w w' : World} (h : ArG B E v w) (hb : Below w.heap.size w w') : ArG B E v w' := by
  obtain ⟨c, g, h1, h2, h3, h4⟩ := h
  exact ⟨c, g, h1, h2, h3, h4.below hb⟩
theorem PtG.below {B c g o m : Nat} {v : Value} {w w' : World} (h : PtG B c g o m v w) (hb : Below w.heap.size w w') : PtG B c g o m v w' := by
  obtain ⟨b, h1, h2, h3⟩ := h
  exact ⟨b, h1, h2, Cells.below h3 hb⟩
theorem LpG.below {B0 B c g o m n d R : Nat} {L : List Int} {v : Value} {w w' : World} (h : LpG B0 B c g o m n d R L v w) (hb : Below w.heap.size w w') : LpG B0 B c g o m n d R L v w' := by
  obtain ⟨l, b, h1, h2, h3, h4⟩ := h
  exact ⟨l, b, h1, h2, h3, h4.below hb⟩
theorem PtA.below {B E : Nat} {v : Value} {w w' : World} (h : PtA B E v w) (hb : Below w.heap.size w w') : PtA B E v w' := by
  obtain ⟨b, c, g, h1, h2, h3, h4, h5, h6, h7⟩ := h
  exact ⟨b, c, g, h1, h2, h3, h4, h5, Cells.below h6 hb, h7.below hb⟩
theorem LpA.below {B0 B E d R : Nat} {v : Value} {w w' : World} (h : LpA B0 B E d R v w) (hb : Below w.heap.size w w') : LpA B0 B E d R v w' := by
  obtain ⟨l, b, c, g, h1, h2, h3, h4, h5, h6, h7⟩ := h
  exact ⟨l, b, c, g, h1, h2, h3, h4, h5, h6, h7.below hb⟩
theorem new_G (E B : Nat) (hE : E ≤ 4096) (w : World) (hB : B ≤ w.heap.size) : Calls Try.prog 9 #[.int .i64 (E : Int)] w fun r w' => ∃ v, r = .returned v ∧ ArG B E v w' ∧ Below w.heap.size w w' :=
  (new_any E hE w).mono fun r w' ⟨c, g, h1, h2, h3, h4, h5⟩ => ⟨_, h1, ⟨c, g, rfl, Nat.le_trans hB h2, Nat.le_trans hB h3, h4⟩, h5⟩
theorem part_G (B c g n o m : Nat) (L : List Int) (w : World) (h : Ar c g n w L 0) (hn : n ≤ 4096) (hm : o + m ≤ n) (h1 : 0 < m) (hB : B ≤ w.heap.size) :
    Calls Try.prog 11 #[.pointer (some ⟨c, 0, none⟩), .int .i64 (o : Int), .int .i64 (m : Int)] w fun r w' => ∃ v, r = .returned v ∧ PtG B c g o m v w' ∧ Below w.heap.size w w' :=
  (part_yes c g n o m L 0 w h hn hm).mono fun r w' ⟨o', h1', h2, h3, h4, h5⟩ => ⟨_, h1', ⟨_, rfl, hB, by have := h4 h1; subst this; exact h2⟩, h5⟩
theorem part_A (B E : Nat) (v : Value) (w : World) (h : ArG B E v w) (hn : E ≤ 4096) (h1 : 0 < E) :
    Calls Try.prog 11 #[v, .int .i64 0, .int .i64 (E : Int)] w fun r w' => ∃ v, r = .returned v ∧ PtA B E v w' ∧ Below w.heap.size w w' := by
  obtain ⟨c, g, rfl, h2, h3, h4⟩ := h
  exact (part_yes c g E 0 E _ 0 w h4 hn (by omega)).mono fun r w' ⟨o', h1', h6, h7, h8, h9⟩ => ⟨_, h1', ⟨_, c, g, rfl, h2, h3, h4.me.lt, h4.row.lt, by have := h8 h1; subst this; exact h6, h4.below h9⟩, h9⟩
theorem lnew_G (B0 B c g o m n d R : Nat) (L : List Int) (v : Value) (w : World) (h : PtG B c g o m v w) (ha : Ar c g n w L 0) (hm : o + m ≤ n) (hn : n ≤ 4096) (h1 : 1 ≤ d) (h2 : d ≤ 4096) (hr : roomN m (d : Int) = R) (hR : 1 ≤ R) (hc : c < B) (hg : g < B) (h0 : B0 ≤ c ∧ B0 ≤ g) :
    Calls Try.prog 10 #[v, .int .i64 (d : Int)] w fun r w' => ∃ v, r = .returned v ∧ LpG B0 B c g o m n d R L v w' ∧ Below w.heap.size w w' := by
  obtain ⟨b, rfl, hB, hp⟩ := h
  have hlt := Cells.lt hp
  exact (lnew_yes b c g o m (d : Int) R w hp (by omega) (by omega) (by omega) hr hR).mono fun r w' ⟨q1, q2, q3⟩ => ⟨_, q1, ⟨_, b, rfl, hB, hlt, own_made (w1 := w) q2 ha q3 hp hm (by omega) ⟨by omega, by omega, by omega⟩ (by omega)⟩, q3⟩
theorem lnew_A (B0 B E d R : Nat) (v : Value) (w : World) (h : PtA B E v w) (hn : E ≤ 4096) (h1 : 1 ≤ d) (h2 : d ≤ 4096) (hr : roomN E (d : Int) = R) (hR : 1 ≤ R) (h0 : B0 ≤ B) :
    Calls Try.prog 10 #[v, .int .i64 (d : Int)] w fun r w' => ∃ v, r = .returned v ∧ LpA B0 B E d R v w' ∧ Below w.heap.size w w' := by
  obtain ⟨b, c, g, rfl, h3, h4, h5, h6, hp, ha⟩ := h
  have hlt := Cells.lt hp
  exact (lnew_yes b c g 0 E (d : Int) R w hp (by omega) (by omega) (by omega) hr hR).mono fun r w' ⟨q1, q2, q3⟩ => ⟨_, q1, ⟨_, b, c, g, rfl, h3, h4, h5, h6, hlt, own_made (w1 := w) q2 ha q3 hp (by omega) (by omega) ⟨by omega, by omega, by omega⟩ (by omega)⟩, q3⟩
/-- Behind a frame that was pushed to the one loop the other one, in the same arena, stands as it stood; its arena's words are the new ones. -/
theorem Own.swap {B l b c g o m n d R l2 : Nat} {cnt : Int} {w w' : World} {L L' : List Int} (h : Own B l b c g o m n d R cnt w L) (hb : But (fun k => k = l2 ∨ k = g) w w') (ha : Ar c g n w' L' 0) (h1 : l ≠ l2) (h2 : b ≠ l2) : Own B l b c g o m n d R cnt w' L' :=
  ⟨h.lo.but hb (by rintro (e | e); exact h1 e; exact h.lg e) (by rintro (e | e); exact h2 e; exact h.bg e), ha, h.hm, h.lb, h.lc, h.lg, h.bg, h.ge, h.c0⟩
/-- What the second loop reads in the shared arena is what the one alone reads. -/
def Alike (D E : Nat) (L La : List Int) : Prop := L.length = D + E ∧ La.length = E ∧ ∀ i, i < E → L.getD (D + i) 0 = La.getD i 0
theorem alike_zero (D E : Nat) : Alike D E (List.replicate (D + E) 0) (List.replicate E 0) := by
  refine ⟨by simp, by simp, fun i hi => ?_⟩
  simp [List.getD_eq_getElem?_getD, hi]
theorem push_len (L : List Int) (o R d : Nat) (cnt : Int) (xs : List Int) : (pushL L o R d cnt xs).length = L.length := layTo_len _ _ _ _
theorem Alike.first {D E R d : Nat} {L La F : List Int} (h : Alike D E L La) (cnt : Nat) (hR : 1 ≤ R) (hD : R * d ≤ D) : Alike D E (pushL L 0 R d (cnt : Int) F) La := by
  refine ⟨by rw [push_len]; exact h.1, h.2.1, fun i hi => ?_⟩
  unfold pushL
  have := slot_bd D d R (cnt % R) hD (Nat.mod_lt _ (by omega))
  rw [layTo_getD, at_nat, if_neg (by omega)]
  exact h.2.2 i hi
theorem Alike.both {D E R d : Nat} {L La F : List Int} (h : Alike D E L La) (cnt : Nat) : Alike D E (pushL L D R d (cnt : Int) F) (pushL La 0 R d (cnt : Int) F) := by
  refine ⟨by rw [push_len]; exact h.1, by rw [push_len]; exact h.2.1, fun i hi => ?_⟩
  unfold pushL
  rw [layTo_getD, layTo_getD, at_nat, h.1, h.2.1]
  by_cases hc : cnt % R * d ≤ i ∧ i < cnt % R * d + d
  · rw [if_pos (by omega), if_pos (by omega)]
    congr 1
    omega
  · rw [if_neg (by omega), if_neg (by omega)]
    exact h.2.2 i hi
theorem Alike.row {D E R d : Nat} {L La : List Int} (h : Alike D E L La) (t : Nat) (hR : 1 ≤ R) (hE : R * d ≤ E) : rowL L (D + (atI (t : Int) R (d : Int)).toNat) d = rowL La (0 + (atI (t : Int) R (d : Int)).toNat) d := by
  rw [at_nat]
  have := slot_bd E d R (t % R) hE (Nat.mod_lt _ (by omega))
  refine rowL_congr (fun j hj => ?_)
  rw [Nat.add_assoc, Nat.zero_add]
  exact h.2.2 _ (by omega)
end Go.Proofs.Ytclikkhaaiihdaa
