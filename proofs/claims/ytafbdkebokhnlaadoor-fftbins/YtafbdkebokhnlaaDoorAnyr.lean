/- A region that draws its order, by what its operations yield: whatever order is drawn, an operation meets what those yielded on which it waits; so each is looked at once, and not once an order. No Go text here. -/
import Derived.WalkKit
import Derived.Orders
namespace Go.Proofs.YtafbdkebokhnlaaDoor
open Go
set_option linter.unusedVariables false

theorem filter_lt {l : List Nat} {p q : Nat → Bool} (h : ∀ j, q j = true → p j = true) {i : Nat} (hi : i ∈ l) (hp : p i = true) (hq : q i = false) : (l.filter q).length < (l.filter p).length := by
  have hle : ∀ m : List Nat, (m.filter q).length ≤ (m.filter p).length := by
    intro m
    induction m with
    | nil => exact Nat.le_refl _
    | cons x m ih =>
      by_cases hx : q x = true
      · rw [List.filter_cons_of_pos hx, List.filter_cons_of_pos (h x hx)]; simp; exact ih
      · rw [List.filter_cons_of_neg hx]
        by_cases hx' : p x = true
        · rw [List.filter_cons_of_pos hx']; simp; omega
        · rw [List.filter_cons_of_neg hx']; exact ih
  induction l with
  | nil => simp at hi
  | cons x m ih =>
    rcases List.mem_cons.1 hi with rfl | hi
    · rw [List.filter_cons_of_neg (by simp [hq]), List.filter_cons_of_pos hp]
      have := hle m
      simp
      omega
    · have := ih hi
      by_cases hx : q x = true
      · rw [List.filter_cons_of_pos hx, List.filter_cons_of_pos (h x hx)]; simp; exact this
      · rw [List.filter_cons_of_neg hx]
        by_cases hx' : p x = true
        · rw [List.filter_cons_of_pos hx']; simp; omega
        · rw [List.filter_cons_of_neg hx']; exact this

/-- How many have not come up. -/
def leftN (ops : Array Oper) (listed : Array Bool) : Nat := ((List.range ops.size).filter fun i => !listed.getD i true).length

theorem any_inv {P : Program} {ops : Array Oper} {Q : Exit → Act → World → Prop} {md : Region.Mode} (Inv : Array Bool → Act → World → Prop)
    (hstep : ∀ listed a w i, Inv listed a w → i ∈ Region.ready md ops listed → wpOp P ops Q i (fun a' w' => Inv (listed.setIfInBounds i true) a' w') a w)
    (hend : ∀ listed a w, Inv listed a w → Region.ready md ops listed = [] → Q .normal a w) :
    ∀ fuel listed a w, leftN ops listed ≤ fuel → Inv listed a w → wpAny P md ops Q fuel listed a w := by
  intro fuel
  induction fuel with
  | zero =>
    intro listed a w hl hI
    have hr : Region.ready md ops listed = [] := by
      apply List.eq_nil_iff_forall_not_mem.2
      intro i hi
      obtain ⟨h0, o, ho, _⟩ := mem_ready.1 hi
      have hlt : i < ops.size := (Array.getElem?_eq_some_iff.1 ho).1
      have h1 : i ∈ (List.range ops.size).filter fun i => !listed.getD i true := List.mem_filter.2 ⟨List.mem_range.2 hlt, by rw [h0]; rfl⟩
      have h2 : (List.range ops.size).filter (fun i => !listed.getD i true) = [] := List.length_eq_zero_iff.1 (Nat.le_zero.1 hl)
      rw [h2] at h1
      simp at h1
    exact ⟨hr, hend _ _ _ hI hr⟩
  | succ fuel ih =>
    intro listed a w hl hI
    refine ⟨hend _ _ _ hI, fun i hi => ?_⟩
    obtain ⟨h0, o, ho, _⟩ := mem_ready.1 hi
    have hlt : i < ops.size := (Array.getElem?_eq_some_iff.1 ho).1
    refine wpOp_mono (fun a' w' h' => ih _ a' w' ?_ h') (hstep _ _ _ _ hI hi)
    have hlist : i < listed.size := by
      rcases Nat.lt_or_ge i listed.size with h | h
      · exact h
      · rw [Array.getD_eq_getD_getElem?, Array.getElem?_eq_none h] at h0; simp at h0
    have := filter_lt (l := List.range ops.size) (p := fun i => !listed.getD i true) (q := fun j => !(listed.setIfInBounds i true).getD j true) (by
      intro j hj
      by_cases e : i = j
      · subst e
        rw [Array.getD_eq_getD_getElem?, Array.getElem?_setIfInBounds] at hj
        simp [hlist] at hj
      · rw [getD_set_ne true e] at hj
        exact hj) (List.mem_range.2 hlt) (by show (!listed.getD i true) = true; rw [h0]; rfl) (by
      show (!(listed.setIfInBounds i true).getD i true) = false
      rw [Array.getD_eq_getD_getElem?, Array.getElem?_setIfInBounds]
      simp [hlist])
    have h2 : leftN ops listed = ((List.range ops.size).filter fun i => !listed.getD i true).length := rfl
    have h3 : leftN ops (listed.setIfInBounds i true) = ((List.range ops.size).filter fun j => !(listed.setIfInBounds i true).getD j true).length := rfl
    omega

/-- Slots that the region does not write are as they were. -/
def KeptF (ops : Array Oper) (a0 a : Act) : Prop :=
  a.defers = a0.defers ∧ a.tmps.size = a0.tmps.size ∧ ∀ s, (ops.any fun o => o.dst == some s) = false → a.tmps.getD s undef = a0.tmps.getD s undef
/-- The slot of operation j. -/
def dstOf (ops : Array Oper) (j : Nat) : Option Tmp := (ops[j]?).bind (·.dst)

theorem put_size (a : Act) (d : Option Tmp) (v : Value) : (a.put d v).tmps.size = a.tmps.size := by
  cases d <;> simp [Act.put]
theorem put_defers' (a : Act) (d : Option Tmp) (v : Value) : (a.put d v).defers = a.defers := by
  cases d <;> rfl
theorem put_at (a : Act) (d : Tmp) (v : Value) (h : d < a.tmps.size) : (a.put (some d) v).tmps.getD d undef = v := by
  simp [Act.put, Array.getD_eq_getD_getElem?, h]
theorem put_off (a : Act) (d : Option Tmp) (s : Tmp) (v : Value) (h : d ≠ some s) : (a.put d v).tmps.getD s undef = a.tmps.getD s undef := by
  cases d with
  | none => rfl
  | some d =>
    have : d ≠ s := fun e => h (by rw [e])
    simp [Act.put, Array.getD_eq_getD_getElem?, this]

/-- THE LAW. S: what holds of the world all along; G j v w: v is right for operation j in the world w. -/
theorem region_ssa {P : Program} {ops : Array Oper} {Q : Exit → Act → World → Prop} {id : Nat} {a0 : Act} {w0 : World} (S : World → Prop) (G : Nat → Value → World → Prop)
    (hm : P.follows .mixedOrders = true)
    (hone : ∀ i j, i < ops.size → j < ops.size → i ≠ j → dstOf ops i ≠ none → dstOf ops i ≠ dstOf ops j)
    (hfit : ∀ j d, dstOf ops j = some d → d < a0.tmps.size)
    (hback : ∀ (i : Nat) (o : Oper), ops[i]? = some o → ∀ e ∈ o.after, e.on < i)
    (hstep : ∀ (i : Nat) (o : Oper), ops[i]? = some o → ∀ a w, S w → KeptF ops a0 a → (∀ e ∈ o.after, Region.binds .any e = true → ∀ d, dstOf ops e.on = some d → G e.on (a.tmps.getD d undef) w) →
      wpOp P ops Q i (fun a' w' => ∃ v, a' = a.put o.dst v ∧ S w' ∧ (∀ j u, G j u w → G j u w') ∧ G i v w') a w)
    (hend : ∀ a w, S w → KeptF ops a0 a → (∀ j d, j < ops.size → dstOf ops j = some d → G j (a.tmps.getD d undef) w) → Q .normal a w)
    (hS : S { w0 with drawn := w0.drawn + 1 }) : (Code.region id ops true).wp P Q a0 w0 := by
  refine wp_region_any hm (any_inv (fun listed a w => listed.size = ops.size ∧ S w ∧ KeptF ops a0 a ∧ ∀ j d, j < ops.size → listed.getD j true = true → dstOf ops j = some d → G j (a.tmps.getD d undef) w) ?_ ?_ _ _ _ _ ?_ ?_)
  · rintro listed a w i ⟨hsz, hSw, hK, hG⟩ hi
    obtain ⟨h0, o, ho, hall⟩ := mem_ready.1 hi
    have hio : dstOf ops i = o.dst := by unfold dstOf; rw [ho]; rfl
    have hilt : i < ops.size := (Array.getElem?_eq_some_iff.1 ho).1
    refine wpOp_mono ?_ (hstep i o ho a w hSw hK (fun e he hb d hd => ?_))
    · rintro a' w' ⟨v, rfl, hS', hmono, hGv⟩
      refine ⟨by simpa using hsz, hS', ⟨by rw [put_defers']; exact hK.1, by rw [put_size]; exact hK.2.1, fun s hs => ?_⟩, fun j d hj hl hd => ?_⟩
      · rw [put_off _ _ _ _ (fun e => ?_)]
        · exact hK.2.2 s hs
        · have := Array.any_eq_false.1 hs i hilt
          rw [Array.getElem?_eq_getElem hilt] at ho
          rw [Option.some.inj ho, e] at this
          simp at this
      · by_cases e : i = j
        · subst e
          rw [hio] at hd
          rw [hd, put_at _ _ _ (by rw [hK.2.1]; exact hfit i d (by rw [hio]; exact hd))]
          exact hGv
        · rw [getD_set_ne true e] at hl
          rw [put_off _ _ _ _ (fun e' => ?_)]
          · exact hmono _ _ (hG j d hj hl hd)
          · rw [← hio] at e'
            exact hone i j hilt hj e (by rw [e']; simp) (by rw [e', hd])
    · have hon := hback i o ho e he
      have hl := hall e he hb
      refine hG e.on d (by omega) ?_ hd
      have hlt : e.on < listed.size := by omega
      rw [Array.getD_eq_getD_getElem?, Array.getElem?_eq_getElem hlt] at hl ⊢
      simpa using hl
  · rintro listed a w ⟨hsz, hSw, hK, hG⟩ hr
    have hall : ∀ n j, j < n → j < ops.size → listed.getD j true = true := by
      intro n
      induction n with
      | zero => intro j hj; omega
      | succ n ih =>
        intro j hj hjs
        cases hb : listed.getD j true with
        | true => rfl
        | false =>
          exfalso
          have hmem : j ∈ Region.ready .any ops listed := mem_ready.2 ⟨hb, ops[j], Array.getElem?_eq_getElem hjs, fun e he _ => by
            have hon := hback j _ (Array.getElem?_eq_getElem hjs) e he
            have h1 := ih e.on (by omega) (by omega)
            have hlt : e.on < listed.size := by omega
            rw [Array.getD_eq_getD_getElem?, Array.getElem?_eq_getElem hlt] at h1 ⊢
            simpa using h1⟩
          rw [hr] at hmem
          simp at hmem
    exact hend a w hSw hK (fun j d hj hd => hG j d hj (hall (j + 1) j (by omega) hj) hd)
  · unfold leftN
    refine Nat.le_trans (List.length_filter_le _ _) ?_
    simp
  · refine ⟨by simp, hS, ⟨rfl, rfl, fun _ _ => rfl⟩, fun j d hj hl hd => ?_⟩
    rw [Array.getD_eq_getD_getElem?, Array.getElem?_replicate, if_pos hj] at hl
    simp at hl

/-- The closed facts on the region: each slot is one operation's, lies in the frame, and who is waited for stands ahead. -/
def ssaOk (ops : Array Oper) (size : Nat) : Bool :=
  (List.range ops.size).all fun i =>
    ((List.range ops.size).all fun j => i == j || (dstOf ops i).isNone || dstOf ops i != dstOf ops j) &&
    ((dstOf ops i).all fun d => decide (d < size)) &&
    ((ops[i]?).all fun o => o.after.all fun e => decide (e.on < i))
theorem ssaOk_spec {ops : Array Oper} {size : Nat} (h : ssaOk ops size = true) :
    (∀ i j, i < ops.size → j < ops.size → i ≠ j → dstOf ops i ≠ none → dstOf ops i ≠ dstOf ops j) ∧ (∀ j d, dstOf ops j = some d → d < size) ∧ (∀ (i : Nat) (o : Oper), ops[i]? = some o → ∀ e ∈ o.after, e.on < i) := by
  unfold ssaOk at h
  rw [List.all_eq_true] at h
  refine ⟨fun i j hi hj hij hn => ?_, fun j d hd => ?_, fun i o ho e he => ?_⟩
  · have h1 := h i (List.mem_range.2 hi)
    simp only [Bool.and_eq_true, List.all_eq_true] at h1
    have h2 := h1.1.1 j (List.mem_range.2 hj)
    intro e
    cases hd : dstOf ops i with
    | none => exact hn hd
    | some d =>
      rw [← e] at h2
      simp [hij, hd] at h2
  · have hj : j < ops.size := by
      unfold dstOf at hd
      rcases Nat.lt_or_ge j ops.size with h' | h'
      · exact h'
      · rw [Array.getElem?_eq_none h'] at hd; simp at hd
    have h1 := h j (List.mem_range.2 hj)
    simp only [Bool.and_eq_true] at h1
    have h2 := h1.1.2
    rw [hd] at h2
    simpa using h2
  · have hi : i < ops.size := (Array.getElem?_eq_some_iff.1 ho).1
    have h1 := h i (List.mem_range.2 hi)
    simp only [Bool.and_eq_true] at h1
    have h2 := h1.2
    rw [ho] at h2
    simp only [Option.all_some, Array.all_eq_true_iff_forall_mem] at h2
    simpa using h2 e he
/-- THE LAW, the closed facts at once. -/
theorem region_ssa_ok {P : Program} {ops : Array Oper} {Q : Exit → Act → World → Prop} {id : Nat} {a0 : Act} {w0 : World} (S : World → Prop) (G : Nat → Value → World → Prop)
    (hm : P.follows .mixedOrders = true) (hok : ssaOk ops a0.tmps.size = true) (hS : S w0.drew)
    (hstep : ∀ (i : Nat) (o : Oper), ops[i]? = some o → ∀ a w, S w → KeptF ops a0 a → (∀ e ∈ o.after, Region.binds .any e = true → ∀ d, dstOf ops e.on = some d → G e.on (a.tmps.getD d undef) w) →
      wpOp P ops Q i (fun a' w' => ∃ v, a' = a.put o.dst v ∧ S w' ∧ (∀ j u, G j u w → G j u w') ∧ G i v w') a w)
    (hend : ∀ a w, S w → KeptF ops a0 a → (∀ j d, j < ops.size → dstOf ops j = some d → G j (a.tmps.getD d undef) w) → Q .normal a w) : (Code.region id ops true).wp P Q a0 w0 :=
  region_ssa S G hm (ssaOk_spec hok).1 (ssaOk_spec hok).2.1 (ssaOk_spec hok).2.2 hstep hend hS

theorem wanted_none {ops : Array Oper} {o : Oper} {a : Act} (h : o.guard = none) : Region.wanted o (yielded ops a.tmps) = true := by
  unfold Region.wanted; rw [h]
theorem wanted_some {ops : Array Oper} {o : Oper} {a : Act} {j d : Nat} {b : Bool} (h : o.guard = some (j, b)) (hd : dstOf ops j = some d) (hv : a.tmps.getD d undef = .bool b) : Region.wanted o (yielded ops a.tmps) = true := by
  have hy : yielded ops a.tmps j = some b := by
    unfold dstOf at hd
    unfold yielded
    rw [hd]
    rw [Array.getD_eq_getD_getElem?] at hv
    cases hx : a.tmps[d]? with
    | none => rw [hx] at hv; simp [undef] at hv
    | some x => rw [hx] at hv; simp at hv; subst hv; simp [hx]
  unfold Region.wanted
  rw [h]
  simp [hy]
/-- An operation that yields a value. -/
theorem wpOp_val {P : Program} {ops : Array Oper} {Q : Exit → Act → World → Prop} {i : Nat} {o : Oper} {K : Act → World → Prop} {a : Act} {w w' : World} {v : Value} (ho : ops[i]? = some o)
    (hw : Region.wanted o (yielded ops a.tmps) = true) (hx : (execOp a.eval o).run P w = .ok (.value v) w') (h : K (a.put o.dst v) w') : wpOp P ops Q i K a w := by
  unfold wpOp
  simp only [ho, hw, if_true]
  left
  unfold Oper.wp
  rw [hx]
  exact h
/-- An operation that calls. -/
theorem wpOp_call {P : Program} {ops : Array Oper} {Q : Exit → Act → World → Prop} {i : Nat} {o : Oper} {K : Act → World → Prop} {a : Act} {w w' : World} {f : FuncId} {args : Array Value} (ho : ops[i]? = some o)
    (hw : Region.wanted o (yielded ops a.tmps) = true) (hx : (execOp a.eval o).run P w = .ok (.enter f args) w') (h : Calls P f args w' fun e w'' => ∃ v, e = .returned v ∧ K (a.put o.dst v) w'') : wpOp P ops Q i K a w := by
  unfold wpOp
  simp only [ho, hw, if_true]
  left
  unfold Oper.wp
  rw [hx]
  show Calls P f args w' _
  refine Calls.mono h ?_
  rintro e w'' ⟨v, rfl, hk⟩
  exact hk
end Go.Proofs.YtafbdkebokhnlaaDoor
