/- A region that draws its order: what holds of the world may depend on which operations have come up; behind it the frame stands written out. No Go text here. -/
import Derived.Test.YtafbdkebokhnlaaDoorAnyr
namespace Go.Proofs.YtafbdkebokhnlaaDoor
open Go
set_option linter.unusedVariables false

def upd (f : Nat → Bool) (i : Nat) : Nat → Bool := fun j => bif Nat.beq j i then true else f j
/-- The first n operations' values, put. -/
def putAll (ops : Array Oper) (vals : Nat → Value) : Nat → Act → Act
  | 0, a => a
  | n + 1, a => (putAll ops vals n a).put (dstOf ops n) (vals n)
theorem putAll_zero (ops : Array Oper) (vals : Nat → Value) (a : Act) : putAll ops vals 0 a = a := rfl
theorem putAll_size (ops : Array Oper) (vals : Nat → Value) (a : Act) : ∀ n, (putAll ops vals n a).tmps.size = a.tmps.size
  | 0 => rfl
  | n + 1 => by show ((putAll ops vals n a).put _ _).tmps.size = _; rw [put_size, putAll_size ops vals a n]
theorem putAll_defers (ops : Array Oper) (vals : Nat → Value) (a : Act) : ∀ n, (putAll ops vals n a).defers = a.defers
  | 0 => rfl
  | n + 1 => by show ((putAll ops vals n a).put _ _).defers = _; rw [put_defers', putAll_defers ops vals a n]
theorem putAll_off (ops : Array Oper) (vals : Nat → Value) (a : Act) (s : Tmp) : ∀ n, (∀ i, i < n → dstOf ops i ≠ some s) → (putAll ops vals n a).tmps.getD s undef = a.tmps.getD s undef
  | 0, _ => rfl
  | n + 1, h => by
    show ((putAll ops vals n a).put _ _).tmps.getD s undef = _
    rw [put_off _ _ _ _ (h n (by omega)), putAll_off ops vals a s n (fun i hi => h i (by omega))]
theorem putAll_at (ops : Array Oper) (vals : Nat → Value) (a : Act) (s : Tmp) (hs : s < a.tmps.size) (hone : ∀ i j, i < ops.size → j < ops.size → i ≠ j → dstOf ops i ≠ none → dstOf ops i ≠ dstOf ops j) (j : Nat) (hd : dstOf ops j = some s) :
    ∀ n, j < n → n ≤ ops.size → (putAll ops vals n a).tmps.getD s undef = vals j
  | 0, h, _ => by omega
  | n + 1, h, hn => by
    show ((putAll ops vals n a).put _ _).tmps.getD s undef = _
    by_cases e : j = n
    · subst e
      rw [hd, put_at _ _ _ (by rw [putAll_size]; exact hs)]
    · rw [put_off _ _ _ _ (fun e' => hone j n (by omega) (by omega) e (by rw [hd]; simp) (by rw [hd, e'])), putAll_at ops vals a s hs hone j hd n (by omega) (by omega)]
theorem getD_ext {x y : Array Value} (hs : x.size = y.size) (h : ∀ s, s < x.size → x.getD s undef = y.getD s undef) : x = y := by
  apply Array.ext hs
  intro i h1 h2
  have := h i h1
  simpa [Array.getD_eq_getD_getElem?, h1, h2] using this
theorem act_ext {a b : Act} (h1 : a.tmps = b.tmps) (h2 : a.defers = b.defers) : a = b := by cases a; cases b; simp at h1 h2; rw [h1, h2]

theorem region_ssa2 {P : Program} {ops : Array Oper} {Q : Exit → Act → World → Prop} {id : Nat} {a0 : Act} {w0 : World} (S : (Nat → Bool) → World → Prop) (G : Nat → Value → World → Prop)
    (hm : P.follows .mixedOrders = true) (hok : ssaOk ops a0.tmps.size = true)
    (hS : ∀ f, (∀ j, j < ops.size → f j = false) → S f w0.drew)
    (hstep : ∀ (i : Nat) (o : Oper), ops[i]? = some o → ∀ f a w, f i = false → (∀ j o', ops[j]? = some o' → f j = true → ∀ e ∈ o'.after, Region.binds .any e = true → f e.on = true) → S f w → KeptF ops a0 a → (∀ e ∈ o.after, Region.binds .any e = true → f e.on = true ∧ ∀ d, dstOf ops e.on = some d → G e.on (a.tmps.getD d undef) w) →
      wpOp P ops Q i (fun a' w' => ∃ v, a' = a.put o.dst v ∧ S (upd f i) w' ∧ (∀ j u, G j u w → G j u w') ∧ G i v w') a w)
    (hend : ∀ f w (vals : Nat → Value), (∀ j, j < ops.size → f j = true) → S f w → (∀ j d, j < ops.size → dstOf ops j = some d → G j (vals j) w) → Q .normal (putAll ops vals ops.size a0) w) : (Code.region id ops true).wp P Q a0 w0 := by
  obtain ⟨hone, hfit, hback⟩ := ssaOk_spec hok
  refine wp_region_any hm (any_inv (fun listed a w => listed.size = ops.size ∧ (∀ j o', ops[j]? = some o' → listed.getD j true = true → ∀ e ∈ o'.after, Region.binds .any e = true → listed.getD e.on true = true) ∧ S (fun j => listed.getD j true) w ∧ KeptF ops a0 a ∧ ∀ j d, j < ops.size → listed.getD j true = true → dstOf ops j = some d → G j (a.tmps.getD d undef) w) ?_ ?_ _ _ _ _ ?_ ?_)
  · rintro listed a w i ⟨hsz, hcl, hSw, hK, hG⟩ hi
    obtain ⟨h0, o, ho, hall⟩ := mem_ready.1 hi
    have hio : dstOf ops i = o.dst := by unfold dstOf; rw [ho]; rfl
    have hilt : i < ops.size := (Array.getElem?_eq_some_iff.1 ho).1
    have hmon : ∀ j, listed.getD j true = true → (listed.setIfInBounds i true).getD j true = true := by
      intro j hj
      by_cases e : i = j
      · subst e
        rw [hj] at h0
        cases h0
      · rw [getD_set_ne true e]; exact hj
    refine wpOp_mono ?_ (hstep i o ho _ a w h0 hcl hSw hK (fun e he hb => ?_))
    · rintro a' w' ⟨v, rfl, hS', hmono, hGv⟩
      refine ⟨by simpa using hsz, ?_, ?_, ⟨by rw [put_defers']; exact hK.1, by rw [put_size]; exact hK.2.1, fun s hs => ?_⟩, fun j d hj hl hd => ?_⟩
      · intro j o' ho' hj e he hb
        by_cases e' : i = j
        · subst e'
          rw [ho] at ho'
          cases ho'
          have hon := hback i o ho e he
          have hl := hall e he hb
          have hlt : e.on < listed.size := by omega
          refine hmon _ ?_
          rw [Array.getD_eq_getD_getElem?, Array.getElem?_eq_getElem hlt] at hl ⊢
          simpa using hl
        · rw [getD_set_ne true e'] at hj
          exact hmon _ (hcl j o' ho' hj e he hb)
      · have hf : (fun j => (listed.setIfInBounds i true).getD j true) = upd (fun j => listed.getD j true) i := by
          funext j
          by_cases e : i = j
          · subst e
            unfold upd
            rw [Array.getD_eq_getD_getElem?, Array.getElem?_setIfInBounds]
            simp [hsz, hilt]
          · rw [getD_set_ne true e]
            unfold upd
            have : Nat.beq j i = false := by
              cases hb : Nat.beq j i with
              | false => rfl
              | true => exact absurd (Nat.eq_of_beq_eq_true hb).symm e
            rw [this]
            rfl
        rw [hf]
        exact hS'
      · rw [put_off _ _ _ _ (fun e => ?_)]
        · exact hK.2.2 s hs
        · have := Array.any_eq_false.1 hs i hilt
          rw [Array.getElem?_eq_getElem hilt] at ho
          rw [Option.some.inj ho, e] at this
          simp at this
      · by_cases e : i = j
        · subst e
          rw [hio] at hd
          rw [hd, put_at _ _ _ (by rw [hK.2.1]; exact hfit i d (by rw [hio]; exact hd))]
          exact hGv
        · rw [getD_set_ne true e] at hl
          rw [put_off _ _ _ _ (fun e' => ?_)]
          · exact hmono _ _ (hG j d hj hl hd)
          · rw [← hio] at e'
            exact hone i j hilt hj e (by rw [e']; simp) (by rw [e', hd])
    · have hon := hback i o ho e he
      have hl := hall e he hb
      have hlt : e.on < listed.size := by omega
      have hl' : listed.getD e.on true = true := by
        rw [Array.getD_eq_getD_getElem?, Array.getElem?_eq_getElem hlt] at hl ⊢
        simpa using hl
      exact ⟨hl', fun d hd => hG e.on d (by omega) hl' hd⟩
  · rintro listed a w ⟨hsz, hcl, hSw, hK, hG⟩ hr
    have hall : ∀ n j, j < n → j < ops.size → listed.getD j true = true := by
      intro n
      induction n with
      | zero => intro j hj; omega
      | succ n ih =>
        intro j hj hjs
        cases hb : listed.getD j true with
        | true => rfl
        | false =>
          exfalso
          have hmem : j ∈ Region.ready .any ops listed := mem_ready.2 ⟨hb, ops[j], Array.getElem?_eq_getElem hjs, fun e he _ => by
            have hon := hback j _ (Array.getElem?_eq_getElem hjs) e he
            have h1 := ih e.on (by omega) (by omega)
            have hlt : e.on < listed.size := by omega
            rw [Array.getD_eq_getD_getElem?, Array.getElem?_eq_getElem hlt] at h1 ⊢
            simpa using h1⟩
          rw [hr] at hmem
          simp at hmem
    have hl : ∀ j, j < ops.size → listed.getD j true = true := fun j hj => hall (j + 1) j (by omega) hj
    obtain ⟨vals, hv⟩ : ∃ vals : Nat → Value, ∀ j, vals j = (match dstOf ops j with | some d => a.tmps.getD d undef | none => undef) := ⟨_, fun _ => rfl⟩
    have hA : a = putAll ops vals ops.size a0 := by
      refine act_ext (getD_ext (by rw [putAll_size]; exact hK.2.1) (fun s hs => ?_)) (by rw [putAll_defers]; exact hK.1)
      by_cases hx : ∃ j, j < ops.size ∧ dstOf ops j = some s
      · obtain ⟨j, hj, hd⟩ := hx
        rw [putAll_at ops vals a0 s (by rw [← hK.2.1]; exact hs) hone j hd _ hj (Nat.le_refl _), hv j, hd]
      · rw [putAll_off ops vals a0 s _ (fun i hi e => hx ⟨i, hi, e⟩)]
        refine hK.2.2 s (Array.any_eq_false.2 (fun i hi => ?_))
        intro e
        refine hx ⟨i, hi, ?_⟩
        unfold dstOf
        rw [Array.getElem?_eq_getElem hi]
        simpa using e
    rw [hA]
    refine hend _ w vals hl hSw (fun j d hj hd => ?_)
    rw [hv j, hd]
    exact hG j d hj (hl j hj) hd
  · unfold leftN
    refine Nat.le_trans (List.length_filter_le _ _) ?_
    simp
  · have hrep : ∀ j, j < ops.size → (Array.replicate ops.size false).getD j true = false := by
      intro j hj
      rw [Array.getD_eq_getD_getElem?, Array.getElem?_replicate, if_pos hj]
      rfl
    refine ⟨by simp, fun j o' ho' hj => by
      rw [hrep j (Array.getElem?_eq_some_iff.1 ho').1] at hj
      simp at hj, hS _ hrep, ⟨rfl, rfl, fun _ _ => rfl⟩, fun j d hj hl hd => ?_⟩
    rw [hrep j hj] at hl
    simp at hl
end Go.Proofs.YtafbdkebokhnlaaDoor
