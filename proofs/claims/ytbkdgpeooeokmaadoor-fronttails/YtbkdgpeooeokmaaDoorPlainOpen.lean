/- Structs and arrays of whole numbers, bools and rows that came in by value, opened: whatever their types. -/
import Derived.Test.YtbkdgpeooeokmaaDoorBase
import Derived.WalkKit
import Derived.ProofKit
import Derived.OpenShut
import Derived.Deep.Slices
import Derived.Deep.Strs
namespace Go.Proofs.YtbkdgpeooeokmaaDoor
open Go.ChangeShapes Go.WideShapes Go.ChangeAt Go.RowKit Go.Deep
set_option linter.unusedVariables false

inductive FK where
  | int
  | bool
  | ints
def FK.ok (W : World) : FK → Value → Prop
  | .int, v => ∃ z, v = .int .i64 z ∧ (Lit.int .i64 z).wf = true
  | .bool, v => ∃ b, v = .bool b
  | .ints, v => ∃ a len cap zs, v = .slice a len cap ∧ IsRow .i64 W a len cap zs
def Oks (W : World) : List FK → List Value → Prop
  | [], [] => True
  | k :: ks, v :: vs => k.ok W v ∧ Oks W ks vs
  | [], _ :: _ => False
  | _ :: _, [] => False
theorem oks_nil {W : World} {cs : List Value} (h : Oks W [] cs) : cs = [] := by cases cs with
  | nil => rfl
  | cons _ _ => exact h.elim
theorem oks_cons {W : World} {k : FK} {ks : List FK} {cs : List Value} (h : Oks W (k :: ks) cs) : ∃ v vs, cs = v :: vs ∧ k.ok W v ∧ Oks W ks vs := by cases cs with
  | nil => exact h.elim
  | cons v vs => exact ⟨v, vs, rfl, h.1, h.2⟩
theorem oks_append {W : World} : ∀ {ks ms : List FK} {cs ds : List Value}, Oks W ks cs → Oks W ms ds → Oks W (ks ++ ms) (cs ++ ds)
  | [], _, [], _, _, h => h
  | _ :: _, _, _ :: _, _, h, h' => ⟨h.1, oks_append h.2 h'⟩
  | [], _, _ :: _, _, h, _ => h.elim
  | _ :: _, _, [], _, h, _ => h.elim

/-- A type that is made of whole numbers, bools, rows; or fields of a struct, from a place on. -/
inductive Pl (P : Program) : (TypeId ⊕ (List Field × Nat)) → List FK → Prop where
  | int {t : TypeId} : P.underlying t = some (.int .i64) → P.cellsOf t = 1 → Pl P (.inl t) [.int]
  | bool {t : TypeId} : P.underlying t = some .bool → P.cellsOf t = 1 → Pl P (.inl t) [.bool]
  | ints {t e : TypeId} : P.underlying t = some (.slice e) → P.underlying e = some (.int .i64) → P.cellsOf e = 1 → P.cellsOf t = 1 → Pl P (.inl t) [.ints]
  | struct {t : TypeId} {fs : Array Field} {ks : List FK} : P.underlying t = some (.struct fs) → Pl P (.inr (fs.toList, 0)) ks → P.cellsOf t = ks.length → Pl P (.inl t) ks
  | nil {o : Nat} : Pl P (.inr ([], o)) []
  | cons {f : Field} {fs : List Field} {o : Nat} {ks rest : List FK} : f.offset = o → Pl P (.inl f.type) ks → Pl P (.inr (fs, o + ks.length)) rest → Pl P (.inr (f :: fs, o)) (ks ++ rest)
  | array {t e : TypeId} {n : Nat} {ks : List FK} : P.underlying t = some (.array n e) → Pl P (.inl e) ks → P.cellsOf t = n * ks.length → Pl P (.inl t) (List.replicate n ks).flatten

def PlSays {H : Type} (enc : TypeId × Value → H) (P : Program) (W : World) : (TypeId ⊕ (List Field × Nat)) → List FK → Prop
  | .inl t, ks => P.cellsOf t = ks.length ∧ ∀ fuel cs x, DataW.trod enc P W 0 (fun _ => true) true fuel t cs = some x → Oks W ks cs
  | .inr (fs, o), ks => ∀ n (cs : List Value), (∀ f ∈ fs, ∃ y, DataW.trod enc P W 0 (fun _ => true) true n f.type ((cs.drop f.offset).take (P.cellsOf f.type)) = some y) → Oks W ks ((cs.drop o).take ks.length)

theorem flat_rep_len {α : Type} (n : Nat) (ks : List α) : (List.replicate n ks).flatten.length = n * ks.length := by simp
theorem pl_open {H : Type} {enc : TypeId × Value → H} {P : Program} {W : World} {q : TypeId ⊕ (List Field × Nat)} {ks : List FK} (h : Pl P q ks) : PlSays enc P W q ks := by
  induction h with
  | int ht hc =>
    refine ⟨hc, fun fuel cs x hx => ?_⟩
    obtain ⟨z, rfl, _, hw⟩ := DataW.trod_int ht hx
    exact ⟨⟨z, rfl, hw⟩, trivial⟩
  | bool ht hc =>
    refine ⟨hc, fun fuel cs x hx => ?_⟩
    obtain ⟨b, rfl, _⟩ := DataW.trod_bool ht hx
    exact ⟨⟨b, rfl⟩, trivial⟩
  | ints ht he hce hc =>
    refine ⟨hc, fun fuel cs x hx => ?_⟩
    rcases open_ints ht he hce hx with ⟨rfl, _⟩ | ⟨a, len, cap, zs, rfl, _, hl, hm, hz, _, hcell, hwz⟩
    · exact ⟨⟨none, 0, 0, [], rfl, .inl ⟨rfl, rfl, rfl, rfl⟩⟩, trivial⟩
    · exact ⟨⟨some a, len, cap, zs, rfl, .inr ⟨a, rfl, hl, hm, by simpa using hz, hcell, hwz⟩⟩, trivial⟩
  | struct ht _ hc ih =>
    refine ⟨hc, fun fuel cs x hx => ?_⟩
    obtain ⟨xs, n, _, rfl, hl, hlen, hf⟩ := DataW.trod_struct ht hx
    have h := ih n cs fun f hmem => by
      obtain ⟨i, hi, rfl⟩ := List.getElem_of_mem hmem
      have hi' : i < xs.length := by rw [hlen]; simpa using hi
      exact ⟨xs[i], by rw [hf i _ (by simp)]; exact List.getElem?_eq_getElem hi'⟩
    rwa [List.drop_zero, List.take_of_length_le (by omega)] at h
  | nil => intro n cs _; exact trivial
  | cons ho _ _ ih1 ih2 =>
    rename_i f fs o ks rest _ _
    intro n cs hall
    obtain ⟨y, hy⟩ := hall f (by simp)
    rw [ho, ih1.1] at hy
    have h1 := ih1.2 _ _ _ hy
    have h2 := ih2 n cs fun g hg => hall g (by simp [hg])
    rw [List.length_append, List.take_add, List.drop_drop]
    exact oks_append h1 h2
  | array ht _ hc ih =>
    rename_i t e n ks _
    refine ⟨by rw [flat_rep_len]; exact hc, fun fuel cs x hx => ?_⟩
    obtain ⟨xs, m, _, rfl, hl, hlen, hel⟩ := DataW.trod_array ht hx
    have key : ∀ j, j ≤ n → Oks W (List.replicate j ks).flatten (cs.take (j * ks.length)) := by
      intro j
      induction j with
      | zero => intro _; simp [Oks]
      | succ j ihj =>
        intro hj
        have h1 := hel j (by omega)
        rw [ih.1] at h1
        have hi' : j < xs.length := by omega
        rw [List.getElem?_eq_getElem hi'] at h1
        have h2 := ih.2 _ _ _ h1
        rw [List.replicate_succ', List.flatten_append, Nat.add_mul, Nat.one_mul, List.take_add]
        exact oks_append (ihj (by omega)) (by simpa using h2)
    have h := key n (Nat.le_refl _)
    rwa [List.take_of_length_le (by omega)] at h

/-- A struct, an array that came in by value. -/
theorem struct_came {H : Type} {enc : TypeId × Value → H} {P : Program} {W : World} {r : Reach} {b0 : Nat} {t : TypeId} {fs : Array Field} {ks : List FK} {v : Value} {d : DataW H} {p : List MemPlace} (ht : P.underlying t = some (.struct fs)) (hp : Pl P (.inl t) ks)
    (hv : Value.okWide P W r b0 t v) (h : DataW.Trod enc P W 0 (fun _ => true) true t v d p) : ∃ l : List Value, v = .agg l.toArray ∧ Oks W ks l := by
  obtain ⟨cs, rfl, _⟩ := okWide_struct ht hv
  obtain ⟨fuel, hf⟩ := h
  obtain ⟨l⟩ := cs
  have hf' : DataW.trod enc P W 0 (fun _ => true) true fuel t l = some (d, p) := by simpa [Value.cells] using hf
  exact ⟨l, rfl, (pl_open hp).2 _ _ _ hf'⟩
theorem array_came {H : Type} {enc : TypeId × Value → H} {P : Program} {W : World} {r : Reach} {b0 : Nat} {t e : TypeId} {n : Nat} {ks : List FK} {v : Value} {d : DataW H} {p : List MemPlace} (ht : P.underlying t = some (.array n e)) (hp : Pl P (.inl t) ks)
    (hv : Value.okWide P W r b0 t v) (h : DataW.Trod enc P W 0 (fun _ => true) true t v d p) : ∃ l : List Value, v = .agg l.toArray ∧ Oks W ks l := by
  obtain ⟨cs, rfl, _⟩ : ∃ cs, v = .agg cs ∧ cs.size = P.cellsOf t ∧ Row.okWide P W r b0 t cs := by simpa [Value.okWide, ht] using hv
  obtain ⟨fuel, hf⟩ := h
  obtain ⟨l⟩ := cs
  have hf' : DataW.trod enc P W 0 (fun _ => true) true fuel t l = some (d, p) := by simpa [Value.cells] using hf
  exact ⟨l, rfl, (pl_open hp).2 _ _ _ hf'⟩
end Go.Proofs.YtbkdgpeooeokmaaDoor
