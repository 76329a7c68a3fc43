/- The switch of LoopPlays, taken out of the translation. -/
import Derived.Test.YtclikkhaaiihdaaActs
import Derived.Test.YtclikkhaaiihdaaNil
import Derived.Deep.CutBlock
import Derived.Deep.DeepCutAuto
namespace Go.Proofs.Ytclikkhaaiihdaa
open Go.RowKit
set_option linter.unusedVariables false

/-- Block n of a text. -/
def findBlock (n : Nat) : Code → Option Code
  | .block m c => if m = n then some (.block m c) else findBlock n c
  | .seq a b => match findBlock n a with
    | some c => some c
    | none => findBlock n b
  | .loop c => findBlock n c
  | .scope c => findBlock n c
  | .cond _ a b => match findBlock n a with
    | some c => some c
    | none => findBlock n b
  | _ => none
noncomputable def sw2 : Code := (Try.f3.body.bind (findBlock 2)).getD .skip
theorem and_15 (n : Int) : bits .and .i64 n 15 = n % 16 := i64_mask n 15 4 (by decide) (by decide)
theorem and_62 (n : Int) : bits .and .i64 n 4611686018427387903 = n % 4611686018427387904 := i64_mask n 4611686018427387903 62 (by decide) (by decide)

theorem Lies.but {X : Nat → Prop} {w w' : World} {a : Option Addr} {xs : List Int} (h : Lies w a xs) (hb : But X w w') (hne : xs ≠ [] → ∀ p, a = Option.some p → ¬ X p.block) : Lies w' a xs := by
  rcases h with h | ⟨b, off, rfl, hl, hc⟩
  · exact .inl h
  · refine .inr ⟨b, off, rfl, Nat.lt_of_lt_of_le hl hb.size, fun j hj => ?_⟩
    have : w'.cell? ⟨b, off + j, none⟩ = w.cell? ⟨b, off + j, none⟩ := World.cell?_of_block (hb.block b hl (hne (by rintro rfl; simp at hj) _ rfl))
    rw [this]
    exact hc j hj

theorem get_both (B l b c g m n3 d R p h : Nat) (cnt t : Int) (L Lm : List Int) (hy : Lay3 m L Lm) (ht : In64 t) (h0 : 0 ≤ cnt) (h1 : cnt ≤ 9223372036854775807) (hd : 1 ≤ d) (hd6 : d ≤ 4096) (hr : roomN m (d : Int) = R) (hR : 1 ≤ R) (hm : 2 + m ≤ n3) :
    ∃ (xs : List Int) (n : Nat) (v : Bool), Hid (xs.length = n) ∧ n ≤ 4096 ∧
      Hid (∀ W, Own B l b c g 2 m n3 d R cnt W L → Calls Try.prog 13 #[.pointer (some ⟨l, 0, none⟩), .int .i64 t] W fun r w' => ∃ a cap, r = .returned (.tuple #[.slice a n cap, .bool v]) ∧ Lies w' a xs ∧ Below W.heap.size W w') ∧
      Hid (∀ W, Rl B p h m d R cnt W Lm → Calls Try.prog 14 #[.pointer (some ⟨p, 0, none⟩), .int .i64 t] W fun r w' => ∃ a cap, r = .returned (.agg #[.slice a n cap, .bool v]) ∧ Lies w' a xs ∧ Below W.heap.size W w') := by
  by_cases hh : hasI cnt R t
  · refine ⟨rowL Lm (atI t R (d : Int)).toNat d, d, true, by unfold Hid; simp [rowL], hd6, fun W hW => ?_, fun W hW => ?_⟩
    · refine (lget_yes l b c g 2 m n3 R d cnt t L W hW.lo hW.ar hm h0 h1 hh).mono ?_
      rintro r w' ⟨q, rfl, hq, hc, hb⟩
      rw [Int.toNat_natCast, hy.row t hd hr hR] at hc
      exact ⟨_, _, rfl, hc.lies, hb⟩
    · refine (rget_yes B p h m d R cnt t Lm W hW h0 h1 hh hd6).mono ?_
      rintro r w' ⟨a, cap, rfl, hl, hb⟩
      exact ⟨a, cap, rfl, hl, hb⟩
  · refine ⟨[], 0, false, rfl, by omega, fun W hW => ?_, fun W hW => ?_⟩
    · refine (lget_no l b c g 2 m R d cnt t W hW.lo h0 h1 ht hh).mono ?_
      rintro r w' ⟨rfl, n, rfl⟩
      exact ⟨_, _, rfl, .inl rfl, below_drewN _ _⟩
    · refine (rget_no B p h m d R cnt t Lm W hW h0 h1 hh).mono ?_
      rintro r w' ⟨rfl, hb⟩
      exact ⟨_, _, rfl, .inl rfl, hb⟩

end Go.Proofs.Ytclikkhaaiihdaa
