/- Contracts of the layers below over this seat, and the mathematics of fronts. All. -/
import Derived.Test.YtbkdgpeooeokmaaDoorBaseF
import Derived.Test.YtbkdgpeooeokmaaDoorBaseM
import Derived.Test.YtbkdgpeooeokmaaDoorBaseD
import Derived.WalkKit
import Derived.WalkSpells
import Derived.WalkLawsBesides
import Derived.Deep.RegionWith
import Derived.Laws.AppendOwnNone
import Derived.Deep.RegionHeld3
import Derived.Deep.AppendLies
import Derived.Lib.BitFns
import Derived.Lib.Small
import Derived.Lib.Walk
import Derived.Laws.IdiomStrings
import Derived.Orders
import Derived.Deep.LoopGhost
import Derived.Laws.CopyOwn
import Derived.Deep.OwnRows
import Derived.Deep.QuietTactic
import Derived.BigQuiet
import Derived.ProofKit
import Derived.OpenShut
import Derived.Deep.Slices
import Derived.Deep.Strs
import Derived.BigRegion
import Derived.Laws.EntriesVeiled
import Derived.Deep.RegionLaw
namespace Go.Proofs.YtbkdgpeooeokmaaDoor
open Go.RowKit
set_option linter.unusedVariables false

theorem keep_grown {w w' : World} {o : Obj} {row : Option Nat} {b off : Nat} {v : Value} (hg : ((w.alloc o).drew).grownBy w' row) (hp : b < w.heap.size) (hr : ∀ j, j = b → row ≠ some j) (hc : w.cell? ⟨b, off, none⟩ = some v) : w'.cell? ⟨b, off, none⟩ = some v := by
  rw [← hc]
  apply World.cell?_of_block
  show w'.heap[b]? = w.heap[b]?
  rw [hg.block b (by show b < (w.alloc o).heap.size; simp; omega) (fun e => hr b rfl e.symm)]
  exact Below.heap_alloc w o b hp

def flatFrom (pre : Int) : Int → List Int → List Int
  | _, [] => []
  | last, x :: xs => (x - halfI (pre * last) 15) :: flatFrom pre x xs

/-- The last sample, or what there was ahead. -/
def lastOf : Int → List Int → Int
  | l, [] => l
  | _, x :: xs => lastOf x xs

theorem flat_len (pre : Int) : ∀ (l : Int) (xs : List Int), (flatFrom pre l xs).length = xs.length
  | _, [] => rfl
  | _, x :: xs => by show (flatFrom pre x xs).length + 1 = xs.length + 1; rw [flat_len pre x xs]

theorem flat_append (pre : Int) : ∀ (l : Int) (xs ys : List Int), flatFrom pre l (xs ++ ys) = flatFrom pre l xs ++ flatFrom pre (lastOf l xs) ys
  | _, [], _ => rfl
  | l, x :: xs, ys => by
    show (x - halfI (pre * l) 15) :: flatFrom pre x (xs ++ ys) = (x - halfI (pre * l) 15) :: (flatFrom pre x xs ++ flatFrom pre (lastOf x xs) ys)
    rw [flat_append pre x xs ys]

theorem last_append : ∀ (l : Int) (xs ys : List Int), lastOf l (xs ++ ys) = lastOf (lastOf l xs) ys
  | _, [], _ => rfl
  | _, x :: xs, ys => last_append x xs ys

theorem last_snoc (l : Int) (xs : List Int) (y : Int) : lastOf l (xs ++ [y]) = y := by rw [last_append]; rfl

theorem flat_snoc (pre l : Int) (xs : List Int) (y : Int) : flatFrom pre l (xs ++ [y]) = flatFrom pre l xs ++ [y - halfI (pre * lastOf l xs) 15] := by rw [flat_append]; rfl

theorem last_at : ∀ (l : Int) (xs : List Int), lastOf l xs = if xs.length = 0 then l else xs.getD (xs.length - 1) 0
  | _, [] => rfl
  | _, [x] => rfl
  | _, x :: y :: xs => by
    show lastOf x (y :: xs) = _
    rw [last_at x (y :: xs)]
    simp [List.getD_eq_getElem?_getD]

/-- What is flattened fits. -/
def Smp (x : Int) : Prop := -32768 ≤ x ∧ x ≤ 32767
instance (x : Int) : Decidable (Smp x) := by unfold Smp; infer_instance

theorem half15 (y : Int) : halfI y 15 = divI y 32768 := by rw [halfI_yes y 15 (by decide) (by decide)]; rfl

theorem pre_bd (pre l : Int) (h0 : 0 ≤ pre) (h1 : pre ≤ 32767) (hl : Smp l) : -1073741824 ≤ pre * l ∧ pre * l ≤ 1073741824 := by
  obtain ⟨a, b⟩ := hl
  have := mul_bd pre l 32767 32768 (by decide) (by decide) ⟨by omega, h1⟩ ⟨a, by omega⟩
  omega

theorem flat_one (pre l x : Int) (h0 : 0 ≤ pre) (h1 : pre ≤ 32767) (hl : Smp l) (hx : Smp x) : -65536 ≤ x - halfI (pre * l) 15 ∧ x - halfI (pre * l) 15 ≤ 65536 := by
  have := pre_bd pre l h0 h1 hl
  obtain ⟨a, b⟩ := hx
  rw [half15, divI_eq _ _ (by decide)]
  omega

theorem flat_bd (pre : Int) (h0 : 0 ≤ pre) (h1 : pre ≤ 32767) : ∀ (l : Int) (xs : List Int), Smp l → (∀ x ∈ xs, Smp x) → ∀ y ∈ flatFrom pre l xs, -65536 ≤ y ∧ y ≤ 65536
  | _, [], _, _, y, hy => by cases hy
  | l, x :: xs, hl, hx, y, hy => by
    have hx0 := hx x (by simp)
    rcases List.mem_cons.1 hy with rfl | hy
    · exact flat_one pre l x h0 h1 hl hx0
    · exact flat_bd pre h0 h1 x xs hx0 (fun z hz => hx z (by simp [hz])) y hy

theorem last_smp : ∀ (l : Int) (xs : List Int), Smp l → (∀ x ∈ xs, Smp x) → Smp (lastOf l xs)
  | _, [], h, _ => h
  | _, x :: xs, _, h => last_smp x xs (h x (by simp)) (fun z hz => h z (by simp [hz]))

def framesN (s p n : Nat) : Nat := if n < s then 0 else (n - s) / p + 1

theorem frames_less (s p n : Nat) (h : n < s) : framesN s p n = 0 := by unfold framesN; rw [if_pos h]

theorem frames_more (s p n : Nat) (h0 : 0 < p) (hp : p ≤ s) (h : s ≤ n) : framesN s p n = framesN s p (n - p) + 1 := by
  unfold framesN
  rw [if_neg (by omega)]
  by_cases c : n - p < s
  · rw [if_pos c, Nat.div_eq_of_lt (by omega)]
  · rw [if_neg c, show n - s = (n - p - s) + p by omega, Nat.add_div_right _ h0]

/-- What is needed still: fewer than a frame. -/
theorem frames_rest (s p n : Nat) (h0 : 0 < p) (hp : p ≤ s) : framesN s p n * p ≤ n ∧ n - framesN s p n * p < s := by
  unfold framesN
  by_cases c : n < s
  · rw [if_pos c]; omega
  · rw [if_neg c, Nat.add_mul]
    have h1 := Nat.div_add_mod (n - s) p
    have h2 := Nat.mod_lt (n - s) h0
    rw [Nat.mul_comm] at h1
    omega

theorem frames_add (s p n m : Nat) (h0 : 0 < p) (hp : p ≤ s) : framesN s p (n + m) = framesN s p n + framesN s p (n - framesN s p n * p + m) := by
  by_cases c : n < s
  · rw [frames_less s p n c]; simp
  · obtain ⟨h1, h2⟩ := frames_rest s p n h0 hp
    generalize hk : framesN s p n = k at h1 h2 ⊢
    have : ∀ j, j ≤ k → framesN s p (n + m) = j + framesN s p (n + m - j * p) := by
      intro j
      induction j with
      | zero => intro _; simp
      | succ j ih =>
        intro hj
        rw [ih (by omega), frames_more s p (n + m - j * p) h0 hp ?_]
        · rw [Nat.add_mul, Nat.one_mul, Nat.sub_sub]; omega
        · -- frame number j is whole already
          have h3 : j + 1 ≤ (n - s) / p + 1 := by unfold framesN at hk; rw [if_neg c] at hk; omega
          have h4 : j * p ≤ n - s := by
            have := Nat.div_mul_le_self (n - s) p
            have h5 : j * p ≤ (n - s) / p * p := Nat.mul_le_mul_right p (by omega)
            omega
          omega
    rw [this k (Nat.le_refl _)]
    congr 2; omega

/-- Frame i of flattened samples. -/
def cutF (s p : Nat) (R : List Int) (i : Nat) : List Int := (R.drop (i * p)).take s

def toldF {β : Type} (g : List Int → β) (s p : Nat) (R : List Int) : List β := (List.range (framesN s p R.length)).map fun i => g (cutF s p R i)

def restF (s p : Nat) (R : List Int) : List Int := R.drop (framesN s p R.length * p)

theorem told_count {β : Type} (g : List Int → β) (s p : Nat) (R : List Int) : (toldF g s p R).length = framesN s p R.length := by simp [toldF]

theorem rest_len (s p : Nat) (R : List Int) : (restF s p R).length = R.length - framesN s p R.length * p := by simp [restF]

theorem rest_less (s p : Nat) (R : List Int) (h0 : 0 < p) (hp : p ≤ s) : (restF s p R).length < s := by rw [rest_len]; exact (frames_rest s p R.length h0 hp).2

theorem cut_len (s p : Nat) (R : List Int) (i : Nat) (h : i * p + s ≤ R.length) : (cutF s p R i).length = s := by simp [cutF]; omega

theorem cut_whole (s p : Nat) (R : List Int) (i : Nat) (h0 : 0 < p) (h : i < framesN s p R.length) : i * p + s ≤ R.length := by
  unfold framesN at h
  by_cases c : R.length < s
  · rw [if_pos c] at h; omega
  · rw [if_neg c] at h
    have h5 : i * p ≤ (R.length - s) / p * p := Nat.mul_le_mul_right p (by omega)
    have := Nat.div_mul_le_self (R.length - s) p
    omega

/-- More samples behind change no frame that is whole. -/
theorem cut_more (s p : Nat) (R T : List Int) (i : Nat) (h : i * p + s ≤ R.length) : cutF s p (R ++ T) i = cutF s p R i := by
  unfold cutF
  rw [List.drop_append_of_le_length (by omega), List.take_append_of_le_length (by simp; omega)]

theorem cut_rest (s p : Nat) (R T : List Int) (i k : Nat) (hk : k * p ≤ R.length) : cutF s p (R.drop (k * p) ++ T) i = cutF s p (R ++ T) (k + i) := by
  unfold cutF
  rw [← List.drop_append_of_le_length hk, List.drop_drop, Nat.add_mul]

/-- None is whole: nothing is told; one is: it is, and then those of the rest. -/
theorem told_none {β : Type} (g : List Int → β) (s p : Nat) (R : List Int) (h : R.length < s) : toldF g s p R = [] ∧ restF s p R = R := by
  unfold toldF restF; rw [frames_less s p _ h]; simp

theorem told_one {β : Type} (g : List Int → β) (s p : Nat) (R : List Int) (h0 : 0 < p) (hp : p ≤ s) (h : s ≤ R.length) : toldF g s p R = g (R.take s) :: toldF g s p (R.drop p) ∧ restF s p R = restF s p (R.drop p) := by
  have hl : (R.drop p).length = R.length - p := by simp
  have hf := frames_more s p R.length h0 hp h
  constructor
  · unfold toldF
    rw [hf, hl, List.range_succ_eq_map, List.map_cons, List.map_map]
    congr 1
    · simp [cutF]
    · apply List.map_congr_left
      intro i _
      show g (cutF s p R (i + 1)) = g (cutF s p (R.drop p) i)
      unfold cutF
      rw [List.drop_drop, Nat.add_mul, Nat.one_mul, Nat.add_comm]
  · unfold restF
    rw [hf, hl, List.drop_drop, Nat.add_mul, Nat.one_mul, Nat.add_comm]

/-- What comes behind is told as of all at once. -/
theorem told_push {β : Type} (g : List Int → β) (s p : Nat) (R T : List Int) (h0 : 0 < p) (hp : p ≤ s) : toldF g s p (R ++ T) = toldF g s p R ++ toldF g s p (restF s p R ++ T) := by
  obtain ⟨h1, _⟩ := frames_rest s p R.length h0 hp
  have ha := frames_add s p R.length T.length h0 hp
  have hl : (restF s p R ++ T).length = R.length - framesN s p R.length * p + T.length := by rw [List.length_append, rest_len]
  unfold toldF
  rw [List.length_append, ha, hl, List.range_add, List.map_append, List.map_map]
  congr 1
  · apply List.map_congr_left
    intro i hi
    rw [cut_more s p R T i (cut_whole s p R i h0 (List.mem_range.1 hi))]
  · apply List.map_congr_left
    intro i _
    show g (cutF s p (R ++ T) (framesN s p R.length + i)) = g (cutF s p (restF s p R ++ T) i)
    unfold restF
    rw [cut_rest s p R T i _ h1]

theorem rest_push (s p : Nat) (R T : List Int) (h0 : 0 < p) (hp : p ≤ s) : restF s p (R ++ T) = restF s p (restF s p R ++ T) := by
  obtain ⟨h1, _⟩ := frames_rest s p R.length h0 hp
  have ha := frames_add s p R.length T.length h0 hp
  have hl : (restF s p R ++ T).length = R.length - framesN s p R.length * p + T.length := by rw [List.length_append, rest_len]
  show (R ++ T).drop (framesN s p (R ++ T).length * p) = (restF s p R ++ T).drop (framesN s p (restF s p R ++ T).length * p)
  rw [List.length_append, ha, hl, Nat.add_mul]
  unfold restF
  rw [← List.drop_append_of_le_length h1, List.drop_drop]

/-- How many samples there were, the last one, and those that are needed still, flattened. -/
structure StD where
  n : Nat
  last : Int
  rest : List Int

def stNone : StD := ⟨0, 0, []⟩

def stPush (s p : Nat) (pre : Int) (t : StD) (ys : List Int) : StD := ⟨t.n + ys.length, lastOf t.last ys, restF s p (t.rest ++ flatFrom pre t.last ys)⟩

def stTold {β : Type} (g : List Int → β) (s p : Nat) (pre : Int) (t : StD) (ys : List Int) : List β := toldF g s p (t.rest ++ flatFrom pre t.last ys)

/-- A stream that has these samples. -/
def stOf (s p : Nat) (pre : Int) (xs : List Int) : StD := ⟨xs.length, lastOf 0 xs, restF s p (flatFrom pre 0 xs)⟩

/-- All frames of sound at once. -/
def wholeF {β : Type} (g : List Int → β) (s p : Nat) (pre : Int) (xs : List Int) : List β := toldF g s p (flatFrom pre 0 xs)

theorem st_none (s p : Nat) (pre : Int) (h : 0 < s) : stOf s p pre [] = stNone := by
  unfold stOf stNone
  rw [show restF s p (flatFrom pre 0 []) = [] by simp [restF, flatFrom]]; rfl

theorem st_push (s p : Nat) (pre : Int) (xs ys : List Int) (h0 : 0 < p) (hp : p ≤ s) : stPush s p pre (stOf s p pre xs) ys = stOf s p pre (xs ++ ys) := by
  show (⟨xs.length + ys.length, lastOf (lastOf 0 xs) ys, restF s p (restF s p (flatFrom pre 0 xs) ++ flatFrom pre (lastOf 0 xs) ys)⟩ : StD) = ⟨(xs ++ ys).length, lastOf 0 (xs ++ ys), restF s p (flatFrom pre 0 (xs ++ ys))⟩
  rw [last_append, flat_append, rest_push s p (flatFrom pre 0 xs) _ h0 hp, List.length_append]

theorem st_told {β : Type} (g : List Int → β) (s p : Nat) (pre : Int) (xs ys : List Int) (h0 : 0 < p) (hp : p ≤ s) :
    wholeF g s p pre (xs ++ ys) = wholeF g s p pre xs ++ stTold g s p pre (stOf s p pre xs) ys := by
  unfold wholeF stTold stOf
  rw [flat_append, told_push g s p _ _ h0 hp]

theorem whole_count {β : Type} (g : List Int → β) (s p : Nat) (pre : Int) (xs : List Int) : (wholeF g s p pre xs).length = framesN s p xs.length := by
  unfold wholeF; rw [told_count, flat_len]

/-- Two parts tell what one tells. -/
theorem told_two {β : Type} (g : List Int → β) (s p : Nat) (pre : Int) (t : StD) (ys zs : List Int) (h0 : 0 < p) (hp : p ≤ s) :
    stTold g s p pre t (ys ++ zs) = stTold g s p pre t ys ++ stTold g s p pre (stPush s p pre t ys) zs := by
  unfold stTold stPush
  rw [flat_append, ← List.append_assoc, told_push g s p _ _ h0 hp]

theorem push_two (s p : Nat) (pre : Int) (t : StD) (ys zs : List Int) (h0 : 0 < p) (hp : p ≤ s) : stPush s p pre t (ys ++ zs) = stPush s p pre (stPush s p pre t ys) zs := by
  show (⟨t.n + (ys ++ zs).length, lastOf t.last (ys ++ zs), restF s p (t.rest ++ flatFrom pre t.last (ys ++ zs))⟩ : StD) = ⟨t.n + ys.length + zs.length, lastOf (lastOf t.last ys) zs, restF s p (restF s p (t.rest ++ flatFrom pre t.last ys) ++ flatFrom pre (lastOf t.last ys) zs)⟩
  rw [flat_append, ← List.append_assoc, rest_push s p (t.rest ++ flatFrom pre t.last ys) _ h0 hp, last_append, List.length_append, Nat.add_assoc]

def rightF (size hop bands coefs pre : Int) : Prop := (size = 16 ∨ size = 32 ∨ size = 64) ∧ 1 ≤ hop ∧ hop ≤ size ∧ (bands = 4 ∨ bands = 8 ∨ bands = 16) ∧ 1 ≤ coefs ∧ coefs ≤ bands ∧ 0 ≤ pre ∧ pre ≤ 32767
instance (a b c d e : Int) : Decidable (rightF a b c d e) := by unfold rightF; infer_instance

def winnedL (n : Nat) (ys : List Int) : List Int := mkL n fun t => halfI (ys.getD t 0 * winAt n t) 14

def loudL (n bands : Nat) (ys : List Int) : List Int :=
  logsL (bandsL (powL (downL (movS (n / 2) (winnedL n ys)) (partsL cosC (n / 2) (winnedL n ys))) (downL (movS (n / 2) (winnedL n ys)) (partsL sinC (n / 2) (winnedL n ys)))) (edgesL (n / 2 + 1) bands))

theorem loud_len (n bands : Nat) (ys : List Int) : (loudL n bands ys).length = bands := by unfold loudL; rw [logs_len, bands_len, edgesL, mkL_len]; omega

def frameI (n bands coefs : Nat) (ys : List Int) : List Int := dctL coefs (mkL bands fun m => (loudL n bands ys).getD m 0 + 512 * movS (n / 2) (winnedL n ys))

theorem frame_len (n bands coefs : Nat) (ys : List Int) : (frameI n bands coefs ys).length = coefs := dct_len _ _
end Go.Proofs.YtbkdgpeooeokmaaDoor
