/- What stands already, over this seat. -/
import Derived.Test.YtclikkhaaiihdaaRows
import Derived.WalkKit
import Derived.WalkSpells
import Derived.WalkLawsBesides
import Derived.Deep.RegionWith
import Derived.Laws.AppendOwnNone
import Derived.Deep.RegionHeld3
import Derived.Deep.AppendLies
import Derived.Laws.IdiomStrings
import Derived.Orders
import Derived.Deep.LoopGhost
import Derived.Laws.CopyOwn
import Derived.Deep.OwnRows
import Derived.Deep.QuietTactic
import Derived.BigQuiet
import Derived.ProofKit
import Derived.OpenShut
import Derived.Deep.Slices
import Derived.Deep.Strs
import Derived.Lib.SliceRun
namespace Go.Proofs.Ytclikkhaaiihdaa
open Go.RowKit
set_option linter.unusedVariables false

def pw (b : Int) : Int := 2 ^ (b.toNat - 1)

def In64 (x : Int) : Prop := -9223372036854775808 ≤ x ∧ x ≤ 9223372036854775807

def fitsB (x b : Int) : Bool := decide (1 ≤ b ∧ b ≤ 64 ∧ -(pw b) ≤ x ∧ x ≤ pw b - 1)

theorem two_pow_le (m n : Nat) (h : m ≤ n) : (2 : Int) ^ m ≤ 2 ^ n := by
  have h1 : 2 ^ m ≤ 2 ^ n := Nat.pow_le_pow_right (by decide) h
  exact_mod_cast h1

theorem pw_pos (b : Int) : 1 ≤ pw b := by
  unfold pw
  have := Int.pow_pos (n := 2) (m := b.toNat - 1) (by decide)
  omega

theorem pw_le (b : Int) (h : b ≤ 64) : pw b ≤ 9223372036854775808 := by
  unfold pw
  have h1 : (2 : Int) ^ (b.toNat - 1) ≤ 2 ^ 63 := two_pow_le _ _ (by omega)
  simpa using h1

theorem i64_not_any (x : Int) (h : In64 x) : bits .xor .i64 (-1) x = -1 - x := by
  obtain ⟨h0, h1⟩ := h
  show IntKind.i64.wrap ((BitVec.ofInt 64 (-1) ^^^ BitVec.ofInt 64 x).toNat : Int) = _
  have h1' : BitVec.ofInt 64 (-1) = BitVec.allOnes 64 := by decide
  rw [h1', BitVec.allOnes_xor, BitVec.toNat_not, BitVec.toNat_ofInt, IntKind.wrap_i64]
  omega

theorem in_of_wf {x : Int} (h : (Lit.int .i64 x).wf = true) : In64 x := by
  simp [Lit.wf, IntKind.min, IntKind.max, IntKind.signed, IntKind.bits] at h
  exact ⟨by omega, by omega⟩

theorem hide {p : Prop} (h : p) : Hid p := h

theorem unhide {p : Prop} (h : Hid p) : p := h

theorem w64_in {n : Int} (h : In64 n) : wrap64 n = n := by obtain ⟨h0, h1⟩ := h; unfold wrap64; omega

theorem i64_mask (n m : Int) (k : Nat) (hk : k ≤ 62) (hm : (BitVec.ofInt 64 m).toNat = 2 ^ k - 1) : bits .and .i64 n m = n % 2 ^ k := by
  have key : (BitVec.ofInt 64 n &&& BitVec.ofInt 64 m).toNat = (n % ((2 ^ 64 : Nat) : Int)).toNat % 2 ^ k := by
    rw [BitVec.toNat_and, BitVec.toNat_ofInt, hm, Nat.and_two_pow_sub_one_eq_mod]
  show IntKind.i64.wrap ((BitVec.ofInt 64 n &&& BitVec.ofInt 64 m).toNat : Nat) = n % 2 ^ k
  rw [key, IntKind.wrap_i64]
  have h0 : 0 ≤ n % ((2 ^ 64 : Nat) : Int) := Int.emod_nonneg _ (by decide)
  have h1 : ((((n % ((2 ^ 64 : Nat) : Int)).toNat % 2 ^ k : Nat)) : Int) = n % 2 ^ k := by
    rw [Int.natCast_emod, Int.toNat_of_nonneg h0]
    have hd : ((2 ^ k : Nat) : Int) ∣ ((2 ^ 64 : Nat) : Int) := Int.natCast_dvd_natCast.2 (Nat.pow_dvd_pow 2 (by omega))
    rw [Int.emod_emod_of_dvd n hd]
    simp
  rw [h1]
  have h2 : (2 : Int) ^ k ≤ 2 ^ 62 := two_pow_le k 62 hk
  have h3 : (0 : Int) < 2 ^ k := Int.pow_pos (by decide)
  have h4 := Int.emod_nonneg n (b := 2 ^ k) (by omega)
  have h5 := Int.emod_lt_of_pos n h3
  generalize n % 2 ^ k = r at *
  generalize (2 : Int) ^ k = q at *
  have h6 : (2 : Int) ^ 62 = 4611686018427387904 := by decide
  omega

theorem i64_and63 (n : Int) : bits .and .i64 n 63 = n % 64 := i64_mask n 63 6 (by decide) (by decide)

theorem ret_bool {a b : Bool} (h : a = b) : Ending.returned (.bool a) = .returned (.bool b) := by rw [h]

set_option maxHeartbeats 400000 in
theorem ends_no (b : Int) (w : World) (hb : b < 1 ∨ 64 < b) :
    Calls Try.prog 43 #[.int .i64 b] w fun e w' => e = .returned (.tuple #[.int .i64 0, .int .i64 0, .bool false]) ∧ w' = w := by
  by_cases c1 : b < 1
  · go_enter Try.func43, Try.ntmps43
    go_wp2
    go_ret3
    exact ⟨rfl, rfl⟩
  · have c2 : 64 < b := by omega
    go_enter Try.func43, Try.ntmps43
    go_wp2
    go_ret3
    exact ⟨rfl, rfl⟩

theorem ends_val (b : Int) (h2 : b ≤ 64) : Ending.returned (.tuple #[.int .i64 (wrap64 (-2 ^ (b.toNat - 1))), .int .i64 (bits .xor .i64 (-1) (wrap64 (-2 ^ (b.toNat - 1)))), .bool true]) =
    Ending.returned (.tuple #[.int .i64 (-(pw b)), .int .i64 (pw b - 1), .bool true]) := by
  have e : (-2 ^ (b.toNat - 1) : Int) = -(pw b) := rfl
  have h3 := pw_pos b
  have h4 := pw_le b h2
  rw [e, w64_in ⟨by omega, by omega⟩, i64_not_any _ ⟨by omega, by omega⟩, show -1 - -(pw b) = pw b - 1 by omega]

set_option maxHeartbeats 400000 in
theorem ends_yes (b : Int) (w : World) (h1 : 1 ≤ b) (h2 : b ≤ 64) :
    Calls Try.prog 43 #[.int .i64 b] w fun e w' => e = .returned (.tuple #[.int .i64 (-(pw b)), .int .i64 (pw b - 1), .bool true]) ∧ w' = w := by
  go_enter Try.func43, Try.ntmps43
  go_wp2
  go_ret3
  exact ⟨ends_val b h2, rfl⟩

set_option maxHeartbeats 400000 in
theorem fits_any (x b : Int) (w : World) :
    Calls Try.prog 34 #[.int .i64 x, .int .i64 b] w fun e w' => e = .returned (.bool (fitsB x b)) ∧ w' = w := by
  by_cases hb : 1 ≤ b ∧ b ≤ 64
  · obtain ⟨h1, h2⟩ := hb
    have hv : fitsB x b = (decide (-(pw b) ≤ x) && decide (x ≤ pw b - 1)) := by
      unfold fitsB; simp [h1, h2]
    have Hv := hide hv
    clear hv
    by_cases c1 : -(pw b) ≤ x
    · go_enter Try.func34, Try.ntmps34
      go_wp2_with fail
      refine (ends_yes _ _ h1 h2).mono ?_
      rintro e w' ⟨rfl, rfl⟩
      go_wp2
      go_ret
      exact ⟨ret_bool (by rw [unhide Hv]; simp [c1]), rfl⟩
    · have c1' : decide (-(pw b) ≤ x) = false := by simpa using c1
      go_enter Try.func34, Try.ntmps34
      go_wp2_with fail
      refine (ends_yes _ _ h1 h2).mono ?_
      rintro e w' ⟨rfl, rfl⟩
      go_wp2
      go_ret
      exact ⟨ret_bool (by rw [unhide Hv, c1']; rfl), rfl⟩
  · have hv : fitsB x b = false := by unfold fitsB; simp; omega
    have Hv := hide hv
    clear hv
    go_enter Try.func34, Try.ntmps34
    go_wp2_with fail
    refine (ends_no _ _ (by omega)).mono ?_
    rintro e w' ⟨rfl, rfl⟩
    go_wp2
    go_ret
    exact ⟨ret_bool (by rw [unhide Hv]), rfl⟩

/-- A slice of int lies in memory: its numbers, cell by cell. -/
def Lies (w : World) (a : Option Addr) (xs : List Int) : Prop :=
  xs = [] ∨ ∃ b off, a = some ⟨b, off, none⟩ ∧ b < w.heap.size ∧ ∀ j, j < xs.length → w.cell? ⟨b, off + j, none⟩ = some (.int .i64 (xs.getD j 0))

theorem Lies.below {w w' : World} {a : Option Addr} {xs : List Int} (h : Lies w a xs) (hb : Below w.heap.size w w') : Lies w' a xs := by
  rcases h with h | ⟨b, off, ha, hlt, hc⟩
  · exact .inl h
  · exact .inr ⟨b, off, ha, Nat.lt_of_lt_of_le hlt hb.size, fun j hj => by rw [hb.cell (p := ⟨b, off + j, none⟩) hlt]; exact hc j hj⟩

def Small (xs : List Int) : Prop := ∀ x ∈ xs, In64 x

theorem Small.at {xs : List Int} (h : Small xs) (k : Nat) (hk : k < xs.length) : In64 (xs.getD k 0) := by
  rw [List.getD_eq_getElem?_getD, List.getElem?_eq_getElem hk]
  exact h _ (List.getElem_mem hk)

theorem World.heap_drew (w : World) : w.drew.heap = w.heap := rfl

def IsRow (k : IntKind) (w : World) (a : Option Addr) (len cap : Nat) (zs : List Int) : Prop :=
  (a = none ∧ len = 0 ∧ cap = 0 ∧ zs = []) ∨
  ∃ x, a = some x ∧ len ≤ cap ∧ cap ≤ maxLen ∧ zs.length = cap ∧ (∀ i, i < zs.length → w.cell? (x.add i) = some (.int k (zs.getD i 0))) ∧ ∀ n ∈ zs, (Lit.int k n).wf = true

theorem lt_of_cell {w : World} {p : Addr} {v : Value} (h : w.cell? p = some v) : p.block < w.heap.size := by
  rcases Nat.lt_or_ge p.block w.heap.size with h' | h'
  · exact h'
  · simp [World.cell?, Array.getElem?_eq_none h'] at h

theorem lies_of_row {w : World} {x : Addr} {zs : List Int} (n : Nat) (hn : n ≤ zs.length) (hc : ∀ i, i < zs.length → w.cell? (x.add i) = some (.int .i64 (zs.getD i 0))) : Lies w (some x) (zs.take n) := by
  by_cases h0 : n = 0
  · subst h0; exact .inl (by simp)
  · obtain ⟨b, off, spot⟩ := x
    have h1 := hc 0 (by omega)
    have hspot : spot = none := by simpa [Addr.add] using World.cell?_spot h1
    subst hspot
    refine .inr ⟨b, off, rfl, ?_, fun j hj => ?_⟩
    · have := lt_of_cell h1; simpa [Addr.add] using this
    · have hj' : j < n := by simp at hj; omega
      have h2 := hc j (by omega)
      rw [show (zs.take n).getD j 0 = zs.getD j 0 by simp [List.getD_eq_getElem?_getD, hj']]
      rw [Addr.add_lit] at h2
      exact h2

theorem small_take {zs : List Int} (n : Nat) (h : ∀ z ∈ zs, (Lit.int .i64 z).wf = true) : Small (zs.take n) := fun x hx => in_of_wf (h x (List.mem_of_mem_take hx))

theorem ob (bits : Int) : wrap64 (1 + Go.bits BinOp.and IntKind.i64 bits 63) = 1 + bits % 64 := by
  rw [i64_and63, w64_in ⟨by omega, by omega⟩]

theorem Try.info3 : (Try.prog.info? 3).map (fun i => (i.zero, i.size, i.bytes)) = some (some (.int .i64 0), 1, 8) := by kernel_rfl

theorem owned_lies {w : World} {base n : Nat} {v : Value} {xs : List Int} (h : w.ownsRow base 3 1 v n (xs.map (Value.int .i64))) :
    ∃ a cap, v = .slice a xs.length cap ∧ Lies w a xs ∧ xs.length = n := by
  have hn : xs.length = n := by have := h.1; simpa using this
  rcases h.2 with ⟨hv, h0⟩ | ⟨g, cap, cur, hv, hb, hg, _⟩
  · subst h0
    have hx : xs = [] := List.length_eq_zero_iff.1 hn
    subst hx
    exact ⟨none, 0, hv, .inl rfl, rfl⟩
  · refine ⟨some ⟨g, 0, none⟩, cap, by rw [hv, hn], .inr ⟨g, 0, rfl, (Array.getElem?_eq_some_iff.1 hg).1, fun j hj => ?_⟩, hn⟩
    have hc := h.cells (g := g) (by rw [hv]; rfl) j (.int .i64 (xs.getD j 0)) (by simp [List.getD_eq_getElem?_getD, List.getElem?_eq_getElem hj])
    rw [Addr.add_lit] at hc
    exact hc

theorem ints_one (xs : List Int) : ∀ u ∈ xs.map (Value.int .i64), u.oneCell' = true := by
  intro u hu
  obtain ⟨z, _, rfl⟩ := List.mem_map.1 hu
  rfl

theorem below_trans {w w1 w2 : World} (h1 : Below w.heap.size w w1) (h2 : Below w1.heap.size w1 w2) : Below w.heap.size w w2 := h1.trans (h2.mono h1.size)

def two (n : Int) : Int := 2 ^ n.toNat

theorem mod_bd (t n : Int) (h1 : 1 ≤ n) (h2 : n ≤ 1000000) : 0 ≤ (wrap64 (t.tmod n + n)).tmod n ∧ (wrap64 (t.tmod n + n)).tmod n < n := by
  have h3 := Int.tmod_lt_of_pos t (b := n) (by omega)
  have h4 := Int.lt_tmod_of_pos t (b := n) (by omega)
  rw [w64_in (n := t.tmod n + n) ⟨by omega, by omega⟩]
  exact ⟨Int.tmod_nonneg _ (by omega), Int.tmod_lt_of_pos _ (by omega)⟩

theorem append_new (w : World) (o : Obj) (x : Value) (t : TypeId) : ∀ j u, [x][j]? = some u → ((w.alloc o).alloc (.cells #[x] t)).cell? ((⟨w.heap.size + 1, 0, none⟩ : Addr).add j) = some u := by
  have h := cell_one_new (w.alloc o) x t
  rwa [World.size_alloc] at h

theorem owns_below {w w' : World} {base n : Nat} {v : Value} {xs : List Value} (h : w.ownsRow base 3 1 v n xs) (hb : Below w.heap.size w w') : w'.ownsRow base 3 1 v n xs := by
  refine ⟨h.1, ?_⟩
  rcases h.2 with h' | ⟨g, cap, cur, h1, h2, h3, h4⟩
  · exact .inl h'
  · exact .inr ⟨g, cap, cur, h1, h2, by rw [hb.block g (by have := Array.getElem?_eq_some_iff.1 h3; exact this.1)]; exact h3, h4⟩

/-- The document's Same, of two rows that hold the same numbers. -/
theorem same_any (a b : Option Addr) (cap cap' : Nat) (xs : List Int) (n : Nat) (hn : xs.length = n) (hm : n ≤ 1000000) (w : World) (ha : Lies w a xs) (hb : Lies w b xs) :
    Calls Try.prog 15 #[.slice a n cap, .slice b n cap'] w fun e w' => e = .returned (.bool true) ∧ Below w.heap.size w w' := by
  have HA := hide ha
  have HB := hide hb
  have HN := hide hn
  clear ha hb hn
  go_enter Try.func15, Try.ntmps15
  go_wp2
  go_loopw [5] (fun i wr => ∃ k : Nat, k ≤ n ∧ i = .int .i64 k ∧ Hid (Below w.heap.size w wr))
    (fun i _ => n - (intOf i).toNat)
  case atStart => exact ⟨0, Nat.zero_le _, rfl, Below.refl _ _⟩
  case round =>
    obtain ⟨k, hk, rfl, HBr⟩ := hrel
    by_cases c : k < n
    · obtain ⟨ba, oa, rfl, hlta, hca⟩ : ∃ b off, a = some ⟨b, off, none⟩ ∧ b < w.heap.size ∧ ∀ j, j < xs.length → w.cell? ⟨b, off + j, none⟩ = some (.int .i64 (xs.getD j 0)) := by
        rcases unhide HA with h | h
        · have := unhide HN; subst h; simp at this; omega
        · exact h
      obtain ⟨bb, ob, rfl, hltb, hcb⟩ : ∃ b' off, b = some ⟨b', off, none⟩ ∧ b' < w.heap.size ∧ ∀ j, j < xs.length → w.cell? ⟨b', off + j, none⟩ = some (.int .i64 (xs.getD j 0)) := by
        rcases unhide HB with h | h
        · have := unhide HN; subst h; simp at this; omega
        · exact h
      have hc1 : wr.cell? ⟨ba, oa + k, none⟩ = some (.int .i64 (xs.getD k 0)) := by rw [(unhide HBr).cell (p := ⟨ba, _, none⟩) hlta]; exact hca k (by rw [unhide HN]; exact c)
      have hc2 : wr.cell? ⟨bb, ob + k, none⟩ = some (.int .i64 (xs.getD k 0)) := by rw [(unhide HBr).cell (p := ⟨bb, _, none⟩) hltb]; exact hcb k (by rw [unhide HN]; exact c)
      clear hca hcb HA HB
      generalize xs.getD k 0 = z at hc1 hc2
      go_wp2
      go_region
      all_goals go_wp2
      go_roundw
      case rel => exact ⟨k + 1, by omega, by go_num, (unhide HBr).drew⟩
      case measure => simp [intOf]; omega
    · go_wp2
      go_ret
      exact ⟨rfl, unhide HBr⟩

/-- A row that is not empty: where it lies. -/
theorem Lies.some {w : World} {a : Option Addr} {xs : List Int} (h : Lies w a xs) (h0 : xs ≠ []) :
    ∃ b off, a = some ⟨b, off, none⟩ ∧ b < w.heap.size ∧ ∀ j, j < xs.length → w.cell? ⟨b, off + j, none⟩ = some (.int .i64 (xs.getD j 0)) := by
  rcases h with h | h
  · exact absurd h h0
  · exact h

/-- The bytes of a text. -/
def B (s : ByteArray) : List UInt8 := s.data.toList

theorem mod_at (t : Int) (n : Nat) (h1 : 1 ≤ n) (h2 : n ≤ 1000000) : ∃ i : Nat, (wrap64 (t.tmod (n : Int) + (n : Int))).tmod (n : Int) = (i : Int) ∧ i < n := by
  have h := mod_bd t n (by omega) (by omega)
  exact ⟨((wrap64 (t.tmod (n : Int) + (n : Int))).tmod (n : Int)).toNat, by omega, by omega⟩

theorem filter_lt {l : List Nat} {p q : Nat → Bool} (h : ∀ j, q j = true → p j = true) {i : Nat} (hi : i ∈ l) (hp : p i = true) (hq : q i = false) : (l.filter q).length < (l.filter p).length := by
  have hle : ∀ m : List Nat, (m.filter q).length ≤ (m.filter p).length := by
    intro m
    induction m with
    | nil => exact Nat.le_refl _
    | cons x m ih =>
      by_cases hx : q x = true
      · rw [List.filter_cons_of_pos hx, List.filter_cons_of_pos (h x hx)]; simp; exact ih
      · rw [List.filter_cons_of_neg hx]
        by_cases hx' : p x = true
        · rw [List.filter_cons_of_pos hx']; simp; omega
        · rw [List.filter_cons_of_neg hx']; exact ih
  induction l with
  | nil => simp at hi
  | cons x m ih =>
    rcases List.mem_cons.1 hi with rfl | hi
    · rw [List.filter_cons_of_neg (by simp [hq]), List.filter_cons_of_pos hp]
      have := hle m
      simp
      omega
    · have := ih hi
      by_cases hx : q x = true
      · rw [List.filter_cons_of_pos hx, List.filter_cons_of_pos (h x hx)]; simp; exact this
      · rw [List.filter_cons_of_neg hx]
        by_cases hx' : p x = true
        · rw [List.filter_cons_of_pos hx']; simp; omega
        · rw [List.filter_cons_of_neg hx']; exact this

/-- How many have not come up. -/
def leftN (ops : Array Oper) (listed : Array Bool) : Nat := ((List.range ops.size).filter fun i => !listed.getD i true).length

theorem any_inv {P : Program} {ops : Array Oper} {Q : Exit → Act → World → Prop} {md : Region.Mode} (Inv : Array Bool → Act → World → Prop)
    (hstep : ∀ listed a w i, Inv listed a w → i ∈ Region.ready md ops listed → wpOp P ops Q i (fun a' w' => Inv (listed.setIfInBounds i true) a' w') a w)
    (hend : ∀ listed a w, Inv listed a w → Region.ready md ops listed = [] → Q .normal a w) :
    ∀ fuel listed a w, leftN ops listed ≤ fuel → Inv listed a w → wpAny P md ops Q fuel listed a w := by
  intro fuel
  induction fuel with
  | zero =>
    intro listed a w hl hI
    have hr : Region.ready md ops listed = [] := by
      apply List.eq_nil_iff_forall_not_mem.2
      intro i hi
      obtain ⟨h0, o, ho, _⟩ := mem_ready.1 hi
      have hlt : i < ops.size := (Array.getElem?_eq_some_iff.1 ho).1
      have h1 : i ∈ (List.range ops.size).filter fun i => !listed.getD i true := List.mem_filter.2 ⟨List.mem_range.2 hlt, by rw [h0]; rfl⟩
      have h2 : (List.range ops.size).filter (fun i => !listed.getD i true) = [] := List.length_eq_zero_iff.1 (Nat.le_zero.1 hl)
      rw [h2] at h1
      simp at h1
    exact ⟨hr, hend _ _ _ hI hr⟩
  | succ fuel ih =>
    intro listed a w hl hI
    refine ⟨hend _ _ _ hI, fun i hi => ?_⟩
    obtain ⟨h0, o, ho, _⟩ := mem_ready.1 hi
    have hlt : i < ops.size := (Array.getElem?_eq_some_iff.1 ho).1
    refine wpOp_mono (fun a' w' h' => ih _ a' w' ?_ h') (hstep _ _ _ _ hI hi)
    have hlist : i < listed.size := by
      rcases Nat.lt_or_ge i listed.size with h | h
      · exact h
      · rw [Array.getD_eq_getD_getElem?, Array.getElem?_eq_none h] at h0; simp at h0
    have := filter_lt (l := List.range ops.size) (p := fun i => !listed.getD i true) (q := fun j => !(listed.setIfInBounds i true).getD j true) (by
      intro j hj
      by_cases e : i = j
      · subst e
        rw [Array.getD_eq_getD_getElem?, Array.getElem?_setIfInBounds] at hj
        simp [hlist] at hj
      · rw [getD_set_ne true e] at hj
        exact hj) (List.mem_range.2 hlt) (by show (!listed.getD i true) = true; rw [h0]; rfl) (by
      show (!(listed.setIfInBounds i true).getD i true) = false
      rw [Array.getD_eq_getD_getElem?, Array.getElem?_setIfInBounds]
      simp [hlist])
    have h2 : leftN ops listed = ((List.range ops.size).filter fun i => !listed.getD i true).length := rfl
    have h3 : leftN ops (listed.setIfInBounds i true) = ((List.range ops.size).filter fun j => !(listed.setIfInBounds i true).getD j true).length := rfl
    omega

/-- Slots that the region does not write are as they were. -/
def KeptF (ops : Array Oper) (a0 a : Act) : Prop :=
  a.defers = a0.defers ∧ a.tmps.size = a0.tmps.size ∧ ∀ s, (ops.any fun o => o.dst == some s) = false → a.tmps.getD s undef = a0.tmps.getD s undef

/-- The slot of operation j. -/
def dstOf (ops : Array Oper) (j : Nat) : Option Tmp := (ops[j]?).bind (·.dst)

theorem put_size (a : Act) (d : Option Tmp) (v : Value) : (a.put d v).tmps.size = a.tmps.size := by
  cases d <;> simp [Act.put]

theorem put_defers' (a : Act) (d : Option Tmp) (v : Value) : (a.put d v).defers = a.defers := by
  cases d <;> rfl

theorem put_at (a : Act) (d : Tmp) (v : Value) (h : d < a.tmps.size) : (a.put (some d) v).tmps.getD d undef = v := by
  simp [Act.put, Array.getD_eq_getD_getElem?, h]

theorem put_off (a : Act) (d : Option Tmp) (s : Tmp) (v : Value) (h : d ≠ some s) : (a.put d v).tmps.getD s undef = a.tmps.getD s undef := by
  cases d with
  | none => rfl
  | some d =>
    have : d ≠ s := fun e => h (by rw [e])
    simp [Act.put, Array.getD_eq_getD_getElem?, this]

/-- The closed facts on the region: each slot is one operation's, lies in the frame, and who is waited for stands ahead. -/
def ssaOk (ops : Array Oper) (size : Nat) : Bool :=
  (List.range ops.size).all fun i =>
    ((List.range ops.size).all fun j => i == j || (dstOf ops i).isNone || dstOf ops i != dstOf ops j) &&
    ((dstOf ops i).all fun d => decide (d < size)) &&
    ((ops[i]?).all fun o => o.after.all fun e => decide (e.on < i))

theorem ssaOk_spec {ops : Array Oper} {size : Nat} (h : ssaOk ops size = true) :
    (∀ i j, i < ops.size → j < ops.size → i ≠ j → dstOf ops i ≠ none → dstOf ops i ≠ dstOf ops j) ∧ (∀ j d, dstOf ops j = some d → d < size) ∧ (∀ (i : Nat) (o : Oper), ops[i]? = some o → ∀ e ∈ o.after, e.on < i) := by
  unfold ssaOk at h
  rw [List.all_eq_true] at h
  refine ⟨fun i j hi hj hij hn => ?_, fun j d hd => ?_, fun i o ho e he => ?_⟩
  · have h1 := h i (List.mem_range.2 hi)
    simp only [Bool.and_eq_true, List.all_eq_true] at h1
    have h2 := h1.1.1 j (List.mem_range.2 hj)
    intro e
    cases hd : dstOf ops i with
    | none => exact hn hd
    | some d =>
      rw [← e] at h2
      simp [hij, hd] at h2
  · have hj : j < ops.size := by
      unfold dstOf at hd
      rcases Nat.lt_or_ge j ops.size with h' | h'
      · exact h'
      · rw [Array.getElem?_eq_none h'] at hd; simp at hd
    have h1 := h j (List.mem_range.2 hj)
    simp only [Bool.and_eq_true] at h1
    have h2 := h1.1.2
    rw [hd] at h2
    simpa using h2
  · have hi : i < ops.size := (Array.getElem?_eq_some_iff.1 ho).1
    have h1 := h i (List.mem_range.2 hi)
    simp only [Bool.and_eq_true] at h1
    have h2 := h1.2
    rw [ho] at h2
    simp only [Option.all_some, Array.all_eq_true_iff_forall_mem] at h2
    simpa using h2 e he

theorem info_parts {P : Program} {t : TypeId} {z : Value} {s b : Nat} (h : (P.info? t).map (fun i => (i.zero, i.size, i.bytes)) = some (some z, s, b)) :
    ∃ i, P.info? t = some i ∧ i.zero = some z ∧ i.size = s ∧ i.bytes = b := by
  cases hi : P.info? t with
  | none => rw [hi] at h; simp at h
  | some i => rw [hi] at h; simp at h; exact ⟨i, rfl, h.1, h.2.1, h.2.2⟩

/-- All blocks but c are as they were. -/
structure Only (c : Nat) (w w' : World) : Prop where
  os : w'.os = w.os
  tape : w'.tape = w.tape
  output : w'.output = w.output
  size : w.heap.size ≤ w'.heap.size
  block : ∀ k, k < w.heap.size → k ≠ c → w'.heap[k]? = w.heap[k]?

theorem Only.refl (c : Nat) (w : World) : Only c w w := ⟨rfl, rfl, rfl, Nat.le_refl _, fun _ _ _ => rfl⟩

theorem Only.trans {c : Nat} {a b d : World} (h : Only c a b) (k : Only c b d) : Only c a d :=
  ⟨k.os.trans h.os, k.tape.trans h.tape, k.output.trans h.output, Nat.le_trans h.size k.size, fun i hi hc => (k.block i (Nat.lt_of_lt_of_le hi h.size) hc).trans (h.block i hi hc)⟩

theorem Only.of_below {c : Nat} {w w' : World} (h : Below w.heap.size w w') : Only c w w' := ⟨h.os, h.tape, h.output, h.size, fun k hk _ => h.block k hk⟩

theorem Only.alloc {c : Nat} {a w : World} (h : Only c a w) (o : Obj) : Only c a (w.alloc o) := h.trans (Only.of_below ((Below.refl _ w).alloc (Nat.le_refl _) o))

theorem Only.setCell {c : Nat} {a w : World} (h : Only c a w) {p : Addr} (hp : p.block = c) (u : Value) : Only c a (w.setCell p u) :=
  h.trans ⟨rfl, rfl, rfl, by simp [World.setCell], fun k _ hc => Below.heap_setCell _ _ _ _ (by omega)⟩

theorem Only.setNew {c : Nat} {a w : World} (h : Only c a w) {p : Addr} (hp : a.heap.size ≤ p.block) (u : Value) : Only c a (w.setCell p u) :=
  ⟨h.os, h.tape, h.output, by have := h.size; simpa [World.setCell] using this, fun k hk hc => by rw [Below.heap_setCell _ _ _ _ (by omega)]; exact h.block k hk hc⟩

theorem Only.drew {c : Nat} {a w : World} (h : Only c a w) : Only c a w.drew := ⟨h.os, h.tape, h.output, h.size, h.block⟩

theorem Only.below {c B : Nat} {w w' : World} (h : Only c w w') (h1 : B ≤ c) (h2 : B ≤ w.heap.size) : Below B w w' := ⟨h.os, h.tape, h.output, h.size, fun k hk => h.block k (by omega) (by omega)⟩

theorem Only.fresh {w w' : World} {o : Obj} (h : Only w.heap.size (w.alloc o) w') : Below w.heap.size w w' :=
  ((Below.refl _ w).alloc (Nat.le_refl _) o).trans (h.below (Nat.le_refl _) (by simp))

/-- A block of cells of its own. -/
def Cells (w : World) (c : Nat) (l : List Value) : Prop := ∃ t, w.heap[c]? = some (.cells l.toArray t (0, 0))

theorem Cells.lt {w : World} {c : Nat} {l : List Value} (h : Cells w c l) : c < w.heap.size := by
  obtain ⟨t, h⟩ := h
  exact (Array.getElem?_eq_some_iff.1 h).1

theorem Cells.cell {w : World} {c : Nat} {l : List Value} (h : Cells w c l) (i : Nat) (x : Value) (hx : l[i]? = some x) : w.cell? ⟨c, i, none⟩ = some x := by
  obtain ⟨t, h⟩ := h
  unfold World.cell?
  rw [h]
  simpa using hx

theorem Cells.free {w : World} {c : Nat} {l : List Value} (h : Cells w c l) (i : Nat) : w.frozen? ⟨c, i, none⟩ = false := by
  obtain ⟨t, h⟩ := h
  unfold World.frozen?
  rw [h]
  simp

theorem Cells.set {w : World} {c : Nat} {l : List Value} (h : Cells w c l) (i : Nat) (x : Value) : Cells (w.setCell ⟨c, i, none⟩ x) c (l.set i x) := by
  obtain ⟨t, h⟩ := h
  exact ⟨t, by simp [World.setCell, Array.getElem?_modify, h]⟩

theorem Cells.only {w w' : World} {c g : Nat} {l : List Value} (h : Cells w g l) (hb : Only c w w') (hg : g ≠ c) : Cells w' g l := by
  have hl := h.lt
  obtain ⟨t, h⟩ := h
  exact ⟨t, by rw [hb.block g hl hg]; exact h⟩

theorem Cells.below {w w' : World} {g : Nat} {l : List Value} (h : Cells w g l) (hb : Below w.heap.size w w') : Cells w' g l := by
  have hl := h.lt
  obtain ⟨t, h⟩ := h
  exact ⟨t, by rw [hb.block g hl]; exact h⟩

theorem Cells.alloc {w : World} {g : Nat} {l : List Value} (h : Cells w g l) (o : Obj) : Cells (w.alloc o) g l := h.below ((Below.refl _ w).alloc (Nat.le_refl _) o)

theorem Cells.drew {w : World} {g : Nat} {l : List Value} (h : Cells w g l) : Cells w.drew g l := h

theorem cells_new (w : World) (l : List Value) (t : TypeId) : Cells (w.alloc (.cells l.toArray t)) w.heap.size l := ⟨t, by
  show (w.heap.push _)[w.heap.size]? = _
  simp⟩

theorem Lies.only {w w' : World} {c : Nat} {a : Option Addr} {xs : List Int} (h : Lies w a xs) (ho : Only c w w') (hne : xs ≠ [] → ∀ p, a = Option.some p → p.block ≠ c) : Lies w' a xs := by
  rcases h with h | ⟨b, off, rfl, hb, hc⟩
  · exact .inl h
  · refine .inr ⟨b, off, rfl, Nat.lt_of_lt_of_le hb ho.size, fun j hj => ?_⟩
    have : w'.cell? ⟨b, off + j, none⟩ = w.cell? ⟨b, off + j, none⟩ := World.cell?_of_block (ho.block b hb (hne (by rintro rfl; simp at hj) _ rfl))
    rw [this]
    exact hc j hj

theorem Lies.ne {w : World} {c : Nat} {a : Option Addr} {xs : List Int} (h : Lies w a xs) (hc : w.heap.size ≤ c) : xs ≠ [] → ∀ p, a = Option.some p → p.block ≠ c := by
  intro h0 p hp
  rcases h with h | ⟨b, off, rfl, hb, _⟩
  · exact absurd h h0
  · cases hp
    show b ≠ c
    omega

theorem below_drewN (w : World) (n : Nat) : Below w.heap.size w (w.drewN n) := ⟨rfl, rfl, rfl, Nat.le_refl _, fun _ _ => rfl⟩

theorem owned_at {w : World} {base n : Nat} {v : Value} {xs : List Value} (h : w.ownsRow base 3 1 v n xs) : ∀ a m cap, v = .slice a m cap → ∀ p, a = some p → base ≤ p.block := by
  intro a m cap hv p hp
  rcases h.2 with ⟨h', _⟩ | ⟨g, cap', cur, h1, h2, _⟩
  · rw [h'] at hv; cases hv; cases hp
  · rw [h1] at hv; cases hv; cases hp; exact h2

def upd (f : Nat → Bool) (i : Nat) : Nat → Bool := fun j => bif Nat.beq j i then true else f j

/-- The first n operations' values, put. -/
def putAll (ops : Array Oper) (vals : Nat → Value) : Nat → Act → Act
  | 0, a => a
  | n + 1, a => (putAll ops vals n a).put (dstOf ops n) (vals n)

theorem putAll_size (ops : Array Oper) (vals : Nat → Value) (a : Act) : ∀ n, (putAll ops vals n a).tmps.size = a.tmps.size
  | 0 => rfl
  | n + 1 => by show ((putAll ops vals n a).put _ _).tmps.size = _; rw [put_size, putAll_size ops vals a n]

theorem putAll_defers (ops : Array Oper) (vals : Nat → Value) (a : Act) : ∀ n, (putAll ops vals n a).defers = a.defers
  | 0 => rfl
  | n + 1 => by show ((putAll ops vals n a).put _ _).defers = _; rw [put_defers', putAll_defers ops vals a n]

theorem putAll_off (ops : Array Oper) (vals : Nat → Value) (a : Act) (s : Tmp) : ∀ n, (∀ i, i < n → dstOf ops i ≠ some s) → (putAll ops vals n a).tmps.getD s undef = a.tmps.getD s undef
  | 0, _ => rfl
  | n + 1, h => by
    show ((putAll ops vals n a).put _ _).tmps.getD s undef = _
    rw [put_off _ _ _ _ (h n (by omega)), putAll_off ops vals a s n (fun i hi => h i (by omega))]

theorem putAll_at (ops : Array Oper) (vals : Nat → Value) (a : Act) (s : Tmp) (hs : s < a.tmps.size) (hone : ∀ i j, i < ops.size → j < ops.size → i ≠ j → dstOf ops i ≠ none → dstOf ops i ≠ dstOf ops j) (j : Nat) (hd : dstOf ops j = some s) :
    ∀ n, j < n → n ≤ ops.size → (putAll ops vals n a).tmps.getD s undef = vals j
  | 0, h, _ => by omega
  | n + 1, h, hn => by
    show ((putAll ops vals n a).put _ _).tmps.getD s undef = _
    by_cases e : j = n
    · subst e
      rw [hd, put_at _ _ _ (by rw [putAll_size]; exact hs)]
    · rw [put_off _ _ _ _ (fun e' => hone j n (by omega) (by omega) e (by rw [hd]; simp) (by rw [hd, e'])), putAll_at ops vals a s hs hone j hd n (by omega) (by omega)]

theorem getD_ext {x y : Array Value} (hs : x.size = y.size) (h : ∀ s, s < x.size → x.getD s undef = y.getD s undef) : x = y := by
  apply Array.ext hs
  intro i h1 h2
  have := h i h1
  simpa [Array.getD_eq_getD_getElem?, h1, h2] using this

theorem act_ext {a b : Act} (h1 : a.tmps = b.tmps) (h2 : a.defers = b.defers) : a = b := by cases a; cases b; simp at h1 h2; rw [h1, h2]

theorem region_ssa2 {P : Program} {ops : Array Oper} {Q : Exit → Act → World → Prop} {id : Nat} {a0 : Act} {w0 : World} (S : (Nat → Bool) → World → Prop) (G : Nat → Value → World → Prop)
    (hm : P.follows .mixedOrders = true) (hok : ssaOk ops a0.tmps.size = true)
    (hS : ∀ f, (∀ j, j < ops.size → f j = false) → S f w0.drew)
    (hstep : ∀ (i : Nat) (o : Oper), ops[i]? = some o → ∀ f a w, f i = false → (∀ j o', ops[j]? = some o' → f j = true → ∀ e ∈ o'.after, Region.binds .any e = true → f e.on = true) → S f w → KeptF ops a0 a → (∀ e ∈ o.after, Region.binds .any e = true → f e.on = true ∧ ∀ d, dstOf ops e.on = some d → G e.on (a.tmps.getD d undef) w) →
      wpOp P ops Q i (fun a' w' => ∃ v, a' = a.put o.dst v ∧ S (upd f i) w' ∧ (∀ j u, G j u w → G j u w') ∧ G i v w') a w)
    (hend : ∀ f w (vals : Nat → Value), (∀ j, j < ops.size → f j = true) → S f w → (∀ j d, j < ops.size → dstOf ops j = some d → G j (vals j) w) → Q .normal (putAll ops vals ops.size a0) w) : (Code.region id ops true).wp P Q a0 w0 := by
  obtain ⟨hone, hfit, hback⟩ := ssaOk_spec hok
  refine wp_region_any hm (any_inv (fun listed a w => listed.size = ops.size ∧ (∀ j o', ops[j]? = some o' → listed.getD j true = true → ∀ e ∈ o'.after, Region.binds .any e = true → listed.getD e.on true = true) ∧ S (fun j => listed.getD j true) w ∧ KeptF ops a0 a ∧ ∀ j d, j < ops.size → listed.getD j true = true → dstOf ops j = some d → G j (a.tmps.getD d undef) w) ?_ ?_ _ _ _ _ ?_ ?_)
  · rintro listed a w i ⟨hsz, hcl, hSw, hK, hG⟩ hi
    obtain ⟨h0, o, ho, hall⟩ := mem_ready.1 hi
    have hio : dstOf ops i = o.dst := by unfold dstOf; rw [ho]; rfl
    have hilt : i < ops.size := (Array.getElem?_eq_some_iff.1 ho).1
    have hmon : ∀ j, listed.getD j true = true → (listed.setIfInBounds i true).getD j true = true := by
      intro j hj
      by_cases e : i = j
      · subst e
        rw [hj] at h0
        cases h0
      · rw [getD_set_ne true e]; exact hj
    refine wpOp_mono ?_ (hstep i o ho _ a w h0 hcl hSw hK (fun e he hb => ?_))
    · rintro a' w' ⟨v, rfl, hS', hmono, hGv⟩
      refine ⟨by simpa using hsz, ?_, ?_, ⟨by rw [put_defers']; exact hK.1, by rw [put_size]; exact hK.2.1, fun s hs => ?_⟩, fun j d hj hl hd => ?_⟩
      · intro j o' ho' hj e he hb
        by_cases e' : i = j
        · subst e'
          rw [ho] at ho'
          cases ho'
          have hon := hback i o ho e he
          have hl := hall e he hb
          have hlt : e.on < listed.size := by omega
          refine hmon _ ?_
          rw [Array.getD_eq_getD_getElem?, Array.getElem?_eq_getElem hlt] at hl ⊢
          simpa using hl
        · rw [getD_set_ne true e'] at hj
          exact hmon _ (hcl j o' ho' hj e he hb)
      · have hf : (fun j => (listed.setIfInBounds i true).getD j true) = upd (fun j => listed.getD j true) i := by
          funext j
          by_cases e : i = j
          · subst e
            unfold upd
            rw [Array.getD_eq_getD_getElem?, Array.getElem?_setIfInBounds]
            simp [hsz, hilt]
          · rw [getD_set_ne true e]
            unfold upd
            have : Nat.beq j i = false := by
              cases hb : Nat.beq j i with
              | false => rfl
              | true => exact absurd (Nat.eq_of_beq_eq_true hb).symm e
            rw [this]
            rfl
        rw [hf]
        exact hS'
      · rw [put_off _ _ _ _ (fun e => ?_)]
        · exact hK.2.2 s hs
        · have := Array.any_eq_false.1 hs i hilt
          rw [Array.getElem?_eq_getElem hilt] at ho
          rw [Option.some.inj ho, e] at this
          simp at this
      · by_cases e : i = j
        · subst e
          rw [hio] at hd
          rw [hd, put_at _ _ _ (by rw [hK.2.1]; exact hfit i d (by rw [hio]; exact hd))]
          exact hGv
        · rw [getD_set_ne true e] at hl
          rw [put_off _ _ _ _ (fun e' => ?_)]
          · exact hmono _ _ (hG j d hj hl hd)
          · rw [← hio] at e'
            exact hone i j hilt hj e (by rw [e']; simp) (by rw [e', hd])
    · have hon := hback i o ho e he
      have hl := hall e he hb
      have hlt : e.on < listed.size := by omega
      have hl' : listed.getD e.on true = true := by
        rw [Array.getD_eq_getD_getElem?, Array.getElem?_eq_getElem hlt] at hl ⊢
        simpa using hl
      exact ⟨hl', fun d hd => hG e.on d (by omega) hl' hd⟩
  · rintro listed a w ⟨hsz, hcl, hSw, hK, hG⟩ hr
    have hall : ∀ n j, j < n → j < ops.size → listed.getD j true = true := by
      intro n
      induction n with
      | zero => intro j hj; omega
      | succ n ih =>
        intro j hj hjs
        cases hb : listed.getD j true with
        | true => rfl
        | false =>
          exfalso
          have hmem : j ∈ Region.ready .any ops listed := mem_ready.2 ⟨hb, ops[j], Array.getElem?_eq_getElem hjs, fun e he _ => by
            have hon := hback j _ (Array.getElem?_eq_getElem hjs) e he
            have h1 := ih e.on (by omega) (by omega)
            have hlt : e.on < listed.size := by omega
            rw [Array.getD_eq_getD_getElem?, Array.getElem?_eq_getElem hlt] at h1 ⊢
            simpa using h1⟩
          rw [hr] at hmem
          simp at hmem
    have hl : ∀ j, j < ops.size → listed.getD j true = true := fun j hj => hall (j + 1) j (by omega) hj
    obtain ⟨vals, hv⟩ : ∃ vals : Nat → Value, ∀ j, vals j = (match dstOf ops j with | some d => a.tmps.getD d undef | none => undef) := ⟨_, fun _ => rfl⟩
    have hA : a = putAll ops vals ops.size a0 := by
      refine act_ext (getD_ext (by rw [putAll_size]; exact hK.2.1) (fun s hs => ?_)) (by rw [putAll_defers]; exact hK.1)
      by_cases hx : ∃ j, j < ops.size ∧ dstOf ops j = some s
      · obtain ⟨j, hj, hd⟩ := hx
        rw [putAll_at ops vals a0 s (by rw [← hK.2.1]; exact hs) hone j hd _ hj (Nat.le_refl _), hv j, hd]
      · rw [putAll_off ops vals a0 s _ (fun i hi e => hx ⟨i, hi, e⟩)]
        refine hK.2.2 s (Array.any_eq_false.2 (fun i hi => ?_))
        intro e
        refine hx ⟨i, hi, ?_⟩
        unfold dstOf
        rw [Array.getElem?_eq_getElem hi]
        simpa using e
    rw [hA]
    refine hend _ w vals hl hSw (fun j d hj hd => ?_)
    rw [hv j, hd]
    exact hG j d hj (hl j hj) hd
  · unfold leftN
    refine Nat.le_trans (List.length_filter_le _ _) ?_
    simp
  · have hrep : ∀ j, j < ops.size → (Array.replicate ops.size false).getD j true = false := by
      intro j hj
      rw [Array.getD_eq_getD_getElem?, Array.getElem?_replicate, if_pos hj]
      rfl
    refine ⟨by simp, fun j o' ho' hj => by
      rw [hrep j (Array.getElem?_eq_some_iff.1 ho').1] at hj
      simp at hj, hS _ hrep, ⟨rfl, rfl, fun _ _ => rfl⟩, fun j d hj hl hd => ?_⟩
    rw [hrep j hj] at hl
    simp at hl

/-- All blocks but c and g are as they were. -/
structure Two (c g : Nat) (w w' : World) : Prop where
  os : w'.os = w.os
  tape : w'.tape = w.tape
  output : w'.output = w.output
  size : w.heap.size ≤ w'.heap.size
  block : ∀ k, k < w.heap.size → k ≠ c → k ≠ g → w'.heap[k]? = w.heap[k]?

theorem Two.refl (c g : Nat) (w : World) : Two c g w w := ⟨rfl, rfl, rfl, Nat.le_refl _, fun _ _ _ _ => rfl⟩

theorem Two.trans {c g : Nat} {a b d : World} (h : Two c g a b) (k : Two c g b d) : Two c g a d :=
  ⟨k.os.trans h.os, k.tape.trans h.tape, k.output.trans h.output, Nat.le_trans h.size k.size, fun i hi hc hg => (k.block i (Nat.lt_of_lt_of_le hi h.size) hc hg).trans (h.block i hi hc hg)⟩

theorem Two.of_below {c g : Nat} {w w' : World} (h : Below w.heap.size w w') : Two c g w w' := ⟨h.os, h.tape, h.output, h.size, fun k hk _ _ => h.block k hk⟩

theorem Two.of_left {c g : Nat} {w w' : World} (h : Only c w w') : Two c g w w' := ⟨h.os, h.tape, h.output, h.size, fun k hk hc _ => h.block k hk hc⟩

theorem Two.of_right {c g : Nat} {w w' : World} (h : Only g w w') : Two c g w w' := ⟨h.os, h.tape, h.output, h.size, fun k hk _ hg => h.block k hk hg⟩

theorem Two.below {c g B : Nat} {w w' : World} (h : Two c g w w') (h1 : B ≤ c) (h2 : B ≤ g) (h3 : B ≤ w.heap.size) : Below B w w' := ⟨h.os, h.tape, h.output, h.size, fun k hk => h.block k (by omega) (by omega) (by omega)⟩

theorem Only.setHere {c : Nat} {w : World} (i : Nat) (u : Value) : Only c w (w.setCell ⟨c, i, none⟩ u) := (Only.refl c w).setCell rfl u

theorem Cells.two {w w' : World} {c g k : Nat} {l : List Value} (h : Cells w k l) (hb : Two c g w w') (hc : k ≠ c) (hg : k ≠ g) : Cells w' k l := by
  have hl := h.lt
  obtain ⟨t, h⟩ := h
  exact ⟨t, by rw [hb.block k hl hc hg]; exact h⟩

theorem own_cells {w : World} {base n g : Nat} {xs : List Value} (h : w.ownsRow base 3 1 (.slice (some ⟨g, 0, none⟩) n n) n xs) : Cells w g xs := by
  rcases h.2 with ⟨h', _⟩ | ⟨g', cap, cur, h1, h2, h3, h4, h5, h6, h7⟩
  · cases h'
  · cases h1
    refine ⟨3, ?_⟩
    rw [h3, ← h7, List.take_of_length_le (by simp [h6])]

theorem Cells.inj {w : World} {c : Nat} {l m : List Value} (h : Cells w c l) (k : Cells w c m) : l = m := by
  obtain ⟨t, h⟩ := h
  obtain ⟨t', k⟩ := k
  rw [h] at k
  have := k
  simp at this
  exact this.1

/-- Numbers as cells. -/
def ints (L : List Int) : List Value := L.map (Value.int .i64)

theorem ints_len (L : List Int) : (ints L).length = L.length := by simp [ints]

theorem ints_at (L : List Int) (i : Nat) (h : i < L.length) : (ints L)[i]? = some (.int .i64 (L.getD i 0)) := by
  simp [ints, List.getD_eq_getElem?_getD, List.getElem?_eq_getElem h]

theorem ints_set (L : List Int) (i : Nat) (x : Int) : (ints L).set i (.int .i64 x) = ints (L.set i x) := by simp [ints, List.map_set]

theorem ints_zero (n : Nat) : (madeCells #[.int .i64 0] n).toList = ints (List.replicate n 0) := by
  rw [toList_madeCells_one]
  simp [ints]

theorem ints_one' (L : List Int) : ∀ u ∈ ints L, u.oneCell' = true := ints_one L

theorem Cells.lies {w : World} {g : Nat} {L : List Int} (h : Cells w g (ints L)) : Lies w (some ⟨g, 0, none⟩) L := by
  refine .inr ⟨g, 0, rfl, h.lt, fun j hj => ?_⟩
  rw [Nat.zero_add]
  exact h.cell j _ (ints_at L j hj)

/-- An arena of n words L, its trouble e: the struct in block c, the words in block g. -/
structure Ar (c g n : Nat) (w : World) (L : List Int) (e : Int) : Prop where
  len : L.length = n
  me : Cells w c [.slice (some ⟨g, 0, none⟩) n n, .int .i64 e]
  row : Cells w g (ints L)
  ne : c ≠ g

theorem Ar.two {c g n p q : Nat} {w w' : World} {L : List Int} {e : Int} (h : Ar c g n w L e) (hb : Two p q w w') (h1 : c ≠ p) (h2 : c ≠ q) (h3 : g ≠ p) (h4 : g ≠ q) : Ar c g n w' L e :=
  ⟨h.len, h.me.two hb h1 h2, h.row.two hb h3 h4, h.ne⟩

theorem Ar.below {c g n : Nat} {w w' : World} {L : List Int} {e : Int} (h : Ar c g n w L e) (hb : Below w.heap.size w w') : Ar c g n w' L e :=
  ⟨h.len, h.me.below hb, h.row.below hb, h.ne⟩

theorem Ar.under {c g n B : Nat} {w w' : World} {L : List Int} {e : Int} (h : Ar c g n w L e) (hb : Below B w w') (hc : c < B) (hg : g < B) : Ar c g n w' L e := by
  obtain ⟨h1, ⟨t, h2⟩, ⟨t', h3⟩, h4⟩ := h
  exact ⟨h1, ⟨t, by rw [hb.block c hc]; exact h2⟩, ⟨t', by rw [hb.block g hg]; exact h3⟩, h4⟩

theorem Ar.slice {c g n : Nat} {w : World} {L : List Int} {e : Int} (h : Ar c g n w L e) : w.cell? ⟨c, 0, none⟩ = some (.slice (some ⟨g, 0, none⟩) n n) := h.me.cell 0 _ rfl

theorem Ar.err {c g n : Nat} {w : World} {L : List Int} {e : Int} (h : Ar c g n w L e) : w.cell? ⟨c, 1, none⟩ = some (.int .i64 e) := h.me.cell 1 _ rfl

theorem Ar.word {c g n : Nat} {w : World} {L : List Int} {e : Int} (h : Ar c g n w L e) (i : Nat) (hi : i < n) : w.cell? ⟨g, i, none⟩ = some (.int .i64 (L.getD i 0)) := h.row.cell i _ (ints_at L i (by rw [h.len]; exact hi))

theorem Ar.setErr {c g n : Nat} {w : World} {L : List Int} {e : Int} (h : Ar c g n w L e) (e' : Int) : Ar c g n (w.setCell ⟨c, 1, none⟩ (.int .i64 e')) L e' := by
  refine ⟨h.len, h.me.set 1 _, h.row.only (Only.setHere 1 _) (fun h' => h.ne h'.symm), h.ne⟩

theorem Ar.setWord {c g n : Nat} {w : World} {L : List Int} {e : Int} (h : Ar c g n w L e) (i : Nat) (x : Int) : Ar c g n (w.setCell ⟨g, i, none⟩ (.int .i64 x)) (L.set i x) e := by
  refine ⟨by rw [List.length_set]; exact h.len, h.me.only (Only.setHere i _) h.ne, ?_, h.ne⟩
  rw [← ints_set]
  exact h.row.set i _

theorem Ar.setRow {c g n : Nat} {w w' : World} {L L' : List Int} {e : Int} (h : Ar c g n w L e) (ho : Only g w w') (hr : Cells w' g (ints L')) (hl : L'.length = n) : Ar c g n w' L' e :=
  ⟨hl, h.me.only ho h.ne, hr, h.ne⟩

/-- A part of the arena (c, g): m words from place o on. -/
def Pt (b c g o m : Nat) (w : World) : Prop := Cells w b [.pointer (some ⟨c, 0, none⟩), .slice (some ⟨g, o, none⟩) m m]

/-- The first trouble stays. -/
def fst (e k : Int) : Int := if e = 0 then k else e

def okW (x : Int) : Prop := -2147483648 ≤ x ∧ x ≤ 2147483647
instance (x : Int) : Decidable (okW x) := inferInstanceAs (Decidable (_ ∧ _))

def inR (m : Nat) (i : Int) : Prop := 0 ≤ i ∧ i < (m : Int)
instance (m : Nat) (i : Int) : Decidable (inR m i) := inferInstanceAs (Decidable (_ ∧ _))

def getI (L : List Int) (o m : Nat) (i : Int) : Int := if inR m i then L.getD (o + i.toNat) 0 else 0

def getE (m : Nat) (i e : Int) : Int := if inR m i then e else fst e 1

def putL (L : List Int) (o m : Nat) (i x : Int) : List Int := if inR m i ∧ okW x then L.set (o + i.toNat) x else L

def putE (m : Nat) (i x e : Int) : Int := if inR m i then (if okW x then e else fst e 16) else fst e 1

theorem fitsB_word (x : Int) : fitsB x 32 = decide (okW x) := by
  unfold fitsB okW
  have : pw 32 = 2147483648 := by decide
  rw [this]
  exact decide_eq_decide.2 (by omega)

set_option maxHeartbeats 1000000 in
theorem isword_any (x : Int) (w : World) : Calls Try.prog 39 #[.int .i64 x] w fun e w' => e = .returned (.bool (decide (okW x))) ∧ w' = w := by
  have hv := hide (fitsB_word x)
  go_enter Try.func39, Try.ntmps39
  go_wp2_with fail
  refine (fits_any _ _ _).mono ?_
  rintro e w' ⟨rfl, rfl⟩
  rw [unhide hv]
  go_wp2
  go_ret
  exact ⟨rfl, rfl⟩

set_option maxHeartbeats 1000000 in
theorem has_any (a : Option Addr) (m cap : Nat) (i : Int) (w : World) : Calls Try.prog 47 #[.slice a m cap, .int .i64 i] w fun e w' => e = .returned (.bool (decide (inR m i))) ∧ w' = w := by
  have hv := hide (show decide (inR m i) = (decide (0 ≤ i) && decide (i < (m : Int))) by rw [← Bool.decide_and]; exact decide_eq_decide.2 Iff.rfl)
  by_cases c1 : 0 ≤ i
  · go_enter Try.func47, Try.ntmps47
    go_wp2
    go_ret
    rw [unhide hv]
    exact ⟨by simp [c1], rfl⟩
  · go_enter Try.func47, Try.ntmps47
    go_wp2
    go_ret
    rw [unhide hv]
    exact ⟨by simp; omega, rfl⟩

set_option maxHeartbeats 1000000 in
theorem row_any (c g n : Nat) (L : List Int) (e : Int) (w : World) (h : Ar c g n w L e) : Calls Try.prog 37 #[.pointer (some ⟨c, 0, none⟩)] w fun e w' => e = .returned (.slice (some ⟨g, 0, none⟩) n n) ∧ w' = w := by
  have hc := h.slice
  go_enter Try.func37, Try.ntmps37
  go_wp2
  go_ret
  exact ⟨rfl, rfl⟩

set_option maxHeartbeats 1000000 in
theorem fail_any (c g n : Nat) (L : List Int) (e k : Int) (w : World) (h : Ar c g n w L e) : Calls Try.prog 48 #[.pointer (some ⟨c, 0, none⟩), .int .i64 k] w fun r w' => r = .returned (.tuple #[]) ∧ Only c w w' ∧ Ar c g n w' L (fst e k) := by
  have hc := h.err
  have hf : w.frozen? ⟨c, 1, none⟩ = false := h.me.free 1
  have H := hide h
  clear h
  unfold fst
  by_cases he : e = 0
  · rw [if_pos he]
    subst he
    go_enter Try.func48, Try.ntmps48
    go_wp2
    go_end0
    exact ⟨rfl, Only.setHere 1 _, (unhide H).setErr k⟩
  · rw [if_neg he]
    go_enter Try.func48, Try.ntmps48
    go_wp2
    go_end0
    exact ⟨rfl, Only.refl _ _, unhide H⟩

set_option maxHeartbeats 1000000 in
/-- get of the m words from o on. -/
theorem get_any (c g n o m : Nat) (L : List Int) (e i : Int) (w : World) (h : Ar c g n w L e) (hm : o + m ≤ n) :
    Calls Try.prog 45 #[.pointer (some ⟨c, 0, none⟩), .slice (some ⟨g, o, none⟩) m m, .int .i64 i] w fun r w' => r = .returned (.int .i64 (getI L o m i)) ∧ Only c w w' ∧ Ar c g n w' L (getE m i e) := by
  have H := hide h
  unfold getI getE
  by_cases hi : inR m i
  · rw [if_pos hi, if_pos hi]
    obtain ⟨k, rfl⟩ : ∃ k : Nat, i = (k : Int) := ⟨i.toNat, by unfold inR at hi; omega⟩
    have hk : k < m := by unfold inR at hi; omega
    have hcell := h.word (o + k) (by omega)
    have hd : decide (inR m (k : Int)) = true := decide_eq_true hi
    have HD := hide hd
    clear h hd hi
    go_enter Try.func45, Try.ntmps45
    go_wp2_with fail
    refine (has_any _ _ _ _ _).mono ?_
    rw [unhide HD]
    rintro e' w' ⟨rfl, rfl⟩
    go_wp2
    go_ret
    exact ⟨rfl, Only.refl _ _, unhide H⟩
  · rw [if_neg hi, if_neg hi]
    have hd : decide (inR m i) = false := decide_eq_false hi
    have HD := hide hd
    clear h hd hi
    go_enter Try.func45, Try.ntmps45
    go_wp2_with fail
    refine (has_any _ _ _ _ _).mono ?_
    rw [unhide HD]
    rintro e' w' ⟨rfl, rfl⟩
    go_wp2_with fail
    refine (fail_any c g n L e 1 _ (unhide H)).mono ?_
    rintro e' w' ⟨rfl, ho, ha⟩
    have HO := hide ho
    have HA := hide ha
    clear ho ha
    go_wp2
    go_ret
    exact ⟨rfl, unhide HO, unhide HA⟩

set_option maxHeartbeats 1000000 in
theorem ar_put_any (c g n o m : Nat) (L : List Int) (e i x : Int) (w : World) (h : Ar c g n w L e) (hm : o + m ≤ n) :
    Calls Try.prog 46 #[.pointer (some ⟨c, 0, none⟩), .slice (some ⟨g, o, none⟩) m m, .int .i64 i, .int .i64 x] w fun r w' => r = .returned (.tuple #[]) ∧ Two c g w w' ∧ Ar c g n w' (putL L o m i x) (putE m i x e) := by
  have H := hide h
  unfold putL putE
  by_cases hi : inR m i
  · by_cases hx : okW x
    · rw [if_pos ⟨hi, hx⟩, if_pos hi, if_pos hx]
      obtain ⟨k, rfl⟩ : ∃ k : Nat, i = (k : Int) := ⟨i.toNat, by unfold inR at hi; omega⟩
      have hk : k < m := by unfold inR at hi; omega
      have hcell := h.word (o + k) (by omega)
      have hfree : w.frozen? ⟨g, o + k, none⟩ = false := h.row.free (o + k)
      have HD := hide (show decide (inR m (k : Int)) = true from decide_eq_true hi)
      have HX := hide (show decide (okW x) = true from decide_eq_true hx)
      clear h hi hx
      go_enter Try.func46, Try.ntmps46
      go_wp2_with fail
      refine (has_any _ _ _ _ _).mono ?_
      rw [unhide HD]
      rintro e' w' ⟨rfl, rfl⟩
      go_wp2_with fail
      refine (isword_any _ _).mono ?_
      rw [unhide HX]
      rintro e' w' ⟨rfl, rfl⟩
      go_wp2
      go_end0
      exact ⟨rfl, Two.of_right (Only.setHere _ _), (unhide H).setWord _ x⟩
    · rw [if_neg (fun h => hx h.2), if_pos hi, if_neg hx]
      have HD := hide (show decide (inR m i) = true from decide_eq_true hi)
      have HX := hide (show decide (okW x) = false from decide_eq_false hx)
      clear h hi hx
      go_enter Try.func46, Try.ntmps46
      go_wp2_with fail
      refine (has_any _ _ _ _ _).mono ?_
      rw [unhide HD]
      rintro e' w' ⟨rfl, rfl⟩
      go_wp2_with fail
      refine (isword_any _ _).mono ?_
      rw [unhide HX]
      rintro e' w' ⟨rfl, rfl⟩
      go_wp2_with fail
      refine (fail_any c g n L e 16 _ (unhide H)).mono ?_
      rintro e' w' ⟨rfl, ho, ha⟩
      have HO := hide ho
      have HA := hide ha
      clear ho ha
      go_wp2
      go_end0
      exact ⟨rfl, Two.of_left (unhide HO), unhide HA⟩
  · rw [if_neg (fun h => hi h.1), if_neg hi]
    have HD := hide (show decide (inR m i) = false from decide_eq_false hi)
    clear h hi
    go_enter Try.func46, Try.ntmps46
    go_wp2_with fail
    refine (has_any _ _ _ _ _).mono ?_
    rw [unhide HD]
    rintro e' w' ⟨rfl, rfl⟩
    go_wp2_with fail
    refine (fail_any c g n L e 1 _ (unhide H)).mono ?_
    rintro e' w' ⟨rfl, ho, ha⟩
    have HO := hide ho
    have HA := hide ha
    clear ho ha
    go_wp2
    go_end0
    exact ⟨rfl, Two.of_left (unhide HO), unhide HA⟩

set_option maxHeartbeats 1000000 in
theorem len_any (c g n : Nat) (L : List Int) (e : Int) (w : World) (h : Ar c g n w L e) : Calls Try.prog 30 #[.pointer (some ⟨c, 0, none⟩)] w fun e w' => e = .returned (.int .i64 (n : Int)) ∧ w' = w := by
  have H := hide h
  clear h
  go_enter Try.func30, Try.ntmps30
  go_wp2_with fail
  refine (row_any c g n L e _ (unhide H)).mono ?_
  rintro e' w' ⟨rfl, rfl⟩
  go_wp2
  go_ret
  exact ⟨rfl, rfl⟩

set_option maxHeartbeats 1000000 in
theorem err_any (c g n : Nat) (L : List Int) (e : Int) (w : World) (h : Ar c g n w L e) : Calls Try.prog 27 #[.pointer (some ⟨c, 0, none⟩)] w fun r w' => r = .returned (.int .i64 e) ∧ w' = w := by
  have hc := h.err
  go_enter Try.func27, Try.ntmps27
  go_wp2
  go_ret
  exact ⟨rfl, rfl⟩

theorem only_setRow (w : World) (g : Nat) (cs : Array Value) : Only g w (w.setRow g cs) :=
  ⟨rfl, rfl, rfl, by simp [World.setRow], fun k _ hk => setRow_other w g k cs hk⟩

/-- copy of all n cells of a row of n. -/
theorem copy_run {w : World} {g n : Nat} (cap dCap : Nat) {sp : Option Addr} {cur cs : List Int} (hg : Cells w g (ints cur)) (hl : Lies w sp cs) (hn : cs.length = n) (hm : cur.length = n) :
    ∃ w', (Builtin.copy_ #[34, 34] 3 #[.slice (some ⟨g, 0, none⟩) n dCap, .slice sp n cap]).run Try.prog w = .ok (goInt n) w' ∧ Only g w w' ∧ Cells w' g (ints cs) := by
  have hsz : (Try.prog.info? 3).map (·.size) = some 1 := by
    obtain ⟨i0, hi, hz0, hz1, hz2⟩ := info_parts Try.info3
    rw [hi]
    simp [hz1]
  obtain ⟨t, hg⟩ := hg
  by_cases h0 : n = 0
  · subst h0
    obtain rfl : cs = [] := List.eq_nil_of_length_eq_zero hn
    obtain rfl : cur = [] := List.eq_nil_of_length_eq_zero hm
    exact ⟨w, run_copy_none (P := Try.prog) w 34 34 3 3 _ _ _ _ _ _ Try.underlying34 hsz rfl, Only.refl _ _, ⟨t, hg⟩⟩
  · rcases hl with rfl | ⟨b, off, rfl, hb, hc⟩
    · exact absurd hn (by simpa using fun h => h0 h.symm)
    · have hrun := run_copy_row (P := Try.prog) w 34 34 3 3 g 0 n dCap ⟨b, off, none⟩ n cap (ints cur).toArray t (ints cs) Try.underlying34 hsz hg (by rw [ints_len, hn]; exact (Nat.min_self n).symm)
        (by
          intro j v hv
          have hj : j < cs.length := by have := (List.getElem?_eq_some_iff.1 hv).1; rwa [ints_len] at this
          rw [ints_at cs j hj] at hv
          cases hv
          rw [Addr.add_lit]
          exact hc j hj) (by simp [ints_len]; omega) (ints_one' cs)
      rw [ints_len, hn] at hrun
      refine ⟨_, hrun, only_setRow _ _ _, ⟨t, ?_⟩⟩
      rw [setRow_heap w g _ _ t _ hg]
      simp [ints, hm]

set_option maxHeartbeats 1000000 in
theorem new_any (n : Nat) (hn : n ≤ 4096) (w : World) : Calls Try.prog 9 #[.int .i64 (n : Int)] w fun r w' => ∃ c g, r = .returned (.pointer (some ⟨c, 0, none⟩)) ∧ w.heap.size ≤ c ∧ w.heap.size ≤ g ∧ Ar c g n w' (List.replicate n 0) 0 ∧ Below w.heap.size w w' := by
  obtain ⟨i0, hi, hz0, hz1, hz2⟩ := info_parts Try.info3
  go_enter Try.func9, Try.ntmps9
  go_wp2_with (at_make; refine wpList_make_full _ rfl _ _ 34 rfl w.heap.size 3 i0 (.int .i64 0) 1 Try.underlying34 hi hz0 hz1 _ _ _ _ n rfl rfl rfl rfl ?m1 ?m2 ?m3 ?_)
  case m1 => rw [hz2]; omega
  case m2 => unfold maxLen; omega
  case m3 => exact Nat.le_refl _
  intro w1 hown hgr
  rw [ints_zero] at hown
  have HO := hide (own_cells hown)
  have HB := hide ((Below.refl w.heap.size w).grown hgr (Nat.le_refl _) (fun _ h => by cases h))
  clear hown hgr
  go_wp2
  go_ret
  have hlt := (unhide HO).lt
  refine ⟨_, w.heap.size, rfl, (unhide HB).size, Nat.le_refl _, ⟨by simp, cells_new w1 [_, _] 58, (unhide HO).alloc _, by omega⟩, (unhide HB).alloc (unhide HB).size _⟩

set_option maxHeartbeats 1000000 in
theorem new_no (n : Int) (hn : n < 0 ∨ 4096 < n) (w : World) : Calls Try.prog 9 #[.int .i64 n] w fun r w' => r = .returned (.pointer none) ∧ w' = w := by
  by_cases h : n < 0
  · go_enter Try.func9, Try.ntmps9
    go_wp2
    go_ret
    exact ⟨rfl, rfl⟩
  · have h2 : 4096 < n := by omega
    go_enter Try.func9, Try.ntmps9
    go_wp2
    go_ret
    exact ⟨rfl, rfl⟩

set_option maxHeartbeats 1000000 in
theorem words_any (c g n : Nat) (L : List Int) (e : Int) (w : World) (h : Ar c g n w L e) (hn : n ≤ 4096) :
    Calls Try.prog 21 #[.pointer (some ⟨c, 0, none⟩)] w fun r w' => ∃ b, r = .returned (.slice (some ⟨b, 0, none⟩) n n) ∧ w.heap.size ≤ b ∧ Cells w' b (ints L) ∧ Below w.heap.size w w' := by
  obtain ⟨i0, hi, hz0, hz1, hz2⟩ := info_parts Try.info3
  have H := hide h
  clear h
  go_enter Try.func21, Try.ntmps21
  go_wp2_with fail
  refine (len_any c g n L e _ (unhide H)).mono ?_
  rintro e' w' ⟨rfl, rfl⟩
  go_wp2_with (at_make; refine wpList_make_full _ rfl _ _ 34 rfl w'.heap.size 3 i0 (.int .i64 0) 1 Try.underlying34 hi hz0 hz1 _ _ _ _ n rfl rfl rfl rfl ?m1 ?m2 ?m3 ?_)
  case m1 => rw [hz2]; omega
  case m2 => unfold maxLen; omega
  case m3 => exact Nat.le_refl _
  intro w1 hown hgr
  rw [ints_zero] at hown
  have HO := hide (own_cells hown)
  have HB := hide ((Below.refl w'.heap.size w').grown hgr (Nat.le_refl _) (fun _ h => by cases h))
  have H1 := hide ((unhide H).below (unhide HB))
  clear hown hgr
  go_wp2_with fail
  refine (row_any c g n L e _ (unhide H1)).mono ?_
  rintro e' w2 ⟨rfl, rfl⟩
  obtain ⟨w3, hrun, ho, hc⟩ := copy_run n n (unhide HO) (unhide H1).row.lies (unhide H1).len (by simp)
  have HO3 := hide ho
  have HC3 := hide hc
  clear ho hc
  go_wp2
  go_ret
  exact ⟨w'.heap.size, rfl, Nat.le_refl _, unhide HC3, (unhide HB).trans ((unhide HO3).below (Nat.le_refl _) (unhide HB).size)⟩

set_option maxHeartbeats 1000000 in
theorem part_yes (c g n at_ m : Nat) (L : List Int) (e : Int) (w : World) (h : Ar c g n w L e) (hn : n ≤ 4096) (hm : at_ + m ≤ n) :
    Calls Try.prog 11 #[.pointer (some ⟨c, 0, none⟩), .int .i64 (at_ : Int), .int .i64 (m : Int)] w fun r w' => ∃ o, r = .returned (.pointer (some ⟨w.heap.size, 0, none⟩)) ∧ Pt w.heap.size c g o m w' ∧ o + m ≤ n ∧ (0 < m → o = at_) ∧ Below w.heap.size w w' := by
  have hc := h.slice
  have H := hide h
  clear h
  go_enter Try.func11, Try.ntmps11
  go_wp2_with fail
  refine (len_any c g n L e _ (unhide H)).mono ?_
  rintro e' w' ⟨rfl, rfl⟩
  go_wp2
  · go_ret
    exact ⟨rfl, 0, cells_new _ [_, _] 66, by omega, (Below.refl _ _).alloc (Nat.le_refl _) _⟩
  · go_ret
    exact ⟨rfl, at_, cells_new _ [_, _] 66, hm, fun _ => rfl, (Below.refl _ _).alloc (Nat.le_refl _) _⟩

set_option maxHeartbeats 1000000 in
theorem part_no (c g n : Nat) (at_ m : Int) (L : List Int) (e : Int) (w : World) (h : Ar c g n w L e) (hn : n ≤ 4096) (hat : In64 at_) (hm : In64 m) (hno : ¬ (0 ≤ at_ ∧ 0 ≤ m ∧ at_ + m ≤ n)) :
    Calls Try.prog 11 #[.pointer (some ⟨c, 0, none⟩), .int .i64 at_, .int .i64 m] w fun r w' => r = .returned (.pointer none) ∧ w' = w := by
  obtain ⟨hat1, hat2⟩ := hat
  obtain ⟨hm1, hm2⟩ := hm
  have H := hide h
  clear h
  by_cases h1 : at_ < 0
  · go_enter Try.func11, Try.ntmps11
    go_wp2
    go_ret
    exact ⟨rfl, rfl⟩
  · by_cases h2 : m < 0
    · go_enter Try.func11, Try.ntmps11
      go_wp2
      go_ret
      exact ⟨rfl, rfl⟩
    · have h3 : (n : Int) - m < at_ := by omega
      go_enter Try.func11, Try.ntmps11
      go_wp2_with fail
      refine (len_any c g n L e _ (unhide H)).mono ?_
      rintro e' w' ⟨rfl, rfl⟩
      go_wp2
      go_ret
      exact ⟨rfl, rfl⟩

set_option maxHeartbeats 1000000 in
theorem plen_any (b c g o m : Nat) (w : World) (h : Pt b c g o m w) : Calls Try.prog 40 #[.pointer (some ⟨b, 0, none⟩)] w fun r w' => r = .returned (.int .i64 (m : Int)) ∧ w' = w := by
  have hc := h.cell 1 _ rfl
  go_enter Try.func40, Try.ntmps40
  go_wp2
  go_ret
  exact ⟨rfl, rfl⟩

set_option maxHeartbeats 1000000 in
theorem plen_nil (w : World) : Calls Try.prog 40 #[.pointer none] w fun r w' => r = .returned (.int .i64 0) ∧ w' = w := by
  go_enter Try.func40, Try.ntmps40
  go_wp2
  go_ret
  exact ⟨rfl, rfl⟩

set_option maxHeartbeats 1000000 in
theorem pget_nil (i : Int) (w : World) : Calls Try.prog 42 #[.pointer none, .int .i64 i] w fun r w' => r = .returned (.int .i64 0) ∧ w' = w := by
  go_enter Try.func42, Try.ntmps42
  go_wp2
  go_ret
  exact ⟨rfl, rfl⟩

set_option maxHeartbeats 1000000 in
theorem pput_nil (i x : Int) (w : World) : Calls Try.prog 44 #[.pointer none, .int .i64 i, .int .i64 x] w fun r w' => r = .returned (.tuple #[]) ∧ w' = w := by
  go_enter Try.func44, Try.ntmps44
  go_wp2
  (try simp only [Exit.inBlock, Exit.then]); refine bodyPost_ret (results_none rfl _ _ _) rfl ?_
  exact ⟨rfl, rfl⟩

theorem Ar.drew {c g n : Nat} {w : World} {L : List Int} {e : Int} (h : Ar c g n w L e) : Ar c g n w.drew L e := ⟨h.len, h.me, h.row, h.ne⟩

theorem two_undrew {c g : Nat} {w w' : World} (h : Two c g w.drew w') : Two c g w w' := ⟨h.os, h.tape, h.output, h.size, h.block⟩

theorem only_undrew {c : Nat} {w w' : World} (h : Only c w.drew w') : Only c w w' := ⟨h.os, h.tape, h.output, h.size, h.block⟩

set_option maxHeartbeats 1000000 in
theorem pget_any (b c g o m n : Nat) (L : List Int) (e i : Int) (w : World) (h : Pt b c g o m w) (ha : Ar c g n w L e) (hm : o + m ≤ n) :
    Calls Try.prog 42 #[.pointer (some ⟨b, 0, none⟩), .int .i64 i] w fun r w' => r = .returned (.int .i64 (getI L o m i)) ∧ Only c w w' ∧ Ar c g n w' L (getE m i e) := by
  have h0 : w.cell? ⟨b, 0, none⟩ = some (.pointer (some ⟨c, 0, none⟩)) := h.cell 0 _ rfl
  have h1 : w.cell? ⟨b, 1, none⟩ = some (.slice (some ⟨g, o, none⟩) m m) := h.cell 1 _ rfl
  have K := hide (get_any c g n o m L e i w.drew ha.drew hm)
  clear h ha
  go_enter Try.func42, Try.ntmps42
  go_wp2_with fail
  go_region_with (first | (go_at_call 45; refine (unhide K).mono ?_; rintro e' w' ⟨rfl, ho, ha⟩; have HO := hide ho; have HA := hide ha; clear ho ha))
  all_goals (go_wp2; go_ret; exact ⟨rfl, only_undrew (unhide HO), unhide HA⟩)

set_option maxHeartbeats 1000000 in
theorem pput_any (b c g o m n : Nat) (L : List Int) (e i x : Int) (w : World) (h : Pt b c g o m w) (ha : Ar c g n w L e) (hm : o + m ≤ n) :
    Calls Try.prog 44 #[.pointer (some ⟨b, 0, none⟩), .int .i64 i, .int .i64 x] w fun r w' => r = .returned (.tuple #[]) ∧ Two c g w w' ∧ Ar c g n w' (putL L o m i x) (putE m i x e) := by
  have h0 : w.cell? ⟨b, 0, none⟩ = some (.pointer (some ⟨c, 0, none⟩)) := h.cell 0 _ rfl
  have h1 : w.cell? ⟨b, 1, none⟩ = some (.slice (some ⟨g, o, none⟩) m m) := h.cell 1 _ rfl
  have K := hide (ar_put_any c g n o m L e i x w.drew ha.drew hm)
  clear h ha
  go_enter Try.func44, Try.ntmps44
  go_wp2_with fail
  go_region_with (first | (go_at_call 46; refine (unhide K).mono ?_; rintro e' w' ⟨rfl, ho, ha⟩; have HO := hide ho; have HA := hide ha; clear ho ha))
  all_goals (go_wp2; go_end0; exact ⟨rfl, two_undrew (unhide HO), unhide HA⟩)

/-- What Set of these answers, and the words then. -/
def setE (n : Nat) (xs : List Int) : Int := if xs.length = n then (if ∀ x ∈ xs, okW x then 0 else 16) else 22

def setL (n : Nat) (L xs : List Int) : List Int := if setE n xs = 0 then xs else L

theorem setE_size {n : Nat} {xs : List Int} (h : xs.length ≠ n) : setE n xs = 22 := by unfold setE; rw [if_neg h]

theorem setE_ok {n : Nat} {xs : List Int} (h : xs.length = n) (h2 : ∀ x ∈ xs, okW x) : setE n xs = 0 := by unfold setE; rw [if_pos h, if_pos h2]

theorem setE_bad {n : Nat} {xs : List Int} (h : xs.length = n) (h2 : ¬ ∀ x ∈ xs, okW x) : setE n xs = 16 := by unfold setE; rw [if_pos h, if_neg h2]

theorem all_of_getD {xs : List Int} {p : Int → Prop} (h : ∀ j, j < xs.length → p (xs.getD j 0)) : ∀ x ∈ xs, p x := by
  intro x hx
  obtain ⟨i, hi, rfl⟩ := List.mem_iff_getElem.1 hx
  have := h i hi
  rwa [List.getD_eq_getElem?_getD, List.getElem?_eq_getElem hi] at this

theorem getD_mem {xs : List Int} {j : Nat} (h : j < xs.length) : xs.getD j 0 ∈ xs := by
  rw [List.getD_eq_getElem?_getD, List.getElem?_eq_getElem h]
  exact List.getElem_mem h

set_option maxHeartbeats 1000000 in
theorem set_any (c g n m cap : Nat) (a : Option Addr) (xs L : List Int) (e : Int) (w : World) (h : Ar c g n w L e) (hl : Lies w a xs) (hx : xs.length = m) (hn : n ≤ 4096) :
    Calls Try.prog 28 #[.pointer (some ⟨c, 0, none⟩), .slice a m cap] w fun r w' => r = .returned (.int .i64 (setE n xs)) ∧ Two c g w w' ∧ Ar c g n w' (setL n L xs) e := by
  have hcell := h.slice
  have H := hide h
  have HL := hide hl
  have HX := hide hx
  by_cases hmn : m = n
  · subst hmn
    clear h hl
    go_enter Try.func28, Try.ntmps28
    go_wp2_with fail
    refine (len_any c g m L e _ (unhide H)).mono ?_
    rintro e' w' ⟨rfl, rfl⟩
    clear hx
    go_wp2
    go_loopw [16, 6] (fun i _ wr => ∃ k : Nat, k ≤ m ∧ i = .int .i64 (k : Int) ∧ Hid (∀ j, j < k → okW (xs.getD j 0)) ∧ wr = w') (fun i _ _ => m - (intOf i).toNat)
    case atStart => exact ⟨0, by omega, rfl, fun j hj => by omega, rfl⟩
    case round =>
      obtain ⟨k, hk, rfl, HK, rfl⟩ := hrel
      by_cases hlt : k < m
      · have hkl : k < xs.length := by rw [unhide HX]; exact hlt
        obtain ⟨b, off, rfl, hb, hc⟩ := (unhide HL).some (by intro e; rw [e] at hkl; simp at hkl)
        have hck := hc k hkl
        have HZ := hide (show xs.getD k 0 ∈ xs from getD_mem hkl)
        obtain ⟨z, hz⟩ : ∃ z, xs.getD k 0 = z := ⟨_, rfl⟩
        rw [hz] at hck HZ
        have Hz := hide hz
        clear hc hkl hb hz
        go_wp2_with fail
        refine (isword_any z _).mono ?_
        by_cases ho : okW z
        · rw [decide_eq_true ho]
          have HOK := hide ho
          clear ho
          rintro e' w2 ⟨rfl, rfl⟩
          go_wp2
          go_roundw
          case rel =>
            refine ⟨k + 1, by omega, by simp, fun j hj => ?_, trivial⟩
            by_cases hjk : j = k
            · subst hjk; rw [unhide Hz]; exact unhide HOK
            · exact unhide HK j (by omega)
          case measure => simp [intOf]; omega
        · rw [decide_eq_false ho]
          have HOK := hide ho
          clear ho
          rintro e' w2 ⟨rfl, rfl⟩
          go_wp2
          go_ret
          have hE : setE m xs = 16 := setE_bad (unhide HX) (fun h => unhide HOK (h _ (unhide HZ)))
          refine ⟨by rw [hE]; rfl, Two.refl _ _ _, ?_⟩
          unfold setL
          rw [hE, if_neg (by decide)]
          exact unhide H
      · obtain rfl : k = m := by omega
        have HE : Hid (setE k xs = 0) := setE_ok (unhide HX) (all_of_getD (fun j hj => unhide HK j (by rw [← unhide HX]; exact hj)))
        obtain ⟨w3, hrun, ho, hc⟩ := copy_run cap k (unhide H).row (unhide HL) (unhide HX) (unhide H).len
        have HO := hide ho
        have HC := hide hc
        clear ho hc
        go_wp2
        go_ret
        refine ⟨by rw [unhide HE]; rfl, Two.of_right (unhide HO), ?_⟩
        unfold setL
        rw [unhide HE, if_pos rfl]
        exact (unhide H).setRow (unhide HO) (unhide HC) (unhide HX)
  · have hE : setE n xs = 22 := setE_size (by rw [hx]; exact hmn)
    unfold setL
    rw [hE, if_neg (by decide)]
    clear h hl hx
    have hmn' : (m : Int) ≠ (n : Int) := by omega
    go_enter Try.func28, Try.ntmps28
    go_wp2_with fail
    refine (len_any c g n L e _ (unhide H)).mono ?_
    rintro e' w' ⟨rfl, rfl⟩
    go_wp2
    go_ret
    exact ⟨rfl, Two.refl _ _ _, unhide H⟩

/-- A row that came, and its first K. -/
theorem cutK_came (K : Nat) (a : Option Addr) (len cap : Nat) (zs : List Int) (w : World) (h : IsRow .i64 w a len cap zs) :
    ∃ (xs : List Int) (n : Nat), xs.length = n ∧ n ≤ K ∧ n ≤ cap ∧ cap ≤ 9223372036854775807 ∧ Lies w a xs ∧ Small xs ∧ ((len = n) ∨ (n = K ∧ K < len ∧ len ≤ cap ∧ ∃ x, a = some x)) := by
  rcases h with ⟨rfl, rfl, rfl, rfl⟩ | ⟨x, rfl, hl, hm, hz, hcell, hwz⟩
  · exact ⟨[], 0, rfl, by omega, by omega, by omega, .inl rfl, by intro x hx; simp at hx, .inl rfl⟩
  · unfold maxLen at hm
    by_cases hlen : K < len
    · exact ⟨zs.take K, K, by simp; omega, by omega, by omega, hm, lies_of_row K (by omega) hcell, small_take K hwz, .inr ⟨rfl, hlen, hl, x, rfl⟩⟩
    · exact ⟨zs.take len, len, by simp; omega, by omega, by omega, hm, lies_of_row len (by omega) hcell, small_take len hwz, .inl rfl⟩

theorem ints_snoc (L : List Int) (x : Int) : ints (L ++ [x]) = ints L ++ [Value.int .i64 x] := by simp [ints]

theorem Lies.under {w w' : World} {B : Nat} {a : Option Addr} {xs : List Int} (h : Lies w a xs) (hb : Below B w w') (hlt : ∀ p, a = Option.some p → p.block < B) : Lies w' a xs := by
  rcases h with h | ⟨b, off, rfl, hl, hc⟩
  · exact .inl h
  · refine .inr ⟨b, off, rfl, Nat.lt_of_lt_of_le hl hb.size, fun j hj => ?_⟩
    rw [hb.cell (p := ⟨b, off + j, none⟩) (hlt ⟨b, off, none⟩ rfl)]
    exact hc j hj

theorem Cells.under {w w' : World} {B c : Nat} {l : List Value} (h : Cells w c l) (hb : Below B w w') (hlt : c < B) : Cells w' c l := by
  obtain ⟨t, h⟩ := h
  exact ⟨t, by rw [hb.block c hlt]; exact h⟩

theorem Ar.only {c g n q : Nat} {w w' : World} {L : List Int} {e : Int} (h : Ar c g n w L e) (ho : Only q w w') (h1 : c ≠ q) (h2 : g ≠ q) : Ar c g n w' L e :=
  ⟨h.len, h.me.only ho h1, h.row.only ho h2, h.ne⟩

set_option maxHeartbeats 2000000 in
/-- Same of two rows as long as each other: it answers. -/
theorem same_may (a b : Option Addr) (cap cap' : Nat) (xs ys : List Int) (n : Nat) (hn : xs.length = n) (hn' : ys.length = n) (hm : n ≤ 1000000) (w : World) (ha : Lies w a xs) (hb : Lies w b ys) :
    Calls Try.prog 15 #[.slice a n cap, .slice b n cap'] w fun e w' => ∃ v : Bool, e = .returned (.bool v) ∧ Below w.heap.size w w' := by
  have HA := hide ha
  have HB := hide hb
  have HN := hide hn
  have HN' := hide hn'
  clear ha hb hn hn'
  go_enter Try.func15, Try.ntmps15
  go_wp2
  go_loopw [5] (fun i wr => ∃ k : Nat, k ≤ n ∧ i = .int .i64 k ∧ Hid (Below w.heap.size w wr))
    (fun i _ => n - (intOf i).toNat)
  case atStart => exact ⟨0, Nat.zero_le _, rfl, Below.refl _ _⟩
  case round =>
    obtain ⟨k, hk, rfl, HBr⟩ := hrel
    by_cases c : k < n
    · obtain ⟨ba, oa, rfl, hlta, hca⟩ := ((unhide HA).below (unhide HBr)).some (by intro e; have := unhide HN; rw [e] at this; simp at this; omega)
      obtain ⟨bb, ob, rfl, hltb, hcb⟩ := ((unhide HB).below (unhide HBr)).some (by intro e; have := unhide HN'; rw [e] at this; simp at this; omega)
      have hc1 := hca k (by rw [unhide HN]; exact c)
      have hc2 := hcb k (by rw [unhide HN']; exact c)
      clear hca hcb HA HB hlta hltb
      generalize xs.getD k 0 = z at hc1
      generalize ys.getD k 0 = y at hc2
      by_cases hzy : z = y
      · subst hzy
        go_wp2
        go_region
        all_goals go_wp2
        go_roundw
        case rel => exact ⟨k + 1, by omega, by go_num, (unhide HBr).drew⟩
        case measure => simp [intOf]; omega
      · go_wp2
        go_region
        all_goals go_wp2
        all_goals (go_ret; exact ⟨_, rfl, (unhide HBr).drew⟩)
    · go_wp2
      go_ret
      exact ⟨_, rfl, unhide HBr⟩

theorem lies_rest {w : World} {g : Nat} {L : List Int} {rest : List Value} (h : Cells w g (ints L ++ rest)) : Lies w (some ⟨g, 0, none⟩) L := by
  refine .inr ⟨g, 0, rfl, h.lt, fun j hj => ?_⟩
  rw [Nat.zero_add]
  exact h.cell j _ (by rw [List.getElem?_append_left (by rw [ints_len]; exact hj)]; exact ints_at L j hj)

theorem ints_app_set (L : List Int) (rest : List Value) (i : Nat) (x : Int) (h : i < L.length) : (ints L ++ rest).set i (.int .i64 x) = ints (L.set i x) ++ rest := by
  rw [List.set_append_left _ _ (by rw [ints_len]; exact h), ints_set]

theorem below_set {B d i : Nat} {w : World} (u : Value) (h : B ≤ d) : Below B w (w.setCell ⟨d, i, none⟩ u) := (Below.refl B w).setCell h u

set_option maxHeartbeats 1000000 in
theorem ar_rword_any (x : Int) (w : World) : Calls Try.prog 36 #[.int .i64 x] w fun e w' => e = .returned (.bool (decide (okW x))) ∧ w' = w := by
  by_cases h1 : -2147483648 ≤ x
  · by_cases h2 : x < 2147483648
    · rw [decide_eq_true (show okW x from ⟨h1, by omega⟩)]
      go_enter Try.func36, Try.ntmps36
      go_wp2
      go_ret
      exact ⟨rfl, rfl⟩
    · rw [decide_eq_false (show ¬ okW x from fun h => by have := h.2; omega)]
      go_enter Try.func36, Try.ntmps36
      go_wp2
      go_ret
      exact ⟨rfl, rfl⟩
  · rw [decide_eq_false (show ¬ okW x from fun h => h1 h.1)]
    go_enter Try.func36, Try.ntmps36
    go_wp2
    go_ret
    exact ⟨rfl, rfl⟩

theorem Lies.two {W W' : World} {a : Option Addr} {xs : List Int} {p q : Nat} (h : Lies W a xs) (ht : Two p q W W') (hp : ∀ x, a = Option.some x → x.block ≠ p ∧ x.block ≠ q) : Lies W' a xs := by
  rcases h with h | ⟨b, off, rfl, hb, hc⟩
  · exact .inl h
  · refine .inr ⟨b, off, rfl, Nat.lt_of_lt_of_le hb ht.size, fun j hj => ?_⟩
    have : W'.cell? ⟨b, off + j, none⟩ = W.cell? ⟨b, off + j, none⟩ := World.cell?_of_block (ht.block b hb (hp _ rfl).1 (hp _ rfl).2)
    rw [this]
    exact hc j hj
end Go.Proofs.Ytclikkhaaiihdaa
