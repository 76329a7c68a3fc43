/- What earlier stages' texts say, over this seat. -/
import Derived.Test.YtbekechjphangaaRows
import Derived.WalkKit
import Derived.WalkSpells
import Derived.WalkLawsBesides
import Derived.Deep.RegionWith
import Derived.Laws.AppendOwnNone
import Derived.Deep.RegionHeld3
import Derived.Deep.AppendLies
import Derived.Laws.IdiomStrings
import Derived.Orders
import Derived.Deep.LoopGhost
import Derived.Laws.CopyOwn
import Derived.Deep.OwnRows
import Derived.Deep.QuietTactic
import Derived.BigQuiet
import Derived.ProofKit
import Derived.OpenShut
import Derived.Deep.Slices
import Derived.Deep.Strs
namespace Go.Proofs.Ytbekechjphangaa
open Go.RowKit
set_option linter.unusedVariables false

def pw (b : Int) : Int := 2 ^ (b.toNat - 1)

def In64 (x : Int) : Prop := -9223372036854775808 ≤ x ∧ x ≤ 9223372036854775807

def fitsB (x b : Int) : Bool := decide (1 ≤ b ∧ b ≤ 64 ∧ -(pw b) ≤ x ∧ x ≤ pw b - 1)

theorem two_pow_le (m n : Nat) (h : m ≤ n) : (2 : Int) ^ m ≤ 2 ^ n := by
  have h1 : 2 ^ m ≤ 2 ^ n := Nat.pow_le_pow_right (by decide) h
  exact_mod_cast h1

theorem pw_pos (b : Int) : 1 ≤ pw b := by
  unfold pw
  have := Int.pow_pos (n := 2) (m := b.toNat - 1) (by decide)
  omega

theorem pw_le (b : Int) (h : b ≤ 64) : pw b ≤ 9223372036854775808 := by
  unfold pw
  have h1 : (2 : Int) ^ (b.toNat - 1) ≤ 2 ^ 63 := two_pow_le _ _ (by omega)
  simpa using h1

theorem i64_not_any (x : Int) (h : In64 x) : bits .xor .i64 (-1) x = -1 - x := by
  obtain ⟨h0, h1⟩ := h
  show IntKind.i64.wrap ((BitVec.ofInt 64 (-1) ^^^ BitVec.ofInt 64 x).toNat : Int) = _
  have h1' : BitVec.ofInt 64 (-1) = BitVec.allOnes 64 := by decide
  rw [h1', BitVec.allOnes_xor, BitVec.toNat_not, BitVec.toNat_ofInt, IntKind.wrap_i64]
  omega

theorem in_of_wf {x : Int} (h : (Lit.int .i64 x).wf = true) : In64 x := by
  simp [Lit.wf, IntKind.min, IntKind.max, IntKind.signed, IntKind.bits] at h
  exact ⟨by omega, by omega⟩

theorem hide {p : Prop} (h : p) : Hid p := h

theorem unhide {p : Prop} (h : Hid p) : p := h

theorem w64_in {n : Int} (h : In64 n) : wrap64 n = n := by obtain ⟨h0, h1⟩ := h; unfold wrap64; omega

theorem i64_mask (n m : Int) (k : Nat) (hk : k ≤ 62) (hm : (BitVec.ofInt 64 m).toNat = 2 ^ k - 1) : bits .and .i64 n m = n % 2 ^ k := by
  have key : (BitVec.ofInt 64 n &&& BitVec.ofInt 64 m).toNat = (n % ((2 ^ 64 : Nat) : Int)).toNat % 2 ^ k := by
    rw [BitVec.toNat_and, BitVec.toNat_ofInt, hm, Nat.and_two_pow_sub_one_eq_mod]
  show IntKind.i64.wrap ((BitVec.ofInt 64 n &&& BitVec.ofInt 64 m).toNat : Nat) = n % 2 ^ k
  rw [key, IntKind.wrap_i64]
  have h0 : 0 ≤ n % ((2 ^ 64 : Nat) : Int) := Int.emod_nonneg _ (by decide)
  have h1 : ((((n % ((2 ^ 64 : Nat) : Int)).toNat % 2 ^ k : Nat)) : Int) = n % 2 ^ k := by
    rw [Int.natCast_emod, Int.toNat_of_nonneg h0]
    have hd : ((2 ^ k : Nat) : Int) ∣ ((2 ^ 64 : Nat) : Int) := Int.natCast_dvd_natCast.2 (Nat.pow_dvd_pow 2 (by omega))
    rw [Int.emod_emod_of_dvd n hd]
    simp
  rw [h1]
  have h2 : (2 : Int) ^ k ≤ 2 ^ 62 := two_pow_le k 62 hk
  have h3 : (0 : Int) < 2 ^ k := Int.pow_pos (by decide)
  have h4 := Int.emod_nonneg n (b := 2 ^ k) (by omega)
  have h5 := Int.emod_lt_of_pos n h3
  generalize n % 2 ^ k = r at *
  generalize (2 : Int) ^ k = q at *
  have h6 : (2 : Int) ^ 62 = 4611686018427387904 := by decide
  omega

theorem i64_and63 (n : Int) : bits .and .i64 n 63 = n % 64 := i64_mask n 63 6 (by decide) (by decide)

theorem ret_int {k : IntKind} {a b : Int} (h : a = b) : Ending.returned (.int k a) = .returned (.int k b) := by rw [h]

theorem ret_bool {a b : Bool} (h : a = b) : Ending.returned (.bool a) = .returned (.bool b) := by rw [h]

set_option maxHeartbeats 400000 in
theorem ends_no (b : Int) (w : World) (hb : b < 1 ∨ 64 < b) :
    Calls Try.prog 46 #[.int .i64 b] w fun e w' => e = .returned (.tuple #[.int .i64 0, .int .i64 0, .bool false]) ∧ w' = w := by
  by_cases c1 : b < 1
  · go_enter Try.func46, Try.ntmps46
    go_wp2
    go_ret3
    exact ⟨rfl, rfl⟩
  · have c2 : 64 < b := by omega
    go_enter Try.func46, Try.ntmps46
    go_wp2
    go_ret3
    exact ⟨rfl, rfl⟩

theorem ends_val (b : Int) (h2 : b ≤ 64) : Ending.returned (.tuple #[.int .i64 (wrap64 (-2 ^ (b.toNat - 1))), .int .i64 (bits .xor .i64 (-1) (wrap64 (-2 ^ (b.toNat - 1)))), .bool true]) =
    Ending.returned (.tuple #[.int .i64 (-(pw b)), .int .i64 (pw b - 1), .bool true]) := by
  have e : (-2 ^ (b.toNat - 1) : Int) = -(pw b) := rfl
  have h3 := pw_pos b
  have h4 := pw_le b h2
  rw [e, w64_in ⟨by omega, by omega⟩, i64_not_any _ ⟨by omega, by omega⟩, show -1 - -(pw b) = pw b - 1 by omega]

set_option maxHeartbeats 400000 in
theorem ends_yes (b : Int) (w : World) (h1 : 1 ≤ b) (h2 : b ≤ 64) :
    Calls Try.prog 46 #[.int .i64 b] w fun e w' => e = .returned (.tuple #[.int .i64 (-(pw b)), .int .i64 (pw b - 1), .bool true]) ∧ w' = w := by
  go_enter Try.func46, Try.ntmps46
  go_wp2
  go_ret3
  exact ⟨ends_val b h2, rfl⟩

set_option maxHeartbeats 400000 in
theorem fits_any (x b : Int) (w : World) :
    Calls Try.prog 44 #[.int .i64 x, .int .i64 b] w fun e w' => e = .returned (.bool (fitsB x b)) ∧ w' = w := by
  by_cases hb : 1 ≤ b ∧ b ≤ 64
  · obtain ⟨h1, h2⟩ := hb
    have hv : fitsB x b = (decide (-(pw b) ≤ x) && decide (x ≤ pw b - 1)) := by
      unfold fitsB; simp [h1, h2]
    have Hv := hide hv
    clear hv
    by_cases c1 : -(pw b) ≤ x
    · go_enter Try.func44, Try.ntmps44
      go_wp2_with fail
      refine (ends_yes _ _ h1 h2).mono ?_
      rintro e w' ⟨rfl, rfl⟩
      go_wp2
      go_ret
      exact ⟨ret_bool (by rw [unhide Hv]; simp [c1]), rfl⟩
    · have c1' : decide (-(pw b) ≤ x) = false := by simpa using c1
      go_enter Try.func44, Try.ntmps44
      go_wp2_with fail
      refine (ends_yes _ _ h1 h2).mono ?_
      rintro e w' ⟨rfl, rfl⟩
      go_wp2
      go_ret
      exact ⟨ret_bool (by rw [unhide Hv, c1']; rfl), rfl⟩
  · have hv : fitsB x b = false := by unfold fitsB; simp; omega
    have Hv := hide hv
    clear hv
    go_enter Try.func44, Try.ntmps44
    go_wp2_with fail
    refine (ends_no _ _ (by omega)).mono ?_
    rintro e w' ⟨rfl, rfl⟩
    go_wp2
    go_ret
    exact ⟨ret_bool (by rw [unhide Hv]), rfl⟩

/-- A slice of int lies in memory: its numbers, cell by cell. -/
def Lies (w : World) (a : Option Addr) (xs : List Int) : Prop :=
  xs = [] ∨ ∃ b off, a = some ⟨b, off, none⟩ ∧ b < w.heap.size ∧ ∀ j, j < xs.length → w.cell? ⟨b, off + j, none⟩ = some (.int .i64 (xs.getD j 0))

theorem Lies.below {w w' : World} {a : Option Addr} {xs : List Int} (h : Lies w a xs) (hb : Below w.heap.size w w') : Lies w' a xs := by
  rcases h with h | ⟨b, off, ha, hlt, hc⟩
  · exact .inl h
  · exact .inr ⟨b, off, ha, Nat.lt_of_lt_of_le hlt hb.size, fun j hj => by rw [hb.cell (p := ⟨b, off + j, none⟩) hlt]; exact hc j hj⟩

def Small (xs : List Int) : Prop := ∀ x ∈ xs, In64 x

theorem Small.at {xs : List Int} (h : Small xs) (k : Nat) (hk : k < xs.length) : In64 (xs.getD k 0) := by
  rw [List.getD_eq_getElem?_getD, List.getElem?_eq_getElem hk]
  exact h _ (List.getElem_mem hk)

theorem World.heap_drew (w : World) : w.drew.heap = w.heap := rfl

def IsRow (k : IntKind) (w : World) (a : Option Addr) (len cap : Nat) (zs : List Int) : Prop :=
  (a = none ∧ len = 0 ∧ cap = 0 ∧ zs = []) ∨
  ∃ x, a = some x ∧ len ≤ cap ∧ cap ≤ maxLen ∧ zs.length = cap ∧ (∀ i, i < zs.length → w.cell? (x.add i) = some (.int k (zs.getD i 0))) ∧ ∀ n ∈ zs, (Lit.int k n).wf = true

theorem lt_of_cell {w : World} {p : Addr} {v : Value} (h : w.cell? p = some v) : p.block < w.heap.size := by
  rcases Nat.lt_or_ge p.block w.heap.size with h' | h'
  · exact h'
  · simp [World.cell?, Array.getElem?_eq_none h'] at h

theorem lies_of_row {w : World} {x : Addr} {zs : List Int} (n : Nat) (hn : n ≤ zs.length) (hc : ∀ i, i < zs.length → w.cell? (x.add i) = some (.int .i64 (zs.getD i 0))) : Lies w (some x) (zs.take n) := by
  by_cases h0 : n = 0
  · subst h0; exact .inl (by simp)
  · obtain ⟨b, off, spot⟩ := x
    have h1 := hc 0 (by omega)
    have hspot : spot = none := by simpa [Addr.add] using World.cell?_spot h1
    subst hspot
    refine .inr ⟨b, off, rfl, ?_, fun j hj => ?_⟩
    · have := lt_of_cell h1; simpa [Addr.add] using this
    · have hj' : j < n := by simp at hj; omega
      have h2 := hc j (by omega)
      rw [show (zs.take n).getD j 0 = zs.getD j 0 by simp [List.getD_eq_getElem?_getD, hj']]
      rw [Addr.add_lit] at h2
      exact h2

theorem small_take {zs : List Int} (n : Nat) (h : ∀ z ∈ zs, (Lit.int .i64 z).wf = true) : Small (zs.take n) := fun x hx => in_of_wf (h x (List.mem_of_mem_take hx))

theorem ob (bits : Int) : wrap64 (1 + Go.bits BinOp.and IntKind.i64 bits 63) = 1 + bits % 64 := by
  rw [i64_and63, w64_in ⟨by omega, by omega⟩]

theorem Try.info3 : (Try.prog.info? 3).map (fun i => (i.zero, i.size, i.bytes)) = some (some (.int .i64 0), 1, 8) := by kernel_rfl

theorem owned_lies {w : World} {base n : Nat} {v : Value} {xs : List Int} (h : w.ownsRow base 3 1 v n (xs.map (Value.int .i64))) :
    ∃ a cap, v = .slice a xs.length cap ∧ Lies w a xs ∧ xs.length = n := by
  have hn : xs.length = n := by have := h.1; simpa using this
  rcases h.2 with ⟨hv, h0⟩ | ⟨g, cap, cur, hv, hb, hg, _⟩
  · subst h0
    have hx : xs = [] := List.length_eq_zero_iff.1 hn
    subst hx
    exact ⟨none, 0, hv, .inl rfl, rfl⟩
  · refine ⟨some ⟨g, 0, none⟩, cap, by rw [hv, hn], .inr ⟨g, 0, rfl, (Array.getElem?_eq_some_iff.1 hg).1, fun j hj => ?_⟩, hn⟩
    have hc := h.cells (g := g) (by rw [hv]; rfl) j (.int .i64 (xs.getD j 0)) (by simp [List.getD_eq_getElem?_getD, List.getElem?_eq_getElem hj])
    rw [Addr.add_lit] at hc
    exact hc

theorem lies_news {w : World} {ad : Addr} {xs : List Int} (h : Lies w (some ad) xs) : ∀ j u, (xs.map (Value.int .i64))[j]? = some u → w.cell? (ad.add j) = some u := by
  intro j u hu
  rcases h with rfl | ⟨b, off, ha, _, hc⟩
  · simp at hu
  · cases ha
    rw [Addr.add_lit]
    simp at hu
    obtain ⟨z, hz, rfl⟩ := hu
    have hj : j < xs.length := (List.getElem?_eq_some_iff.1 hz).1
    rw [hc j hj, List.getD_eq_getElem?_getD, hz]; rfl

theorem ints_one (xs : List Int) : ∀ u ∈ xs.map (Value.int .i64), u.oneCell' = true := by
  intro u hu
  obtain ⟨z, _, rfl⟩ := List.mem_map.1 hu
  rfl

theorem below_trans {w w1 w2 : World} (h1 : Below w.heap.size w w1) (h2 : Below w1.heap.size w1 w2) : Below w.heap.size w w2 := h1.trans (h2.mono h1.size)

def two (n : Int) : Int := 2 ^ n.toNat

theorem mod_bd (t n : Int) (h1 : 1 ≤ n) (h2 : n ≤ 1000000) : 0 ≤ (wrap64 (t.tmod n + n)).tmod n ∧ (wrap64 (t.tmod n + n)).tmod n < n := by
  have h3 := Int.tmod_lt_of_pos t (b := n) (by omega)
  have h4 := Int.lt_tmod_of_pos t (b := n) (by omega)
  rw [w64_in (n := t.tmod n + n) ⟨by omega, by omega⟩]
  exact ⟨Int.tmod_nonneg _ (by omega), Int.tmod_lt_of_pos _ (by omega)⟩

/-- A row that came, and its first forty: as it is, or cut. -/
theorem cut_came (a : Option Addr) (len cap : Nat) (zs : List Int) (w : World) (h : IsRow .i64 w a len cap zs) :
    ∃ (xs : List Int) (N : Nat), xs.length = N ∧ N ≤ 40 ∧ N ≤ cap ∧ cap ≤ 9223372036854775807 ∧ Lies w a xs ∧ Small xs ∧ ((len = N) ∨ (40 < len ∧ N = 40 ∧ ∃ ad, a = some ad)) := by
  rcases h with ⟨rfl, rfl, rfl, rfl⟩ | ⟨x, rfl, hl, hm, hz, hcell, hwz⟩
  · exact ⟨[], 0, rfl, by omega, by omega, by omega, .inl rfl, by intro x hx; simp at hx, .inl rfl⟩
  · unfold maxLen at hm
    by_cases hlen : 40 < len
    · exact ⟨zs.take 40, 40, by simp; omega, by omega, by omega, hm, lies_of_row 40 (by omega) hcell, small_take 40 hwz, .inr ⟨hlen, rfl, x, rfl⟩⟩
    · exact ⟨zs.take len, len, by simp; omega, by omega, by omega, hm, lies_of_row len (by omega) hcell, small_take len hwz, .inl rfl⟩

theorem append_new (w : World) (o : Obj) (x : Value) (t : TypeId) : ∀ j u, [x][j]? = some u → ((w.alloc o).alloc (.cells #[x] t)).cell? ((⟨w.heap.size + 1, 0, none⟩ : Addr).add j) = some u := by
  have h := cell_one_new (w.alloc o) x t
  rwa [World.size_alloc] at h

theorem owns_below {w w' : World} {base n : Nat} {v : Value} {xs : List Value} (h : w.ownsRow base 3 1 v n xs) (hb : Below w.heap.size w w') : w'.ownsRow base 3 1 v n xs := by
  refine ⟨h.1, ?_⟩
  rcases h.2 with h' | ⟨g, cap, cur, h1, h2, h3, h4⟩
  · exact .inl h'
  · exact .inr ⟨g, cap, cur, h1, h2, by rw [hb.block g (by have := Array.getElem?_eq_some_iff.1 h3; exact this.1)]; exact h3, h4⟩

/-- The document's Same, of two rows that hold the same numbers. -/
theorem same_any (a b : Option Addr) (cap cap' : Nat) (xs : List Int) (n : Nat) (hn : xs.length = n) (hm : n ≤ 1000000) (w : World) (ha : Lies w a xs) (hb : Lies w b xs) :
    Calls Try.prog 26 #[.slice a n cap, .slice b n cap'] w fun e w' => e = .returned (.bool true) ∧ Below w.heap.size w w' := by
  have HA := hide ha
  have HB := hide hb
  have HN := hide hn
  clear ha hb hn
  go_enter Try.func26, Try.ntmps26
  go_wp2
  go_loopw [5] (fun i wr => ∃ k : Nat, k ≤ n ∧ i = .int .i64 k ∧ Hid (Below w.heap.size w wr))
    (fun i _ => n - (intOf i).toNat)
  case atStart => exact ⟨0, Nat.zero_le _, rfl, Below.refl _ _⟩
  case round =>
    obtain ⟨k, hk, rfl, HBr⟩ := hrel
    by_cases c : k < n
    · obtain ⟨ba, oa, rfl, hlta, hca⟩ : ∃ b off, a = some ⟨b, off, none⟩ ∧ b < w.heap.size ∧ ∀ j, j < xs.length → w.cell? ⟨b, off + j, none⟩ = some (.int .i64 (xs.getD j 0)) := by
        rcases unhide HA with h | h
        · have := unhide HN; subst h; simp at this; omega
        · exact h
      obtain ⟨bb, ob, rfl, hltb, hcb⟩ : ∃ b' off, b = some ⟨b', off, none⟩ ∧ b' < w.heap.size ∧ ∀ j, j < xs.length → w.cell? ⟨b', off + j, none⟩ = some (.int .i64 (xs.getD j 0)) := by
        rcases unhide HB with h | h
        · have := unhide HN; subst h; simp at this; omega
        · exact h
      have hc1 : wr.cell? ⟨ba, oa + k, none⟩ = some (.int .i64 (xs.getD k 0)) := by rw [(unhide HBr).cell (p := ⟨ba, _, none⟩) hlta]; exact hca k (by rw [unhide HN]; exact c)
      have hc2 : wr.cell? ⟨bb, ob + k, none⟩ = some (.int .i64 (xs.getD k 0)) := by rw [(unhide HBr).cell (p := ⟨bb, _, none⟩) hltb]; exact hcb k (by rw [unhide HN]; exact c)
      clear hca hcb HA HB
      generalize xs.getD k 0 = z at hc1 hc2
      go_wp2
      go_region
      all_goals go_wp2
      go_roundw
      case rel => exact ⟨k + 1, by omega, by go_num, (unhide HBr).drew⟩
      case measure => simp [intOf]; omega
    · go_wp2
      go_ret
      exact ⟨rfl, unhide HBr⟩

/-- A row that is not empty: where it lies. -/
theorem Lies.some {w : World} {a : Option Addr} {xs : List Int} (h : Lies w a xs) (h0 : xs ≠ []) :
    ∃ b off, a = some ⟨b, off, none⟩ ∧ b < w.heap.size ∧ ∀ j, j < xs.length → w.cell? ⟨b, off + j, none⟩ = some (.int .i64 (xs.getD j 0)) := by
  rcases h with h | h
  · exact absurd h h0
  · exact h

theorem mod5 (n : Int) : bits .and .i64 n 31 = n % 32 := i64_mask n 31 5 (by decide) (by decide)

theorem and7 (n : Int) : bits .and .i64 n 7 = n % 8 := i64_mask n 7 3 (by decide) (by decide)

theorem and31 (n : Int) : bits .and .i64 n 31 = n % 32 := mod5 n

theorem drewn_below {B : Nat} {a w : World} (h : Below B a w) (n : Nat) : Below B a (w.drewN n) := h.trans ⟨rfl, rfl, rfl, Nat.le_refl _, fun _ _ => rfl⟩

/-- The bytes of a text. -/
def B (s : ByteArray) : List UInt8 := s.data.toList

theorem mod_at (t : Int) (n : Nat) (h1 : 1 ≤ n) (h2 : n ≤ 1000000) : ∃ i : Nat, (wrap64 (t.tmod (n : Int) + (n : Int))).tmod (n : Int) = (i : Int) ∧ i < n := by
  have h := mod_bd t n (by omega) (by omega)
  exact ⟨((wrap64 (t.tmod (n : Int) + (n : Int))).tmod (n : Int)).toNat, by omega, by omega⟩

theorem hb_drew {w W : World} (h : Hid (Below w.heap.size w W)) : Hid (Below w.heap.size w W.drew) := (unhide h).trans ⟨rfl, rfl, rfl, Nat.le_refl _, fun _ _ => rfl⟩

theorem hb_alloc {w W : World} (h : Hid (Below w.heap.size w W)) (o : Obj) : Hid (Below w.heap.size w (W.alloc o)) := (unhide h).alloc (unhide h).size _

theorem hb_call {w W W' : World} (h : Hid (Below w.heap.size w W)) (hb : Below W.heap.size W W') : Hid (Below w.heap.size w W') := below_trans (unhide h) hb

theorem info_parts {P : Program} {t : TypeId} {z : Value} {s b : Nat} (h : (P.info? t).map (fun i => (i.zero, i.size, i.bytes)) = some (some z, s, b)) :
    ∃ i, P.info? t = some i ∧ i.zero = some z ∧ i.size = s ∧ i.bytes = b := by
  cases hi : P.info? t with
  | none => rw [hi] at h; simp at h
  | some i => rw [hi] at h; simp at h; exact ⟨i, rfl, h.1, h.2.1, h.2.2⟩

/-- All blocks but c are as they were. -/
structure Only (c : Nat) (w w' : World) : Prop where
  os : w'.os = w.os
  tape : w'.tape = w.tape
  output : w'.output = w.output
  size : w.heap.size ≤ w'.heap.size
  block : ∀ k, k < w.heap.size → k ≠ c → w'.heap[k]? = w.heap[k]?

theorem Only.refl (c : Nat) (w : World) : Only c w w := ⟨rfl, rfl, rfl, Nat.le_refl _, fun _ _ _ => rfl⟩

theorem Only.trans {c : Nat} {a b d : World} (h : Only c a b) (k : Only c b d) : Only c a d :=
  ⟨k.os.trans h.os, k.tape.trans h.tape, k.output.trans h.output, Nat.le_trans h.size k.size, fun i hi hc => (k.block i (Nat.lt_of_lt_of_le hi h.size) hc).trans (h.block i hi hc)⟩

theorem Only.of_below {c : Nat} {w w' : World} (h : Below w.heap.size w w') : Only c w w' := ⟨h.os, h.tape, h.output, h.size, fun k hk _ => h.block k hk⟩

theorem Only.alloc {c : Nat} {a w : World} (h : Only c a w) (o : Obj) : Only c a (w.alloc o) := h.trans (Only.of_below ((Below.refl _ w).alloc (Nat.le_refl _) o))

theorem Only.setCell {c : Nat} {a w : World} (h : Only c a w) {p : Addr} (hp : p.block = c) (u : Value) : Only c a (w.setCell p u) :=
  h.trans ⟨rfl, rfl, rfl, by simp [World.setCell], fun k _ hc => Below.heap_setCell _ _ _ _ (by omega)⟩

theorem Only.setNew {c : Nat} {a w : World} (h : Only c a w) {p : Addr} (hp : a.heap.size ≤ p.block) (u : Value) : Only c a (w.setCell p u) :=
  ⟨h.os, h.tape, h.output, by have := h.size; simpa [World.setCell] using this, fun k hk hc => by rw [Below.heap_setCell _ _ _ _ (by omega)]; exact h.block k hk hc⟩

theorem Only.drew {c : Nat} {a w : World} (h : Only c a w) : Only c a w.drew := ⟨h.os, h.tape, h.output, h.size, h.block⟩

theorem Only.below {c B : Nat} {w w' : World} (h : Only c w w') (h1 : B ≤ c) (h2 : B ≤ w.heap.size) : Below B w w' := ⟨h.os, h.tape, h.output, h.size, fun k hk => h.block k (by omega) (by omega)⟩

theorem Only.fresh {w w' : World} {o : Obj} (h : Only w.heap.size (w.alloc o) w') : Below w.heap.size w w' :=
  ((Below.refl _ w).alloc (Nat.le_refl _) o).trans (h.below (Nat.le_refl _) (by simp))

/-- A block of cells of its own. -/
def Cells (w : World) (c : Nat) (l : List Value) : Prop := ∃ t, w.heap[c]? = some (.cells l.toArray t (0, 0))

theorem Cells.lt {w : World} {c : Nat} {l : List Value} (h : Cells w c l) : c < w.heap.size := by
  obtain ⟨t, h⟩ := h
  exact (Array.getElem?_eq_some_iff.1 h).1

theorem Cells.cell {w : World} {c : Nat} {l : List Value} (h : Cells w c l) (i : Nat) (x : Value) (hx : l[i]? = some x) : w.cell? ⟨c, i, none⟩ = some x := by
  obtain ⟨t, h⟩ := h
  unfold World.cell?
  rw [h]
  simpa using hx

theorem Cells.free {w : World} {c : Nat} {l : List Value} (h : Cells w c l) (i : Nat) : w.frozen? ⟨c, i, none⟩ = false := by
  obtain ⟨t, h⟩ := h
  unfold World.frozen?
  rw [h]
  simp

theorem Cells.set {w : World} {c : Nat} {l : List Value} (h : Cells w c l) (i : Nat) (x : Value) : Cells (w.setCell ⟨c, i, none⟩ x) c (l.set i x) := by
  obtain ⟨t, h⟩ := h
  exact ⟨t, by simp [World.setCell, Array.getElem?_modify, h]⟩

theorem Cells.only {w w' : World} {c g : Nat} {l : List Value} (h : Cells w g l) (hb : Only c w w') (hg : g ≠ c) : Cells w' g l := by
  have hl := h.lt
  obtain ⟨t, h⟩ := h
  exact ⟨t, by rw [hb.block g hl hg]; exact h⟩

theorem Cells.below {w w' : World} {g : Nat} {l : List Value} (h : Cells w g l) (hb : Below w.heap.size w w') : Cells w' g l := by
  have hl := h.lt
  obtain ⟨t, h⟩ := h
  exact ⟨t, by rw [hb.block g hl]; exact h⟩

theorem Cells.alloc {w : World} {g : Nat} {l : List Value} (h : Cells w g l) (o : Obj) : Cells (w.alloc o) g l := h.below ((Below.refl _ w).alloc (Nat.le_refl _) o)

theorem Cells.drew {w : World} {g : Nat} {l : List Value} (h : Cells w g l) : Cells w.drew g l := h

theorem cells_new (w : World) (l : List Value) (t : TypeId) : Cells (w.alloc (.cells l.toArray t)) w.heap.size l := ⟨t, by
  show (w.heap.push _)[w.heap.size]? = _
  simp⟩

theorem Lies.only {w w' : World} {c : Nat} {a : Option Addr} {xs : List Int} (h : Lies w a xs) (ho : Only c w w') (hne : xs ≠ [] → ∀ p, a = Option.some p → p.block ≠ c) : Lies w' a xs := by
  rcases h with h | ⟨b, off, rfl, hb, hc⟩
  · exact .inl h
  · refine .inr ⟨b, off, rfl, Nat.lt_of_lt_of_le hb ho.size, fun j hj => ?_⟩
    have : w'.cell? ⟨b, off + j, none⟩ = w.cell? ⟨b, off + j, none⟩ := World.cell?_of_block (ho.block b hb (hne (by rintro rfl; simp at hj) _ rfl))
    rw [this]
    exact hc j hj

theorem Lies.ne {w : World} {c : Nat} {a : Option Addr} {xs : List Int} (h : Lies w a xs) (hc : w.heap.size ≤ c) : xs ≠ [] → ∀ p, a = Option.some p → p.block ≠ c := by
  intro h0 p hp
  rcases h with h | ⟨b, off, rfl, hb, _⟩
  · exact absurd h h0
  · cases hp
    show b ≠ c
    omega

theorem owns_only {w w' : World} {base n c : Nat} {v : Value} {xs : List Value} (h : w.ownsRow base 3 1 v n xs) (hb : Only c w w') (hc : c < base) : w'.ownsRow base 3 1 v n xs := by
  refine ⟨h.1, ?_⟩
  rcases h.2 with h' | ⟨g, cap, cur, h1, h2, h3, h4⟩
  · exact .inl h'
  · exact .inr ⟨g, cap, cur, h1, h2, by rw [hb.block g (by have := Array.getElem?_eq_some_iff.1 h3; exact this.1) (by omega)]; exact h3, h4⟩

theorem owned_at {w : World} {base n : Nat} {v : Value} {xs : List Value} (h : w.ownsRow base 3 1 v n xs) : ∀ a m cap, v = .slice a m cap → ∀ p, a = some p → base ≤ p.block := by
  intro a m cap hv p hp
  rcases h.2 with ⟨h', _⟩ | ⟨g, cap', cur, h1, h2, _⟩
  · rw [h'] at hv; cases hv; cases hp
  · rw [h1] at hv; cases hv; cases hp; exact h2

theorem only_grown {c : Nat} {a w w' : World} {row : Option Nat} (h : Only c a w) (hg : w.grownBy w' row) (hr : ∀ k, row = some k → a.heap.size ≤ k) : Only c a w' :=
  ⟨hg.os.trans h.os, hg.tape.trans h.tape, hg.output.trans h.output, Nat.le_trans h.size hg.size, fun k hk hc => (hg.block k (by have := h.size; omega) (fun e => by have := hr k e.symm; omega)).trans (h.block k hk hc)⟩

theorem lies_new2 (w : World) (xs : List Int) : Lies (w.alloc (.cells (xs.map (Value.int .i64)).toArray 3)) (some ⟨w.heap.size, 0, none⟩) xs := by
  refine .inr ⟨w.heap.size, 0, rfl, by simp, fun j hj => ?_⟩
  rw [World.cell?_alloc_at _ _ _ _ rfl]
  simp [List.getD_eq_getElem?_getD, List.getElem?_eq_getElem hj]
end Go.Proofs.Ytbekechjphangaa
