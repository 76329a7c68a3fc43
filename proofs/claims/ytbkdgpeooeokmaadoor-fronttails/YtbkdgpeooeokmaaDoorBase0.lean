/- Contracts of the layers below over this seat, and the mathematics of fronts. What more than one family wants. -/
import Derived.Test.YtbkdgpeooeokmaaDoorRows
import Derived.WalkKit
import Derived.WalkSpells
import Derived.WalkLawsBesides
import Derived.Deep.RegionWith
import Derived.Laws.AppendOwnNone
import Derived.Deep.RegionHeld3
import Derived.Deep.AppendLies
import Derived.Lib.BitFns
import Derived.Lib.Small
import Derived.Lib.Walk
import Derived.Laws.IdiomStrings
import Derived.Orders
import Derived.Deep.LoopGhost
import Derived.Laws.CopyOwn
import Derived.Deep.OwnRows
import Derived.Deep.QuietTactic
import Derived.BigQuiet
import Derived.ProofKit
import Derived.OpenShut
import Derived.Deep.Slices
import Derived.Deep.Strs
import Derived.BigRegion
import Derived.Laws.EntriesVeiled
import Derived.Deep.RegionLaw
namespace Go.Proofs.YtbkdgpeooeokmaaDoor
open Go.RowKit
set_option linter.unusedVariables false

def In64 (x : Int) : Prop := -9223372036854775808 ≤ x ∧ x ≤ 9223372036854775807

theorem two_pow_le (m n : Nat) (h : m ≤ n) : (2 : Int) ^ m ≤ 2 ^ n := by
  have h1 : 2 ^ m ≤ 2 ^ n := Nat.pow_le_pow_right (by decide) h
  exact_mod_cast h1

theorem in_of_wf {x : Int} (h : (Lit.int .i64 x).wf = true) : In64 x := by
  simp [Lit.wf, IntKind.min, IntKind.max, IntKind.signed, IntKind.bits] at h
  exact ⟨by omega, by omega⟩

theorem hide {p : Prop} (h : p) : Hid p := h

theorem unhide {p : Prop} (h : Hid p) : p := h

theorem w64_in {n : Int} (h : In64 n) : wrap64 n = n := by obtain ⟨h0, h1⟩ := h; unfold wrap64; omega

theorem i64_mask (n m : Int) (k : Nat) (hk : k ≤ 62) (hm : (BitVec.ofInt 64 m).toNat = 2 ^ k - 1) : bits .and .i64 n m = n % 2 ^ k := by
  have key : (BitVec.ofInt 64 n &&& BitVec.ofInt 64 m).toNat = (n % ((2 ^ 64 : Nat) : Int)).toNat % 2 ^ k := by
    rw [BitVec.toNat_and, BitVec.toNat_ofInt, hm, Nat.and_two_pow_sub_one_eq_mod]
  show IntKind.i64.wrap ((BitVec.ofInt 64 n &&& BitVec.ofInt 64 m).toNat : Nat) = n % 2 ^ k
  rw [key, IntKind.wrap_i64]
  have h0 : 0 ≤ n % ((2 ^ 64 : Nat) : Int) := Int.emod_nonneg _ (by decide)
  have h1 : ((((n % ((2 ^ 64 : Nat) : Int)).toNat % 2 ^ k : Nat)) : Int) = n % 2 ^ k := by
    rw [Int.natCast_emod, Int.toNat_of_nonneg h0]
    have hd : ((2 ^ k : Nat) : Int) ∣ ((2 ^ 64 : Nat) : Int) := Int.natCast_dvd_natCast.2 (Nat.pow_dvd_pow 2 (by omega))
    rw [Int.emod_emod_of_dvd n hd]
    simp
  rw [h1]
  have h2 : (2 : Int) ^ k ≤ 2 ^ 62 := two_pow_le k 62 hk
  have h3 : (0 : Int) < 2 ^ k := Int.pow_pos (by decide)
  have h4 := Int.emod_nonneg n (b := 2 ^ k) (by omega)
  have h5 := Int.emod_lt_of_pos n h3
  generalize n % 2 ^ k = r at *
  generalize (2 : Int) ^ k = q at *
  have h6 : (2 : Int) ^ 62 = 4611686018427387904 := by decide
  omega

theorem i64_and63 (n : Int) : bits .and .i64 n 63 = n % 64 := i64_mask n 63 6 (by decide) (by decide)

theorem ret_int {k : IntKind} {a b : Int} (h : a = b) : Ending.returned (.int k a) = .returned (.int k b) := by rw [h]

theorem ret_bool {a b : Bool} (h : a = b) : Ending.returned (.bool a) = .returned (.bool b) := by rw [h]

theorem ret_ii {k l : IntKind} {a b c d : Int} (h : a = b ∧ c = d) : Ending.returned (.tuple #[.int k a, .int l c]) = .returned (.tuple #[.int k b, .int l d]) := by rw [h.1, h.2]

/-- A slice of int lies in memory: its numbers, cell by cell. -/
def Lies (w : World) (a : Option Addr) (xs : List Int) : Prop :=
  xs = [] ∨ ∃ b off, a = some ⟨b, off, none⟩ ∧ b < w.heap.size ∧ ∀ j, j < xs.length → w.cell? ⟨b, off + j, none⟩ = some (.int .i64 (xs.getD j 0))

theorem Lies.below {w w' : World} {a : Option Addr} {xs : List Int} (h : Lies w a xs) (hb : Below w.heap.size w w') : Lies w' a xs := by
  rcases h with h | ⟨b, off, ha, hlt, hc⟩
  · exact .inl h
  · exact .inr ⟨b, off, ha, Nat.lt_of_lt_of_le hlt hb.size, fun j hj => by rw [hb.cell (p := ⟨b, off + j, none⟩) hlt]; exact hc j hj⟩

def Small (xs : List Int) : Prop := ∀ x ∈ xs, In64 x

theorem Small.at {xs : List Int} (h : Small xs) (k : Nat) (hk : k < xs.length) : In64 (xs.getD k 0) := by
  rw [List.getD_eq_getElem?_getD, List.getElem?_eq_getElem hk]
  exact h _ (List.getElem_mem hk)

theorem World.heap_drew (w : World) : w.drew.heap = w.heap := rfl

theorem lies_new (w : World) (xs : List Int) (n : Nat) (hn : n = w.heap.size) : Lies (w.alloc (.cells (xs.map (Value.int .i64)).toArray 3)) (some ⟨n, 0, none⟩) xs := by
  subst hn
  refine .inr ⟨w.heap.size, 0, rfl, by simp, fun j hj => ?_⟩
  rw [World.cell?_alloc_at _ _ _ _ rfl]
  simp [List.getD_eq_getElem?_getD, List.getElem?_eq_getElem hj]

def IsRow (k : IntKind) (w : World) (a : Option Addr) (len cap : Nat) (zs : List Int) : Prop :=
  (a = none ∧ len = 0 ∧ cap = 0 ∧ zs = []) ∨
  ∃ x, a = some x ∧ len ≤ cap ∧ cap ≤ maxLen ∧ zs.length = cap ∧ (∀ i, i < zs.length → w.cell? (x.add i) = some (.int k (zs.getD i 0))) ∧ ∀ n ∈ zs, (Lit.int k n).wf = true

theorem lt_of_cell {w : World} {p : Addr} {v : Value} (h : w.cell? p = some v) : p.block < w.heap.size := by
  rcases Nat.lt_or_ge p.block w.heap.size with h' | h'
  · exact h'
  · simp [World.cell?, Array.getElem?_eq_none h'] at h

theorem lies_of_row {w : World} {x : Addr} {zs : List Int} (n : Nat) (hn : n ≤ zs.length) (hc : ∀ i, i < zs.length → w.cell? (x.add i) = some (.int .i64 (zs.getD i 0))) : Lies w (some x) (zs.take n) := by
  by_cases h0 : n = 0
  · subst h0; exact .inl (by simp)
  · obtain ⟨b, off, spot⟩ := x
    have h1 := hc 0 (by omega)
    have hspot : spot = none := by simpa [Addr.add] using World.cell?_spot h1
    subst hspot
    refine .inr ⟨b, off, rfl, ?_, fun j hj => ?_⟩
    · have := lt_of_cell h1; simpa [Addr.add] using this
    · have hj' : j < n := by simp at hj; omega
      have h2 := hc j (by omega)
      rw [show (zs.take n).getD j 0 = zs.getD j 0 by simp [List.getD_eq_getElem?_getD, hj']]
      rw [Addr.add_lit] at h2
      exact h2

theorem small_take {zs : List Int} (n : Nat) (h : ∀ z ∈ zs, (Lit.int .i64 z).wf = true) : Small (zs.take n) := fun x hx => in_of_wf (h x (List.mem_of_mem_take hx))

theorem ob (bits : Int) : wrap64 (1 + Go.bits BinOp.and IntKind.i64 bits 63) = 1 + bits % 64 := by
  rw [i64_and63, w64_in ⟨by omega, by omega⟩]

theorem Tryd.info3 : (Tryd.prog.info? 3).map (fun i => (i.zero, i.size, i.bytes)) = some (some (.int .i64 0), 1, 8) := by kernel_rfl

theorem owned_lies {w : World} {base n : Nat} {v : Value} {xs : List Int} (h : w.ownsRow base 3 1 v n (xs.map (Value.int .i64))) :
    ∃ a cap, v = .slice a xs.length cap ∧ Lies w a xs ∧ xs.length = n := by
  have hn : xs.length = n := by have := h.1; simpa using this
  rcases h.2 with ⟨hv, h0⟩ | ⟨g, cap, cur, hv, hb, hg, _⟩
  · subst h0
    have hx : xs = [] := List.length_eq_zero_iff.1 hn
    subst hx
    exact ⟨none, 0, hv, .inl rfl, rfl⟩
  · refine ⟨some ⟨g, 0, none⟩, cap, by rw [hv, hn], .inr ⟨g, 0, rfl, (Array.getElem?_eq_some_iff.1 hg).1, fun j hj => ?_⟩, hn⟩
    have hc := h.cells (g := g) (by rw [hv]; rfl) j (.int .i64 (xs.getD j 0)) (by simp [List.getD_eq_getElem?_getD, List.getElem?_eq_getElem hj])
    rw [Addr.add_lit] at hc
    exact hc

theorem ints_one (xs : List Int) : ∀ u ∈ xs.map (Value.int .i64), u.oneCell' = true := by
  intro u hu
  obtain ⟨z, _, rfl⟩ := List.mem_map.1 hu
  rfl

theorem below_trans {w w1 w2 : World} (h1 : Below w.heap.size w w1) (h2 : Below w1.heap.size w1 w2) : Below w.heap.size w w2 := h1.trans (h2.mono h1.size)

def quoI (x n : Int) : Int := if n < 1 then 0 else x / n

def remI (x n : Int) : Int := if n < 1 then 0 else x % n

def divI (x n : Int) : Int := if n < 1 then 0 else if n - x % n ≤ x % n then x / n + 1 else x / n

theorem quoI_pos (x n : Int) (h : 1 ≤ n) : quoI x n = x / n := by unfold quoI; rw [if_neg (by omega)]

theorem remI_pos (x n : Int) (h : 1 ≤ n) : remI x n = x % n := by unfold remI; rw [if_neg (by omega)]

theorem quoI_no (x n : Int) (h : n < 1) : quoI x n = 0 := by unfold quoI; rw [if_pos h]

theorem remI_no (x n : Int) (h : n < 1) : remI x n = 0 := by unfold remI; rw [if_pos h]

theorem divI_no (x n : Int) (h : n < 1) : divI x n = 0 := by unfold divI; rw [if_pos h]

theorem tq_neg (x n : Int) (h : 1 ≤ n) (hr : x.tmod n < 0) : x.tdiv n = x / n + 1 ∧ x.tmod n = x % n - n := by
  have h1 := Int.mul_tdiv_add_tmod x n
  have h2 := Int.lt_tmod_of_pos x (b := n) (by omega)
  have h3 : x = (x.tmod n + n) + (x.tdiv n - 1) * n := by
    rw [Int.sub_mul, Int.mul_comm (x.tdiv n) n]; omega
  have h4 : x / n = x.tdiv n - 1 := by
    conv => lhs; rw [h3]
    rw [Int.add_mul_ediv_right _ _ (by omega), Int.ediv_eq_zero_of_lt (by omega) (by omega)]; omega
  have h5 : x % n = x.tmod n + n := by
    conv => lhs; rw [h3]
    rw [Int.add_mul_emod_self_right, Int.emod_eq_of_lt (by omega) (by omega)]
  omega

theorem tq_pos (x n : Int) (h : 1 ≤ n) (hr : ¬ x.tmod n < 0) : x.tdiv n = x / n ∧ x.tmod n = x % n := by
  have h1 := Int.mul_tdiv_add_tmod x n
  have h2 := Int.tmod_lt_of_pos x (b := n) (by omega)
  have h3 : x = x.tmod n + x.tdiv n * n := by
    rw [Int.mul_comm (x.tdiv n) n]; omega
  have h4 : x / n = x.tdiv n := by
    conv => lhs; rw [h3]
    rw [Int.add_mul_ediv_right _ _ (by omega), Int.ediv_eq_zero_of_lt (by omega) (by omega)]; omega
  have h5 : x % n = x.tmod n := by
    conv => lhs; rw [h3]
    rw [Int.add_mul_emod_self_right, Int.emod_eq_of_lt (by omega) (by omega)]
  omega

theorem quo_in (x n : Int) (h : 1 ≤ n) (hx : In64 x) : In64 (x / n) := by
  obtain ⟨h1, h2⟩ := hx
  refine ⟨?_, ?_⟩
  · rw [Int.le_ediv_iff_mul_le (by omega)]
    omega
  · have h3 : x / n < 9223372036854775808 := by
      rw [Int.ediv_lt_iff_lt_mul (by omega)]
      omega
    omega

theorem rem_bd (x n : Int) (h : 1 ≤ n) : 0 ≤ x % n ∧ x % n < n := ⟨Int.emod_nonneg _ (by omega), Int.emod_lt_of_pos _ (by omega)⟩

theorem tq_bd (x n : Int) (h : 1 ≤ n) (hr : x.tmod n < 0) (hx : In64 x) : -9223372036854775808 ≤ x.tdiv n - 1 ∧ x.tdiv n ≤ 9223372036854775807 := by
  have hx0 : x < 0 := by
    rcases Int.lt_or_le x 0 with h | h
    · exact h
    · have := Int.tmod_nonneg n h; omega
  have h5 : x / n < 0 := by rw [Int.ediv_lt_iff_lt_mul (by omega)]; omega
  have h6 := (quo_in x n h hx).1
  rw [(tq_neg x n h hr).1]
  omega

set_option maxHeartbeats 1000000 in
theorem parts_any (x n : Int) (w : World) (hx : In64 x) (hn : In64 n) :
    Calls Tryd.prog 51 #[.int .i64 x, .int .i64 n] w fun e w' => e = .returned (.tuple #[.int .i64 (quoI x n), .int .i64 (remI x n)]) ∧ Below w.heap.size w w' := by
  by_cases c : n < 1
  · have H := hide (And.intro (quoI_no x n c) (remI_no x n c))
    go_enter Tryd.func51, Tryd.ntmps51
    go_wp2
    go_ret2
    exact ⟨ret_ii ⟨(unhide H).1.symm, (unhide H).2.symm⟩, Below.refl _ _⟩
  · have hn1 : 1 ≤ n := by omega
    have n0 : (n == 0) = false := by simp; omega
    have n0' : ¬ n = 0 := by omega
    have H := hide (And.intro (quoI_pos x n hn1) (remI_pos x n hn1))
    have Hq := hide (quo_in x n hn1 hx)
    have Hr := hide (rem_bd x n hn1)
    have hmr1 := Int.tmod_lt_of_pos x (b := n) (by omega)
    have hmr2 := Int.lt_tmod_of_pos x (b := n) (by omega)
    obtain ⟨h1, h2⟩ := hx
    obtain ⟨h3, h4⟩ := hn
    by_cases hr : x.tmod n < 0
    · have T := tq_neg x n hn1 hr
      have H1 := hide T.1
      have H2 := hide T.2
      have hb := (tq_bd x n hn1 hr ⟨h1, h2⟩).1
      have hb' := (tq_bd x n hn1 hr ⟨h1, h2⟩).2
      clear T
      have HV := hide (show x.tdiv n - 1 = quoI x n ∧ x.tmod n + n = remI x n by rw [(unhide H).1, (unhide H).2, unhide H1, unhide H2]; omega)
      go_enter Tryd.func51, Tryd.ntmps51
      go_wp2
      go_region
      go_wp2
      go_ret2
      exact ⟨ret_ii ⟨(unhide HV).1, (unhide HV).2⟩, (Below.refl _ w).drew⟩
    · have T := tq_pos x n hn1 hr
      have hb := quo_in x n hn1 ⟨h1, h2⟩
      rw [← T.1] at hb
      obtain ⟨hb1, hb2⟩ := hb
      have HV := hide (show x.tdiv n = quoI x n ∧ x.tmod n = remI x n by rw [(unhide H).1, (unhide H).2]; exact T)
      clear T
      go_enter Tryd.func51, Tryd.ntmps51
      go_wp2
      go_region
      go_wp2
      go_ret2
      exact ⟨ret_ii ⟨(unhide HV).1, (unhide HV).2⟩, (Below.refl _ w).drew⟩

set_option maxHeartbeats 1000000 in
theorem up_any (l n : Int) (b : Nat) (w : World) (hn : 1 ≤ n) (hn2 : n ≤ 9223372036854775807) (h0 : 0 ≤ l) (h1 : l < n) (hc : w.heap[b]? = some (.cells #[.int .i64 n] 3 (0, 0))) :
    Calls Tryd.prog 68 #[.int .i64 l, .pointer (some ⟨b, 0, none⟩)] w fun e w' => e = .returned (.bool (decide (n - l ≤ l))) ∧ w' = w := by
  have cr := cell_of_one hc
  go_enter Tryd.func68, Tryd.ntmps68
  go_wp2
  go_ret
  exact ⟨ret_bool rfl, rfl⟩

theorem divI_up (x n : Int) (h : 1 ≤ n) (c : n - x % n ≤ x % n) : divI x n = x / n + 1 := by unfold divI; rw [if_neg (by omega), if_pos c]

theorem divI_down (x n : Int) (h : 1 ≤ n) (c : ¬ n - x % n ≤ x % n) : divI x n = x / n := by unfold divI; rw [if_neg (by omega), if_neg c]

theorem up_bd (x n : Int) (h : 1 ≤ n) (hx : In64 x) (c : n - x % n ≤ x % n) : x / n + 1 ≤ 9223372036854775807 := by
  obtain ⟨h1, h2⟩ := hx
  have h3 := rem_bd x n h
  have h4 := Int.mul_ediv_add_emod x n
  rcases Int.lt_or_le n 2 with hn | hn
  · omega
  · have h5 : x / n < 9223372036854775807 := by
      rw [Int.ediv_lt_iff_lt_mul (by omega)]; omega
    omega

set_option maxHeartbeats 1000000 in
theorem divided_any (x n : Int) (b : Nat) (w : World) (hx : In64 x) (hn : 1 ≤ n) (hn2 : n ≤ 9223372036854775807) (hc : w.heap[b]? = some (.cells #[.int .i64 n] 3 (0, 0))) :
    Calls Tryd.prog 69 #[.int .i64 x, .int .i64 n, .func (.func 68) #[] #[.pointer (some ⟨b, 0, none⟩)]] w fun e w' => e = .returned (.int .i64 (divI x n)) ∧ Below w.heap.size w w' := by
  have hlt : b < w.heap.size := (Array.getElem?_eq_some_iff.1 hc).1
  have hr := rem_bd x n hn
  have hq := quo_in x n hn hx
  obtain ⟨hr1, hr2⟩ := hr
  by_cases c : n - x % n ≤ x % n
  · have HV := hide (divI_up x n hn c)
    have hu := up_bd x n hn hx c
    obtain ⟨hq1, hq2⟩ := hq
    go_enter Tryd.func69, Tryd.ntmps69
    go_wp2_with fail
    refine (parts_any _ _ _ hx ⟨by omega, by omega⟩).mono ?_
    rintro e w1 ⟨rfl, hb1⟩
    have hc1 := (hb1.block b hlt).trans hc
    rw [quoI_pos x n hn, remI_pos x n hn]
    go_wp2_with fail
    refine (up_any (x % n) n b _ hn hn2 hr1 hr2 hc1).mono ?_
    rintro e w' ⟨rfl, rfl⟩
    go_wp2
    go_ret
    exact ⟨ret_int (unhide HV).symm, hb1⟩
  · have HV := hide (divI_down x n hn c)
    go_enter Tryd.func69, Tryd.ntmps69
    go_wp2_with fail
    refine (parts_any _ _ _ hx ⟨by omega, by omega⟩).mono ?_
    rintro e w1 ⟨rfl, hb1⟩
    have hc1 := (hb1.block b hlt).trans hc
    rw [quoI_pos x n hn, remI_pos x n hn]
    go_wp2_with fail
    refine (up_any (x % n) n b _ hn hn2 hr1 hr2 hc1).mono ?_
    rintro e w' ⟨rfl, rfl⟩
    rw [decide_eq_false (by omega : ¬ n - x % n ≤ x % n)]
    go_wp2
    go_ret
    exact ⟨ret_int (unhide HV).symm, hb1⟩

set_option maxHeartbeats 1000000 in
theorem div_any (x n : Int) (w : World) (hx : In64 x) (hn : In64 n) :
    Calls Tryd.prog 48 #[.int .i64 x, .int .i64 n] w fun e w' => e = .returned (.int .i64 (divI x n)) ∧ Below w.heap.size w w' := by
  have hmf : ∀ (fn : Fn) (first cap : Array Value) (w : World), (Instr.makeFunc fn first cap).run Tryd.prog w = .ok (.func fn first cap) w := fun _ _ _ _ => rfl
  have ha : (w.alloc (.cells #[.int .i64 n] 3)).heap[w.heap.size]? = some (.cells #[.int .i64 n] 3 (0, 0)) := heap_alloc_new _ _
  by_cases c : n < 1
  · have HV := hide (divI_no x n c)
    go_enter Tryd.func48, Tryd.ntmps48
    go_wp2
    go_ret
    exact ⟨ret_int (unhide HV).symm, (Below.refl _ w).alloc (Nat.le_refl _) _⟩
  · go_enter Tryd.func48, Tryd.ntmps48
    go_wp2_with fail
    refine (divided_any x n w.heap.size _ hx (by omega) hn.2 ha).mono ?_
    rintro e w' ⟨rfl, hb1⟩
    go_wp2
    go_ret
    exact ⟨rfl, ((Below.refl _ w).alloc (Nat.le_refl _) _).trans (hb1.mono (by simp))⟩

theorem divI_eq (x n : Int) (h : 1 ≤ n) : divI x n = (2 * x + n) / (2 * n) := by
  have h1 := Int.mul_ediv_add_emod x n
  have h2 := rem_bd x n h
  have e : 2 * x + n = (2 * (x % n) + n) + (x / n) * (2 * n) := by
    rw [Int.mul_left_comm, Int.mul_comm (x / n) n]; omega
  rw [e, Int.add_mul_ediv_right _ _ (by omega)]
  by_cases c : n - x % n ≤ x % n
  · rw [divI_up x n h c]
    have e2 : 2 * (x % n) + n = (2 * (x % n) - n) + 1 * (2 * n) := by omega
    have z : (2 * (x % n) - n) / (2 * n) = 0 := Int.ediv_eq_zero_of_lt (by omega) (by omega)
    rw [e2, Int.add_mul_ediv_right _ _ (by omega), z]; omega
  · rw [divI_down x n h c]
    have z : (2 * (x % n) + n) / (2 * n) = 0 := Int.ediv_eq_zero_of_lt (by omega) (by omega)
    rw [z]; omega

def two (n : Int) : Int := 2 ^ n.toNat

theorem two_pos (n : Int) : 1 ≤ two n := by unfold two; have := Int.pow_pos (n := 2) (m := n.toNat) (by decide); omega

theorem two_le (n : Int) (k : Nat) (h : n ≤ k) : two n ≤ 2 ^ k := by unfold two; exact two_pow_le _ _ (by omega)

theorem two_in (n : Int) (h : n ≤ 62) : In64 (two n) := by
  have h1 := two_pos n
  have h2 := two_le n 62 h
  have h3 : (2 : Int) ^ 62 = 4611686018427387904 := by decide
  exact ⟨by omega, by omega⟩

theorem two_succ (n : Int) (h : 0 ≤ n) : two (n + 1) = 2 * two n := by
  unfold two; rw [show (n + 1).toNat = n.toNat + 1 by omega, Int.pow_succ]; omega

def halfI (x n : Int) : Int := if 0 ≤ n ∧ n ≤ 62 then divI x (two n) else 0

theorem halfI_yes (x n : Int) (h1 : 0 ≤ n) (h2 : n ≤ 62) : halfI x n = divI x (two n) := by unfold halfI; rw [if_pos ⟨h1, h2⟩]

theorem halfI_no (x n : Int) (h : n < 0 ∨ 62 < n) : halfI x n = 0 := by unfold halfI; rw [if_neg (by omega)]

set_option maxHeartbeats 1000000 in
theorem half_any (x n : Int) (w : World) (hx : In64 x) :
    Calls Tryd.prog 38 #[.int .i64 x, .int .i64 n] w fun e w' => e = .returned (.int .i64 (halfI x n)) ∧ Below w.heap.size w w' := by
  by_cases c1 : n < 0
  · have HV := hide (halfI_no x n (.inl c1))
    go_enter Tryd.func38, Tryd.ntmps38
    go_wp2
    go_ret
    exact ⟨ret_int (unhide HV).symm, Below.refl _ _⟩
  by_cases c2 : 62 < n
  · have HV := hide (halfI_no x n (.inr c2))
    go_enter Tryd.func38, Tryd.ntmps38
    go_wp2
    go_ret
    exact ⟨ret_int (unhide HV).symm, Below.refl _ _⟩
  · have HV := hide (halfI_yes x n (by omega) (by omega))
    have ht := two_in n (by omega)
    have e1 : wrap64 (2 ^ n.toNat) = two n := w64_in ht
    go_enter Tryd.func38, Tryd.ntmps38
    go_wp2_with fail
    refine (div_any x (two n) _ hx ht).mono ?_
    rintro e w' ⟨rfl, hb⟩
    go_wp2
    go_ret
    exact ⟨ret_int (unhide HV).symm, hb⟩

theorem div_whole (z m : Int) (h : 1 ≤ m) : divI (z * m) m = z := by
  rw [divI_eq _ _ h, show 2 * (z * m) + m = m + z * (2 * m) by rw [Int.mul_left_comm]; omega, Int.add_mul_ediv_right _ _ (by omega), Int.ediv_eq_zero_of_lt (by omega) (by omega)]; omega

set_option maxHeartbeats 1000000 in
theorem rquot_any (x n : Int) (w : World) (hx : In64 x) (hn1 : 1 ≤ n) (hn2 : n ≤ 9223372036854775807) :
    Calls Tryd.prog 70 #[.int .i64 x, .int .i64 n] w fun e w' => e = .returned (.int .i64 (x / n)) ∧ w' = w := by
  have n0 : (n == 0) = false := by simp; omega
  have n0' : ¬ n = 0 := by omega
  have hx' := hx
  obtain ⟨h1, h2⟩ := hx
  by_cases hr : x.tmod n < 0
  · have T := tq_neg x n hn1 hr
    have HV := hide (show x.tdiv n - 1 = x / n by omega)
    have hb := tq_bd x n hn1 hr hx'
    obtain ⟨hb1, hb2⟩ := hb
    clear T
    go_enter Tryd.func70, Tryd.ntmps70
    go_wp2
    go_ret
    exact ⟨ret_int (unhide HV), rfl⟩
  · have T := tq_pos x n hn1 hr
    have HV := hide T.1
    have hb := quo_in x n hn1 hx'
    rw [← T.1] at hb
    obtain ⟨hb1, hb2⟩ := hb
    clear T
    go_enter Tryd.func70, Tryd.ntmps70
    go_wp2
    go_ret
    exact ⟨ret_int (unhide HV), rfl⟩

set_option maxHeartbeats 1000000 in
theorem rrest_any (x n : Int) (w : World) (hx : In64 x) (hn1 : 1 ≤ n) (hn2 : n ≤ 9223372036854775807) :
    Calls Tryd.prog 71 #[.int .i64 x, .int .i64 n] w fun e w' => e = .returned (.int .i64 (x % n)) ∧ w' = w := by
  have HV := hide (show wrap64 (x - wrap64 (x / n * n)) = x % n by
    have h1 := Int.mul_ediv_add_emod x n
    have h2 := rem_bd x n hn1
    rw [Int.mul_comm] at h1
    obtain ⟨h3, h4⟩ := hx
    generalize x / n * n = z at *
    generalize x % n = r at *
    unfold wrap64
    omega)
  go_enter Tryd.func71, Tryd.ntmps71
  go_wp2_with fail
  refine (rquot_any x n _ hx hn1 hn2).mono ?_
  rintro e w1 ⟨rfl, rfl⟩
  go_wp2
  go_ret
  exact ⟨ret_int (unhide HV), rfl⟩

set_option maxHeartbeats 1000000 in
theorem rdiv_any (x n : Int) (w : World) (hx : In64 x) (hn2 : n ≤ 9223372036854775807) :
    Calls Tryd.prog 49 #[.int .i64 x, .int .i64 n] w fun e w' => e = .returned (.int .i64 (divI x n)) ∧ w' = w := by
  by_cases c : n < 1
  · have HV := hide (divI_no x n c)
    go_enter Tryd.func49, Tryd.ntmps49
    go_wp2
    go_ret
    exact ⟨ret_int (unhide HV).symm, rfl⟩
  · have hn1 : 1 ≤ n := by omega
    obtain ⟨hr1, hr2⟩ := rem_bd x n hn1
    obtain ⟨hq1, hq2⟩ := quo_in x n hn1 hx
    by_cases c2 : n - x % n ≤ x % n
    · have HV := hide (divI_up x n hn1 c2)
      have hu := up_bd x n hn1 hx c2
      go_enter Tryd.func49, Tryd.ntmps49
      go_wp2_with fail
      refine (rquot_any x n _ hx hn1 hn2).mono ?_
      rintro e w1 ⟨rfl, rfl⟩
      go_wp2_with fail
      refine (rrest_any x n _ hx hn1 hn2).mono ?_
      rintro e w1 ⟨rfl, rfl⟩
      generalize x % n = r at *
      generalize x / n = q at *
      go_wp2
      go_ret
      exact ⟨ret_int (unhide HV).symm, rfl⟩
    · have HV := hide (divI_down x n hn1 c2)
      go_enter Tryd.func49, Tryd.ntmps49
      go_wp2_with fail
      refine (rquot_any x n _ hx hn1 hn2).mono ?_
      rintro e w1 ⟨rfl, rfl⟩
      go_wp2_with fail
      refine (rrest_any x n _ hx hn1 hn2).mono ?_
      rintro e w1 ⟨rfl, rfl⟩
      generalize x % n = r at *
      generalize x / n = q at *
      go_wp2
      go_ret
      exact ⟨ret_int (unhide HV).symm, rfl⟩

set_option maxHeartbeats 1000000 in
theorem rpower_any (n : Int) (w : World) (h0 : 0 ≤ n) (h1 : n ≤ 62) :
    Calls Tryd.prog 50 #[.int .i64 n] w fun e w' => e = .returned (.int .i64 (two n)) ∧ w' = w := by
  go_enter Tryd.func50, Tryd.ntmps50
  go_wp2
  go_loop [3, 4] (fun l i => ∃ k : Int, 0 ≤ k ∧ k ≤ n ∧ i = .int .i64 k ∧ l = .int .i64 (two k)) (fun _ i => (n - intOf i).toNat)
  case atStart => exact ⟨0, by omega, h0, rfl, rfl⟩
  case round =>
    obtain ⟨k, hk1, hk2, rfl, rfl⟩ := hrel
    by_cases hlt : k < n
    · have hp := two_pos k
      have hq := two_in (k + 1) (by omega)
      have hs := two_succ k hk1
      rw [hs] at hq
      obtain ⟨hq1, hq2⟩ := hq
      have HS := hide (show two k * 2 = two (k + 1) by omega)
      clear hs
      go_wp2
      go_round
      case rel => exact ⟨k + 1, by omega, by omega, by go_num, by first | rw [unhide HS] | (rw [← unhide HS]; go_num)⟩
      case measure => simp [intOf]; omega
    · have e : k = n := by omega
      subst e
      go_wp2
      go_ret
      exact ⟨rfl, rfl⟩

set_option maxHeartbeats 1000000 in
theorem rhalf_any (x n : Int) (w : World) (hx : In64 x) :
    Calls Tryd.prog 39 #[.int .i64 x, .int .i64 n] w fun e w' => e = .returned (.int .i64 (halfI x n)) ∧ w' = w := by
  by_cases c1 : n < 0
  · have HV := hide (halfI_no x n (.inl c1))
    go_enter Tryd.func39, Tryd.ntmps39
    go_wp2
    go_ret
    exact ⟨ret_int (unhide HV).symm, rfl⟩
  by_cases c2 : 62 < n
  · have HV := hide (halfI_no x n (.inr c2))
    go_enter Tryd.func39, Tryd.ntmps39
    go_wp2
    go_ret
    exact ⟨ret_int (unhide HV).symm, rfl⟩
  · have HV := hide (halfI_yes x n (by omega) (by omega))
    have ht := two_in n (by omega)
    go_enter Tryd.func39, Tryd.ntmps39
    go_wp2_with fail
    refine (rpower_any n _ (by omega) (by omega)).mono ?_
    rintro e w' ⟨rfl, rfl⟩
    go_wp2_with fail
    refine (rdiv_any x (two n) _ hx ht.2).mono ?_
    rintro e w' ⟨rfl, rfl⟩
    go_wp2
    go_ret
    exact ⟨ret_int (unhide HV).symm, rfl⟩

/-- How many binary digits. -/
def bl (x : Nat) : Nat := if x = 0 then 0 else Nat.log2 x + 1

theorem bl_zero : bl 0 = 0 := rfl

theorem bl_lt (x : Nat) : x < 2 ^ bl x := by
  unfold bl
  split
  · rename_i h; rw [h]; decide
  · exact Nat.lt_log2_self

theorem bl_ge (x : Nat) (h : x ≠ 0) : 2 ^ (bl x - 1) ≤ x ∧ 1 ≤ bl x := by
  unfold bl
  rw [if_neg h]
  exact ⟨Nat.log2_self_le h, by omega⟩

theorem bl_eq (x b : Nat) (h1 : 2 ^ b ≤ x) (h2 : x < 2 ^ (b + 1)) : bl x = b + 1 := by
  have h0 : x ≠ 0 := by have := Nat.two_pow_pos b; omega
  obtain ⟨h3, h4⟩ := bl_ge x h0
  have h5 := bl_lt x
  have h6 : ¬ bl x < b + 1 := fun h => by
    have := Nat.pow_le_pow_right (n := 2) (by decide) (show bl x ≤ b by omega)
    omega
  have h7 : ¬ b + 1 < bl x := fun h => by
    have := Nat.pow_le_pow_right (n := 2) (by decide) (show b + 1 ≤ bl x - 1 by omega)
    omega
  omega

theorem bl_le (x b : Nat) (h : x < 2 ^ b) : bl x ≤ b := by
  by_cases h0 : x = 0
  · rw [h0, bl_zero]; omega
  · obtain ⟨h3, h4⟩ := bl_ge x h0
    by_cases h5 : b + 1 ≤ bl x
    · have := Nat.pow_le_pow_right (n := 2) (by decide) (show b ≤ bl x - 1 by omega)
      omega
    · omega

theorem bl_mono (x y : Nat) (h : x ≤ y) : bl x ≤ bl y := bl_le x _ (by have := bl_lt y; omega)

theorem bl_half (x : Nat) (h : x ≠ 0) : bl x = bl (x / 2) + 1 := by
  obtain ⟨h3, h4⟩ := bl_ge x h
  have h5 := bl_lt x
  obtain ⟨b, hb⟩ : ∃ b, bl x = b + 1 := ⟨bl x - 1, by omega⟩
  rw [hb] at h3 h5 ⊢
  simp only [Nat.add_sub_cancel] at h3
  rw [Nat.pow_succ] at h5
  cases b with
  | zero =>
    have : x = 1 := by simp at h3 h5; omega
    rw [this]; rfl
  | succ b =>
    rw [bl_eq (x / 2) b (by rw [Nat.pow_succ] at h3; omega) (by omega)]

/-- x moved so that its highest bit is bit 31. -/
def nrm (x : Nat) : Nat := if bl x ≤ 32 then x * 2 ^ (32 - bl x) else x / 2 ^ (bl x - 32)

theorem nrm_bd (x : Nat) (h : x ≠ 0) : 2147483648 ≤ nrm x ∧ nrm x < 4294967296 := by
  obtain ⟨h3, h4⟩ := bl_ge x h
  have h5 := bl_lt x
  unfold nrm
  generalize bl x = b at *
  split
  · have e1 : (2147483648 : Nat) = 2 ^ (b - 1) * 2 ^ (32 - b) := by
      rw [← Nat.pow_add, show b - 1 + (32 - b) = 31 by omega]
    have e2 : (4294967296 : Nat) = 2 ^ b * 2 ^ (32 - b) := by
      rw [← Nat.pow_add, show b + (32 - b) = 32 by omega]
    have hp := Nat.two_pow_pos (32 - b)
    exact ⟨by rw [e1]; exact Nat.mul_le_mul_right _ h3, by rw [e2]; exact (Nat.mul_lt_mul_right hp).2 h5⟩
  · have e1 : 2147483648 * 2 ^ (b - 32) = 2 ^ (b - 1) := by
      rw [show (2147483648 : Nat) = 2 ^ 31 by decide, ← Nat.pow_add, show 31 + (b - 32) = b - 1 by omega]
    have e2 : 4294967296 * 2 ^ (b - 32) = 2 ^ b := by
      rw [show (4294967296 : Nat) = 2 ^ 32 by decide, ← Nat.pow_add, show 32 + (b - 32) = b by omega]
    have hp := Nat.two_pow_pos (b - 32)
    exact ⟨by rw [Nat.le_div_iff_mul_le hp, e1]; exact h3, by rw [Nat.div_lt_iff_lt_mul hp, e2]; exact h5⟩

theorem nrm_mono (x y : Nat) (h : x ≤ y) (hb : bl x = bl y) : nrm x ≤ nrm y := by
  unfold nrm
  rw [hb]
  split
  · exact Nat.mul_le_mul_right _ h
  · exact Nat.div_le_div_right h

/-- One digit: the digit, and what m is then. -/
def dg (m : Nat) : Nat := if 4294967296 ≤ m * m / 2147483648 then 1 else 0

def nx (m : Nat) : Nat := if 4294967296 ≤ m * m / 2147483648 then m * m / 2147483648 / 2 else m * m / 2147483648

theorem dg_le (m : Nat) : dg m ≤ 1 := by unfold dg; split <;> omega

theorem sq_bd (m : Nat) (h1 : 2147483648 ≤ m) (h2 : m < 4294967296) : 2147483648 ≤ m * m / 2147483648 ∧ m * m / 2147483648 < 8589934592 := by
  have h3 := Nat.mul_le_mul h1 h1
  have h4 := Nat.mul_le_mul (show m ≤ 4294967295 by omega) (show m ≤ 4294967295 by omega)
  omega

theorem nx_bd (m : Nat) (h1 : 2147483648 ≤ m) (h2 : m < 4294967296) : 2147483648 ≤ nx m ∧ nx m < 4294967296 := by
  have h3 := sq_bd m h1 h2
  unfold nx
  split <;> omega

theorem dn_mono (m n : Nat) (h : m ≤ n) (hn : n * n / 2147483648 < 8589934592) : dg m < dg n ∨ (dg m = dg n ∧ nx m ≤ nx n) := by
  have h1 : m * m / 2147483648 ≤ n * n / 2147483648 := Nat.div_le_div_right (Nat.mul_le_mul h h)
  unfold dg nx
  repeat' split
  all_goals omega

/-- m behind k digits; the first k digits, as a number. -/
def ms : Nat → Nat → Nat
  | 0, m => m
  | k + 1, m => nx (ms k m)

def digs : Nat → Nat → Nat
  | 0, _ => 0
  | k + 1, m => digs k m * 2 + dg (ms k m)

theorem ms_bd (k m : Nat) (h1 : 2147483648 ≤ m) (h2 : m < 4294967296) : 2147483648 ≤ ms k m ∧ ms k m < 4294967296 := by
  induction k with
  | zero => exact ⟨h1, h2⟩
  | succ k ih => exact nx_bd _ ih.1 ih.2

theorem digs_lt (k m : Nat) : digs k m < 2 ^ k := by
  induction k with
  | zero => simp [digs]
  | succ k ih =>
    have := dg_le (ms k m)
    rw [Nat.pow_succ]
    unfold digs
    omega

theorem digs_mono (k m n : Nat) (h : m ≤ n) (h1 : 2147483648 ≤ n) (h2 : n < 4294967296) : digs k m < digs k n ∨ (digs k m = digs k n ∧ ms k m ≤ ms k n) := by
  induction k with
  | zero => exact .inr ⟨rfl, h⟩
  | succ k ih =>
    have b := ms_bd k n h1 h2
    have l1 := dg_le (ms k m)
    rcases ih with ih | ⟨ih, ih2⟩
    · left
      show digs k m * 2 + dg (ms k m) < digs k n * 2 + dg (ms k n)
      omega
    · have d := dn_mono (ms k m) (ms k n) ih2 (sq_bd _ b.1 b.2).2
      show digs k m * 2 + dg (ms k m) < digs k n * 2 + dg (ms k n) ∨ (digs k m * 2 + dg (ms k m) = digs k n * 2 + dg (ms k n) ∧ nx (ms k m) ≤ nx (ms k n))
      omega

/-- The logarithm. -/
def logN (x : Nat) : Nat := if x = 0 then 0 else 256 * (bl x - 1) + digs 8 (nrm x)

theorem logN_pos (x : Nat) (h : x ≠ 0) : logN x = 256 * (bl x - 1) + digs 8 (nrm x) := by unfold logN; rw [if_neg h]

theorem logN_bd (x : Nat) (h : x ≠ 0) : 256 * (bl x - 1) ≤ logN x ∧ logN x < 256 * bl x := by
  have h1 := digs_lt 8 (nrm x)
  have h2 := (bl_ge x h).2
  rw [logN_pos x h]
  omega

theorem logN_mono (x y : Nat) (h : x ≤ y) : logN x ≤ logN y := by
  by_cases h0 : x = 0
  · rw [h0]; exact Nat.zero_le _
  · have h1 := logN_bd x h0
    have h2 := logN_bd y (by omega)
    have h3 := bl_mono x y h
    by_cases h4 : bl x = bl y
    · rw [logN_pos x h0, logN_pos y (by omega), h4]
      have b := nrm_bd y (by omega)
      have := digs_mono 8 _ _ (nrm_mono x y h h4) b.1 b.2
      omega
    · omega

theorem shift_div (x p q : Nat) : x * 2 ^ p / 2 ^ q = if q ≤ p then x * 2 ^ (p - q) else x / 2 ^ (q - p) := by
  split
  · rename_i h
    have e : 2 ^ p = 2 ^ (p - q) * 2 ^ q := by rw [← Nat.pow_add, show p - q + q = p by omega]
    rw [e, ← Nat.mul_assoc, Nat.mul_div_cancel _ (Nat.two_pow_pos _)]
  · rename_i h
    have e : 2 ^ q = 2 ^ (q - p) * 2 ^ p := by rw [← Nat.pow_add, show q - p + p = q by omega]
    rw [e, Nat.mul_div_mul_right _ _ (Nat.two_pow_pos _)]

/-- The greatest bits of a row, whatever the signs. -/
def normN : List Int → Nat
  | [] => 0
  | x :: l => max (bl x.natAbs) (normN l)

theorem normN_append (l k : List Int) : normN (l ++ k) = max (normN l) (normN k) := by
  induction l with
  | nil => simp [normN]
  | cons x l ih => show max (bl x.natAbs) (normN (l ++ k)) = max (max (bl x.natAbs) (normN l)) (normN k); rw [ih, Nat.max_assoc]

theorem normN_one (x : Int) : normN [x] = bl x.natAbs := by simp [normN]

theorem normN_met (l : List Int) : normN l = 0 ∨ ∃ x ∈ l, bl x.natAbs = normN l := by
  induction l with
  | nil => exact .inl rfl
  | cons y l ih =>
    right
    unfold normN
    rcases Nat.le_total (normN l) (bl y.natAbs) with h | h
    · exact ⟨y, List.mem_cons_self, by omega⟩
    · rcases ih with ih | ⟨x, hx, ih⟩
      · exact ⟨y, List.mem_cons_self, by omega⟩
      · exact ⟨x, List.mem_cons_of_mem _ hx, by omega⟩

def U64 (x : Int) : Prop := 0 ≤ x ∧ x ≤ 18446744073709551615

def blI (x : Int) : Int := bl x.toNat

theorem bl_lib (x : Nat) (h : x < 2 ^ 64) : Lib.bitLen x = bl x := by
  induction x using Nat.strongRecOn with
  | _ x ih =>
    by_cases h0 : x = 0
    · rw [h0]; rfl
    · rw [Lib.bitLen_half x h0 h, bl_half x h0, ih (x / 2) (by omega) (by omega)]
      omega

theorem len8_bl (b : Int) (h0 : 0 ≤ b) (h1 : b ≤ 255) : Lib.len8 b = blI b := by
  rw [Lib.len8_of b h0 h1, bl_lib _ (by omega)]; rfl

theorem bl_up (k : Nat) : ∀ x : Nat, 2 ^ k ≤ x → bl x = bl (x / 2 ^ k) + k := by
  induction k with
  | zero => intro x _; simp
  | succ k ih =>
    intro x h
    have e : 2 ^ (k + 1) = 2 * 2 ^ k := by rw [Nat.pow_succ, Nat.mul_comm]
    have p := Nat.two_pow_pos k
    rw [bl_half x (by omega), ih (x / 2) (by omega), Nat.div_div_eq_div_mul, ← e]
    omega

theorem blI_up (k : Nat) (x : Int) (h : ((2 ^ k : Nat) : Int) ≤ x) : blI x = blI (x / ((2 ^ k : Nat) : Int)) + k := by
  obtain ⟨n, rfl⟩ : ∃ n : Nat, x = n := ⟨x.toNat, by have := Nat.two_pow_pos k; omega⟩
  unfold blI
  rw [← Int.natCast_ediv, Int.toNat_natCast, Int.toNat_natCast, bl_up k n (by omega)]
  omega

theorem blI_bd (x : Int) (k : Nat) (h0 : 0 ≤ x) (h : x < ((2 ^ k : Nat) : Int)) : 0 ≤ blI x ∧ blI x ≤ k := by
  unfold blI
  have := bl_le x.toNat k (by omega)
  omega

theorem tab_bl (d : Int) (h0 : 0 ≤ d) (h1 : d < 256) (hp : d.toNat < Lib.len8tab.size) : (((Lib.len8tab[d.toNat]'hp).toNat : Nat) : Int) = blI d := by
  rw [← len8_bl d h0 (by omega)]
  unfold Lib.len8
  rw [ByteArray.getElem?_lt' _ _ hp]
  rfl

theorem len_end (x d c : Int) (k : Nat) (hp : d.toNat < Lib.len8tab.size) (hc : c = k) (hd : d = x / ((2 ^ k : Nat) : Int)) (h0 : 0 ≤ d) (h1 : d < 256) (hk : k ≤ 56) (hx : ((2 ^ k : Nat) : Int) ≤ x) :
    wrap64 (c + wrap64 (((Lib.len8tab[d.toNat]'hp).toNat : Nat) : Int)) = blI x := by
  rw [tab_bl d h0 h1 hp]
  have h2 := blI_bd d 8 h0 h1
  rw [blI_up k x hx, ← hd]
  unfold wrap64
  omega

theorem len_end0 (x : Int) (hp : x.toNat < Lib.len8tab.size) (h0 : 0 ≤ x) (h1 : x < 256) :
    wrap64 (wrap64 (((Lib.len8tab[x.toNat]'hp).toNat : Nat) : Int)) = blI x := by
  rw [tab_bl x h0 h1 hp]
  have h2 := blI_bd x 8 h0 h1
  unfold wrap64
  omega

set_option maxHeartbeats 4000000 in
set_option maxRecDepth 100000 in
theorem len64_any (x : Int) (w : World) (hx : U64 x) :
    Calls Tryd.prog 90 #[.int .u64 x] w fun e w' => e = .returned (.int .i64 (blI x)) ∧ w' = w := by
  obtain ⟨h0, h1⟩ := hx
  have hsz : ((Lib.len8tab.size : Nat) : Int) = 256 := by rw [Lib.len8tab_size]; rfl
  go_enter Tryd.func90, Tryd.ntmps90
  go_wp2
  all_goals go_ret
  · exact ⟨ret_int (len_end x _ 56 56 _ rfl (by omega) (by omega) (by omega) (by decide) (by omega)), rfl⟩
  · exact ⟨ret_int (len_end x _ 48 48 _ rfl (by omega) (by omega) (by omega) (by decide) (by omega)), rfl⟩
  · exact ⟨ret_int (len_end x _ 40 40 _ rfl (by omega) (by omega) (by omega) (by decide) (by omega)), rfl⟩
  · exact ⟨ret_int (len_end x _ 32 32 _ rfl (by omega) (by omega) (by omega) (by decide) (by omega)), rfl⟩
  · exact ⟨ret_int (len_end x _ 24 24 _ rfl (by omega) (by omega) (by omega) (by decide) (by omega)), rfl⟩
  · exact ⟨ret_int (len_end x _ 16 16 _ rfl (by omega) (by omega) (by omega) (by decide) (by omega)), rfl⟩
  · exact ⟨ret_int (len_end x _ 8 8 _ rfl (by omega) (by omega) (by omega) (by decide) (by omega)), rfl⟩
  · exact ⟨ret_int (len_end0 x _ (by omega) (by omega)), rfl⟩

theorem blI_64 (x : Int) (hx : U64 x) : 0 ≤ blI x ∧ blI x ≤ 64 := blI_bd x 64 hx.1 (by have := hx.2; omega)

theorem zeros_any (x : Int) (w : World) (hx : U64 x) :
    Calls Tryd.prog 91 #[.int .u64 x] w fun e w' => e = .returned (.int .i64 (64 - blI x)) ∧ w' = w := by
  obtain ⟨b0, b1⟩ := blI_64 x hx
  go_enter Tryd.func91, Tryd.ntmps91
  go_wp2_with fail
  refine (len64_any x _ hx).mono ?_
  rintro e w' ⟨rfl, rfl⟩
  go_wp2
  go_ret
  exact ⟨rfl, rfl⟩

theorem bits_any (x : Int) (w : World) (hx : U64 x) :
    Calls Tryd.prog 80 #[.int .u64 x] w fun e w' => e = .returned (.int .i64 (blI x)) ∧ w' = w := by
  go_enter Tryd.func80, Tryd.ntmps80
  go_wp2_with fail
  refine (len64_any x _ hx).mono ?_
  rintro e w' ⟨rfl, rfl⟩
  go_wp2
  go_ret
  exact ⟨rfl, rfl⟩

def nrmI (x : Int) : Int := nrm x.toNat

def logI (x : Int) : Int := logN x.toNat

theorem blI_pos (x : Int) (h : 0 < x) : 1 ≤ blI x := by
  have := (bl_ge x.toNat (by omega)).2
  unfold blI; omega

theorem nrm_moved (x : Nat) (h0 : x ≠ 0) (h1 : x < 18446744073709551616) : x * 2 ^ (64 - bl x) % 18446744073709551616 / 4294967296 = nrm x := by
  have hb := bl_le x 64 h1
  have h2 := bl_lt x
  have h3 := (bl_ge x h0).2
  have e : 2 ^ bl x * 2 ^ (64 - bl x) = 18446744073709551616 := by rw [← Nat.pow_add, show bl x + (64 - bl x) = 64 by omega]
  have h4 := (Nat.mul_lt_mul_right (Nat.two_pow_pos (64 - bl x))).2 h2
  rw [Nat.mod_eq_of_lt (by omega), show (4294967296 : Nat) = 2 ^ 32 by decide, shift_div]
  unfold nrm
  by_cases c : bl x ≤ 32
  · rw [if_pos (by omega), if_pos c, show 64 - bl x - 32 = 32 - bl x by omega]
  · rw [if_neg (by omega), if_neg c, show 32 - (64 - bl x) = bl x - 32 by omega]

theorem nrmI_moved (x : Int) (hx : U64 x) (h0 : 0 < x) : IntKind.u64.wrap (x * 2 ^ (64 - blI x).toNat) / 4294967296 = nrmI x := by
  obtain ⟨n, rfl⟩ : ∃ n : Nat, x = n := ⟨x.toNat, by omega⟩
  have h := nrm_moved n (by omega) (by have := hx.2; omega)
  unfold nrmI blI
  rw [Int.toNat_natCast, ← h, IntKind.wrap_u64, show (64 - (bl n : Int)).toNat = 64 - bl n by omega]
  simp

set_option maxHeartbeats 1000000 in
theorem moved_any (x : Int) (w : World) (hx : U64 x) (hp : 0 < x) :
    Calls Tryd.prog 82 #[.int .u64 x] w fun e w' => e = .returned (.int .u64 (nrmI x)) ∧ w' = w := by
  obtain ⟨b0, b1⟩ := blI_64 x hx
  have b2 := blI_pos x hp
  go_enter Tryd.func82, Tryd.ntmps82
  go_wp2_with fail
  refine (zeros_any x _ hx).mono ?_
  rintro e w' ⟨rfl, rfl⟩
  go_wp2
  go_ret
  exact ⟨ret_int (nrmI_moved x hx hp), rfl⟩

theorem i64_or_add (a b k : Nat) (hb : b < 2 ^ k) (hs : 2 ^ k * a + b < 9223372036854775808) : bits .or .i64 ((2 ^ k * a : Nat) : Int) (b : Int) = ((2 ^ k * a + b : Nat) : Int) := by
  have key : (BitVec.ofInt 64 ((2 ^ k * a : Nat) : Int) ||| BitVec.ofInt 64 (b : Int)).toNat = 2 ^ k * a + b := by
    rw [BitVec.toNat_or, BitVec.toNat_ofInt, BitVec.toNat_ofInt, Nat.two_pow_add_eq_or_of_lt hb a]
    congr 1 <;> omega
  show IntKind.i64.wrap ((BitVec.ofInt 64 ((2 ^ k * a : Nat) : Int) ||| BitVec.ofInt 64 (b : Int)).toNat : Nat) = _
  rw [key, IntKind.wrap_i64]
  omega

theorem or_digit (l d : Int) (h0 : 0 ≤ l) (h1 : l < 100000) (hd : d = 0 ∨ d = 1) : bits .or .i64 (l * 2) d = l * 2 + d := by
  obtain ⟨a, rfl⟩ : ∃ a : Nat, l = a := ⟨l.toNat, by omega⟩
  obtain ⟨b, rfl⟩ : ∃ b : Nat, d = b := ⟨d.toNat, by omega⟩
  have := i64_or_add a b 1 (by omega) (by omega)
  rw [show ((2 ^ 1 * a : Nat) : Int) = (a : Int) * 2 by omega] at this
  rw [this]; omega

/-- What the digits' loop keeps: the logarithm's first k digits behind its whole part. -/
def lg (n k : Nat) : Int := ((bl n - 1) * 2 ^ k + digs k (nrm n) : Nat)

def mI (n k : Nat) : Int := ms k (nrm n)

theorem lg_zero (n : Nat) (h : n ≠ 0) : lg n 0 = (bl n : Int) - 1 := by
  have := (bl_ge n h).2
  unfold lg; simp [digs]; omega

theorem lg_last (n : Nat) (h : n ≠ 0) : lg n 8 = logN n := by
  rw [logN_pos n h]
  unfold lg
  rw [Nat.mul_comm]

theorem lg_bd (n k : Nat) (hn : n < 18446744073709551616) (hk : k ≤ 8) : 0 ≤ lg n k ∧ lg n k < 17000 := by
  have h1 := digs_lt k (nrm n)
  have h2 := bl_le n 64 hn
  have h3 := Nat.pow_le_pow_right (n := 2) (by decide) hk
  have h4 : (bl n - 1) * 2 ^ k ≤ 63 * 2 ^ 8 := Nat.mul_le_mul (by omega) h3
  unfold lg
  omega

theorem mI_bd (n k : Nat) (h : n ≠ 0) : 2147483648 ≤ mI n k ∧ mI n k < 4294967296 := by
  have h1 := nrm_bd n h
  have h2 := ms_bd k _ h1.1 h1.2
  unfold mI; omega

theorem lg_step (n k : Nat) (h : n ≠ 0) :
    (4294967296 ≤ mI n k * mI n k / 2147483648 ∧ mI n (k + 1) = mI n k * mI n k / 2147483648 / 2 ∧ lg n (k + 1) = lg n k * 2 + 1) ∨
    (mI n k * mI n k / 2147483648 < 4294967296 ∧ mI n (k + 1) = mI n k * mI n k / 2147483648 ∧ lg n (k + 1) = lg n k * 2 + 0) := by
  have e1 : lg n (k + 1) = lg n k * 2 + (dg (ms k (nrm n)) : Nat) := by
    unfold lg
    rw [show digs (k + 1) (nrm n) = digs k (nrm n) * 2 + dg (ms k (nrm n)) from rfl, Nat.pow_succ, ← Nat.mul_assoc]
    omega
  have e2 : mI n (k + 1) = (nx (ms k (nrm n)) : Nat) := rfl
  have e3 : mI n k = (ms k (nrm n) : Nat) := rfl
  rw [e1, e2, e3]
  generalize ms k (nrm n) = m
  have e4 : (m : Int) * (m : Int) / 2147483648 = ((m * m / 2147483648 : Nat) : Int) := by
    rw [Int.natCast_ediv, Int.natCast_mul]; rfl
  rw [e4]
  unfold dg nx
  split
  · left; omega
  · right; omega

set_option maxHeartbeats 4000000 in
theorem log_any (x : Int) (w : World) (hx : U64 x) :
    Calls Tryd.prog 61 #[.int .u64 x] w fun e w' => e = .returned (.int .i64 (logI x)) ∧ w' = w := by
  obtain ⟨h0, h1⟩ := hx
  by_cases hz : x = 0
  · subst hz
    go_enter Tryd.func61, Tryd.ntmps61
    go_wp2
    go_ret
    exact ⟨rfl, rfl⟩
  · obtain ⟨n, rfl⟩ : ∃ n : Nat, x = n := ⟨x.toNat, by omega⟩
    have hn : n ≠ 0 := by omega
    have hn1 : n < 18446744073709551616 := by omega
    have hb := blI_64 n ⟨h0, h1⟩
    have HB := hide (show blI n - 1 = lg n 0 by rw [lg_zero n hn]; rfl)
    have HM := hide (show nrmI n = mI n 0 from rfl)
    have HL := hide (show lg n 8 = logI n from lg_last n hn)
    have hz' : ¬ ((n : Int) = 0) := by omega
    go_enter Tryd.func61, Tryd.ntmps61
    go_wp2_with fail
    refine (bits_any n _ ⟨h0, h1⟩).mono ?_
    rintro e w1 ⟨rfl, rfl⟩
    go_wp2_with fail
    refine (moved_any n _ ⟨h0, h1⟩ (by omega)).mono ?_
    rintro e w2 ⟨rfl, rfl⟩
    go_wp2
    go_loopw [3, 4, 13] (fun l m i wr => ∃ k : Nat, k ≤ 8 ∧ i = .int .i64 k ∧ m = .int .u64 (mI n k) ∧ l = .int .i64 (lg n k) ∧ wr = w2) (fun _ _ i _ => 8 - (intOf i).toNat)
    case atStart => exact ⟨0, by omega, rfl, by rw [← unhide HM], by rw [← unhide HB], rfl⟩
    case round =>
      obtain ⟨k, hk, rfl, rfl, rfl, rfl⟩ := hrel
      by_cases hlt : k < 8
      · obtain ⟨m1, m2⟩ := mI_bd n k hn
        obtain ⟨l1, l2⟩ := lg_bd n k hn1 hk
        have hstep := lg_step n k hn
        have hlt' : (k : Int) < 8 := by omega
        generalize hMM : mI n k = M at *
        generalize hLL : lg n k = L at *
        have q1 : 2147483648 * 2147483648 ≤ M * M := Int.mul_le_mul m1 m1 (by decide) (by omega)
        have q2 : M * M ≤ 4294967295 * 4294967295 := Int.mul_le_mul (by omega) (by omega) (by omega) (by decide)
        rcases hstep with ⟨c1, c2, c3⟩ | ⟨c1, c2, c3⟩
        · have hd : M * M / 2147483648 / 4294967296 = 1 := by omega
          have H2 := hide c2
          have H3 := hide c3
          have HO := hide (or_digit L 1 l1 (by omega) (.inr rfl))
          clear c2 c3 hb
          go_wp2
          rw [unhide HO]
          go_roundw
          case rel => exact ⟨k + 1, by omega, by go_num, by rw [unhide H2], by rw [unhide H3], trivial⟩
          case measure => simp [intOf]; omega
        · have hd : M * M / 2147483648 / 4294967296 = 0 := by omega
          have H2 := hide c2
          have H3 := hide c3
          have HO := hide (or_digit L 0 l1 (by omega) (.inl rfl))
          clear c2 c3 hb
          go_wp2
          rw [unhide HO]
          go_roundw
          case rel => exact ⟨k + 1, by omega, by go_num, by rw [unhide H2], by rw [unhide H3], trivial⟩
          case measure => simp [intOf]; omega
      · have e : k = 8 := by omega
        subst e
        go_wp2
        go_ret
        exact ⟨ret_int (unhide HL), rfl⟩

def absI (x : Int) : Int := x.natAbs

def nbI (x : Int) : Int := blI (absI x)

def normI (xs : List Int) : Int := normN xs

def normTo (xs : List Int) (k : Nat) : Int := normN (xs.take k)

theorem absI_u (x : Int) (h : In64 x) : U64 (absI x) := by obtain ⟨h1, h2⟩ := h; unfold absI; exact ⟨by omega, by omega⟩

theorem nbI_bd (x : Int) (h : In64 x) : 0 ≤ nbI x ∧ nbI x ≤ 64 := blI_64 _ (absI_u x h)

theorem nbI_eq (x : Int) : nbI x = bl x.natAbs := rfl

theorem normTo_succ (xs : List Int) (k : Nat) (h : k < xs.length) : normTo xs (k + 1) = max (normTo xs k) (nbI (xs.getD k 0)) := by
  unfold normTo
  rw [List.take_succ_eq_append_getElem h, normN_append, normN_one, List.getD_eq_getElem?_getD, List.getElem?_eq_getElem h, nbI_eq]
  simp only [Option.getD_some]
  omega

theorem normTo_all (xs : List Int) (n : Nat) (h : xs.length = n) : normTo xs n = normI xs := by
  unfold normTo normI; rw [← h, List.take_length]

theorem normTo_bd (xs : List Int) (h : Small xs) (k : Nat) (hk : k ≤ xs.length) : 0 ≤ normTo xs k ∧ normTo xs k ≤ 64 := by
  induction k with
  | zero => exact ⟨Int.le_refl 0, by show (0 : Int) ≤ 64; decide⟩
  | succ k ih =>
    have h1 := ih (by omega)
    have h2 := nbI_bd _ (h.at k (by omega))
    rw [normTo_succ xs k (by omega)]
    omega

set_option maxHeartbeats 400000 in
theorem lsize_any (x : Int) (w : World) (hx : In64 x) :
    Calls Tryd.prog 81 #[.int .i64 x] w fun e w' => e = .returned (.int .u64 (absI x)) ∧ w' = w := by
  obtain ⟨hx1, hx2⟩ := hx
  by_cases c : x < 0
  · go_enter Tryd.func81, Tryd.ntmps81
    go_wp2
    go_ret
    exact ⟨ret_int (by unfold absI; simp only [IntKind.wrap_u64]; omega), rfl⟩
  · go_enter Tryd.func81, Tryd.ntmps81
    go_wp2
    go_ret
    exact ⟨ret_int (by unfold absI; omega), rfl⟩

set_option maxHeartbeats 1000000 in
theorem norm_any (a : Option Addr) (cap : Nat) (xs : List Int) (n : Nat) (hN : xs.length = n) (w : World) (hl : Lies w a xs) (hs : Small xs) (hn : n ≤ 1000000) :
    Calls Tryd.prog 56 #[.slice a n cap] w fun e w' => e = .returned (.int .i64 (normI xs)) ∧ w' = w := by
  have HN := hide hN
  clear hN
  go_enter Tryd.func56, Tryd.ntmps56
  go_wp2
  go_loopw [3, 8] (fun m i wr => ∃ k : Nat, k ≤ n ∧ i = .int .i64 k ∧ m = .int .i64 (normTo xs k) ∧ wr = w) (fun _ i _ => n - (intOf i).toNat)
  case atStart => exact ⟨0, Nat.zero_le _, rfl, rfl, rfl⟩
  case round =>
    obtain ⟨k, hk, rfl, rfl, rfl⟩ := hrel
    by_cases hlt : k < n
    · obtain rfl | ⟨b, off, rfl, hblt, hcells⟩ := hl
      · have := unhide HN; simp at this; omega
      have hc : wr.cell? ⟨b, off + k, none⟩ = some (.int .i64 (xs.getD k 0)) := hcells k (by rw [unhide HN]; exact hlt)
      have hx := hs.at k (by rw [unhide HN]; exact hlt)
      have hsucc := normTo_succ xs k (by rw [unhide HN]; exact hlt)
      obtain ⟨b1, b2⟩ := normTo_bd xs hs k (by rw [unhide HN]; exact hk)
      obtain ⟨b3, b4⟩ := nbI_bd _ hx
      have hu := absI_u _ hx
      generalize xs.getD k 0 = x at *
      generalize hM : normTo xs k = M at *
      have HS := hide hsucc
      have HX := hide (show blI (absI x) = nbI x from rfl)
      clear hsucc hM hcells
      have hlt' : (k : Int) < (n : Int) := by omega
      go_wp2_with fail
      refine (lsize_any x _ hx).mono ?_
      rintro e w1 ⟨rfl, rfl⟩
      go_wp2_with fail
      refine (bits_any _ _ hu).mono ?_
      rintro e w2 ⟨rfl, rfl⟩
      rw [unhide HX]
      generalize hB : nbI x = B at *
      clear hB
      rcases Int.lt_trichotomy M B with c | c | c
      all_goals
        go_wp2
        go_roundw
        case rel => exact ⟨k + 1, by omega, by go_num, by rw [unhide HS] <;> congr 1 <;> omega, trivial⟩
        case measure => simp [intOf]; omega
    · have e : k = n := by omega
      subst e
      have HE := hide (normTo_all xs k (unhide HN))
      go_wp2
      go_ret
      exact ⟨ret_int (unhide HE), rfl⟩

def quarL : List Int := [16384, 16305, 16069, 15679, 15137, 14449, 13623, 12665, 11585, 10394, 9102, 7723, 6270, 4756, 3196, 1606, 0]

def quarAt (k : Nat) : Int := quarL.getD k 0

def cosL : List Int := [16384, 16305, 16069, 15679, 15137, 14449, 13623, 12665, 11585, 10394, 9102, 7723, 6270, 4756, 3196, 1606, 0, -1606, -3196, -4756, -6270, -7723, -9102, -10394, -11585, -12665, -13623, -14449, -15137, -15679, -16069, -16305, -16384, -16305, -16069, -15679, -15137, -14449, -13623, -12665, -11585, -10394, -9102, -7723, -6270, -4756, -3196, -1606, 0, 1606, 3196, 4756, 6270, 7723, 9102, 10394, 11585, 12665, 13623, 14449, 15137, 15679, 16069, 16305]

def cosAt (r : Nat) : Int := cosL.getD r 0

def cosI (k : Int) : Int := cosAt (k % 64).toNat

def sinI (k : Int) : Int := cosI (k - 16)

def winAt (n t : Nat) : Int := 8847 - halfI (7537 * cosAt (t * 64 / n)) 14

theorem cos_small (k : Nat) (h : k ≤ 16) : cosAt k = quarAt k := by
  have : ∀ k, k < 17 → cosAt k = quarAt k := by decide +kernel
  exact this k (by omega)

theorem cos_half (k : Nat) (h : k ≤ 16) : cosAt (32 - k) = -quarAt k := by
  have : ∀ k, k < 17 → cosAt (32 - k) = -quarAt k := by decide +kernel
  exact this k (by omega)

theorem cos_back (k : Nat) (h : k ≤ 31) (h1 : 1 ≤ k) : cosAt (64 - k) = cosAt k := by
  have : ∀ k, k < 32 → 1 ≤ k → cosAt (64 - k) = cosAt k := by decide +kernel
  exact this k (by omega) h1

theorem cosAt_bd (k : Nat) : -16384 ≤ cosAt k ∧ cosAt k ≤ 16384 := by
  by_cases c : k < 64
  · have : ∀ k, k < 64 → -16384 ≤ cosAt k ∧ cosAt k ≤ 16384 := by decide +kernel
    exact this k c
  · have hl : cosL.length = 64 := by decide +kernel
    have : cosAt k = 0 := by unfold cosAt; rw [List.getD_eq_getElem?_getD, List.getElem?_eq_none (by omega)]; rfl
    omega

theorem cosI_bd (k : Int) : -16384 ≤ cosI k ∧ cosI k ≤ 16384 := cosAt_bd _

theorem cosI_at (k : Nat) (h : k < 64) : cosI k = cosAt k := by unfold cosI; congr 1; omega

theorem sinI_mod (k : Int) : cosI (k % 64 - 16) = sinI k := by unfold sinI cosI; congr 2; omega

theorem quar_bd (k : Nat) (h : k ≤ 16) : 0 ≤ quarAt k ∧ quarAt k ≤ 16384 := by
  have : ∀ k, k < 17 → 0 ≤ quarAt k ∧ quarAt k ≤ 16384 := by decide +kernel
  exact this k (by omega)

/-- The package's table of the quarter lies in memory. -/
def Quar (w : World) : Prop := 0 < w.heap.size ∧ ∀ i, i < 17 → w.cell? ⟨0, i, none⟩ = some (.int .i64 (quarAt i))

theorem Quar.below {w w' : World} (h : Quar w) (hb : Below w.heap.size w w') : Quar w' := by
  refine ⟨by have := hb.size; have := h.1; omega, fun i hi => ?_⟩
  rw [hb.cell (by exact h.1)]; exact h.2 i hi

theorem told_any (k : Nat) (w : World) (h : k ≤ 16) (hq : Quar w) :
    Calls Tryd.prog 89 #[.int .i64 k] w fun e w' => e = .returned (.int .i64 (quarAt k)) ∧ w' = w := by
  have hc := hq.2 k (by omega)
  obtain ⟨z, hz⟩ : ∃ z, z = quarAt k := ⟨_, rfl⟩
  rw [← hz] at hc ⊢
  have HZ := hide hz
  clear hq hz
  go_enter Tryd.func89, Tryd.ntmps89
  go_wp2
  go_ret
  exact ⟨rfl, rfl⟩

theorem rest_any (k : Int) (w : World) (hk : In64 k) :
    Calls Tryd.prog 88 #[.int .i64 k] w fun e w' => e = .returned (.int .i64 (k % 64)) ∧ Below w.heap.size w w' := by
  have HV := hide (remI_pos k 64 (by decide))
  go_enter Tryd.func88, Tryd.ntmps88
  go_wp2_with fail
  refine (parts_any k 64 _ hk (by constructor <;> decide)).mono ?_
  rintro e w1 ⟨rfl, hb⟩
  go_wp2
  go_ret
  exact ⟨ret_int (unhide HV), hb⟩

theorem turned_low (k : Nat) (w : World) (h : k ≤ 32) (hq : Quar w) :
    Calls Tryd.prog 87 #[.int .i64 k, .func (.func 89) #[] #[]] w fun e w' => e = .returned (.int .i64 (cosAt k)) ∧ w' = w := by
  by_cases c : k ≤ 16
  · have HV := hide (cos_small k c)
    go_enter Tryd.func87, Tryd.ntmps87
    go_wp2_with fail
    refine (told_any k _ c hq).mono ?_
    rintro e w1 ⟨rfl, rfl⟩
    go_wp2
    go_ret
    exact ⟨ret_int (unhide HV).symm, rfl⟩
  · obtain ⟨j, hj, rfl⟩ : ∃ j : Nat, j ≤ 16 ∧ k = 32 - j := ⟨32 - k, by omega, by omega⟩
    have HV := hide (cos_half j hj)
    have hb := quar_bd j hj
    have e1 : (32 : Int) - ((32 - j : Nat) : Int) = j := by omega
    have E1 := hide e1
    clear e1
    go_enter Tryd.func87, Tryd.ntmps87
    go_wp2_with fail
    rw [unhide E1]
    refine (told_any j _ hj hq).mono ?_
    rintro e w1 ⟨rfl, rfl⟩
    go_wp2
    go_ret
    exact ⟨ret_int (unhide HV).symm, rfl⟩

theorem turned_any (k : Nat) (w : World) (h : k < 64) (hq : Quar w) :
    Calls Tryd.prog 87 #[.int .i64 k, .func (.func 89) #[] #[]] w fun e w' => e = .returned (.int .i64 (cosAt k)) ∧ w' = w := by
  by_cases c : k ≤ 32
  · exact turned_low k w c hq
  · obtain ⟨j, hj, hj1, rfl⟩ : ∃ j : Nat, j ≤ 31 ∧ 1 ≤ j ∧ k = 64 - j := ⟨64 - k, by omega, by omega, by omega⟩
    have HV := hide (cos_back j hj hj1)
    have e1 : (64 : Int) - ((64 - j : Nat) : Int) = j := by omega
    have E1 := hide e1
    clear e1
    go_enter Tryd.func87, Tryd.ntmps87
    go_wp2_with fail
    rw [unhide E1]
    refine (turned_low j _ (by omega) hq).mono ?_
    rintro e w1 ⟨rfl, rfl⟩
    go_wp2
    go_ret
    exact ⟨ret_int (unhide HV).symm, rfl⟩

theorem cos_any (k : Int) (w : World) (hk : In64 k) (hq : Quar w) :
    Calls Tryd.prog 77 #[.int .i64 k] w fun e w' => e = .returned (.int .i64 (cosI k)) ∧ Below w.heap.size w w' := by
  obtain ⟨r, hr⟩ : ∃ r : Nat, k % 64 = r := ⟨(k % 64).toNat, by omega⟩
  have h64 : r < 64 := by omega
  have HV := hide (show cosAt r = cosI k by unfold cosI; congr 1; omega)
  have HR := hide hr
  clear hr
  go_enter Tryd.func77, Tryd.ntmps77
  go_wp2_with fail
  refine (rest_any k _ hk).mono ?_
  rintro e w1 ⟨rfl, hb⟩
  go_wp2_with fail
  rw [unhide HR]
  refine (turned_any r _ h64 (hq.below hb)).mono ?_
  rintro e w2 ⟨rfl, rfl⟩
  go_wp2
  go_ret
  exact ⟨ret_int (unhide HV), hb⟩

theorem sin_any (k : Int) (w : World) (hk : In64 k) (hq : Quar w) :
    Calls Tryd.prog 79 #[.int .i64 k] w fun e w' => e = .returned (.int .i64 (sinI k)) ∧ Below w.heap.size w w' := by
  have HV := hide (sinI_mod k)
  have h1 : 0 ≤ k % 64 := by omega
  have h2 : k % 64 < 64 := by omega
  go_enter Tryd.func79, Tryd.ntmps79
  go_wp2_with fail
  refine (rest_any k _ hk).mono ?_
  rintro e w1 ⟨rfl, hb⟩
  go_wp2_with fail
  refine (cos_any (k % 64 - 16) _ (by unfold In64; omega) (hq.below hb)).mono ?_
  rintro e w2 ⟨rfl, hb2⟩
  go_wp2
  go_ret
  exact ⟨ret_int (unhide HV), below_trans hb hb2⟩

/-- A window's cells when k of them are made. -/
def mixL (n k : Nat) : List Value := ((List.range n).map fun j => if j < k then winAt n j else 0).map (Value.int .i64)

theorem mix_len (n k : Nat) : (mixL n k).length = n := by simp [mixL]

theorem mix_at (n k j : Nat) (h : j < n) : (mixL n k)[j]? = some (.int .i64 (if j < k then winAt n j else 0)) := by
  simp [mixL, List.getElem?_map, List.getElem?_range h]

theorem mix_zero (n : Nat) : (madeCells (Value.cells (.int .i64 0)) (n * 1)).toList = mixL n 0 := by
  show (madeCells #[.int .i64 0] (n * 1)).toList = _
  rw [toList_madeCells_one, Nat.mul_one]
  apply List.ext_getElem?
  intro j
  by_cases c : j < n
  · rw [mix_at n 0 j c, List.getElem?_replicate, if_pos c]; simp
  · rw [List.getElem?_eq_none (by simp; omega), List.getElem?_eq_none (by rw [mix_len]; omega)]

theorem mix_succ (n k : Nat) (h : k < n) : (mixL n k).set k (.int .i64 (winAt n k)) = mixL n (k + 1) := by
  apply List.ext_getElem?
  intro j
  by_cases c : j < n
  · rw [mix_at n (k + 1) j c, List.getElem?_set, mix_at n k j c, mix_len]
    by_cases e : k = j
    · subst e; rw [if_pos rfl, if_pos h, if_pos (by omega)]
    · rw [if_neg e]; congr 2; by_cases g : j < k
      · rw [if_pos g, if_pos (by omega)]
      · rw [if_neg g, if_neg (by omega)]
  · rw [List.getElem?_eq_none (by rw [List.length_set, mix_len]; omega), List.getElem?_eq_none (by rw [mix_len]; omega)]

def winOf (n : Nat) : List Int := (List.range n).map (winAt n)

theorem mix_all (n : Nat) : mixL n n = (winOf n).map (Value.int .i64) := by
  unfold mixL winOf
  congr 1
  apply List.map_congr_left
  intro j hj
  rw [if_pos (by simpa using hj)]

theorem owns_below {w w' : World} {base n : Nat} {v : Value} {xs : List Value} (h : w.ownsRow base 3 1 v n xs) (hb : Below w.heap.size w w') : w'.ownsRow base 3 1 v n xs := by
  refine ⟨h.1, ?_⟩
  rcases h.2 with h' | ⟨g, cap, cur, h1, h2, h3, h4⟩
  · exact .inl h'
  · exact .inr ⟨g, cap, cur, h1, h2, by rw [hb.block g (by have := Array.getElem?_eq_some_iff.1 h3; exact this.1)]; exact h3, h4⟩

theorem half_bd (j : Nat) : -7537 ≤ halfI (7537 * cosAt j) 14 ∧ halfI (7537 * cosAt j) 14 ≤ 7537 := by
  by_cases c : j < 64
  · have : ∀ j, j < 64 → -7537 ≤ halfI (7537 * cosAt j) 14 ∧ halfI (7537 * cosAt j) 14 ≤ 7537 := by decide +kernel
    exact this j c
  · have hl : cosL.length = 64 := by decide +kernel
    have : cosAt j = 0 := by unfold cosAt; rw [List.getD_eq_getElem?_getD, List.getElem?_eq_none (by omega)]; rfl
    rw [this]; decide +kernel

set_option maxRecDepth 100000 in
theorem win_16 (w : World) (hq : Quar w) :
    Calls Tryd.prog 59 #[.int .i64 16] w fun e w' => ∃ a cap, e = .returned (.slice a 16 cap) ∧ Lies w' a (winOf 16) ∧ Below w.heap.size w w' := by
  obtain ⟨i0, hi, hz0, hz1, hz2⟩ := info_parts Tryd.info3
  have HQ := hide hq
  clear hq
  go_enter Tryd.func59, Tryd.ntmps59
  go_wp2_with (at_make; refine wpList_make_full _ rfl _ _ 24 rfl w.heap.size 3 i0 (.int .i64 0) 1 Tryd.underlying24 hi hz0 hz1 _ _ _ _ 16 rfl rfl rfl rfl ?m1 ?m2 ?m3 ?_)
  case m1 => rw [hz2]; decide
  case m2 => decide
  case m3 => exact Nat.le_refl _
  intro w1 hown hgr
  have HO := hide (show w1.ownsRow w.heap.size 3 1 (.slice (some ⟨w.heap.size, 0, none⟩) 16 16) 16 (mixL 16 0) by rw [← mix_zero]; exact hown)
  have HB := hide ((Below.refl w.heap.size w).grown hgr (Nat.le_refl _) (fun _ h => by cases h))
  clear hown hgr
  go_wp2
  go_loopw [14] (fun i wr => ∃ k : Nat, k ≤ 16 ∧ i = .int .i64 k ∧ Hid (wr.ownsRow w.heap.size 3 1 (.slice (some ⟨w.heap.size, 0, none⟩) 16 16) 16 (mixL 16 k)) ∧ Hid (Below w.heap.size w wr))
    (fun i _ => 16 - (intOf i).toNat)
  case atStart => exact ⟨0, by decide, rfl, HO, HB⟩
  case round =>
    obtain ⟨k, hk, rfl, HOr, HBr⟩ := hrel
    obtain ⟨j, hj, hj2⟩ : ∃ j : Nat, j = k * 64 / 16 ∧ ((k : Int) * 64 / 16) = (j : Int) := ⟨_, rfl, by omega⟩
    have HJ := hide hj2
    have h64 : k < 16 → j < 64 := fun _ => by omega
    have HW := hide (show winAt 16 k = 8847 - halfI (7537 * cosAt j) 14 by subst hj; rfl)
    clear hj hj2
    go_wp2_with fail
    · have hlt : k < 16 := by omega
      rw [unhide HJ]
      refine (cos_any j _ (by have := h64 hlt; unfold In64; omega) ((unhide HQ).below (unhide HBr))).mono ?_
      rintro e w2 ⟨rfl, hb2⟩
      rw [cosI_at j (h64 hlt)]
      have hcb := cosAt_bd j
      have hhb := half_bd j
      generalize cosAt j = c at HW hcb hhb ⊢
      have HO2 := hide (owns_below (unhide HOr) hb2)
      have HB2 := hide ((unhide HBr).trans (hb2.mono (unhide HBr).size))
      clear HOr HBr hb2
      go_wp2_with fail
      refine (half_any (7537 * c) 14 _ (by unfold In64; omega)).mono ?_
      rintro e w3 ⟨rfl, hb3⟩
      generalize halfI (7537 * c) 14 = z at HW hhb ⊢
      have HO3 := hide (owns_below (unhide HO2) hb3)
      have HB3 := hide ((unhide HB2).trans (hb3.mono (unhide HB2).size))
      have hcell := (unhide HO3).cellAt k (by omega)
      rw [mix_at 16 k k hlt] at hcell
      have hfree := (unhide HO3).frozenAt k
      clear HO2 HB2 hb3
      go_wp2
      go_roundw
      case rel =>
        refine ⟨k + 1, by omega, by simp, ?_, ?_⟩
        · have h := ((unhide HO3).stored k (.int .i64 (8847 - z))).1
          rw [← unhide HW, mix_succ 16 k hlt] at h
          rw [← unhide HW]
          exact h
        · exact (unhide HB3).setCell (Nat.le_refl _) _
      case measure => simp [intOf]; omega
    · have hkn : k = 16 := by omega
      subst hkn
      rw [mix_all] at HOr
      obtain ⟨a, cap, hv, hl, hn⟩ := owned_lies (unhide HOr)
      go_ret
      refine ⟨_, _, rfl, ?_, unhide HBr⟩
      cases hv
      exact hl

set_option maxRecDepth 100000 in
theorem win_32 (w : World) (hq : Quar w) :
    Calls Tryd.prog 59 #[.int .i64 32] w fun e w' => ∃ a cap, e = .returned (.slice a 32 cap) ∧ Lies w' a (winOf 32) ∧ Below w.heap.size w w' := by
  obtain ⟨i0, hi, hz0, hz1, hz2⟩ := info_parts Tryd.info3
  have HQ := hide hq
  clear hq
  go_enter Tryd.func59, Tryd.ntmps59
  go_wp2_with (at_make; refine wpList_make_full _ rfl _ _ 24 rfl w.heap.size 3 i0 (.int .i64 0) 1 Tryd.underlying24 hi hz0 hz1 _ _ _ _ 32 rfl rfl rfl rfl ?m1 ?m2 ?m3 ?_)
  case m1 => rw [hz2]; decide
  case m2 => decide
  case m3 => exact Nat.le_refl _
  intro w1 hown hgr
  have HO := hide (show w1.ownsRow w.heap.size 3 1 (.slice (some ⟨w.heap.size, 0, none⟩) 32 32) 32 (mixL 32 0) by rw [← mix_zero]; exact hown)
  have HB := hide ((Below.refl w.heap.size w).grown hgr (Nat.le_refl _) (fun _ h => by cases h))
  clear hown hgr
  go_wp2
  go_loopw [14] (fun i wr => ∃ k : Nat, k ≤ 32 ∧ i = .int .i64 k ∧ Hid (wr.ownsRow w.heap.size 3 1 (.slice (some ⟨w.heap.size, 0, none⟩) 32 32) 32 (mixL 32 k)) ∧ Hid (Below w.heap.size w wr))
    (fun i _ => 32 - (intOf i).toNat)
  case atStart => exact ⟨0, by decide, rfl, HO, HB⟩
  case round =>
    obtain ⟨k, hk, rfl, HOr, HBr⟩ := hrel
    obtain ⟨j, hj, hj2⟩ : ∃ j : Nat, j = k * 64 / 32 ∧ ((k : Int) * 64 / 32) = (j : Int) := ⟨_, rfl, by omega⟩
    have HJ := hide hj2
    have h64 : k < 32 → j < 64 := fun _ => by omega
    have HW := hide (show winAt 32 k = 8847 - halfI (7537 * cosAt j) 14 by subst hj; rfl)
    clear hj hj2
    go_wp2_with fail
    · have hlt : k < 32 := by omega
      rw [unhide HJ]
      refine (cos_any j _ (by have := h64 hlt; unfold In64; omega) ((unhide HQ).below (unhide HBr))).mono ?_
      rintro e w2 ⟨rfl, hb2⟩
      rw [cosI_at j (h64 hlt)]
      have hcb := cosAt_bd j
      have hhb := half_bd j
      generalize cosAt j = c at HW hcb hhb ⊢
      have HO2 := hide (owns_below (unhide HOr) hb2)
      have HB2 := hide ((unhide HBr).trans (hb2.mono (unhide HBr).size))
      clear HOr HBr hb2
      go_wp2_with fail
      refine (half_any (7537 * c) 14 _ (by unfold In64; omega)).mono ?_
      rintro e w3 ⟨rfl, hb3⟩
      generalize halfI (7537 * c) 14 = z at HW hhb ⊢
      have HO3 := hide (owns_below (unhide HO2) hb3)
      have HB3 := hide ((unhide HB2).trans (hb3.mono (unhide HB2).size))
      have hcell := (unhide HO3).cellAt k (by omega)
      rw [mix_at 32 k k hlt] at hcell
      have hfree := (unhide HO3).frozenAt k
      clear HO2 HB2 hb3
      go_wp2
      go_roundw
      case rel =>
        refine ⟨k + 1, by omega, by simp, ?_, ?_⟩
        · have h := ((unhide HO3).stored k (.int .i64 (8847 - z))).1
          rw [← unhide HW, mix_succ 32 k hlt] at h
          rw [← unhide HW]
          exact h
        · exact (unhide HB3).setCell (Nat.le_refl _) _
      case measure => simp [intOf]; omega
    · have hkn : k = 32 := by omega
      subst hkn
      rw [mix_all] at HOr
      obtain ⟨a, cap, hv, hl, hn⟩ := owned_lies (unhide HOr)
      go_ret
      refine ⟨_, _, rfl, ?_, unhide HBr⟩
      cases hv
      exact hl

set_option maxRecDepth 100000 in
theorem win_64 (w : World) (hq : Quar w) :
    Calls Tryd.prog 59 #[.int .i64 64] w fun e w' => ∃ a cap, e = .returned (.slice a 64 cap) ∧ Lies w' a (winOf 64) ∧ Below w.heap.size w w' := by
  obtain ⟨i0, hi, hz0, hz1, hz2⟩ := info_parts Tryd.info3
  have HQ := hide hq
  clear hq
  go_enter Tryd.func59, Tryd.ntmps59
  go_wp2_with (at_make; refine wpList_make_full _ rfl _ _ 24 rfl w.heap.size 3 i0 (.int .i64 0) 1 Tryd.underlying24 hi hz0 hz1 _ _ _ _ 64 rfl rfl rfl rfl ?m1 ?m2 ?m3 ?_)
  case m1 => rw [hz2]; decide
  case m2 => decide
  case m3 => exact Nat.le_refl _
  intro w1 hown hgr
  have HO := hide (show w1.ownsRow w.heap.size 3 1 (.slice (some ⟨w.heap.size, 0, none⟩) 64 64) 64 (mixL 64 0) by rw [← mix_zero]; exact hown)
  have HB := hide ((Below.refl w.heap.size w).grown hgr (Nat.le_refl _) (fun _ h => by cases h))
  clear hown hgr
  go_wp2
  go_loopw [14] (fun i wr => ∃ k : Nat, k ≤ 64 ∧ i = .int .i64 k ∧ Hid (wr.ownsRow w.heap.size 3 1 (.slice (some ⟨w.heap.size, 0, none⟩) 64 64) 64 (mixL 64 k)) ∧ Hid (Below w.heap.size w wr))
    (fun i _ => 64 - (intOf i).toNat)
  case atStart => exact ⟨0, by decide, rfl, HO, HB⟩
  case round =>
    obtain ⟨k, hk, rfl, HOr, HBr⟩ := hrel
    have HW := hide (show winAt 64 k = 8847 - halfI (7537 * cosAt k) 14 by unfold winAt; rw [Nat.mul_div_cancel _ (by decide)])
    go_wp2_with fail
    · have hlt : k < 64 := by omega
      refine (cos_any k _ (by unfold In64; omega) ((unhide HQ).below (unhide HBr))).mono ?_
      rintro e w2 ⟨rfl, hb2⟩
      rw [cosI_at k hlt]
      have hcb := cosAt_bd k
      have hhb := half_bd k
      generalize cosAt k = c at HW hcb hhb ⊢
      have HO2 := hide (owns_below (unhide HOr) hb2)
      have HB2 := hide ((unhide HBr).trans (hb2.mono (unhide HBr).size))
      clear HOr HBr hb2
      go_wp2_with fail
      refine (half_any (7537 * c) 14 _ (by unfold In64; omega)).mono ?_
      rintro e w3 ⟨rfl, hb3⟩
      generalize halfI (7537 * c) 14 = z at HW hhb ⊢
      have HO3 := hide (owns_below (unhide HO2) hb3)
      have HB3 := hide ((unhide HB2).trans (hb3.mono (unhide HB2).size))
      have hcell := (unhide HO3).cellAt k (by omega)
      rw [mix_at 64 k k hlt] at hcell
      have hfree := (unhide HO3).frozenAt k
      clear HO2 HB2 hb3
      go_wp2
      go_roundw
      case rel =>
        refine ⟨k + 1, by omega, by simp, ?_, ?_⟩
        · have h := ((unhide HO3).stored k (.int .i64 (8847 - z))).1
          rw [← unhide HW, mix_succ 64 k hlt] at h
          rw [← unhide HW]
          exact h
        · exact (unhide HB3).setCell (Nat.le_refl _) _
      case measure => simp [intOf]; omega
    · have hkn : k = 64 := by omega
      subst hkn
      rw [mix_all] at HOr
      obtain ⟨a, cap, hv, hl, hn⟩ := owned_lies (unhide HOr)
      go_ret
      refine ⟨_, _, rfl, ?_, unhide HBr⟩
      cases hv
      exact hl

def winI (n : Int) : List Int := if n = 16 ∨ n = 32 ∨ n = 64 then winOf n.toNat else []

theorem winI_no (n : Int) (h : ¬ (n = 16 ∨ n = 32 ∨ n = 64)) : winI n = [] := by unfold winI; rw [if_neg h]

theorem win_none (n : Int) (w : World) (h : ¬ (n = 16 ∨ n = 32 ∨ n = 64)) :
    Calls Tryd.prog 59 #[.int .i64 n] w fun e w' => e = .returned (.slice none 0 0) ∧ w' = w := by
  have h1 : ¬ n = 16 := fun e => h (.inl e)
  have h2 : ¬ n = 32 := fun e => h (.inr (.inl e))
  have h3 : ¬ n = 64 := fun e => h (.inr (.inr e))
  clear h
  go_enter Tryd.func59, Tryd.ntmps59
  go_wp2
  go_ret
  exact ⟨rfl, rfl⟩

/-- circle.Window: a row of the window's numbers, in memory of its own. -/
theorem window_any (n : Int) (w : World) (hq : Quar w) :
    Calls Tryd.prog 59 #[.int .i64 n] w fun e w' => ∃ a cap, e = .returned (.slice a (winI n).length cap) ∧ Lies w' a (winI n) ∧ Below w.heap.size w w' := by
  by_cases h : n = 16 ∨ n = 32 ∨ n = 64
  · rcases h with rfl | rfl | rfl
    · exact win_16 w hq
    · exact win_32 w hq
    · exact win_64 w hq
  · refine (win_none n w h).mono ?_
    rintro e w' ⟨rfl, rfl⟩
    rw [winI_no n h]
    exact ⟨none, 0, rfl, .inl rfl, Below.refl _ _⟩

/-- The document's Same, of two rows that hold the same numbers. -/
theorem same_any (a b : Option Addr) (cap cap' : Nat) (xs : List Int) (n : Nat) (hn : xs.length = n) (hm : n ≤ 1000000) (w : World) (ha : Lies w a xs) (hb : Lies w b xs) :
    Calls Tryd.prog 17 #[.slice a n cap, .slice b n cap'] w fun e w' => e = .returned (.bool true) ∧ Below w.heap.size w w' := by
  have HA := hide ha
  have HB := hide hb
  have HN := hide hn
  clear ha hb hn
  go_enter Tryd.func17, Tryd.ntmps17
  go_wp2
  go_loopw [5] (fun i wr => ∃ k : Nat, k ≤ n ∧ i = .int .i64 k ∧ Hid (Below w.heap.size w wr))
    (fun i _ => n - (intOf i).toNat)
  case atStart => exact ⟨0, Nat.zero_le _, rfl, Below.refl _ _⟩
  case round =>
    obtain ⟨k, hk, rfl, HBr⟩ := hrel
    by_cases c : k < n
    · obtain ⟨ba, oa, rfl, hlta, hca⟩ : ∃ b off, a = some ⟨b, off, none⟩ ∧ b < w.heap.size ∧ ∀ j, j < xs.length → w.cell? ⟨b, off + j, none⟩ = some (.int .i64 (xs.getD j 0)) := by
        rcases unhide HA with h | h
        · have := unhide HN; subst h; simp at this; omega
        · exact h
      obtain ⟨bb, ob, rfl, hltb, hcb⟩ : ∃ b' off, b = some ⟨b', off, none⟩ ∧ b' < w.heap.size ∧ ∀ j, j < xs.length → w.cell? ⟨b', off + j, none⟩ = some (.int .i64 (xs.getD j 0)) := by
        rcases unhide HB with h | h
        · have := unhide HN; subst h; simp at this; omega
        · exact h
      have hc1 : wr.cell? ⟨ba, oa + k, none⟩ = some (.int .i64 (xs.getD k 0)) := by rw [(unhide HBr).cell (p := ⟨ba, _, none⟩) hlta]; exact hca k (by rw [unhide HN]; exact c)
      have hc2 : wr.cell? ⟨bb, ob + k, none⟩ = some (.int .i64 (xs.getD k 0)) := by rw [(unhide HBr).cell (p := ⟨bb, _, none⟩) hltb]; exact hcb k (by rw [unhide HN]; exact c)
      clear hca hcb HA HB
      generalize xs.getD k 0 = z at hc1 hc2
      go_wp2
      go_region
      all_goals go_wp2
      go_roundw
      case rel => exact ⟨k + 1, by omega, by go_num, (unhide HBr).drew⟩
      case measure => simp [intOf]; omega
    · go_wp2
      go_ret
      exact ⟨rfl, unhide HBr⟩

/-- A row that is not empty: where it lies. -/
theorem Lies.some {w : World} {a : Option Addr} {xs : List Int} (h : Lies w a xs) (h0 : xs ≠ []) :
    ∃ b off, a = some ⟨b, off, none⟩ ∧ b < w.heap.size ∧ ∀ j, j < xs.length → w.cell? ⟨b, off + j, none⟩ = some (.int .i64 (xs.getD j 0)) := by
  rcases h with h | h
  · exact absurd h h0
  · exact h

theorem sinI_bd (k : Int) : -16384 ≤ sinI k ∧ sinI k ≤ 16384 := cosI_bd _

/-- The bytes of a text. -/
def B (s : ByteArray) : List UInt8 := s.data.toList

theorem filter_lt {l : List Nat} {p q : Nat → Bool} (h : ∀ j, q j = true → p j = true) {i : Nat} (hi : i ∈ l) (hp : p i = true) (hq : q i = false) : (l.filter q).length < (l.filter p).length := by
  have hle : ∀ m : List Nat, (m.filter q).length ≤ (m.filter p).length := by
    intro m
    induction m with
    | nil => exact Nat.le_refl _
    | cons x m ih =>
      by_cases hx : q x = true
      · rw [List.filter_cons_of_pos hx, List.filter_cons_of_pos (h x hx)]; simp; exact ih
      · rw [List.filter_cons_of_neg hx]
        by_cases hx' : p x = true
        · rw [List.filter_cons_of_pos hx']; simp; omega
        · rw [List.filter_cons_of_neg hx']; exact ih
  induction l with
  | nil => simp at hi
  | cons x m ih =>
    rcases List.mem_cons.1 hi with rfl | hi
    · rw [List.filter_cons_of_neg (by simp [hq]), List.filter_cons_of_pos hp]
      have := hle m
      simp
      omega
    · have := ih hi
      by_cases hx : q x = true
      · rw [List.filter_cons_of_pos hx, List.filter_cons_of_pos (h x hx)]; simp; exact this
      · rw [List.filter_cons_of_neg hx]
        by_cases hx' : p x = true
        · rw [List.filter_cons_of_pos hx']; simp; omega
        · rw [List.filter_cons_of_neg hx']; exact this

/-- How many have not come up. -/
def leftN (ops : Array Oper) (listed : Array Bool) : Nat := ((List.range ops.size).filter fun i => !listed.getD i true).length

theorem any_inv {P : Program} {ops : Array Oper} {Q : Exit → Act → World → Prop} {md : Region.Mode} (Inv : Array Bool → Act → World → Prop)
    (hstep : ∀ listed a w i, Inv listed a w → i ∈ Region.ready md ops listed → wpOp P ops Q i (fun a' w' => Inv (listed.setIfInBounds i true) a' w') a w)
    (hend : ∀ listed a w, Inv listed a w → Region.ready md ops listed = [] → Q .normal a w) :
    ∀ fuel listed a w, leftN ops listed ≤ fuel → Inv listed a w → wpAny P md ops Q fuel listed a w := by
  intro fuel
  induction fuel with
  | zero =>
    intro listed a w hl hI
    have hr : Region.ready md ops listed = [] := by
      apply List.eq_nil_iff_forall_not_mem.2
      intro i hi
      obtain ⟨h0, o, ho, _⟩ := mem_ready.1 hi
      have hlt : i < ops.size := (Array.getElem?_eq_some_iff.1 ho).1
      have h1 : i ∈ (List.range ops.size).filter fun i => !listed.getD i true := List.mem_filter.2 ⟨List.mem_range.2 hlt, by rw [h0]; rfl⟩
      have h2 : (List.range ops.size).filter (fun i => !listed.getD i true) = [] := List.length_eq_zero_iff.1 (Nat.le_zero.1 hl)
      rw [h2] at h1
      simp at h1
    exact ⟨hr, hend _ _ _ hI hr⟩
  | succ fuel ih =>
    intro listed a w hl hI
    refine ⟨hend _ _ _ hI, fun i hi => ?_⟩
    obtain ⟨h0, o, ho, _⟩ := mem_ready.1 hi
    have hlt : i < ops.size := (Array.getElem?_eq_some_iff.1 ho).1
    refine wpOp_mono (fun a' w' h' => ih _ a' w' ?_ h') (hstep _ _ _ _ hI hi)
    have hlist : i < listed.size := by
      rcases Nat.lt_or_ge i listed.size with h | h
      · exact h
      · rw [Array.getD_eq_getD_getElem?, Array.getElem?_eq_none h] at h0; simp at h0
    have := filter_lt (l := List.range ops.size) (p := fun i => !listed.getD i true) (q := fun j => !(listed.setIfInBounds i true).getD j true) (by
      intro j hj
      by_cases e : i = j
      · subst e
        rw [Array.getD_eq_getD_getElem?, Array.getElem?_setIfInBounds] at hj
        simp [hlist] at hj
      · rw [getD_set_ne true e] at hj
        exact hj) (List.mem_range.2 hlt) (by show (!listed.getD i true) = true; rw [h0]; rfl) (by
      show (!(listed.setIfInBounds i true).getD i true) = false
      rw [Array.getD_eq_getD_getElem?, Array.getElem?_setIfInBounds]
      simp [hlist])
    have h2 : leftN ops listed = ((List.range ops.size).filter fun i => !listed.getD i true).length := rfl
    have h3 : leftN ops (listed.setIfInBounds i true) = ((List.range ops.size).filter fun j => !(listed.setIfInBounds i true).getD j true).length := rfl
    omega

/-- Slots that the region does not write are as they were. -/
def KeptF (ops : Array Oper) (a0 a : Act) : Prop :=
  a.defers = a0.defers ∧ a.tmps.size = a0.tmps.size ∧ ∀ s, (ops.any fun o => o.dst == some s) = false → a.tmps.getD s undef = a0.tmps.getD s undef

/-- The slot of operation j. -/
def dstOf (ops : Array Oper) (j : Nat) : Option Tmp := (ops[j]?).bind (·.dst)

theorem put_size (a : Act) (d : Option Tmp) (v : Value) : (a.put d v).tmps.size = a.tmps.size := by
  cases d <;> simp [Act.put]

theorem put_defers' (a : Act) (d : Option Tmp) (v : Value) : (a.put d v).defers = a.defers := by
  cases d <;> rfl

theorem put_at (a : Act) (d : Tmp) (v : Value) (h : d < a.tmps.size) : (a.put (some d) v).tmps.getD d undef = v := by
  simp [Act.put, Array.getD_eq_getD_getElem?, h]

theorem put_off (a : Act) (d : Option Tmp) (s : Tmp) (v : Value) (h : d ≠ some s) : (a.put d v).tmps.getD s undef = a.tmps.getD s undef := by
  cases d with
  | none => rfl
  | some d =>
    have : d ≠ s := fun e => h (by rw [e])
    simp [Act.put, Array.getD_eq_getD_getElem?, this]

/-- THE LAW. S: what holds of the world all along; G j v w: v is right for operation j in the world w. -/
theorem region_ssa {P : Program} {ops : Array Oper} {Q : Exit → Act → World → Prop} {id : Nat} {a0 : Act} {w0 : World} (S : World → Prop) (G : Nat → Value → World → Prop)
    (hm : P.follows .mixedOrders = true)
    (hone : ∀ i j, i < ops.size → j < ops.size → i ≠ j → dstOf ops i ≠ none → dstOf ops i ≠ dstOf ops j)
    (hfit : ∀ j d, dstOf ops j = some d → d < a0.tmps.size)
    (hback : ∀ (i : Nat) (o : Oper), ops[i]? = some o → ∀ e ∈ o.after, e.on < i)
    (hstep : ∀ (i : Nat) (o : Oper), ops[i]? = some o → ∀ a w, S w → KeptF ops a0 a → (∀ e ∈ o.after, Region.binds .any e = true → ∀ d, dstOf ops e.on = some d → G e.on (a.tmps.getD d undef) w) →
      wpOp P ops Q i (fun a' w' => ∃ v, a' = a.put o.dst v ∧ S w' ∧ (∀ j u, G j u w → G j u w') ∧ G i v w') a w)
    (hend : ∀ a w, S w → KeptF ops a0 a → (∀ j d, j < ops.size → dstOf ops j = some d → G j (a.tmps.getD d undef) w) → Q .normal a w)
    (hS : S { w0 with drawn := w0.drawn + 1 }) : (Code.region id ops true).wp P Q a0 w0 := by
  refine wp_region_any hm (any_inv (fun listed a w => listed.size = ops.size ∧ S w ∧ KeptF ops a0 a ∧ ∀ j d, j < ops.size → listed.getD j true = true → dstOf ops j = some d → G j (a.tmps.getD d undef) w) ?_ ?_ _ _ _ _ ?_ ?_)
  · rintro listed a w i ⟨hsz, hSw, hK, hG⟩ hi
    obtain ⟨h0, o, ho, hall⟩ := mem_ready.1 hi
    have hio : dstOf ops i = o.dst := by unfold dstOf; rw [ho]; rfl
    have hilt : i < ops.size := (Array.getElem?_eq_some_iff.1 ho).1
    refine wpOp_mono ?_ (hstep i o ho a w hSw hK (fun e he hb d hd => ?_))
    · rintro a' w' ⟨v, rfl, hS', hmono, hGv⟩
      refine ⟨by simpa using hsz, hS', ⟨by rw [put_defers']; exact hK.1, by rw [put_size]; exact hK.2.1, fun s hs => ?_⟩, fun j d hj hl hd => ?_⟩
      · rw [put_off _ _ _ _ (fun e => ?_)]
        · exact hK.2.2 s hs
        · have := Array.any_eq_false.1 hs i hilt
          rw [Array.getElem?_eq_getElem hilt] at ho
          rw [Option.some.inj ho, e] at this
          simp at this
      · by_cases e : i = j
        · subst e
          rw [hio] at hd
          rw [hd, put_at _ _ _ (by rw [hK.2.1]; exact hfit i d (by rw [hio]; exact hd))]
          exact hGv
        · rw [getD_set_ne true e] at hl
          rw [put_off _ _ _ _ (fun e' => ?_)]
          · exact hmono _ _ (hG j d hj hl hd)
          · rw [← hio] at e'
            exact hone i j hilt hj e (by rw [e']; simp) (by rw [e', hd])
    · have hon := hback i o ho e he
      have hl := hall e he hb
      refine hG e.on d (by omega) ?_ hd
      have hlt : e.on < listed.size := by omega
      rw [Array.getD_eq_getD_getElem?, Array.getElem?_eq_getElem hlt] at hl ⊢
      simpa using hl
  · rintro listed a w ⟨hsz, hSw, hK, hG⟩ hr
    have hall : ∀ n j, j < n → j < ops.size → listed.getD j true = true := by
      intro n
      induction n with
      | zero => intro j hj; omega
      | succ n ih =>
        intro j hj hjs
        cases hb : listed.getD j true with
        | true => rfl
        | false =>
          exfalso
          have hmem : j ∈ Region.ready .any ops listed := mem_ready.2 ⟨hb, ops[j], Array.getElem?_eq_getElem hjs, fun e he _ => by
            have hon := hback j _ (Array.getElem?_eq_getElem hjs) e he
            have h1 := ih e.on (by omega) (by omega)
            have hlt : e.on < listed.size := by omega
            rw [Array.getD_eq_getD_getElem?, Array.getElem?_eq_getElem hlt] at h1 ⊢
            simpa using h1⟩
          rw [hr] at hmem
          simp at hmem
    exact hend a w hSw hK (fun j d hj hd => hG j d hj (hall (j + 1) j (by omega) hj) hd)
  · unfold leftN
    refine Nat.le_trans (List.length_filter_le _ _) ?_
    simp
  · refine ⟨by simp, hS, ⟨rfl, rfl, fun _ _ => rfl⟩, fun j d hj hl hd => ?_⟩
    rw [Array.getD_eq_getD_getElem?, Array.getElem?_replicate, if_pos hj] at hl
    simp at hl

/-- The closed facts on the region: each slot is one operation's, lies in the frame, and who is waited for stands ahead. -/
def ssaOk (ops : Array Oper) (size : Nat) : Bool :=
  (List.range ops.size).all fun i =>
    ((List.range ops.size).all fun j => i == j || (dstOf ops i).isNone || dstOf ops i != dstOf ops j) &&
    ((dstOf ops i).all fun d => decide (d < size)) &&
    ((ops[i]?).all fun o => o.after.all fun e => decide (e.on < i))

theorem ssaOk_spec {ops : Array Oper} {size : Nat} (h : ssaOk ops size = true) :
    (∀ i j, i < ops.size → j < ops.size → i ≠ j → dstOf ops i ≠ none → dstOf ops i ≠ dstOf ops j) ∧ (∀ j d, dstOf ops j = some d → d < size) ∧ (∀ (i : Nat) (o : Oper), ops[i]? = some o → ∀ e ∈ o.after, e.on < i) := by
  unfold ssaOk at h
  rw [List.all_eq_true] at h
  refine ⟨fun i j hi hj hij hn => ?_, fun j d hd => ?_, fun i o ho e he => ?_⟩
  · have h1 := h i (List.mem_range.2 hi)
    simp only [Bool.and_eq_true, List.all_eq_true] at h1
    have h2 := h1.1.1 j (List.mem_range.2 hj)
    intro e
    cases hd : dstOf ops i with
    | none => exact hn hd
    | some d =>
      rw [← e] at h2
      simp [hij, hd] at h2
  · have hj : j < ops.size := by
      unfold dstOf at hd
      rcases Nat.lt_or_ge j ops.size with h' | h'
      · exact h'
      · rw [Array.getElem?_eq_none h'] at hd; simp at hd
    have h1 := h j (List.mem_range.2 hj)
    simp only [Bool.and_eq_true] at h1
    have h2 := h1.1.2
    rw [hd] at h2
    simpa using h2
  · have hi : i < ops.size := (Array.getElem?_eq_some_iff.1 ho).1
    have h1 := h i (List.mem_range.2 hi)
    simp only [Bool.and_eq_true] at h1
    have h2 := h1.2
    rw [ho] at h2
    simp only [Option.all_some, Array.all_eq_true_iff_forall_mem] at h2
    simpa using h2 e he

/-- THE LAW, the closed facts at once. -/
theorem region_ssa_ok {P : Program} {ops : Array Oper} {Q : Exit → Act → World → Prop} {id : Nat} {a0 : Act} {w0 : World} (S : World → Prop) (G : Nat → Value → World → Prop)
    (hm : P.follows .mixedOrders = true) (hok : ssaOk ops a0.tmps.size = true) (hS : S w0.drew)
    (hstep : ∀ (i : Nat) (o : Oper), ops[i]? = some o → ∀ a w, S w → KeptF ops a0 a → (∀ e ∈ o.after, Region.binds .any e = true → ∀ d, dstOf ops e.on = some d → G e.on (a.tmps.getD d undef) w) →
      wpOp P ops Q i (fun a' w' => ∃ v, a' = a.put o.dst v ∧ S w' ∧ (∀ j u, G j u w → G j u w') ∧ G i v w') a w)
    (hend : ∀ a w, S w → KeptF ops a0 a → (∀ j d, j < ops.size → dstOf ops j = some d → G j (a.tmps.getD d undef) w) → Q .normal a w) : (Code.region id ops true).wp P Q a0 w0 :=
  region_ssa S G hm (ssaOk_spec hok).1 (ssaOk_spec hok).2.1 (ssaOk_spec hok).2.2 hstep hend hS

theorem info_parts {P : Program} {t : TypeId} {z : Value} {s b : Nat} (h : (P.info? t).map (fun i => (i.zero, i.size, i.bytes)) = some (some z, s, b)) :
    ∃ i, P.info? t = some i ∧ i.zero = some z ∧ i.size = s ∧ i.bytes = b := by
  cases hi : P.info? t with
  | none => rw [hi] at h; simp at h
  | some i => rw [hi] at h; simp at h; exact ⟨i, rfl, h.1, h.2.1, h.2.2⟩

/-- All blocks but c are as they were. -/
structure Only (c : Nat) (w w' : World) : Prop where
  os : w'.os = w.os
  tape : w'.tape = w.tape
  output : w'.output = w.output
  size : w.heap.size ≤ w'.heap.size
  block : ∀ k, k < w.heap.size → k ≠ c → w'.heap[k]? = w.heap[k]?

theorem Only.refl (c : Nat) (w : World) : Only c w w := ⟨rfl, rfl, rfl, Nat.le_refl _, fun _ _ _ => rfl⟩

theorem Only.trans {c : Nat} {a b d : World} (h : Only c a b) (k : Only c b d) : Only c a d :=
  ⟨k.os.trans h.os, k.tape.trans h.tape, k.output.trans h.output, Nat.le_trans h.size k.size, fun i hi hc => (k.block i (Nat.lt_of_lt_of_le hi h.size) hc).trans (h.block i hi hc)⟩

theorem Only.of_below {c : Nat} {w w' : World} (h : Below w.heap.size w w') : Only c w w' := ⟨h.os, h.tape, h.output, h.size, fun k hk _ => h.block k hk⟩

theorem Only.alloc {c : Nat} {a w : World} (h : Only c a w) (o : Obj) : Only c a (w.alloc o) := h.trans (Only.of_below ((Below.refl _ w).alloc (Nat.le_refl _) o))

theorem Only.setCell {c : Nat} {a w : World} (h : Only c a w) {p : Addr} (hp : p.block = c) (u : Value) : Only c a (w.setCell p u) :=
  h.trans ⟨rfl, rfl, rfl, by simp [World.setCell], fun k _ hc => Below.heap_setCell _ _ _ _ (by omega)⟩

theorem Only.setNew {c : Nat} {a w : World} (h : Only c a w) {p : Addr} (hp : a.heap.size ≤ p.block) (u : Value) : Only c a (w.setCell p u) :=
  ⟨h.os, h.tape, h.output, by have := h.size; simpa [World.setCell] using this, fun k hk hc => by rw [Below.heap_setCell _ _ _ _ (by omega)]; exact h.block k hk hc⟩

theorem Only.drew {c : Nat} {a w : World} (h : Only c a w) : Only c a w.drew := ⟨h.os, h.tape, h.output, h.size, h.block⟩

theorem Only.below {c B : Nat} {w w' : World} (h : Only c w w') (h1 : B ≤ c) (h2 : B ≤ w.heap.size) : Below B w w' := ⟨h.os, h.tape, h.output, h.size, fun k hk => h.block k (by omega) (by omega)⟩

theorem Only.fresh {w w' : World} {o : Obj} (h : Only w.heap.size (w.alloc o) w') : Below w.heap.size w w' :=
  ((Below.refl _ w).alloc (Nat.le_refl _) o).trans (h.below (Nat.le_refl _) (by simp))

/-- A block of cells of its own. -/
def Cells (w : World) (c : Nat) (l : List Value) : Prop := ∃ t, w.heap[c]? = some (.cells l.toArray t (0, 0))

theorem Cells.lt {w : World} {c : Nat} {l : List Value} (h : Cells w c l) : c < w.heap.size := by
  obtain ⟨t, h⟩ := h
  exact (Array.getElem?_eq_some_iff.1 h).1

theorem Cells.cell {w : World} {c : Nat} {l : List Value} (h : Cells w c l) (i : Nat) (x : Value) (hx : l[i]? = some x) : w.cell? ⟨c, i, none⟩ = some x := by
  obtain ⟨t, h⟩ := h
  unfold World.cell?
  rw [h]
  simpa using hx

theorem Cells.free {w : World} {c : Nat} {l : List Value} (h : Cells w c l) (i : Nat) : w.frozen? ⟨c, i, none⟩ = false := by
  obtain ⟨t, h⟩ := h
  unfold World.frozen?
  rw [h]
  simp

theorem Cells.set {w : World} {c : Nat} {l : List Value} (h : Cells w c l) (i : Nat) (x : Value) : Cells (w.setCell ⟨c, i, none⟩ x) c (l.set i x) := by
  obtain ⟨t, h⟩ := h
  exact ⟨t, by simp [World.setCell, Array.getElem?_modify, h]⟩

theorem Cells.only {w w' : World} {c g : Nat} {l : List Value} (h : Cells w g l) (hb : Only c w w') (hg : g ≠ c) : Cells w' g l := by
  have hl := h.lt
  obtain ⟨t, h⟩ := h
  exact ⟨t, by rw [hb.block g hl hg]; exact h⟩

theorem Cells.below {w w' : World} {g : Nat} {l : List Value} (h : Cells w g l) (hb : Below w.heap.size w w') : Cells w' g l := by
  have hl := h.lt
  obtain ⟨t, h⟩ := h
  exact ⟨t, by rw [hb.block g hl]; exact h⟩

theorem Cells.alloc {w : World} {g : Nat} {l : List Value} (h : Cells w g l) (o : Obj) : Cells (w.alloc o) g l := h.below ((Below.refl _ w).alloc (Nat.le_refl _) o)

theorem Cells.drew {w : World} {g : Nat} {l : List Value} (h : Cells w g l) : Cells w.drew g l := h

theorem cells_new (w : World) (l : List Value) (t : TypeId) : Cells (w.alloc (.cells l.toArray t)) w.heap.size l := ⟨t, by
  show (w.heap.push _)[w.heap.size]? = _
  simp⟩

theorem Lies.only {w w' : World} {c : Nat} {a : Option Addr} {xs : List Int} (h : Lies w a xs) (ho : Only c w w') (hne : xs ≠ [] → ∀ p, a = Option.some p → p.block ≠ c) : Lies w' a xs := by
  rcases h with h | ⟨b, off, rfl, hb, hc⟩
  · exact .inl h
  · refine .inr ⟨b, off, rfl, Nat.lt_of_lt_of_le hb ho.size, fun j hj => ?_⟩
    have : w'.cell? ⟨b, off + j, none⟩ = w.cell? ⟨b, off + j, none⟩ := World.cell?_of_block (ho.block b hb (hne (by rintro rfl; simp at hj) _ rfl))
    rw [this]
    exact hc j hj

theorem Lies.ne {w : World} {c : Nat} {a : Option Addr} {xs : List Int} (h : Lies w a xs) (hc : w.heap.size ≤ c) : xs ≠ [] → ∀ p, a = Option.some p → p.block ≠ c := by
  intro h0 p hp
  rcases h with h | ⟨b, off, rfl, hb, _⟩
  · exact absurd h h0
  · cases hp
    show b ≠ c
    omega

theorem below_drewN (w : World) (n : Nat) : Below w.heap.size w (w.drewN n) := ⟨rfl, rfl, rfl, Nat.le_refl _, fun _ _ => rfl⟩

theorem owned_at {w : World} {base n : Nat} {v : Value} {xs : List Value} (h : w.ownsRow base 3 1 v n xs) : ∀ a m cap, v = .slice a m cap → ∀ p, a = some p → base ≤ p.block := by
  intro a m cap hv p hp
  rcases h.2 with ⟨h', _⟩ | ⟨g, cap', cur, h1, h2, _⟩
  · rw [h'] at hv; cases hv; cases hp
  · rw [h1] at hv; cases hv; cases hp; exact h2

def upd (f : Nat → Bool) (i : Nat) : Nat → Bool := fun j => bif Nat.beq j i then true else f j

/-- The first n operations' values, put. -/
def putAll (ops : Array Oper) (vals : Nat → Value) : Nat → Act → Act
  | 0, a => a
  | n + 1, a => (putAll ops vals n a).put (dstOf ops n) (vals n)

theorem putAll_size (ops : Array Oper) (vals : Nat → Value) (a : Act) : ∀ n, (putAll ops vals n a).tmps.size = a.tmps.size
  | 0 => rfl
  | n + 1 => by show ((putAll ops vals n a).put _ _).tmps.size = _; rw [put_size, putAll_size ops vals a n]

theorem putAll_defers (ops : Array Oper) (vals : Nat → Value) (a : Act) : ∀ n, (putAll ops vals n a).defers = a.defers
  | 0 => rfl
  | n + 1 => by show ((putAll ops vals n a).put _ _).defers = _; rw [put_defers', putAll_defers ops vals a n]

theorem putAll_off (ops : Array Oper) (vals : Nat → Value) (a : Act) (s : Tmp) : ∀ n, (∀ i, i < n → dstOf ops i ≠ some s) → (putAll ops vals n a).tmps.getD s undef = a.tmps.getD s undef
  | 0, _ => rfl
  | n + 1, h => by
    show ((putAll ops vals n a).put _ _).tmps.getD s undef = _
    rw [put_off _ _ _ _ (h n (by omega)), putAll_off ops vals a s n (fun i hi => h i (by omega))]

theorem putAll_at (ops : Array Oper) (vals : Nat → Value) (a : Act) (s : Tmp) (hs : s < a.tmps.size) (hone : ∀ i j, i < ops.size → j < ops.size → i ≠ j → dstOf ops i ≠ none → dstOf ops i ≠ dstOf ops j) (j : Nat) (hd : dstOf ops j = some s) :
    ∀ n, j < n → n ≤ ops.size → (putAll ops vals n a).tmps.getD s undef = vals j
  | 0, h, _ => by omega
  | n + 1, h, hn => by
    show ((putAll ops vals n a).put _ _).tmps.getD s undef = _
    by_cases e : j = n
    · subst e
      rw [hd, put_at _ _ _ (by rw [putAll_size]; exact hs)]
    · rw [put_off _ _ _ _ (fun e' => hone j n (by omega) (by omega) e (by rw [hd]; simp) (by rw [hd, e'])), putAll_at ops vals a s hs hone j hd n (by omega) (by omega)]

theorem getD_ext {x y : Array Value} (hs : x.size = y.size) (h : ∀ s, s < x.size → x.getD s undef = y.getD s undef) : x = y := by
  apply Array.ext hs
  intro i h1 h2
  have := h i h1
  simpa [Array.getD_eq_getD_getElem?, h1, h2] using this

theorem act_ext {a b : Act} (h1 : a.tmps = b.tmps) (h2 : a.defers = b.defers) : a = b := by cases a; cases b; simp at h1 h2; rw [h1, h2]

theorem region_ssa2 {P : Program} {ops : Array Oper} {Q : Exit → Act → World → Prop} {id : Nat} {a0 : Act} {w0 : World} (S : (Nat → Bool) → World → Prop) (G : Nat → Value → World → Prop)
    (hm : P.follows .mixedOrders = true) (hok : ssaOk ops a0.tmps.size = true)
    (hS : ∀ f, (∀ j, j < ops.size → f j = false) → S f w0.drew)
    (hstep : ∀ (i : Nat) (o : Oper), ops[i]? = some o → ∀ f a w, f i = false → (∀ j o', ops[j]? = some o' → f j = true → ∀ e ∈ o'.after, Region.binds .any e = true → f e.on = true) → S f w → KeptF ops a0 a → (∀ e ∈ o.after, Region.binds .any e = true → f e.on = true ∧ ∀ d, dstOf ops e.on = some d → G e.on (a.tmps.getD d undef) w) →
      wpOp P ops Q i (fun a' w' => ∃ v, a' = a.put o.dst v ∧ S (upd f i) w' ∧ (∀ j u, G j u w → G j u w') ∧ G i v w') a w)
    (hend : ∀ f w (vals : Nat → Value), (∀ j, j < ops.size → f j = true) → S f w → (∀ j d, j < ops.size → dstOf ops j = some d → G j (vals j) w) → Q .normal (putAll ops vals ops.size a0) w) : (Code.region id ops true).wp P Q a0 w0 := by
  obtain ⟨hone, hfit, hback⟩ := ssaOk_spec hok
  refine wp_region_any hm (any_inv (fun listed a w => listed.size = ops.size ∧ (∀ j o', ops[j]? = some o' → listed.getD j true = true → ∀ e ∈ o'.after, Region.binds .any e = true → listed.getD e.on true = true) ∧ S (fun j => listed.getD j true) w ∧ KeptF ops a0 a ∧ ∀ j d, j < ops.size → listed.getD j true = true → dstOf ops j = some d → G j (a.tmps.getD d undef) w) ?_ ?_ _ _ _ _ ?_ ?_)
  · rintro listed a w i ⟨hsz, hcl, hSw, hK, hG⟩ hi
    obtain ⟨h0, o, ho, hall⟩ := mem_ready.1 hi
    have hio : dstOf ops i = o.dst := by unfold dstOf; rw [ho]; rfl
    have hilt : i < ops.size := (Array.getElem?_eq_some_iff.1 ho).1
    have hmon : ∀ j, listed.getD j true = true → (listed.setIfInBounds i true).getD j true = true := by
      intro j hj
      by_cases e : i = j
      · subst e
        rw [hj] at h0
        cases h0
      · rw [getD_set_ne true e]; exact hj
    refine wpOp_mono ?_ (hstep i o ho _ a w h0 hcl hSw hK (fun e he hb => ?_))
    · rintro a' w' ⟨v, rfl, hS', hmono, hGv⟩
      refine ⟨by simpa using hsz, ?_, ?_, ⟨by rw [put_defers']; exact hK.1, by rw [put_size]; exact hK.2.1, fun s hs => ?_⟩, fun j d hj hl hd => ?_⟩
      · intro j o' ho' hj e he hb
        by_cases e' : i = j
        · subst e'
          rw [ho] at ho'
          cases ho'
          have hon := hback i o ho e he
          have hl := hall e he hb
          have hlt : e.on < listed.size := by omega
          refine hmon _ ?_
          rw [Array.getD_eq_getD_getElem?, Array.getElem?_eq_getElem hlt] at hl ⊢
          simpa using hl
        · rw [getD_set_ne true e'] at hj
          exact hmon _ (hcl j o' ho' hj e he hb)
      · have hf : (fun j => (listed.setIfInBounds i true).getD j true) = upd (fun j => listed.getD j true) i := by
          funext j
          by_cases e : i = j
          · subst e
            unfold upd
            rw [Array.getD_eq_getD_getElem?, Array.getElem?_setIfInBounds]
            simp [hsz, hilt]
          · rw [getD_set_ne true e]
            unfold upd
            have : Nat.beq j i = false := by
              cases hb : Nat.beq j i with
              | false => rfl
              | true => exact absurd (Nat.eq_of_beq_eq_true hb).symm e
            rw [this]
            rfl
        rw [hf]
        exact hS'
      · rw [put_off _ _ _ _ (fun e => ?_)]
        · exact hK.2.2 s hs
        · have := Array.any_eq_false.1 hs i hilt
          rw [Array.getElem?_eq_getElem hilt] at ho
          rw [Option.some.inj ho, e] at this
          simp at this
      · by_cases e : i = j
        · subst e
          rw [hio] at hd
          rw [hd, put_at _ _ _ (by rw [hK.2.1]; exact hfit i d (by rw [hio]; exact hd))]
          exact hGv
        · rw [getD_set_ne true e] at hl
          rw [put_off _ _ _ _ (fun e' => ?_)]
          · exact hmono _ _ (hG j d hj hl hd)
          · rw [← hio] at e'
            exact hone i j hilt hj e (by rw [e']; simp) (by rw [e', hd])
    · have hon := hback i o ho e he
      have hl := hall e he hb
      have hlt : e.on < listed.size := by omega
      have hl' : listed.getD e.on true = true := by
        rw [Array.getD_eq_getD_getElem?, Array.getElem?_eq_getElem hlt] at hl ⊢
        simpa using hl
      exact ⟨hl', fun d hd => hG e.on d (by omega) hl' hd⟩
  · rintro listed a w ⟨hsz, hcl, hSw, hK, hG⟩ hr
    have hall : ∀ n j, j < n → j < ops.size → listed.getD j true = true := by
      intro n
      induction n with
      | zero => intro j hj; omega
      | succ n ih =>
        intro j hj hjs
        cases hb : listed.getD j true with
        | true => rfl
        | false =>
          exfalso
          have hmem : j ∈ Region.ready .any ops listed := mem_ready.2 ⟨hb, ops[j], Array.getElem?_eq_getElem hjs, fun e he _ => by
            have hon := hback j _ (Array.getElem?_eq_getElem hjs) e he
            have h1 := ih e.on (by omega) (by omega)
            have hlt : e.on < listed.size := by omega
            rw [Array.getD_eq_getD_getElem?, Array.getElem?_eq_getElem hlt] at h1 ⊢
            simpa using h1⟩
          rw [hr] at hmem
          simp at hmem
    have hl : ∀ j, j < ops.size → listed.getD j true = true := fun j hj => hall (j + 1) j (by omega) hj
    obtain ⟨vals, hv⟩ : ∃ vals : Nat → Value, ∀ j, vals j = (match dstOf ops j with | some d => a.tmps.getD d undef | none => undef) := ⟨_, fun _ => rfl⟩
    have hA : a = putAll ops vals ops.size a0 := by
      refine act_ext (getD_ext (by rw [putAll_size]; exact hK.2.1) (fun s hs => ?_)) (by rw [putAll_defers]; exact hK.1)
      by_cases hx : ∃ j, j < ops.size ∧ dstOf ops j = some s
      · obtain ⟨j, hj, hd⟩ := hx
        rw [putAll_at ops vals a0 s (by rw [← hK.2.1]; exact hs) hone j hd _ hj (Nat.le_refl _), hv j, hd]
      · rw [putAll_off ops vals a0 s _ (fun i hi e => hx ⟨i, hi, e⟩)]
        refine hK.2.2 s (Array.any_eq_false.2 (fun i hi => ?_))
        intro e
        refine hx ⟨i, hi, ?_⟩
        unfold dstOf
        rw [Array.getElem?_eq_getElem hi]
        simpa using e
    rw [hA]
    refine hend _ w vals hl hSw (fun j d hj hd => ?_)
    rw [hv j, hd]
    exact hG j d hj (hl j hj) hd
  · unfold leftN
    refine Nat.le_trans (List.length_filter_le _ _) ?_
    simp
  · have hrep : ∀ j, j < ops.size → (Array.replicate ops.size false).getD j true = false := by
      intro j hj
      rw [Array.getD_eq_getD_getElem?, Array.getElem?_replicate, if_pos hj]
      rfl
    refine ⟨by simp, fun j o' ho' hj => by
      rw [hrep j (Array.getElem?_eq_some_iff.1 ho').1] at hj
      simp at hj, hS _ hrep, ⟨rfl, rfl, fun _ _ => rfl⟩, fun j d hj hl hd => ?_⟩
    rw [hrep j hj] at hl
    simp at hl

/-- All blocks but c and g are as they were. -/
structure Two (c g : Nat) (w w' : World) : Prop where
  os : w'.os = w.os
  tape : w'.tape = w.tape
  output : w'.output = w.output
  size : w.heap.size ≤ w'.heap.size
  block : ∀ k, k < w.heap.size → k ≠ c → k ≠ g → w'.heap[k]? = w.heap[k]?

theorem Two.refl (c g : Nat) (w : World) : Two c g w w := ⟨rfl, rfl, rfl, Nat.le_refl _, fun _ _ _ _ => rfl⟩

theorem Two.trans {c g : Nat} {a b d : World} (h : Two c g a b) (k : Two c g b d) : Two c g a d :=
  ⟨k.os.trans h.os, k.tape.trans h.tape, k.output.trans h.output, Nat.le_trans h.size k.size, fun i hi hc hg => (k.block i (Nat.lt_of_lt_of_le hi h.size) hc hg).trans (h.block i hi hc hg)⟩

theorem Two.of_below {c g : Nat} {w w' : World} (h : Below w.heap.size w w') : Two c g w w' := ⟨h.os, h.tape, h.output, h.size, fun k hk _ _ => h.block k hk⟩

theorem Two.of_left {c g : Nat} {w w' : World} (h : Only c w w') : Two c g w w' := ⟨h.os, h.tape, h.output, h.size, fun k hk hc _ => h.block k hk hc⟩

theorem Two.of_right {c g : Nat} {w w' : World} (h : Only g w w') : Two c g w w' := ⟨h.os, h.tape, h.output, h.size, fun k hk _ hg => h.block k hk hg⟩

theorem Two.below {c g B : Nat} {w w' : World} (h : Two c g w w') (h1 : B ≤ c) (h2 : B ≤ g) (h3 : B ≤ w.heap.size) : Below B w w' := ⟨h.os, h.tape, h.output, h.size, fun k hk => h.block k (by omega) (by omega) (by omega)⟩

theorem Only.setHere {c : Nat} {w : World} (i : Nat) (u : Value) : Only c w (w.setCell ⟨c, i, none⟩ u) := (Only.refl c w).setCell rfl u

theorem Cells.two {w w' : World} {c g k : Nat} {l : List Value} (h : Cells w k l) (hb : Two c g w w') (hc : k ≠ c) (hg : k ≠ g) : Cells w' k l := by
  have hl := h.lt
  obtain ⟨t, h⟩ := h
  exact ⟨t, by rw [hb.block k hl hc hg]; exact h⟩

theorem own_cells {w : World} {base n g : Nat} {xs : List Value} (h : w.ownsRow base 3 1 (.slice (some ⟨g, 0, none⟩) n n) n xs) : Cells w g xs := by
  rcases h.2 with ⟨h', _⟩ | ⟨g', cap, cur, h1, h2, h3, h4, h5, h6, h7⟩
  · cases h'
  · cases h1
    refine ⟨3, ?_⟩
    rw [h3, ← h7, List.take_of_length_le (by simp [h6])]

theorem Cells.inj {w : World} {c : Nat} {l m : List Value} (h : Cells w c l) (k : Cells w c m) : l = m := by
  obtain ⟨t, h⟩ := h
  obtain ⟨t', k⟩ := k
  rw [h] at k
  have := k
  simp at this
  exact this.1

/-- Numbers as cells. -/
def ints (L : List Int) : List Value := L.map (Value.int .i64)

theorem ints_at (L : List Int) (i : Nat) (h : i < L.length) : (ints L)[i]? = some (.int .i64 (L.getD i 0)) := by
  simp [ints, List.getD_eq_getElem?_getD, List.getElem?_eq_getElem h]

theorem ints_set (L : List Int) (i : Nat) (x : Int) : (ints L).set i (.int .i64 x) = ints (L.set i x) := by simp [ints, List.map_set]

theorem ints_zero (n : Nat) : (madeCells #[.int .i64 0] n).toList = ints (List.replicate n 0) := by
  rw [toList_madeCells_one]
  simp [ints]

theorem Cells.lies {w : World} {g : Nat} {L : List Int} (h : Cells w g (ints L)) : Lies w (some ⟨g, 0, none⟩) L := by
  refine .inr ⟨g, 0, rfl, h.lt, fun j hj => ?_⟩
  rw [Nat.zero_add]
  exact h.cell j _ (ints_at L j hj)

/-- A row that came, and its first K. -/
theorem cutK_came (K : Nat) (a : Option Addr) (len cap : Nat) (zs : List Int) (w : World) (h : IsRow .i64 w a len cap zs) :
    ∃ (xs : List Int) (n : Nat), xs.length = n ∧ n ≤ K ∧ n ≤ cap ∧ cap ≤ 9223372036854775807 ∧ Lies w a xs ∧ Small xs ∧ ((len = n) ∨ (n = K ∧ K < len ∧ len ≤ cap ∧ ∃ x, a = some x)) := by
  rcases h with ⟨rfl, rfl, rfl, rfl⟩ | ⟨x, rfl, hl, hm, hz, hcell, hwz⟩
  · exact ⟨[], 0, rfl, by omega, by omega, by omega, .inl rfl, by intro x hx; simp at hx, .inl rfl⟩
  · unfold maxLen at hm
    by_cases hlen : K < len
    · exact ⟨zs.take K, K, by simp; omega, by omega, by omega, hm, lies_of_row K (by omega) hcell, small_take K hwz, .inr ⟨rfl, hlen, hl, x, rfl⟩⟩
    · exact ⟨zs.take len, len, by simp; omega, by omega, by omega, hm, lies_of_row len (by omega) hcell, small_take len hwz, .inl rfl⟩

theorem Lies.under {w w' : World} {B : Nat} {a : Option Addr} {xs : List Int} (h : Lies w a xs) (hb : Below B w w') (hlt : ∀ p, a = Option.some p → p.block < B) : Lies w' a xs := by
  rcases h with h | ⟨b, off, rfl, hl, hc⟩
  · exact .inl h
  · refine .inr ⟨b, off, rfl, Nat.lt_of_lt_of_le hl hb.size, fun j hj => ?_⟩
    rw [hb.cell (p := ⟨b, off + j, none⟩) (hlt ⟨b, off, none⟩ rfl)]
    exact hc j hj

theorem Cells.under {w w' : World} {B c : Nat} {l : List Value} (h : Cells w c l) (hb : Below B w w') (hlt : c < B) : Cells w' c l := by
  obtain ⟨t, h⟩ := h
  exact ⟨t, by rw [hb.block c hlt]; exact h⟩

set_option maxHeartbeats 2000000 in
/-- Same of two rows as long as each other: it answers. -/
theorem same_may (a b : Option Addr) (cap cap' : Nat) (xs ys : List Int) (n : Nat) (hn : xs.length = n) (hn' : ys.length = n) (hm : n ≤ 1000000) (w : World) (ha : Lies w a xs) (hb : Lies w b ys) :
    Calls Tryd.prog 17 #[.slice a n cap, .slice b n cap'] w fun e w' => ∃ v : Bool, e = .returned (.bool v) ∧ Below w.heap.size w w' := by
  have HA := hide ha
  have HB := hide hb
  have HN := hide hn
  have HN' := hide hn'
  clear ha hb hn hn'
  go_enter Tryd.func17, Tryd.ntmps17
  go_wp2
  go_loopw [5] (fun i wr => ∃ k : Nat, k ≤ n ∧ i = .int .i64 k ∧ Hid (Below w.heap.size w wr))
    (fun i _ => n - (intOf i).toNat)
  case atStart => exact ⟨0, Nat.zero_le _, rfl, Below.refl _ _⟩
  case round =>
    obtain ⟨k, hk, rfl, HBr⟩ := hrel
    by_cases c : k < n
    · obtain ⟨ba, oa, rfl, hlta, hca⟩ := ((unhide HA).below (unhide HBr)).some (by intro e; have := unhide HN; rw [e] at this; simp at this; omega)
      obtain ⟨bb, ob, rfl, hltb, hcb⟩ := ((unhide HB).below (unhide HBr)).some (by intro e; have := unhide HN'; rw [e] at this; simp at this; omega)
      have hc1 := hca k (by rw [unhide HN]; exact c)
      have hc2 := hcb k (by rw [unhide HN']; exact c)
      clear hca hcb HA HB hlta hltb
      generalize xs.getD k 0 = z at hc1
      generalize ys.getD k 0 = y at hc2
      by_cases hzy : z = y
      · subst hzy
        go_wp2
        go_region
        all_goals go_wp2
        go_roundw
        case rel => exact ⟨k + 1, by omega, by go_num, (unhide HBr).drew⟩
        case measure => simp [intOf]; omega
      · go_wp2
        go_region
        all_goals go_wp2
        all_goals (go_ret; exact ⟨_, rfl, (unhide HBr).drew⟩)
    · go_wp2
      go_ret
      exact ⟨_, rfl, unhide HBr⟩

theorem Lies.two {W W' : World} {a : Option Addr} {xs : List Int} {p q : Nat} (h : Lies W a xs) (ht : Two p q W W') (hp : ∀ x, a = Option.some x → x.block ≠ p ∧ x.block ≠ q) : Lies W' a xs := by
  rcases h with h | ⟨b, off, rfl, hb, hc⟩
  · exact .inl h
  · refine .inr ⟨b, off, rfl, Nat.lt_of_lt_of_le hb ht.size, fun j hj => ?_⟩
    have : W'.cell? ⟨b, off + j, none⟩ = W.cell? ⟨b, off + j, none⟩ := World.cell?_of_block (ht.block b hb (hp _ rfl).1 (hp _ rfl).2)
    rw [this]
    exact hc j hj

/-- All blocks but those of X are as they were. -/
structure But (X : Nat → Prop) (w w' : World) : Prop where
  os : w'.os = w.os
  tape : w'.tape = w.tape
  output : w'.output = w.output
  size : w.heap.size ≤ w'.heap.size
  block : ∀ k, k < w.heap.size → ¬ X k → w'.heap[k]? = w.heap[k]?

theorem But.refl (X : Nat → Prop) (w : World) : But X w w := ⟨rfl, rfl, rfl, Nat.le_refl _, fun _ _ _ => rfl⟩

theorem But.trans {X : Nat → Prop} {a b d : World} (h : But X a b) (k : But X b d) : But X a d :=
  ⟨k.os.trans h.os, k.tape.trans h.tape, k.output.trans h.output, Nat.le_trans h.size k.size, fun i hi hX => (k.block i (Nat.lt_of_lt_of_le hi h.size) hX).trans (h.block i hi hX)⟩

theorem But.mono {X Y : Nat → Prop} {w w' : World} (h : But X w w') (hXY : ∀ k, X k → Y k) : But Y w w' := ⟨h.os, h.tape, h.output, h.size, fun k hk hY => h.block k hk (fun hX => hY (hXY k hX))⟩

theorem But.of_below {X : Nat → Prop} {w w' : World} (h : Below w.heap.size w w') : But X w w' := ⟨h.os, h.tape, h.output, h.size, fun k hk _ => h.block k hk⟩

theorem But.of_only {X : Nat → Prop} {c : Nat} {w w' : World} (h : Only c w w') (hc : X c) : But X w w' := ⟨h.os, h.tape, h.output, h.size, fun k hk hX => h.block k hk (fun e => hX (e ▸ hc))⟩

theorem But.of_two {X : Nat → Prop} {c g : Nat} {w w' : World} (h : Two c g w w') (hc : X c) (hg : X g) : But X w w' := ⟨h.os, h.tape, h.output, h.size, fun k hk hX => h.block k hk (fun e => hX (e ▸ hc)) (fun e => hX (e ▸ hg))⟩

theorem But.below {X : Nat → Prop} {B : Nat} {w w' : World} (h : But X w w') (hX : ∀ k, X k → B ≤ k) (hB : B ≤ w.heap.size) : Below B w w' := ⟨h.os, h.tape, h.output, h.size, fun k hk => h.block k (by omega) (fun e => by have := hX k e; omega)⟩

theorem Cells.but {X : Nat → Prop} {w w' : World} {k : Nat} {l : List Value} (h : Cells w k l) (hb : But X w w') (hk : ¬ X k) : Cells w' k l := by
  have hl := h.lt
  obtain ⟨t, h⟩ := h
  exact ⟨t, by rw [hb.block k hl hk]; exact h⟩

theorem Cells.drewN {w : World} {k n : Nat} {l : List Value} (h : Cells w k l) : Cells (w.drewN n) k l := h.below (below_drewN w n)

theorem But.lg_below {B l g : Nat} {w w' : World} (h : But (fun k => k = l ∨ k = g) w w') (h1 : B ≤ l) (h2 : B ≤ g) (h3 : B ≤ w.heap.size) : Below B w w' :=
  h.below (fun k hk => by rcases hk with rfl | rfl <;> assumption) h3

theorem getD_set (L : List Int) (k i : Nat) (x : Int) : (L.set k x).getD i 0 = if k = i ∧ i < L.length then x else L.getD i 0 := by
  simp only [List.getD_eq_getElem?_getD, List.getElem?_set]
  by_cases h : k = i
  · subst h
    by_cases h2 : k < L.length
    · rw [if_pos rfl, if_pos h2, if_pos ⟨rfl, h2⟩]; rfl
    · rw [if_pos rfl, if_neg h2, if_neg (fun h => h2 h.2), List.getElem?_eq_none (by omega)]
  · rw [if_neg h, if_neg (fun h' => h h'.1)]

theorem Lies.but {X : Nat → Prop} {w w' : World} {a : Option Addr} {xs : List Int} (h : Lies w a xs) (hb : But X w w') (hne : xs ≠ [] → ∀ p, a = Option.some p → ¬ X p.block) : Lies w' a xs := by
  rcases h with h | ⟨b, off, rfl, hl, hc⟩
  · exact .inl h
  · refine .inr ⟨b, off, rfl, Nat.lt_of_lt_of_le hl hb.size, fun j hj => ?_⟩
    have : w'.cell? ⟨b, off + j, none⟩ = w.cell? ⟨b, off + j, none⟩ := World.cell?_of_block (hb.block b hl (hne (by rintro rfl; simp at hj) _ rfl))
    rw [this]
    exact hc j hj

def mkL (n : Nat) (f : Nat → Int) : List Int := (List.range n).map f

theorem mkL_len (n : Nat) (f : Nat → Int) : (mkL n f).length = n := by simp [mkL]

theorem mkL_at (n : Nat) (f : Nat → Int) (i : Nat) (h : i < n) : (mkL n f).getD i 0 = f i := by simp [mkL, List.getD_eq_getElem?_getD, h]

theorem getD_over (L : List Int) (i : Nat) (h : L.length ≤ i) : L.getD i 0 = 0 := by simp [List.getD_eq_getElem?_getD, List.getElem?_eq_none h]

theorem list_same {L M : List Int} (h : L.length = M.length) (hi : ∀ i, i < L.length → L.getD i 0 = M.getD i 0) : L = M := by
  apply List.ext_getElem h
  intro i h1 h2
  have := hi i h1
  simpa [List.getD_eq_getElem?_getD, List.getElem?_eq_getElem h1, List.getElem?_eq_getElem h2] using this

theorem mkL_eq (L : List Int) (n : Nat) (f : Nat → Int) (hn : L.length = n) (h : ∀ i, i < n → f i = L.getD i 0) : mkL n f = L :=
  list_same (by rw [mkL_len, hn]) fun i hi => by rw [mkL_len] at hi; rw [mkL_at n f i hi, h i hi]

theorem mkL_congr (n : Nat) (f g : Nat → Int) (h : ∀ i, i < n → f i = g i) : mkL n f = mkL n g :=
  list_same (by rw [mkL_len, mkL_len]) fun i hi => by rw [mkL_len] at hi; rw [mkL_at n f i hi, mkL_at n g i hi, h i hi]

theorem Small.all {xs : List Int} (h : Small xs) (k : Nat) : In64 (xs.getD k 0) := by
  by_cases c : k < xs.length
  · exact h.at k c
  · rw [getD_over xs k (by omega)]; constructor <;> decide

/-- Sums of so many. -/
def sumF (f : Nat → Int) : Nat → Int
  | 0 => 0
  | n + 1 => sumF f n + f n

theorem sumF_congr (f g : Nat → Int) : ∀ n, (∀ i, i < n → f i = g i) → sumF f n = sumF g n
  | 0, _ => rfl
  | n + 1, h => by show sumF f n + f n = sumF g n + g n; rw [sumF_congr f g n fun i hi => h i (by omega), h n (by omega)]

theorem sumF_neg (f : Nat → Int) : ∀ n, sumF (fun i => -f i) n = -sumF f n
  | 0 => rfl
  | n + 1 => by show sumF (fun i => -f i) n + -f n = -(sumF f n + f n); rw [sumF_neg f n]; omega

theorem sumF_plus (f g : Nat → Int) : ∀ n, sumF (fun i => f i + g i) n = sumF f n + sumF g n
  | 0 => rfl
  | n + 1 => by show sumF (fun i => f i + g i) n + (f n + g n) = sumF f n + f n + (sumF g n + g n); rw [sumF_plus f g n]; omega

/-- What a call told: a row, in a world in which all that was there is as it was. -/
def Told (xs : List Int) (w : World) (e : Ending) (w' : World) : Prop := ∃ a l c, e = .returned (.slice a l c) ∧ xs.length = l ∧ Lies w' a xs ∧ Below w.heap.size w w'

theorem sumF_head (f : Nat → Int) : ∀ n, sumF f (n + 1) = f 0 + sumF (fun t => f (t + 1)) n
  | 0 => by show 0 + f 0 = f 0 + 0; omega
  | n + 1 => by
    show sumF f (n + 1) + f (n + 1) = f 0 + (sumF (fun t => f (t + 1)) n + f (n + 1))
    rw [sumF_head f n]; omega

theorem sumF_mul (c : Int) (f : Nat → Int) : ∀ n, sumF (fun i => c * f i) n = c * sumF f n
  | 0 => by show 0 = c * 0; omega
  | n + 1 => by show sumF (fun i => c * f i) n + c * f n = c * (sumF f n + f n); rw [sumF_mul c f n, Int.mul_add]

theorem sumF_bd (f : Nat → Int) (Bq : Int) : ∀ n, (∀ t, t < n → -Bq ≤ f t ∧ f t ≤ Bq) → -((n : Int) * Bq) ≤ sumF f n ∧ sumF f n ≤ (n : Int) * Bq
  | 0, _ => by show -(0 * Bq) ≤ 0 ∧ (0 : Int) ≤ 0 * Bq; rw [Int.zero_mul]; omega
  | n + 1, h => by
    have h1 := sumF_bd f Bq n fun t ht => h t (by omega)
    have h2 := h n (by omega)
    show -(((n + 1 : Nat) : Int) * Bq) ≤ sumF f n + f n ∧ sumF f n + f n ≤ ((n + 1 : Nat) : Int) * Bq
    rw [show ((n + 1 : Nat) : Int) = (n : Int) + 1 by omega, Int.add_mul, Int.one_mul]; omega

theorem mul_bd (x y : Int) (Bq C : Int) (hB : 0 ≤ Bq) (hC : 0 ≤ C) (hx : -Bq ≤ x ∧ x ≤ Bq) (hy : -C ≤ y ∧ y ≤ C) : -(Bq * C) ≤ x * y ∧ x * y ≤ Bq * C := by
  have h := Int.natAbs_mul x y
  have h1 : x.natAbs ≤ Bq.toNat := by omega
  have h2 : y.natAbs ≤ C.toNat := by omega
  have h3 := Nat.mul_le_mul h1 h2
  have h4 : ((Bq.toNat * C.toNat : Nat) : Int) = Bq * C := by rw [Int.natCast_mul, Int.toNat_of_nonneg hB, Int.toNat_of_nonneg hC]
  omega

theorem alloc_below (w : World) (o : Obj) : Below w.heap.size w (w.alloc o) := (Below.refl _ w).alloc (Nat.le_refl _) o

theorem Cells.at {w : World} {c : Nat} {l : List Value} (h : Cells w c l) (i : Nat) : w.cell? ⟨c, i, none⟩ = l[i]? := by
  obtain ⟨t, h⟩ := h
  unfold World.cell?
  rw [h]
  simp

theorem wrap_in (x : Int) : In64 (wrap64 x) := by unfold wrap64 In64; omega

theorem wrap_step (A F s z : Int) (h1 : wrap64 A = s) (h2 : wrap64 F = z) : wrap64 (A + F) = wrap64 (s + z) := by subst h1 h2; unfold wrap64; omega
end Go.Proofs.YtbkdgpeooeokmaaDoor
