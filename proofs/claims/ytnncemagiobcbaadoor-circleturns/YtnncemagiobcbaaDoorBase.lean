/- What this seat takes of the earlier stages: round.Parts, Half, the document's Half and Rest, rows in memory. -/
import Derived.Test.YtnncemagiobcbaaDoorRows
import Derived.WalkKit
import Derived.WalkSpells
import Derived.WalkLawsBesides
import Derived.Deep.RegionWith
import Derived.Laws.AppendOwnNone
import Derived.Deep.RegionHeld3
import Derived.Deep.AppendLies
namespace Go.Proofs.YtnncemagiobcbaaDoor
open Go.RowKit
set_option linter.unusedVariables false

def In64 (x : Int) : Prop := -9223372036854775808 ≤ x ∧ x ≤ 9223372036854775807

theorem two_pow_le (m n : Nat) (h : m ≤ n) : (2 : Int) ^ m ≤ 2 ^ n := by
  have h1 : 2 ^ m ≤ 2 ^ n := Nat.pow_le_pow_right (by decide) h
  exact_mod_cast h1

theorem in_of_wf {x : Int} (h : (Lit.int .i64 x).wf = true) : In64 x := by
  simp [Lit.wf, IntKind.min, IntKind.max, IntKind.signed, IntKind.bits] at h
  exact ⟨by omega, by omega⟩

theorem hide {p : Prop} (h : p) : Hid p := h

theorem unhide {p : Prop} (h : Hid p) : p := h

theorem w64_in {n : Int} (h : In64 n) : wrap64 n = n := by obtain ⟨h0, h1⟩ := h; unfold wrap64; omega

theorem i64_mask (n m : Int) (k : Nat) (hk : k ≤ 62) (hm : (BitVec.ofInt 64 m).toNat = 2 ^ k - 1) : bits .and .i64 n m = n % 2 ^ k := by
  have key : (BitVec.ofInt 64 n &&& BitVec.ofInt 64 m).toNat = (n % ((2 ^ 64 : Nat) : Int)).toNat % 2 ^ k := by
    rw [BitVec.toNat_and, BitVec.toNat_ofInt, hm, Nat.and_two_pow_sub_one_eq_mod]
  show IntKind.i64.wrap ((BitVec.ofInt 64 n &&& BitVec.ofInt 64 m).toNat : Nat) = n % 2 ^ k
  rw [key, IntKind.wrap_i64]
  have h0 : 0 ≤ n % ((2 ^ 64 : Nat) : Int) := Int.emod_nonneg _ (by decide)
  have h1 : ((((n % ((2 ^ 64 : Nat) : Int)).toNat % 2 ^ k : Nat)) : Int) = n % 2 ^ k := by
    rw [Int.natCast_emod, Int.toNat_of_nonneg h0]
    have hd : ((2 ^ k : Nat) : Int) ∣ ((2 ^ 64 : Nat) : Int) := Int.natCast_dvd_natCast.2 (Nat.pow_dvd_pow 2 (by omega))
    rw [Int.emod_emod_of_dvd n hd]
    simp
  rw [h1]
  have h2 : (2 : Int) ^ k ≤ 2 ^ 62 := two_pow_le k 62 hk
  have h3 : (0 : Int) < 2 ^ k := Int.pow_pos (by decide)
  have h4 := Int.emod_nonneg n (b := 2 ^ k) (by omega)
  have h5 := Int.emod_lt_of_pos n h3
  generalize n % 2 ^ k = r at *
  generalize (2 : Int) ^ k = q at *
  have h6 : (2 : Int) ^ 62 = 4611686018427387904 := by decide
  omega

theorem ret_int {k : IntKind} {a b : Int} (h : a = b) : Ending.returned (.int k a) = .returned (.int k b) := by rw [h]

theorem ret_bool {a b : Bool} (h : a = b) : Ending.returned (.bool a) = .returned (.bool b) := by rw [h]

theorem ret_ii {k l : IntKind} {a b c d : Int} (h : a = b ∧ c = d) : Ending.returned (.tuple #[.int k a, .int l c]) = .returned (.tuple #[.int k b, .int l d]) := by rw [h.1, h.2]

/-- A slice of int lies in memory: its numbers, cell by cell. -/
def Lies (w : World) (a : Option Addr) (xs : List Int) : Prop :=
  xs = [] ∨ ∃ b off, a = some ⟨b, off, none⟩ ∧ b < w.heap.size ∧ ∀ j, j < xs.length → w.cell? ⟨b, off + j, none⟩ = some (.int .i64 (xs.getD j 0))

theorem Lies.below {w w' : World} {a : Option Addr} {xs : List Int} (h : Lies w a xs) (hb : Below w.heap.size w w') : Lies w' a xs := by
  rcases h with h | ⟨b, off, ha, hlt, hc⟩
  · exact .inl h
  · exact .inr ⟨b, off, ha, Nat.lt_of_lt_of_le hlt hb.size, fun j hj => by rw [hb.cell (p := ⟨b, off + j, none⟩) hlt]; exact hc j hj⟩

def Small (xs : List Int) : Prop := ∀ x ∈ xs, In64 x

theorem Small.at {xs : List Int} (h : Small xs) (k : Nat) (hk : k < xs.length) : In64 (xs.getD k 0) := by
  rw [List.getD_eq_getElem?_getD, List.getElem?_eq_getElem hk]
  exact h _ (List.getElem_mem hk)

theorem World.heap_drew (w : World) : w.drew.heap = w.heap := rfl

theorem lies_new (w : World) (xs : List Int) (n : Nat) (hn : n = w.heap.size) : Lies (w.alloc (.cells (xs.map (Value.int .i64)).toArray 3)) (some ⟨n, 0, none⟩) xs := by
  subst hn
  refine .inr ⟨w.heap.size, 0, rfl, by simp, fun j hj => ?_⟩
  rw [World.cell?_alloc_at _ _ _ _ rfl]
  simp [List.getD_eq_getElem?_getD, List.getElem?_eq_getElem hj]

theorem lt_of_cell {w : World} {p : Addr} {v : Value} (h : w.cell? p = some v) : p.block < w.heap.size := by
  rcases Nat.lt_or_ge p.block w.heap.size with h' | h'
  · exact h'
  · simp [World.cell?, Array.getElem?_eq_none h'] at h

theorem Tryd.info3 : (Tryd.prog.info? 3).map (fun i => (i.zero, i.size, i.bytes)) = some (some (.int .i64 0), 1, 8) := by kernel_rfl

theorem owned_lies {w : World} {base n : Nat} {v : Value} {xs : List Int} (h : w.ownsRow base 3 1 v n (xs.map (Value.int .i64))) :
    ∃ a cap, v = .slice a xs.length cap ∧ Lies w a xs ∧ xs.length = n := by
  have hn : xs.length = n := by have := h.1; simpa using this
  rcases h.2 with ⟨hv, h0⟩ | ⟨g, cap, cur, hv, hb, hg, _⟩
  · subst h0
    have hx : xs = [] := List.length_eq_zero_iff.1 hn
    subst hx
    exact ⟨none, 0, hv, .inl rfl, rfl⟩
  · refine ⟨some ⟨g, 0, none⟩, cap, by rw [hv, hn], .inr ⟨g, 0, rfl, (Array.getElem?_eq_some_iff.1 hg).1, fun j hj => ?_⟩, hn⟩
    have hc := h.cells (g := g) (by rw [hv]; rfl) j (.int .i64 (xs.getD j 0)) (by simp [List.getD_eq_getElem?_getD, List.getElem?_eq_getElem hj])
    rw [Addr.add_lit] at hc
    exact hc

theorem lies_news {w : World} {ad : Addr} {xs : List Int} (h : Lies w (some ad) xs) : ∀ j u, (xs.map (Value.int .i64))[j]? = some u → w.cell? (ad.add j) = some u := by
  intro j u hu
  rcases h with rfl | ⟨b, off, ha, _, hc⟩
  · simp at hu
  · cases ha
    rw [Addr.add_lit]
    simp at hu
    obtain ⟨z, hz, rfl⟩ := hu
    have hj : j < xs.length := (List.getElem?_eq_some_iff.1 hz).1
    rw [hc j hj, List.getD_eq_getElem?_getD, hz]; rfl

theorem ints_one (xs : List Int) : ∀ u ∈ xs.map (Value.int .i64), u.oneCell' = true := by
  intro u hu
  obtain ⟨z, _, rfl⟩ := List.mem_map.1 hu
  rfl

theorem undrew {B : Nat} {w w' : World} (h : Below B w.drew w') : Below B w w' := ⟨h.os, h.tape, h.output, h.size, h.block⟩

def quoI (x n : Int) : Int := if n < 1 then 0 else x / n

def remI (x n : Int) : Int := if n < 1 then 0 else x % n

def divI (x n : Int) : Int := if n < 1 then 0 else if n - x % n ≤ x % n then x / n + 1 else x / n

theorem quoI_pos (x n : Int) (h : 1 ≤ n) : quoI x n = x / n := by unfold quoI; rw [if_neg (by omega)]

theorem remI_pos (x n : Int) (h : 1 ≤ n) : remI x n = x % n := by unfold remI; rw [if_neg (by omega)]

theorem quoI_no (x n : Int) (h : n < 1) : quoI x n = 0 := by unfold quoI; rw [if_pos h]

theorem remI_no (x n : Int) (h : n < 1) : remI x n = 0 := by unfold remI; rw [if_pos h]

theorem divI_no (x n : Int) (h : n < 1) : divI x n = 0 := by unfold divI; rw [if_pos h]

theorem tq_neg (x n : Int) (h : 1 ≤ n) (hr : x.tmod n < 0) : x.tdiv n = x / n + 1 ∧ x.tmod n = x % n - n := by
  have h1 := Int.mul_tdiv_add_tmod x n
  have h2 := Int.lt_tmod_of_pos x (b := n) (by omega)
  have h3 : x = (x.tmod n + n) + (x.tdiv n - 1) * n := by
    rw [Int.sub_mul, Int.mul_comm (x.tdiv n) n]; omega
  have h4 : x / n = x.tdiv n - 1 := by
    conv => lhs; rw [h3]
    rw [Int.add_mul_ediv_right _ _ (by omega), Int.ediv_eq_zero_of_lt (by omega) (by omega)]; omega
  have h5 : x % n = x.tmod n + n := by
    conv => lhs; rw [h3]
    rw [Int.add_mul_emod_self_right, Int.emod_eq_of_lt (by omega) (by omega)]
  omega

theorem tq_pos (x n : Int) (h : 1 ≤ n) (hr : ¬ x.tmod n < 0) : x.tdiv n = x / n ∧ x.tmod n = x % n := by
  have h1 := Int.mul_tdiv_add_tmod x n
  have h2 := Int.tmod_lt_of_pos x (b := n) (by omega)
  have h3 : x = x.tmod n + x.tdiv n * n := by
    rw [Int.mul_comm (x.tdiv n) n]; omega
  have h4 : x / n = x.tdiv n := by
    conv => lhs; rw [h3]
    rw [Int.add_mul_ediv_right _ _ (by omega), Int.ediv_eq_zero_of_lt (by omega) (by omega)]; omega
  have h5 : x % n = x.tmod n := by
    conv => lhs; rw [h3]
    rw [Int.add_mul_emod_self_right, Int.emod_eq_of_lt (by omega) (by omega)]
  omega

theorem quo_in (x n : Int) (h : 1 ≤ n) (hx : In64 x) : In64 (x / n) := by
  obtain ⟨h1, h2⟩ := hx
  refine ⟨?_, ?_⟩
  · rw [Int.le_ediv_iff_mul_le (by omega)]
    omega
  · have h3 : x / n < 9223372036854775808 := by
      rw [Int.ediv_lt_iff_lt_mul (by omega)]
      omega
    omega

theorem rem_bd (x n : Int) (h : 1 ≤ n) : 0 ≤ x % n ∧ x % n < n := ⟨Int.emod_nonneg _ (by omega), Int.emod_lt_of_pos _ (by omega)⟩

theorem tq_bd (x n : Int) (h : 1 ≤ n) (hr : x.tmod n < 0) (hx : In64 x) : -9223372036854775808 ≤ x.tdiv n - 1 ∧ x.tdiv n ≤ 9223372036854775807 := by
  have hx0 : x < 0 := by
    rcases Int.lt_or_le x 0 with h | h
    · exact h
    · have := Int.tmod_nonneg n h; omega
  have h5 : x / n < 0 := by rw [Int.ediv_lt_iff_lt_mul (by omega)]; omega
  have h6 := (quo_in x n h hx).1
  rw [(tq_neg x n h hr).1]
  omega

set_option maxHeartbeats 1000000 in
theorem parts_any (x n : Int) (w : World) (hx : In64 x) (hn : In64 n) :
    Calls Tryd.prog 20 #[.int .i64 x, .int .i64 n] w fun e w' => e = .returned (.tuple #[.int .i64 (quoI x n), .int .i64 (remI x n)]) ∧ Below w.heap.size w w' := by
  by_cases c : n < 1
  · have H := hide (And.intro (quoI_no x n c) (remI_no x n c))
    go_enter Tryd.func20, Tryd.ntmps20
    go_wp2
    go_ret2
    exact ⟨ret_ii ⟨(unhide H).1.symm, (unhide H).2.symm⟩, Below.refl _ _⟩
  · have hn1 : 1 ≤ n := by omega
    have n0 : (n == 0) = false := by simp; omega
    have n0' : ¬ n = 0 := by omega
    have H := hide (And.intro (quoI_pos x n hn1) (remI_pos x n hn1))
    have Hq := hide (quo_in x n hn1 hx)
    have Hr := hide (rem_bd x n hn1)
    have hmr1 := Int.tmod_lt_of_pos x (b := n) (by omega)
    have hmr2 := Int.lt_tmod_of_pos x (b := n) (by omega)
    obtain ⟨h1, h2⟩ := hx
    obtain ⟨h3, h4⟩ := hn
    by_cases hr : x.tmod n < 0
    · have T := tq_neg x n hn1 hr
      have H1 := hide T.1
      have H2 := hide T.2
      have hb := (tq_bd x n hn1 hr ⟨h1, h2⟩).1
      have hb' := (tq_bd x n hn1 hr ⟨h1, h2⟩).2
      clear T
      have HV := hide (show x.tdiv n - 1 = quoI x n ∧ x.tmod n + n = remI x n by rw [(unhide H).1, (unhide H).2, unhide H1, unhide H2]; omega)
      go_enter Tryd.func20, Tryd.ntmps20
      go_wp2
      go_region
      go_wp2
      go_ret2
      exact ⟨ret_ii ⟨(unhide HV).1, (unhide HV).2⟩, (Below.refl _ w).drew⟩
    · have T := tq_pos x n hn1 hr
      have hb := quo_in x n hn1 ⟨h1, h2⟩
      rw [← T.1] at hb
      obtain ⟨hb1, hb2⟩ := hb
      have HV := hide (show x.tdiv n = quoI x n ∧ x.tmod n = remI x n by rw [(unhide H).1, (unhide H).2]; exact T)
      clear T
      go_enter Tryd.func20, Tryd.ntmps20
      go_wp2
      go_region
      go_wp2
      go_ret2
      exact ⟨ret_ii ⟨(unhide HV).1, (unhide HV).2⟩, (Below.refl _ w).drew⟩

set_option maxHeartbeats 1000000 in
theorem up_any (l n : Int) (b : Nat) (w : World) (hn : 1 ≤ n) (hn2 : n ≤ 9223372036854775807) (h0 : 0 ≤ l) (h1 : l < n) (hc : w.heap[b]? = some (.cells #[.int .i64 n] 3 (0, 0))) :
    Calls Tryd.prog 29 #[.int .i64 l, .pointer (some ⟨b, 0, none⟩)] w fun e w' => e = .returned (.bool (decide (n - l ≤ l))) ∧ w' = w := by
  have cr := cell_of_one hc
  go_enter Tryd.func29, Tryd.ntmps29
  go_wp2
  go_ret
  exact ⟨ret_bool rfl, rfl⟩

theorem divI_up (x n : Int) (h : 1 ≤ n) (c : n - x % n ≤ x % n) : divI x n = x / n + 1 := by unfold divI; rw [if_neg (by omega), if_pos c]

theorem divI_down (x n : Int) (h : 1 ≤ n) (c : ¬ n - x % n ≤ x % n) : divI x n = x / n := by unfold divI; rw [if_neg (by omega), if_neg c]

theorem up_bd (x n : Int) (h : 1 ≤ n) (hx : In64 x) (c : n - x % n ≤ x % n) : x / n + 1 ≤ 9223372036854775807 := by
  obtain ⟨h1, h2⟩ := hx
  have h3 := rem_bd x n h
  have h4 := Int.mul_ediv_add_emod x n
  rcases Int.lt_or_le n 2 with hn | hn
  · omega
  · have h5 : x / n < 9223372036854775807 := by
      rw [Int.ediv_lt_iff_lt_mul (by omega)]; omega
    omega

set_option maxHeartbeats 1000000 in
theorem divided_any (x n : Int) (b : Nat) (w : World) (hx : In64 x) (hn : 1 ≤ n) (hn2 : n ≤ 9223372036854775807) (hc : w.heap[b]? = some (.cells #[.int .i64 n] 3 (0, 0))) :
    Calls Tryd.prog 30 #[.int .i64 x, .int .i64 n, .func (.func 29) #[] #[.pointer (some ⟨b, 0, none⟩)]] w fun e w' => e = .returned (.int .i64 (divI x n)) ∧ Below w.heap.size w w' := by
  have hlt : b < w.heap.size := (Array.getElem?_eq_some_iff.1 hc).1
  have hr := rem_bd x n hn
  have hq := quo_in x n hn hx
  obtain ⟨hr1, hr2⟩ := hr
  by_cases c : n - x % n ≤ x % n
  · have HV := hide (divI_up x n hn c)
    have hu := up_bd x n hn hx c
    obtain ⟨hq1, hq2⟩ := hq
    go_enter Tryd.func30, Tryd.ntmps30
    go_wp2_with fail
    refine (parts_any _ _ _ hx ⟨by omega, by omega⟩).mono ?_
    rintro e w1 ⟨rfl, hb1⟩
    have hc1 := (hb1.block b hlt).trans hc
    rw [quoI_pos x n hn, remI_pos x n hn]
    go_wp2_with fail
    refine (up_any (x % n) n b _ hn hn2 hr1 hr2 hc1).mono ?_
    rintro e w' ⟨rfl, rfl⟩
    go_wp2
    go_ret
    exact ⟨ret_int (unhide HV).symm, hb1⟩
  · have HV := hide (divI_down x n hn c)
    go_enter Tryd.func30, Tryd.ntmps30
    go_wp2_with fail
    refine (parts_any _ _ _ hx ⟨by omega, by omega⟩).mono ?_
    rintro e w1 ⟨rfl, hb1⟩
    have hc1 := (hb1.block b hlt).trans hc
    rw [quoI_pos x n hn, remI_pos x n hn]
    go_wp2_with fail
    refine (up_any (x % n) n b _ hn hn2 hr1 hr2 hc1).mono ?_
    rintro e w' ⟨rfl, rfl⟩
    rw [decide_eq_false (by omega : ¬ n - x % n ≤ x % n)]
    go_wp2
    go_ret
    exact ⟨ret_int (unhide HV).symm, hb1⟩

set_option maxHeartbeats 1000000 in
theorem div_any (x n : Int) (w : World) (hx : In64 x) (hn : In64 n) :
    Calls Tryd.prog 25 #[.int .i64 x, .int .i64 n] w fun e w' => e = .returned (.int .i64 (divI x n)) ∧ Below w.heap.size w w' := by
  have hmf : ∀ (fn : Fn) (first cap : Array Value) (w : World), (Instr.makeFunc fn first cap).run Tryd.prog w = .ok (.func fn first cap) w := fun _ _ _ _ => rfl
  have ha : (w.alloc (.cells #[.int .i64 n] 3)).heap[w.heap.size]? = some (.cells #[.int .i64 n] 3 (0, 0)) := heap_alloc_new _ _
  by_cases c : n < 1
  · have HV := hide (divI_no x n c)
    go_enter Tryd.func25, Tryd.ntmps25
    go_wp2
    go_ret
    exact ⟨ret_int (unhide HV).symm, (Below.refl _ w).alloc (Nat.le_refl _) _⟩
  · go_enter Tryd.func25, Tryd.ntmps25
    go_wp2_with fail
    refine (divided_any x n w.heap.size _ hx (by omega) hn.2 ha).mono ?_
    rintro e w' ⟨rfl, hb1⟩
    go_wp2
    go_ret
    exact ⟨rfl, ((Below.refl _ w).alloc (Nat.le_refl _) _).trans (hb1.mono (by simp))⟩

theorem divI_eq (x n : Int) (h : 1 ≤ n) : divI x n = (2 * x + n) / (2 * n) := by
  have h1 := Int.mul_ediv_add_emod x n
  have h2 := rem_bd x n h
  have e : 2 * x + n = (2 * (x % n) + n) + (x / n) * (2 * n) := by
    rw [Int.mul_left_comm, Int.mul_comm (x / n) n]; omega
  rw [e, Int.add_mul_ediv_right _ _ (by omega)]
  by_cases c : n - x % n ≤ x % n
  · rw [divI_up x n h c]
    have e2 : 2 * (x % n) + n = (2 * (x % n) - n) + 1 * (2 * n) := by omega
    have z : (2 * (x % n) - n) / (2 * n) = 0 := Int.ediv_eq_zero_of_lt (by omega) (by omega)
    rw [e2, Int.add_mul_ediv_right _ _ (by omega), z]; omega
  · rw [divI_down x n h c]
    have z : (2 * (x % n) + n) / (2 * n) = 0 := Int.ediv_eq_zero_of_lt (by omega) (by omega)
    rw [z]; omega

theorem divI_in (x n : Int) (hx : In64 x) : In64 (divI x n) := by
  by_cases c : n < 1
  · rw [divI_no x n c]; exact ⟨by decide, by decide⟩
  · have hq := quo_in x n (by omega) hx
    by_cases c2 : n - x % n ≤ x % n
    · have := up_bd x n (by omega) hx c2
      rw [divI_up x n (by omega) c2]
      obtain ⟨h1, h2⟩ := hq
      exact ⟨by omega, by omega⟩
    · rw [divI_down x n (by omega) c2]; exact hq

def two (n : Int) : Int := 2 ^ n.toNat

theorem two_pos (n : Int) : 1 ≤ two n := by unfold two; have := Int.pow_pos (n := 2) (m := n.toNat) (by decide); omega

theorem two_le (n : Int) (k : Nat) (h : n ≤ k) : two n ≤ 2 ^ k := by unfold two; exact two_pow_le _ _ (by omega)

theorem two_in (n : Int) (h : n ≤ 62) : In64 (two n) := by
  have h1 := two_pos n
  have h2 := two_le n 62 h
  have h3 : (2 : Int) ^ 62 = 4611686018427387904 := by decide
  exact ⟨by omega, by omega⟩

theorem two_succ (n : Int) (h : 0 ≤ n) : two (n + 1) = 2 * two n := by
  unfold two; rw [show (n + 1).toNat = n.toNat + 1 by omega, Int.pow_succ]; omega

def halfI (x n : Int) : Int := if 0 ≤ n ∧ n ≤ 62 then divI x (two n) else 0

theorem halfI_yes (x n : Int) (h1 : 0 ≤ n) (h2 : n ≤ 62) : halfI x n = divI x (two n) := by unfold halfI; rw [if_pos ⟨h1, h2⟩]

theorem halfI_no (x n : Int) (h : n < 0 ∨ 62 < n) : halfI x n = 0 := by unfold halfI; rw [if_neg (by omega)]

theorem halfI_in (x n : Int) (hx : In64 x) : In64 (halfI x n) := by
  unfold halfI; split
  · exact divI_in _ _ hx
  · exact ⟨by decide, by decide⟩

set_option maxHeartbeats 1000000 in
theorem half_any (x n : Int) (w : World) (hx : In64 x) :
    Calls Tryd.prog 18 #[.int .i64 x, .int .i64 n] w fun e w' => e = .returned (.int .i64 (halfI x n)) ∧ Below w.heap.size w w' := by
  by_cases c1 : n < 0
  · have HV := hide (halfI_no x n (.inl c1))
    go_enter Tryd.func18, Tryd.ntmps18
    go_wp2
    go_ret
    exact ⟨ret_int (unhide HV).symm, Below.refl _ _⟩
  by_cases c2 : 62 < n
  · have HV := hide (halfI_no x n (.inr c2))
    go_enter Tryd.func18, Tryd.ntmps18
    go_wp2
    go_ret
    exact ⟨ret_int (unhide HV).symm, Below.refl _ _⟩
  · have HV := hide (halfI_yes x n (by omega) (by omega))
    have ht := two_in n (by omega)
    have e1 : wrap64 (2 ^ n.toNat) = two n := w64_in ht
    go_enter Tryd.func18, Tryd.ntmps18
    go_wp2_with fail
    refine (div_any x (two n) _ hx ht).mono ?_
    rintro e w' ⟨rfl, hb⟩
    go_wp2
    go_ret
    exact ⟨ret_int (unhide HV).symm, hb⟩

set_option maxHeartbeats 1000000 in
theorem rquot_any (x n : Int) (w : World) (hx : In64 x) (hn1 : 1 ≤ n) (hn2 : n ≤ 9223372036854775807) :
    Calls Tryd.prog 28 #[.int .i64 x, .int .i64 n] w fun e w' => e = .returned (.int .i64 (x / n)) ∧ w' = w := by
  have n0 : (n == 0) = false := by simp; omega
  have n0' : ¬ n = 0 := by omega
  have hx' := hx
  obtain ⟨h1, h2⟩ := hx
  by_cases hr : x.tmod n < 0
  · have T := tq_neg x n hn1 hr
    have HV := hide (show x.tdiv n - 1 = x / n by omega)
    have hb := tq_bd x n hn1 hr hx'
    obtain ⟨hb1, hb2⟩ := hb
    clear T
    go_enter Tryd.func28, Tryd.ntmps28
    go_wp2
    go_ret
    exact ⟨ret_int (unhide HV), rfl⟩
  · have T := tq_pos x n hn1 hr
    have HV := hide T.1
    have hb := quo_in x n hn1 hx'
    rw [← T.1] at hb
    obtain ⟨hb1, hb2⟩ := hb
    clear T
    go_enter Tryd.func28, Tryd.ntmps28
    go_wp2
    go_ret
    exact ⟨ret_int (unhide HV), rfl⟩

set_option maxHeartbeats 1000000 in
theorem rrest_any (x n : Int) (w : World) (hx : In64 x) (hn1 : 1 ≤ n) (hn2 : n ≤ 9223372036854775807) :
    Calls Tryd.prog 21 #[.int .i64 x, .int .i64 n] w fun e w' => e = .returned (.int .i64 (x % n)) ∧ w' = w := by
  have HV := hide (show wrap64 (x - wrap64 (x / n * n)) = x % n by
    have h1 := Int.mul_ediv_add_emod x n
    have h2 := rem_bd x n hn1
    rw [Int.mul_comm] at h1
    obtain ⟨h3, h4⟩ := hx
    generalize x / n * n = z at *
    generalize x % n = r at *
    unfold wrap64
    omega)
  go_enter Tryd.func21, Tryd.ntmps21
  go_wp2_with fail
  refine (rquot_any x n _ hx hn1 hn2).mono ?_
  rintro e w1 ⟨rfl, rfl⟩
  go_wp2
  go_ret
  exact ⟨ret_int (unhide HV), rfl⟩

set_option maxHeartbeats 1000000 in
theorem rdiv_any (x n : Int) (w : World) (hx : In64 x) (hn2 : n ≤ 9223372036854775807) :
    Calls Tryd.prog 26 #[.int .i64 x, .int .i64 n] w fun e w' => e = .returned (.int .i64 (divI x n)) ∧ w' = w := by
  by_cases c : n < 1
  · have HV := hide (divI_no x n c)
    go_enter Tryd.func26, Tryd.ntmps26
    go_wp2
    go_ret
    exact ⟨ret_int (unhide HV).symm, rfl⟩
  · have hn1 : 1 ≤ n := by omega
    obtain ⟨hr1, hr2⟩ := rem_bd x n hn1
    obtain ⟨hq1, hq2⟩ := quo_in x n hn1 hx
    by_cases c2 : n - x % n ≤ x % n
    · have HV := hide (divI_up x n hn1 c2)
      have hu := up_bd x n hn1 hx c2
      go_enter Tryd.func26, Tryd.ntmps26
      go_wp2_with fail
      refine (rquot_any x n _ hx hn1 hn2).mono ?_
      rintro e w1 ⟨rfl, rfl⟩
      go_wp2_with fail
      refine (rrest_any x n _ hx hn1 hn2).mono ?_
      rintro e w1 ⟨rfl, rfl⟩
      generalize x % n = r at *
      generalize x / n = q at *
      go_wp2
      go_ret
      exact ⟨ret_int (unhide HV).symm, rfl⟩
    · have HV := hide (divI_down x n hn1 c2)
      go_enter Tryd.func26, Tryd.ntmps26
      go_wp2_with fail
      refine (rquot_any x n _ hx hn1 hn2).mono ?_
      rintro e w1 ⟨rfl, rfl⟩
      go_wp2_with fail
      refine (rrest_any x n _ hx hn1 hn2).mono ?_
      rintro e w1 ⟨rfl, rfl⟩
      generalize x % n = r at *
      generalize x / n = q at *
      go_wp2
      go_ret
      exact ⟨ret_int (unhide HV).symm, rfl⟩

set_option maxHeartbeats 1000000 in
theorem rpower_any (n : Int) (w : World) (h0 : 0 ≤ n) (h1 : n ≤ 62) :
    Calls Tryd.prog 27 #[.int .i64 n] w fun e w' => e = .returned (.int .i64 (two n)) ∧ w' = w := by
  go_enter Tryd.func27, Tryd.ntmps27
  go_wp2
  go_loop [3, 4] (fun l i => ∃ k : Int, 0 ≤ k ∧ k ≤ n ∧ i = .int .i64 k ∧ l = .int .i64 (two k)) (fun _ i => (n - intOf i).toNat)
  case atStart => exact ⟨0, by omega, h0, rfl, rfl⟩
  case round =>
    obtain ⟨k, hk1, hk2, rfl, rfl⟩ := hrel
    by_cases hlt : k < n
    · have hp := two_pos k
      have hq := two_in (k + 1) (by omega)
      have hs := two_succ k hk1
      rw [hs] at hq
      obtain ⟨hq1, hq2⟩ := hq
      have HS := hide (show two k * 2 = two (k + 1) by omega)
      clear hs
      go_wp2
      go_round
      case rel => exact ⟨k + 1, by omega, by omega, by go_num, by first | rw [unhide HS] | (rw [← unhide HS]; go_num)⟩
      case measure => simp [intOf]; omega
    · have e : k = n := by omega
      subst e
      go_wp2
      go_ret
      exact ⟨rfl, rfl⟩

set_option maxHeartbeats 1000000 in
theorem rhalf_any (x n : Int) (w : World) (hx : In64 x) :
    Calls Tryd.prog 19 #[.int .i64 x, .int .i64 n] w fun e w' => e = .returned (.int .i64 (halfI x n)) ∧ w' = w := by
  by_cases c1 : n < 0
  · have HV := hide (halfI_no x n (.inl c1))
    go_enter Tryd.func19, Tryd.ntmps19
    go_wp2
    go_ret
    exact ⟨ret_int (unhide HV).symm, rfl⟩
  by_cases c2 : 62 < n
  · have HV := hide (halfI_no x n (.inr c2))
    go_enter Tryd.func19, Tryd.ntmps19
    go_wp2
    go_ret
    exact ⟨ret_int (unhide HV).symm, rfl⟩
  · have HV := hide (halfI_yes x n (by omega) (by omega))
    have ht := two_in n (by omega)
    go_enter Tryd.func19, Tryd.ntmps19
    go_wp2_with fail
    refine (rpower_any n _ (by omega) (by omega)).mono ?_
    rintro e w' ⟨rfl, rfl⟩
    go_wp2_with fail
    refine (rdiv_any x (two n) _ hx ht.2).mono ?_
    rintro e w' ⟨rfl, rfl⟩
    go_wp2
    go_ret
    exact ⟨ret_int (unhide HV).symm, rfl⟩

theorem below_trans {w w1 w2 : World} (h1 : Below w.heap.size w w1) (h2 : Below w1.heap.size w1 w2) : Below w.heap.size w w2 := h1.trans (h2.mono h1.size)

theorem append_new (w : World) (o : Obj) (x : Value) (t : TypeId) : ∀ j u, [x][j]? = some u → ((w.alloc o).alloc (.cells #[x] t)).cell? ((⟨w.heap.size + 1, 0, none⟩ : Addr).add j) = some u := by
  have h := cell_one_new (w.alloc o) x t
  rwa [World.size_alloc] at h
end Go.Proofs.YtnncemagiobcbaaDoor
