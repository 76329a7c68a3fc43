/- The walk of SatSum. -/
import Derived.Test.YtofmkhjdnmgdlaaCame
import Derived.Test.YtofmkhjdnmgdlaaAddw
import Derived.Test.YtofmkhjdnmgdlaaMulw
import Derived.Deep.RegionHeld3
import Derived.Deep.AppendLies
namespace Go.Proofs.Ytofmkhjdnmgdlaa
open Go.RowKit
set_option linter.unusedVariables false

theorem at_mod (t : Int) (n : Nat) (h : In64 t) (h0 : 0 < n) (h1 : n ≤ 40) : ∃ k : Nat, k < n ∧ (wrap64 (t.tmod n + n)).tmod n = k := by
  have h2 := Int.tmod_lt_of_pos t (b := (n : Int)) (by omega)
  have h3 := Int.lt_tmod_of_pos t (b := (n : Int)) (by omega)
  rw [w64_in ⟨by omega, by omega⟩, Int.tmod_eq_emod_of_nonneg (by omega)]
  have h4 := Int.emod_nonneg (t.tmod n + n) (b := (n : Int)) (by omega)
  have h5 := Int.emod_lt_of_pos (t.tmod n + n) (b := (n : Int)) (by omega)
  exact ⟨((t.tmod n + n) % n).toNat, by omega, by omega⟩

def turnTo (xs : List Int) (n k0 k : Nat) : List Int := (List.range k).map fun j => xs.getD ((n - j + k0) % n) 0
theorem turnTo_succ (xs : List Int) (n k0 k : Nat) : turnTo xs n k0 (k + 1) = turnTo xs n k0 k ++ [xs.getD ((n - k + k0) % n) 0] := by
  unfold turnTo; rw [List.range_succ, List.map_append]; rfl

theorem sum_reverse (l : List Int) : l.reverse.sum = l.sum := by
  induction l with
  | nil => rfl
  | cons x l ih => rw [List.reverse_cons, List.sum_append, ih]; simp [Int.add_comm]
theorem turnTo_eq (xs : List Int) (n k0 : Nat) (hn : xs.length = n) (hk : k0 < n) : turnTo xs n k0 n = (xs.take (k0 + 1)).reverse ++ (xs.drop (k0 + 1)).reverse := by
  apply List.ext_getElem
  · simp [turnTo]; omega
  · intro j h1 h2
    have hj : j < n := by simpa [turnTo] using h1
    have hl : (xs.take (k0 + 1)).reverse.length = k0 + 1 := by simp; omega
    rw [show (turnTo xs n k0 n)[j] = xs.getD ((n - j + k0) % n) 0 by simp [turnTo]]
    by_cases hjk : j ≤ k0
    · have e : (n - j + k0) % n = k0 - j := by
        rw [show n - j + k0 = (k0 - j) + n by omega, Nat.add_mod_right, Nat.mod_eq_of_lt (by omega)]
      rw [e, List.getElem_append_left (by omega), List.getElem_reverse, List.getElem_take, List.getD_eq_getElem?_getD, List.getElem?_eq_getElem (by omega)]
      simp
      congr 1
      omega
    · have e : (n - j + k0) % n = n - j + k0 := Nat.mod_eq_of_lt (by omega)
      rw [e, List.getElem_append_right (by omega), List.getElem_reverse, List.getElem_drop, List.getD_eq_getElem?_getD, List.getElem?_eq_getElem (by omega)]
      simp
      congr 1
      simp at *
      omega
theorem turnTo_sum (xs : List Int) (n k0 : Nat) (hn : xs.length = n) (hk : k0 < n) : (turnTo xs n k0 n).sum = xs.sum := by
  rw [turnTo_eq xs n k0 hn hk, List.sum_append, sum_reverse, sum_reverse, ← List.sum_append, List.take_append_drop]
theorem turnTo_small (xs : List Int) (n k0 k : Nat) (hs : Small xs) (hn : xs.length = n) (h0 : 0 < n) : Small (turnTo xs n k0 k) := by
  intro z hz
  obtain ⟨j, _, rfl⟩ := List.mem_map.1 hz
  exact hs.at _ (by rw [hn]; exact Nat.mod_lt _ h0)
theorem sum_len (a : Option Addr) (cap : Nat) (xs : List Int) (n : Nat) (hn : xs.length = n) (w : World) (hl : Lies w a xs) (hs : Small xs) (hle : n ≤ 1000000) :
    Calls Try.prog 10 #[.slice a n cap] w fun e w' => e = .returned (.tuple #[.int .i64 (num64 xs.sum), .bool (ok64 xs.sum)]) ∧ Below w.heap.size w w' := by
  subst hn
  exact sum_any a cap xs w hl hs hle

theorem lies_take {w : World} {a : Option Addr} {xs : List Int} (h : Lies w a xs) (k : Nat) (hk : k ≤ xs.length) : Lies w a (xs.take k) := by
  rcases h with rfl | ⟨b, off, ha, hb, hc⟩
  · exact .inl (by simp)
  · refine .inr ⟨b, off, ha, hb, fun j hj => ?_⟩
    have hj' : j < k := by simp at hj; omega
    rw [hc j (by omega)]
    simp [List.getD_eq_getElem?_getD, hj']
theorem lies_drop {w : World} {b off : Nat} {xs : List Int} (h : Lies w (some ⟨b, off, none⟩) xs) (k : Nat) (hk : k ≤ xs.length) : Lies w (some ⟨b, off + k, none⟩) (xs.drop k) := by
  rcases h with rfl | ⟨b', off', ha, hb, hc⟩
  · exact .inl (by simp)
  · cases ha
    refine .inr ⟨b, off + k, rfl, hb, fun j hj => ?_⟩
    have hj' : k + j < xs.length := by simp at hj; omega
    have := hc (k + j) hj'
    rw [show off + k + j = off + (k + j) by omega, this]
    simp [List.getD_eq_getElem?_getD]
theorem num64_in (n : Int) : In64 (num64 n) := by
  unfold num64
  split
  · assumption
  · exact ⟨by decide, by decide⟩

def bothTo (xs : List Int) (k : Nat) : List Int := (xs.take k).flatMap fun x => [x, -1 - x, 1]
theorem bothTo_succ (xs : List Int) (k : Nat) (h : k < xs.length) : bothTo xs (k + 1) = bothTo xs k ++ [xs.getD k 0, -1 - xs.getD k 0, 1] := by
  unfold bothTo
  rw [List.take_succ_eq_append_getElem h, List.flatMap_append]
  simp [List.getD_eq_getElem?_getD, List.getElem?_eq_getElem h]
theorem both_sum (l : List Int) : (l.flatMap fun x => [x, -1 - x, 1]).sum = 0 := by
  induction l with
  | nil => rfl
  | cons x l ih => rw [List.flatMap_cons, List.sum_append, ih]; simp; omega
theorem both_small (xs : List Int) (k : Nat) (h : Small xs) : Small (bothTo xs k) := by
  intro z hz
  obtain ⟨x, hx, hm⟩ := List.mem_flatMap.1 hz
  obtain ⟨h1, h2⟩ := h x (List.mem_of_mem_take hx)
  simp at hm
  rcases hm with rfl | rfl | rfl
  · exact ⟨h1, h2⟩
  · exact ⟨by omega, by omega⟩
  · exact ⟨by decide, by decide⟩

theorem keep_grown {w w' : World} {o : Obj} {row : Option Nat} {b off : Nat} {v : Value} (hg : ((w.alloc o).drew).grownBy w' row) (hp : b < w.heap.size) (hr : ∀ j, j = b → row ≠ some j) (hc : w.cell? ⟨b, off, none⟩ = some v) : w'.cell? ⟨b, off, none⟩ = some v := by
  rw [← hc]
  apply World.cell?_of_block
  show w'.heap[b]? = w.heap[b]?
  rw [hg.block b (by show b < (w.alloc o).heap.size; simp; omega) (fun e => hr b rfl e.symm)]
  exact Below.heap_alloc w o b hp
theorem num_of_ok (n : Int) (h : ok64 n = true) : num64 n = n := by
  unfold ok64 at h
  have h1 := of_decide_eq_true h
  unfold num64
  rw [if_pos h1]
theorem three_new (w : World) (a b c : Value) : ∀ j u, [a, b, c][j]? = some u → ((w.alloc (.cells #[a, b, c] 3)).drew).cell? ((⟨w.heap.size, 0, none⟩ : Addr).add j) = some u := by
  intro j u hu
  show (w.alloc (.cells #[a, b, c] 3)).cell? _ = some u
  rw [Addr.add_lit, World.cell?_alloc_at _ _ _ _ rfl]
  match j, hu with
  | 0, hu => exact hu
  | 1, hu => exact hu
  | 2, hu => exact hu
  | j + 3, hu => simp at hu

set_option maxRecDepth 100000 in
set_option maxHeartbeats 4000000 in
theorem sum_walk (a : Option Addr) (len cap : Nat) (zs : List Int) (t : Int) (w : World) (hrow : IsRow .i64 w a len cap zs) (ht : In64 t) :
    Calls Try.prog 5 #[.slice a len cap, .int .i64 t] w fun e w' => e = .returned (.bool true) ∧ Below w.heap.size w w' := by
  obtain ⟨xs, h40, hcap, hmax, hl, hs, hnone, hfew⟩ := few_came a len cap zs w hrow
  go_enter Try.func5, Try.ntmps5
  go_wp2_with fail
  refine (awake_any _).mono ?_
  rintro e w1 ⟨rfl, hb1⟩
  go_wp2_with fail
  refine (hfew _).mono ?_
  rintro e w2 ⟨rfl, rfl⟩
  clear hfew hrow
  have hlw2 := hl.below hb1
  by_cases hx0 : xs = []
  · subst hx0
    go_wp2_with fail
    refine (sum_any none 0 [] _ (.inl rfl) (by intro x hx; simp at hx) (by simp)).mono ?_
    rintro e w3 ⟨rfl, hb3⟩
    rw [show num64 ([] : List Int).sum = 0 by decide, show ok64 ([] : List Int).sum = true by decide]
    go_wp2
    go_ret
    exact ⟨rfl, hb1.trans (hb3.mono hb1.size)⟩
  · have hn0 : 0 < xs.length := List.length_pos_iff.2 hx0
    rcases hlw2 with h | ⟨ba, off, rfl, hblt, hcells⟩
    · exact absurd h hx0
    have hn0' : ((xs.length : Int) == 0) = false := by simp; omega
    obtain ⟨k0, hk0, ek⟩ := at_mod t xs.length ht hn0 h40
    generalize hn : xs.length = n at *
    have Hn := hide hn
    clear hn hx0
    obtain ⟨i0, hi, hz0, hz1, hz2⟩ := info_parts Try.info3
    go_wp2
    clear ek
    go_loopw [9, 10] (fun v i wr => ∃ k : Nat, k ≤ n ∧ i = .int .i64 k ∧ wr.ownsRow w2.heap.size 3 1 v k ((turnTo xs n k0 k).map (Value.int .i64)) ∧ Below w2.heap.size w2 wr) (fun _ i _ => n - (intOf i).toNat)
    case atStart => exact ⟨0, Nat.zero_le _, rfl, World.ownsRow_nil _ _ _ _, Below.refl _ _⟩
    case round =>
      obtain ⟨k, hk, rfl, hown, hb3⟩ := hrel
      by_cases hlt : k < n
      · have hidx : (n - k + k0) % n < n := Nat.mod_lt _ hn0
        have hc : wr.cell? ⟨ba, off + (n - k + k0) % n, none⟩ = some (.int .i64 (xs.getD ((n - k + k0) % n) 0)) := by rw [hb3.cell (p := ⟨ba, _, none⟩) hblt]; exact hcells _ hidx
        have hsucc := turnTo_succ xs n k0 k
        have hei : ((n : Int) - k + k0) % n = (((n - k + k0) % n : Nat) : Int) := by rw [Int.natCast_emod]; congr 1; omega
        have heit : ((n : Int) - k + k0).tmod n = (((n - k + k0) % n : Nat) : Int) := by rw [Int.tmod_eq_emod_of_nonneg (by omega), hei]
        generalize (n - k + k0) % n = ix at *
        have hix : (ix : Int) < (n : Int) := by omega
        generalize xs.getD ix 0 = z at *
        have HS := hide hsucc
        clear hsucc hcells
        have hsz := hb3.size
        go_wp2_with (at_builtin; refine wpList_append_own _ rfl _ _ 23 rfl w2.heap.size 3 i0 (.int .i64 0) 1 8 Try.underlying23 hi hz0 hz1 hz2 rfl (by decide) _ _ _ rfl (hown.alloc _) ⟨wr.heap.size, 0, none⟩ 1 1 [.int .i64 z] rfl rfl ?d1 ?d2 ?d3 ?d4 ?d5 ?_)
        case d1 => exact cell_one_new _ _ _
        case d2 => exact ints_one [z]
        case d3 => unfold maxLen; omega
        case d4 => omega
        case d5 => simp; omega
        intro v4 w4 hown4 hg4 _
        have hb4 : Below w2.heap.size w2 w4 := (hb3.alloc hsz _).grown hg4 (by simp; omega) (fun j hj => (hown.lt j hj).1)
        clear hg4
        go_wp2
        go_roundw
        case rel => exact ⟨k + 1, by omega, by go_num, by rw [unhide HS, List.map_append]; exact hown4, hb4⟩
        case measure => simp [intOf]; omega
      · have e : n = k := by omega
        subst e
        obtain ⟨a4, c4, hv4, hl4, hlen4⟩ := owned_lies hown
        rw [hlen4] at hv4
        subst hv4
        have hsT : Small (turnTo xs n k0 n) := turnTo_small xs n k0 n hs (unhide Hn) hn0
        have hT := turnTo_sum xs n k0 (unhide Hn) hk0
        have hlx : Lies wr (some ⟨ba, off, none⟩) xs := (show Lies w2 (some ⟨ba, off, none⟩) xs from .inr ⟨ba, off, rfl, hblt, by rw [unhide Hn]; exact hcells⟩).below hb3
        clear hown hcells hk hlt
        have hball : Below w.heap.size w wr := hb1.trans (hb3.mono hb1.size)
        have hbz := hb3.size
        clear hb1 hb3
        go_wp2_with fail
        refine (sum_len (some ⟨ba, off, none⟩) cap xs n (unhide Hn) wr hlx hs (by omega)).mono ?_
        rintro e w5 ⟨rfl, hb5⟩
        have hlx5 := hlx.below hb5
        have hl45 := hl4.below hb5
        go_wp2_with fail
        refine (sum_len a4 c4 (turnTo xs n k0 n) n hlen4 w5 hl45 hsT (by omega)).mono ?_
        rintro e w6 ⟨rfl, hb6⟩
        rw [hT]
        have hlx6 := hlx5.below hb6
        have hk1 : (k0 : Int) ≤ (n : Int) := by omega
        have hk2 : (k0 : Int) ≤ (cap : Int) := by omega
        have hk3 : (n : Int) ≤ (cap : Int) := by omega
        have hb56 : Below wr.heap.size wr w6 := hb5.trans (hb6.mono hb5.size)
        clear hT hsT hl4 hl45 hlx hlx5 hb5 hb6 hlen4
        go_wp2_with fail
        refine (sum_len (some ⟨ba, off, none⟩) cap (xs.take k0) k0 (by rw [List.length_take, unhide Hn]; omega) w6 (lies_take hlx6 k0 (by rw [unhide Hn]; omega)) (fun z hz => hs z (List.mem_of_mem_take hz)) (by omega)).mono ?_
        rintro e w7 ⟨rfl, hb7⟩
        have hlx7 := hlx6.below hb7
        go_wp2_with fail
        refine (sum_len (some ⟨ba, off + k0, none⟩) (cap - k0) (xs.drop k0) (n - k0) (by rw [List.length_drop, unhide Hn]) w7 (lies_drop hlx7 k0 (by rw [unhide Hn]; omega)) (fun z hz => hs z (List.mem_of_mem_drop hz)) (by omega)).mono ?_
        rintro e w8 ⟨rfl, hb8⟩
        have hlx8 := hlx7.below hb8
        have hS12 : (xs.take k0).sum + (xs.drop k0).sum = xs.sum := by rw [← List.sum_append, List.take_append_drop]
        generalize (xs.take k0).sum = S1 at *
        generalize (xs.drop k0).sum = S2 at *
        generalize hS : xs.sum = S at *
        have HS12 := hide hS12
        have HS := hide hS
        clear hS12 hS hlx6 hlx7
        go_wp2_with fail
        refine (sum_len (some ⟨w8.heap.size, 0, none⟩) 2 [num64 S1, num64 S2] 2 rfl _ (lies_new w8 [num64 S1, num64 S2] _ rfl) (by intro z hz; simp at hz; rcases hz with rfl | rfl <;> exact num64_in _) (by decide)).mono ?_
        rintro e w9 ⟨rfl, hb9⟩
        have hlx9 := (hlx8.below ((Below.refl _ w8).alloc (Nat.le_refl _) (.cells #[.int .i64 (num64 S1), .int .i64 (num64 S2)] 3))).below hb9
        have hb69 : Below w.heap.size w w9 := by
          have h1 := hball.size
          have h2 := hb56.size
          have h3 := hb7.size
          have h4 := hb8.size
          exact hball.trans ((hb56.mono h1).trans ((hb7.mono (by omega)).trans ((hb8.mono (by omega)).trans (((Below.refl _ w8).alloc (by omega) _).trans (hb9.mono (by simp; omega))))))
        clear hball hb56 hb7 hb8 hb9 hlx8
        rw [show [num64 S1, num64 S2].sum = num64 S1 + num64 S2 by simp]
        go_wp2
        rcases hlx9 with h | ⟨ba', off', heq, hblt9, hcells9⟩
        · have := unhide Hn; rw [h] at this; simp at this; omega
        cases heq
        rw [unhide Hn] at hcells9
        go_loopw [21, 22] (fun v i wr => ∃ k : Nat, k ≤ n ∧ i = .int .i64 k ∧ wr.ownsRow w9.heap.size 3 1 v (3 * k) ((bothTo xs k).map (Value.int .i64)) ∧ Below w9.heap.size w9 wr) (fun _ i _ => n - (intOf i).toNat)
        case atStart => exact ⟨0, Nat.zero_le _, rfl, World.ownsRow_nil _ _ _ _, Below.refl _ _⟩
        case round =>
          obtain ⟨k, hk, rfl, hown, hb10⟩ := hrel
          by_cases hlt : k < n
          · have hc : wr.cell? ⟨ba, off + k, none⟩ = some (.int .i64 (xs.getD k 0)) := by rw [hb10.cell (p := ⟨ba, _, none⟩) hblt9]; exact hcells9 _ hlt
            have hz := hs.at k (by rw [unhide Hn]; exact hlt)
            have hsucc := bothTo_succ xs k (by rw [unhide Hn]; exact hlt)
            generalize xs.getD k 0 = z at *
            have HSU := hide hsucc
            have hsz := hb10.size
            obtain ⟨hz1', hz2'⟩ := hz
            have hkn : (k : Int) < (n : Int) := by omega
            have hk00 : (0 : Int) ≤ (k : Int) := by omega
            have hownd : ∀ v o, wr.ownsRow w9.heap.size 3 1 v (3 * k) ((bothTo xs k).map (Value.int .i64)) → ((wr.alloc o).drew).ownsRow w9.heap.size 3 1 v (3 * k) ((bothTo xs k).map (Value.int .i64)) := fun v o h => h.alloc o
            have hbw : ba < wr.heap.size := by omega
            have hrow : ∀ j, j = ba → Value.ownBlock u21 ≠ some j := fun j hj e => by have := (hown.lt j e).1; omega
            clear hsucc hcells9 hb69
            go_wp2
            go_region_held3 (fun w' => w'.cell? ⟨ba, off + k, none⟩ = some (.int .i64 z)) (first | exact keep_grown hg11 hbw hrow hc | go_keep) ((refine step_append_lies _ (by rfl) _ _ 23 (by rfl) w9.heap.size 3 i0 (.int .i64 0) 1 8 Try.underlying23 hi hz0 hz1 hz2 (by rfl) (by decide) _ (3 * k) _ (by rfl) (hownd _ _ hown) ⟨wr.heap.size, 0, none⟩ 3 3 [.int .i64 z, .int .i64 (IntKind.i64.wrap (-1 - z)), .int .i64 1] (by rfl) (by rfl) (three_new _ _ _ _) (ints_one [z, IntKind.i64.wrap (-1 - z), 1]) (by decide) (by unfold maxLen; omega) (by omega) (by simp; omega) (wr.heap.size + 1) (by simp) ?_; intro g cp w11 hown11 hg11 hat11 hlt11))
            have hb11 : Below w9.heap.size w9 w11 := ((hb10.alloc hsz _).drew).grown hg11 (by show w9.heap.size ≤ (wr.alloc _).heap.size; simp; omega) (fun j hj => (hown.lt j hj).1)
            rw [show IntKind.i64.wrap (-1 - z) = -1 - z by rw [IntKind.wrap_i64]; omega] at hown11
            replace hown11 : w11.ownsRow w9.heap.size 3 1 (Value.slice (some ⟨g, 0, none⟩) (3 * k + 3) cp) (3 * (k + 1)) ((bothTo xs (k + 1)).map (Value.int .i64)) := by
              rw [unhide HSU, List.map_append]; exact hown11
            clear hg11 hat11 hlt11 hownd hrow
            go_wp2
            go_roundw
            case rel => exact ⟨k + 1, by omega, by go_num, hown11, hb11⟩
            case measure => simp [intOf]; omega
          · have e : n = k := by omega
            subst e
            obtain ⟨a12, c12, hv12, hl12, hlen12⟩ := owned_lies hown
            rw [hlen12] at hv12
            subst hv12
            have hz : (bothTo xs n).sum = 0 := both_sum _
            clear hcells9 hown
            go_wp2_with fail
            refine (sum_len a12 c12 (bothTo xs n) (3 * n) hlen12 wr hl12 (both_small xs n hs) (by omega)).mono ?_
            rintro e w13 ⟨rfl, hb13⟩
            rw [hz, show num64 0 = 0 by decide, show ok64 0 = true by decide]
            have hend : Below w.heap.size w w13 := by
              have h1 := hb69.size
              have h2 := hb10.size
              exact hb69.trans ((hb10.mono h1).trans (hb13.mono (by omega)))
            have hfin : ok64 S1 = true → ok64 S2 = true → num64 (num64 S1 + num64 S2) = num64 S ∧ ok64 (num64 S1 + num64 S2) = ok64 S := by
              intro h1 h2
              rw [num_of_ok _ h1, num_of_ok _ h2, unhide HS12]; exact ⟨rfl, rfl⟩
            clear hz hl12 hlen12 hb69 hb10 hb13
            cases h1 : ok64 S1 with
            | false =>
              clear hfin
              go_wp2
              go_ret
              exact ⟨rfl, hend⟩
            | true =>
              cases h2 : ok64 S2 with
              | false =>
                clear hfin
                go_wp2
                go_ret
                exact ⟨rfl, hend⟩
              | true =>
                obtain ⟨h3, h4⟩ := hfin h1 h2
                rw [h3, h4]
                clear hfin h3 h4
                go_wp2
                go_ret
                exact ⟨rfl, hend⟩
end Go.Proofs.Ytofmkhjdnmgdlaa
