/- Memory; contracts of a loop's small calls. -/
import Derived.Test.YtclikkhaaiihdaaBase
namespace Go.Proofs.Ytclikkhaaiihdaa
open Go.RowKit
set_option linter.unusedVariables false

/-- All blocks but those of X are as they were. -/
structure But (X : Nat → Prop) (w w' : World) : Prop where
  os : w'.os = w.os
  tape : w'.tape = w.tape
  output : w'.output = w.output
  size : w.heap.size ≤ w'.heap.size
  block : ∀ k, k < w.heap.size → ¬ X k → w'.heap[k]? = w.heap[k]?
theorem But.refl (X : Nat → Prop) (w : World) : But X w w := ⟨rfl, rfl, rfl, Nat.le_refl _, fun _ _ _ => rfl⟩
theorem But.trans {X : Nat → Prop} {a b d : World} (h : But X a b) (k : But X b d) : But X a d :=
  ⟨k.os.trans h.os, k.tape.trans h.tape, k.output.trans h.output, Nat.le_trans h.size k.size, fun i hi hX => (k.block i (Nat.lt_of_lt_of_le hi h.size) hX).trans (h.block i hi hX)⟩
theorem But.mono {X Y : Nat → Prop} {w w' : World} (h : But X w w') (hXY : ∀ k, X k → Y k) : But Y w w' := ⟨h.os, h.tape, h.output, h.size, fun k hk hY => h.block k hk (fun hX => hY (hXY k hX))⟩
theorem But.of_below {X : Nat → Prop} {w w' : World} (h : Below w.heap.size w w') : But X w w' := ⟨h.os, h.tape, h.output, h.size, fun k hk _ => h.block k hk⟩
theorem But.of_only {X : Nat → Prop} {c : Nat} {w w' : World} (h : Only c w w') (hc : X c) : But X w w' := ⟨h.os, h.tape, h.output, h.size, fun k hk hX => h.block k hk (fun e => hX (e ▸ hc))⟩
theorem But.of_two {X : Nat → Prop} {c g : Nat} {w w' : World} (h : Two c g w w') (hc : X c) (hg : X g) : But X w w' := ⟨h.os, h.tape, h.output, h.size, fun k hk hX => h.block k hk (fun e => hX (e ▸ hc)) (fun e => hX (e ▸ hg))⟩
theorem But.below {X : Nat → Prop} {B : Nat} {w w' : World} (h : But X w w') (hX : ∀ k, X k → B ≤ k) (hB : B ≤ w.heap.size) : Below B w w' := ⟨h.os, h.tape, h.output, h.size, fun k hk => h.block k (by omega) (fun e => by have := hX k e; omega)⟩
theorem Cells.but {X : Nat → Prop} {w w' : World} {k : Nat} {l : List Value} (h : Cells w k l) (hb : But X w w') (hk : ¬ X k) : Cells w' k l := by
  have hl := h.lt
  obtain ⟨t, h⟩ := h
  exact ⟨t, by rw [hb.block k hl hk]; exact h⟩
theorem Ar.but {X : Nat → Prop} {c g n : Nat} {w w' : World} {L : List Int} {e : Int} (h : Ar c g n w L e) (hb : But X w w') (hc : ¬ X c) (hg : ¬ X g) : Ar c g n w' L e :=
  ⟨h.len, h.me.but hb hc, h.row.but hb hg, h.ne⟩
theorem Cells.drewN {w : World} {k n : Nat} {l : List Value} (h : Cells w k l) : Cells (w.drewN n) k l := h.below (below_drewN w n)

/-- A loop's struct in block l: its part, its width, its count. -/
def Lp (l b : Nat) (wd cnt : Int) (w : World) : Prop := Cells w l [.pointer (some ⟨b, 0, none⟩), .int .i64 wd, .int .u64 cnt]

/-- How many frames of wd words m words have room for. -/
def roomN (m : Nat) (wd : Int) : Nat := if wd < 1 then 0 else m / wd.toNat
theorem room_le (m : Nat) (wd : Int) : roomN m wd ≤ m := by unfold roomN; split; omega; exact Nat.div_le_self _ _

set_option maxHeartbeats 1000000 in
theorem room_low (l : Nat) (p : Option Addr) (wd cnt : Int) (w : World) (h : Cells w l [.pointer p, .int .i64 wd, .int .u64 cnt]) (h1 : wd < 1) :
    Calls Try.prog 29 #[.pointer (some ⟨l, 0, none⟩)] w fun r w' => r = .returned (.int .u64 0) ∧ ∃ n, w' = w.drewN n := by
  have c1 := h.cell 1 _ rfl
  clear h
  go_enter Try.func29, Try.ntmps29
  go_wp2
  go_ret
  exact ⟨rfl, 0, rfl⟩
theorem tdiv_room (m : Nat) (wd : Int) (h1 : 1 ≤ wd) (hm : m ≤ 4096) : ∃ r : Nat, (m : Int).tdiv wd = (r : Int) ∧ r = roomN m wd ∧ r ≤ 4096 := by
  obtain ⟨k, rfl⟩ : ∃ k : Nat, wd = (k : Int) := ⟨wd.toNat, by omega⟩
  refine ⟨m / k, ?_, ?_, Nat.le_trans (Nat.div_le_self _ _) hm⟩
  · rw [Int.tdiv_eq_ediv_of_nonneg (by omega)]; rfl
  · unfold roomN; rw [if_neg (by omega), Int.toNat_natCast]
set_option maxHeartbeats 1000000 in
theorem room_nil (l : Nat) (wd cnt : Int) (w : World) (h : Cells w l [.pointer none, .int .i64 wd, .int .u64 cnt]) (h1 : 1 ≤ wd) (h2 : wd ≤ 4096) :
    Calls Try.prog 29 #[.pointer (some ⟨l, 0, none⟩)] w fun r w' => r = .returned (.int .u64 0) ∧ ∃ n, w' = w.drewN n := by
  have c0 := h.cell 0 _ rfl
  have c1 := h.cell 1 _ rfl
  have hz : (0 : Int).tdiv wd = 0 := by simp
  clear h
  go_enter Try.func29, Try.ntmps29
  go_wp2_with fail
  go_quiet ((go_at_call 40; exact Calls.quiet_of_same (plen_nil _)))
  go_wp2
  go_ret
  exact ⟨by simp, _, rfl⟩
set_option maxHeartbeats 1000000 in
theorem room_yes (l b c g o m : Nat) (wd cnt : Int) (w : World) (h : Lp l b wd cnt w) (hp : Pt b c g o m w) (h1 : 1 ≤ wd) (h2 : In64 wd) (hm : m ≤ 4096) :
    Calls Try.prog 29 #[.pointer (some ⟨l, 0, none⟩)] w fun r w' => r = .returned (.int .u64 (roomN m wd : Int)) ∧ ∃ n, w' = w.drewN n := by
  have c0 := h.cell 0 _ rfl
  have c1 := h.cell 1 _ rfl
  have HP := hide hp
  obtain ⟨h2a, h2b⟩ := h2
  obtain ⟨r, hr1, hr2, hr3⟩ := tdiv_room m wd h1 hm
  rw [← hr2]
  clear h hp hr2
  go_enter Try.func29, Try.ntmps29
  go_wp2_with fail
  go_quiet ((go_at_call 40; exact Calls.quiet_of_same (plen_any b c g o m _ (Cells.below (unhide HP) (below_drewN _ _)))))
  go_wp2
  go_ret
  exact ⟨by simp, _, rfl⟩
end Go.Proofs.Ytclikkhaaiihdaa
