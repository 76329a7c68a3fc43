/- The document's loop: contracts. -/
import Derived.Test.YtclikkhaaiihdaaTwo
namespace Go.Proofs.Ytclikkhaaiihdaa
open Go.RowKit
set_option linter.unusedVariables false

/-- The document's loop: its struct in block p, its words L in block h. -/
structure Rl (B p h m d R : Nat) (cnt : Int) (w : World) (L : List Int) : Prop where
  me : Cells w p [.slice (some ⟨h, 0, none⟩) m m, .int .i64 (d : Int), .int .i64 (R : Int), .int .i64 cnt]
  row : Cells w h (ints L)
  len : L.length = m
  ne : p ≠ h
  pos : 1 ≤ d
  room : roomN m (d : Int) = R
  has : 1 ≤ R
  most : m ≤ 4096
  ge : B ≤ p ∧ B ≤ h
theorem Rl.below {B p h m d R : Nat} {cnt : Int} {w w' : World} {L : List Int} (k : Rl B p h m d R cnt w L) (hb : Below w.heap.size w w') : Rl B p h m d R cnt w' L :=
  ⟨k.me.below hb, k.row.below hb, k.len, k.ne, k.pos, k.room, k.has, k.most, k.ge⟩
theorem Rl.but {X : Nat → Prop} {B p h m d R : Nat} {cnt : Int} {w w' : World} {L : List Int} (k : Rl B p h m d R cnt w L) (hb : But X w w') (h1 : ¬ X p) (h2 : ¬ X h) : Rl B p h m d R cnt w' L :=
  ⟨k.me.but hb h1, k.row.but hb h2, k.len, k.ne, k.pos, k.room, k.has, k.most, k.ge⟩
theorem Rl.fit {B p h m d R : Nat} {cnt : Int} {w : World} {L : List Int} (k : Rl B p h m d R cnt w L) : R * d ≤ m := by
  have := k.room
  unfold roomN at this
  rw [if_neg (by have := k.pos; omega), Int.toNat_natCast] at this
  rw [← this]
  exact Nat.div_mul_le_self m d

set_option maxHeartbeats 1000000 in
theorem rseek_yes (B p h m d R : Nat) (cnt t : Int) (L : List Int) (w : World) (k : Rl B p h m d R cnt w L) (h0 : 0 ≤ t) :
    Calls Try.prog 17 #[.pointer (some ⟨p, 0, none⟩), .int .i64 t] w fun r w' => r = .returned (.bool true) ∧ Rl B p h m d R t w' L ∧ But (fun k => k = p ∨ k = h) w w' := by
  have c3 := k.me.cell 3 _ rfl
  have f3 := k.me.free 3
  have K := hide k
  clear k
  go_enter Try.func17, Try.ntmps17
  go_wp2
  go_ret
  have k := unhide K
  have hb : But (fun k => k = p ∨ k = h) w (w.setCell ⟨p, 3, none⟩ (.int .i64 t)) := But.of_only (Only.setHere _ _) (Or.inl rfl)
  refine ⟨rfl, ⟨k.me.set 3 _, ?_, k.len, k.ne, k.pos, k.room, k.has, k.most, k.ge⟩, hb⟩
  exact k.row.only (Only.setHere _ _) (fun e => k.ne e.symm)
set_option maxHeartbeats 1000000 in
theorem rseek_no (p : Nat) (t : Int) (w : World) (h0 : t < 0) :
    Calls Try.prog 17 #[.pointer (some ⟨p, 0, none⟩), .int .i64 t] w fun r w' => r = .returned (.bool false) ∧ w' = w := by
  go_enter Try.func17, Try.ntmps17
  go_wp2
  go_ret
  exact ⟨rfl, rfl⟩
set_option maxHeartbeats 1000000 in
theorem roldest_any (B p h m d R : Nat) (cnt : Int) (L : List Int) (w : World) (k : Rl B p h m d R cnt w L) (h0 : 0 ≤ cnt) (h1 : cnt ≤ 9223372036854775807) :
    Calls Try.prog 24 #[.pointer (some ⟨p, 0, none⟩)] w fun r w' => r = .returned (.int .i64 (oldI cnt R)) ∧ ∃ n, w' = w.drewN n := by
  have c2 := k.me.cell 2 _ rfl
  have c3 := k.me.cell 3 _ rfl
  have hR : R ≤ 4096 := Nat.le_trans (k.room ▸ room_le m _) k.most
  clear k
  by_cases hlt : (R : Int) < cnt
  · rw [show oldI cnt R = cnt - (R : Int) by unfold oldI; omega]
    go_enter Try.func24, Try.ntmps24
    go_wp2_with fail
    go_quiet (fail)
    go_wp2_with fail
    go_quiet (fail)
    go_wp2
    go_ret
    exact ⟨by simp, _, by rw [World.drewN_drewN]⟩
  · rw [show oldI cnt R = 0 by unfold oldI; omega]
    have hd : decide ((R : Int) < cnt) = false := decide_eq_false hlt
    go_enter Try.func24, Try.ntmps24
    go_wp2_with fail
    go_quiet (fail)
    go_wp2
    go_ret
    exact ⟨by simp, _, rfl⟩
set_option maxHeartbeats 1000000 in
theorem rnew_no (n : Nat) (wd : Int) (w : World) (hn : n ≤ 4096) (h : wd < 1 ∨ (1 ≤ wd ∧ roomN n wd = 0)) :
    Calls Try.prog 12 #[.int .i64 (n : Int), .int .i64 wd] w fun r w' => r = .returned (.pointer none) ∧ w' = w := by
  rcases h with h | ⟨h, h2⟩
  · go_enter Try.func12, Try.ntmps12
    go_wp2
    go_ret
    exact ⟨rfl, rfl⟩
  · obtain ⟨r, hr1, hr2, hr3⟩ := tdiv_room n wd h hn
    have hr0 : (r : Int) = 0 := by omega
    rw [hr0] at hr1
    have hne : wd ≠ 0 := by omega
    clear hr0 hr2 hr3
    go_enter Try.func12, Try.ntmps12
    go_wp2
    go_ret
    exact ⟨rfl, rfl⟩
set_option maxRecDepth 100000 in
set_option maxHeartbeats 1000000 in
theorem rnew_yes (n d R : Nat) (w : World) (hn : n ≤ 4096) (hd : 1 ≤ d) (hr : roomN n (d : Int) = R) (hR : 1 ≤ R) :
    Calls Try.prog 12 #[.int .i64 (n : Int), .int .i64 (d : Int)] w fun r w' => ∃ p h, r = .returned (.pointer (some ⟨p, 0, none⟩)) ∧ Rl w.heap.size p h n d R 0 w' (List.replicate n 0) ∧ Below w.heap.size w w' := by
  have hmk : ∀ w : World, (Instr.makeSlice 34 (.int .i64 (n : Int)) (.int .i64 (n : Int))).run Try.prog w = .ok (.slice (some ⟨w.heap.size, 0, none⟩) n n) (w.alloc (.cells (madeCells #[.int .i64 0] n) 3)) := fun w => run_make_row' 34 3 (.int .i64 0) 8 Try.underlying34 Try.info3 rfl .i64 .i64 n (by omega) (by omega) w
  obtain ⟨r, hr1, hr2, hr3⟩ := tdiv_room n (d : Int) (by omega) hn
  obtain rfl : r = R := by omega
  have HR2 := hide hr2
  have HR := hide hr
  clear hr hr2
  have hne : (d : Int) ≠ 0 := by omega
  have hne2 : ((r : Int) == 0) = false := by simp; omega
  have hw64 : IntKind.i64.wrap (r : Int) = (r : Int) := by rw [IntKind.wrap_i64]; omega
  go_enter Try.func12, Try.ntmps12
  go_wp2_with fail
  go_region
  go_wp2
  go_ret
  have h1 : Cells (w.alloc (.cells (madeCells #[.int .i64 0] n) 3)) w.heap.size (ints (List.replicate n 0)) := by
    have := cells_new w (madeCells #[.int .i64 0] n).toList 3
    rw [Array.toArray_toList, ints_zero] at this
    exact this
  have h2 := cells_new (w.alloc (.cells (madeCells #[.int .i64 0] n) 3)) [.slice (some ⟨w.heap.size, 0, none⟩) n n, .int .i64 (d : Int), .int .i64 (r : Int), .int .i64 0] 36
  rw [show (w.alloc (.cells (madeCells #[.int .i64 0] n) 3)).heap.size = w.heap.size + 1 by simp] at h2
  exact ⟨w.heap.size + 1, w.heap.size, rfl, ⟨Cells.drew h2, Cells.drew (h1.alloc _), by simp, by omega, hd, unhide HR, hR, hn, by omega, by omega⟩, (((Below.refl w.heap.size w).alloc (Nat.le_refl _) _).alloc (by simp) _).drew⟩
end Go.Proofs.Ytclikkhaaiihdaa
