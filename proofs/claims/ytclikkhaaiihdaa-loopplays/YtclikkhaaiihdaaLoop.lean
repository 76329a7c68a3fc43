/- Contracts of New, Width, Room, Count, Oldest, Seek, read, Get of a loop. -/
import Derived.Test.YtclikkhaaiihdaaSmall
namespace Go.Proofs.Ytclikkhaaiihdaa
open Go.RowKit
set_option linter.unusedVariables false

set_option maxHeartbeats 1000000 in
theorem lnew_yes (b c g o m : Nat) (wd : Int) (R : Nat) (w : World) (hp : Pt b c g o m w) (h1 : 1 ≤ wd) (h2 : wd ≤ 4096) (hm : m ≤ 4096) (hr : roomN m wd = R) (hR : 1 ≤ R) :
    Calls Try.prog 10 #[.pointer (some ⟨b, 0, none⟩), .int .i64 wd] w fun r w' => r = .returned (.pointer (some ⟨w.heap.size, 0, none⟩)) ∧ Lo w.heap.size b c g o m wd R 0 w' ∧ Below w.heap.size w w' := by
  have hR0 : ((R : Int) == 0) = false := by simp; omega
  obtain ⟨w1, hw1⟩ : ∃ w1, w1 = w.alloc (.cells #[.pointer (some ⟨b, 0, none⟩), .int .i64 wd, .int .u64 0] 63) := ⟨_, rfl⟩
  have HB : Hid (Below w.heap.size w w1) := by rw [hw1]; exact (Below.refl _ _).alloc (Nat.le_refl _) _
  have HL : Hid (Lo w.heap.size b c g o m wd R 0 w1) := ⟨by rw [hw1]; exact cells_new w [_, _, _] _, Cells.below hp (unhide HB), h1, h2, hr, hR, hm⟩
  clear hp hr
  go_enter Try.func10, Try.ntmps10
  go_wp2_with fail
  rw [← hw1]
  refine (unhide HL).room_call.mono ?_
  rintro e' w2 ⟨rfl, n, rfl⟩
  clear hw1
  go_wp2
  go_ret
  exact ⟨rfl, (unhide HL).below (below_drewN _ _), below_trans (unhide HB) (below_drewN _ _)⟩
set_option maxHeartbeats 1000000 in
theorem lnew_low (p : Option Addr) (wd : Int) (w : World) (h1 : wd < 1) :
    Calls Try.prog 10 #[.pointer p, .int .i64 wd] w fun r w' => r = .returned (.pointer none) ∧ Below w.heap.size w w' := by
  obtain ⟨w1, hw1⟩ : ∃ w1, w1 = w.alloc (.cells #[.pointer p, .int .i64 wd, .int .u64 0] 63) := ⟨_, rfl⟩
  have HB : Hid (Below w.heap.size w w1) := by rw [hw1]; exact (Below.refl _ _).alloc (Nat.le_refl _) _
  have HL : Hid (Cells w1 w.heap.size [.pointer p, .int .i64 wd, .int .u64 0]) := by rw [hw1]; exact cells_new w [_, _, _] _
  go_enter Try.func10, Try.ntmps10
  go_wp2_with fail
  rw [← hw1]
  refine (room_low _ p wd 0 _ (unhide HL) h1).mono ?_
  rintro e' w2 ⟨rfl, n, rfl⟩
  clear hw1
  go_wp2
  go_ret
  exact ⟨rfl, below_trans (unhide HB) (below_drewN _ _)⟩
set_option maxHeartbeats 1000000 in
theorem lnew_nil (wd : Int) (w : World) (h1 : 1 ≤ wd) (h2 : wd ≤ 4096) :
    Calls Try.prog 10 #[.pointer none, .int .i64 wd] w fun r w' => r = .returned (.pointer none) ∧ Below w.heap.size w w' := by
  obtain ⟨w1, hw1⟩ : ∃ w1, w1 = w.alloc (.cells #[.pointer none, .int .i64 wd, .int .u64 0] 63) := ⟨_, rfl⟩
  have HB : Hid (Below w.heap.size w w1) := by rw [hw1]; exact (Below.refl _ _).alloc (Nat.le_refl _) _
  have HL : Hid (Cells w1 w.heap.size [.pointer none, .int .i64 wd, .int .u64 0]) := by rw [hw1]; exact cells_new w [_, _, _] _
  go_enter Try.func10, Try.ntmps10
  go_wp2_with fail
  rw [← hw1]
  refine (room_nil _ wd 0 _ (unhide HL) h1 h2).mono ?_
  rintro e' w2 ⟨rfl, n, rfl⟩
  clear hw1
  go_wp2
  go_ret
  exact ⟨rfl, below_trans (unhide HB) (below_drewN _ _)⟩
set_option maxHeartbeats 1000000 in
theorem lnew_full (b c g o m : Nat) (wd : Int) (w : World) (hp : Pt b c g o m w) (h1 : 1 ≤ wd) (h2 : In64 wd) (hm : m ≤ 4096) (hr : roomN m wd = 0) :
    Calls Try.prog 10 #[.pointer (some ⟨b, 0, none⟩), .int .i64 wd] w fun r w' => r = .returned (.pointer none) ∧ Below w.heap.size w w' := by
  obtain ⟨w1, hw1⟩ : ∃ w1, w1 = w.alloc (.cells #[.pointer (some ⟨b, 0, none⟩), .int .i64 wd, .int .u64 0] 63) := ⟨_, rfl⟩
  have HB : Hid (Below w.heap.size w w1) := by rw [hw1]; exact (Below.refl _ _).alloc (Nat.le_refl _) _
  have HL : Hid (Lp w.heap.size b wd 0 w1) := by rw [hw1]; exact cells_new w [_, _, _] _
  have HR := hide (room_yes _ b c g o m wd 0 w1 (unhide HL) (Cells.below hp (unhide HB)) h1 h2 hm)
  rw [hr] at HR
  clear hp hr
  go_enter Try.func10, Try.ntmps10
  go_wp2_with fail
  rw [← hw1]
  refine (unhide HR).mono ?_
  rintro e' w2 ⟨rfl, n, rfl⟩
  clear hw1
  go_wp2
  go_ret
  exact ⟨rfl, below_trans (unhide HB) (below_drewN _ _)⟩
set_option maxHeartbeats 1000000 in
theorem lwidth_any (l b c g o m R : Nat) (wd cnt : Int) (w : World) (h : Lo l b c g o m wd R cnt w) :
    Calls Try.prog 26 #[.pointer (some ⟨l, 0, none⟩)] w fun r w' => r = .returned (.int .i64 wd) ∧ w' = w := by
  have c1 := h.me.cell 1 _ rfl
  clear h
  go_enter Try.func26, Try.ntmps26
  go_wp2_with fail
  refine (own_any _ _).mono ?_
  rintro e' w' ⟨rfl, rfl⟩
  go_wp2
  go_ret
  exact ⟨rfl, rfl⟩
set_option maxHeartbeats 1000000 in
theorem lcount_any (l b c g o m R : Nat) (wd cnt : Int) (w : World) (h : Lo l b c g o m wd R cnt w) (h0 : 0 ≤ cnt) (h1 : cnt ≤ 9223372036854775807) :
    Calls Try.prog 22 #[.pointer (some ⟨l, 0, none⟩)] w fun r w' => r = .returned (.int .i64 cnt) ∧ w' = w := by
  have c1 := h.me.cell 2 _ rfl
  clear h
  go_enter Try.func22, Try.ntmps22
  go_wp2_with fail
  refine (own_any _ _).mono ?_
  rintro e' w' ⟨rfl, rfl⟩
  go_wp2
  go_ret
  exact ⟨rfl, rfl⟩
set_option maxHeartbeats 1000000 in
theorem lroom_any (l b c g o m R : Nat) (wd cnt : Int) (w : World) (h : Lo l b c g o m wd R cnt w) :
    Calls Try.prog 25 #[.pointer (some ⟨l, 0, none⟩)] w fun r w' => r = .returned (.int .i64 (R : Int)) ∧ ∃ n, w' = w.drewN n := by
  have hR := h.most_room
  have H := hide h
  clear h
  go_enter Try.func25, Try.ntmps25
  go_wp2_with fail
  refine (own_any _ _).mono ?_
  rintro e' w' ⟨rfl, rfl⟩
  go_wp2_with fail
  refine (unhide H).room_call.mono ?_
  rintro e' w1 ⟨rfl, n, rfl⟩
  go_wp2
  go_ret
  exact ⟨rfl, _, rfl⟩
set_option maxHeartbeats 1000000 in
theorem loldest_any (l b c g o m R : Nat) (wd cnt : Int) (w : World) (h : Lo l b c g o m wd R cnt w) (h0 : 0 ≤ cnt) (h1 : cnt ≤ 9223372036854775807) :
    Calls Try.prog 23 #[.pointer (some ⟨l, 0, none⟩)] w fun r w' => r = .returned (.int .i64 (oldI cnt R)) ∧ ∃ n, w' = w.drewN n := by
  have H := hide h
  obtain ⟨ho1, ho2⟩ := old_bd cnt R h0
  have HO := hide (oldest_any l b c g o m R wd cnt w h h0 h1)
  obtain ⟨z, hz⟩ : ∃ z, oldI cnt R = z := ⟨_, rfl⟩
  rw [hz] at HO ho1 ho2 ⊢
  clear h hz
  go_enter Try.func23, Try.ntmps23
  go_wp2_with fail
  refine (own_any _ _).mono ?_
  rintro e' w' ⟨rfl, rfl⟩
  go_wp2_with fail
  refine (unhide HO).mono ?_
  rintro e' w1 ⟨rfl, n, rfl⟩
  go_wp2
  go_ret
  exact ⟨rfl, _, rfl⟩
set_option maxHeartbeats 1000000 in
theorem lseek_yes (l b c g o m R : Nat) (wd cnt k : Int) (w : World) (h : Lo l b c g o m wd R cnt w) (hne : l ≠ b) (h0 : 0 ≤ k) (h1 : k ≤ 9223372036854775807) :
    Calls Try.prog 16 #[.pointer (some ⟨l, 0, none⟩), .int .i64 k] w fun r w' => r = .returned (.bool true) ∧ Lo l b c g o m wd R k w' ∧ Only l w w' := by
  have hR := h.has
  have hR0 : ((R : Int) == 0) = false := by simp; omega
  have hf := h.me.free 2
  have c2 := h.me.cell 2 _ rfl
  have H := hide h
  clear h
  go_enter Try.func16, Try.ntmps16
  go_wp2_with fail
  refine (lroom_any l b c g o m R wd cnt w (unhide H)).mono ?_
  rintro e' w1 ⟨rfl, n, rfl⟩
  go_wp2
  go_ret
  refine ⟨rfl, ⟨((Cells.drewN (unhide H).me).set 2 _), Cells.only (Cells.drewN (unhide H).pt) (Only.setHere 2 _) (fun e => hne e.symm), (unhide H).pos, (unhide H).small, (unhide H).room, (unhide H).has, (unhide H).most⟩, (Only.of_below (below_drewN _ _)).trans (Only.setHere 2 _)⟩
set_option maxHeartbeats 1000000 in
theorem lseek_no (l b c g o m R : Nat) (wd cnt k : Int) (w : World) (h : Lo l b c g o m wd R cnt w) (h0 : k < 0) :
    Calls Try.prog 16 #[.pointer (some ⟨l, 0, none⟩), .int .i64 k] w fun r w' => r = .returned (.bool false) ∧ ∃ n, w' = w.drewN n := by
  have hR := h.has
  have H := hide h
  clear h
  go_enter Try.func16, Try.ntmps16
  go_wp2_with fail
  refine (lroom_any l b c g o m R wd cnt w (unhide H)).mono ?_
  rintro e' w1 ⟨rfl, n, rfl⟩
  go_wp2
  go_ret
  exact ⟨rfl, _, rfl⟩
end Go.Proofs.Ytclikkhaaiihdaa
