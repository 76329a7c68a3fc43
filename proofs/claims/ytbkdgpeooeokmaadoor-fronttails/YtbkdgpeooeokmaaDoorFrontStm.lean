/- Package front: a stream; one that is made; samples that come. -/
import Derived.Test.YtbkdgpeooeokmaaDoorFrontCut
namespace Go.Proofs.YtbkdgpeooeokmaaDoor
open Go.RowKit
set_option linter.unusedVariables false

/-- A stream in block c: its front, and what it has. -/
def Stm (c n p B C : Nat) (pre : Int) (t : StD) (w : World) : Prop := ∃ (a : Option Addr) (m cap : Nat), Cells w c [.int .i64 (n : Int), .int .i64 (p : Int), .int .i64 (B : Int), .int .i64 (C : Int), .int .i64 pre, .int .i64 (t.n : Int), .int .i64 t.last, .slice a m cap] ∧
  t.rest.length = m ∧ Slot a m cap ∧ Lies w a t.rest ∧ ∀ q, a = some q → c < q.block
theorem Stm.below {c n p B C : Nat} {pre : Int} {t : StD} {w w' : World} (h : Stm c n p B C pre t w) (hb : Below w.heap.size w w') : Stm c n p B C pre t w' := by
  obtain ⟨a, m, cap, h1, h2, h3, h4, h5⟩ := h
  exact ⟨a, m, cap, h1.below hb, h2, h3, h4.below hb, h5⟩
theorem Stm.lt {c n p B C : Nat} {pre : Int} {t : StD} {w : World} (h : Stm c n p B C pre t w) : c < w.heap.size := by
  obtain ⟨a, m, cap, h1, _⟩ := h
  exact h1.lt
/-- .. whose rest lies from block lo on. -/
def StmL (lo c n p B C : Nat) (pre : Int) (t : StD) (w : World) : Prop := ∃ (a : Option Addr) (m cap : Nat), Cells w c [.int .i64 (n : Int), .int .i64 (p : Int), .int .i64 (B : Int), .int .i64 (C : Int), .int .i64 pre, .int .i64 (t.n : Int), .int .i64 t.last, .slice a m cap] ∧
  t.rest.length = m ∧ Slot a m cap ∧ Lies w a t.rest ∧ (∀ q, a = some q → c < q.block) ∧ ∀ q, a = some q → lo ≤ q.block
theorem StmL.stm {lo c n p B C : Nat} {pre : Int} {t : StD} {w : World} (h : StmL lo c n p B C pre t w) : Stm c n p B C pre t w := by
  obtain ⟨a, m, cap, h1, h2, h3, h4, h5, _⟩ := h
  exact ⟨a, m, cap, h1, h2, h3, h4, h5⟩
theorem Cells.grown {w w' : World} {c : Nat} {l : List Value} {row : Option Nat} (h : Cells w c l) (hg : w.grownBy w' row) (hne : row ≠ some c) : Cells w' c l := by
  have hl := h.lt
  obtain ⟨t, h⟩ := h
  exact ⟨t, by rw [hg.block c hl fun e => hne e.symm]; exact h⟩
theorem StmL.grown {lo c n p B C : Nat} {pre : Int} {t : StD} {w w' : World} {row : Option Nat} (h : StmL lo c n p B C pre t w) (hg : w.grownBy w' row) (hr : ∀ k, row = some k → k ≠ c ∧ k < lo) : Stm c n p B C pre t w' := by
  obtain ⟨a, m, cap, h1, h2, h3, h4, h5, h6⟩ := h
  refine ⟨a, m, cap, h1.grown hg (fun e => (hr c e).1 rfl), h2, h3, ?_, h5⟩
  rcases h4 with h | ⟨b, off, rfl, hlt, hc⟩
  · exact .inl h
  · refine .inr ⟨b, off, rfl, Nat.lt_of_lt_of_le hlt hg.size, fun j hj => ?_⟩
    rw [World.cell?_of_block (hg.block b hlt fun e => by have h7 := (hr b e.symm).2; have h8 : lo ≤ b := h6 _ rfl; omega)]
    exact hc j hj
/-- What a stream has is right. -/
structure StOk (n : Nat) (t : StD) : Prop where
  last : Smp t.last
  rest : ∀ y ∈ t.rest, -65536 ≤ y ∧ y ≤ 65536
  few : t.rest.length < n
theorem stOk_none (n : Nat) (h : 0 < n) : StOk n stNone := ⟨by unfold Smp stNone; decide, fun y hy => by simp [stNone] at hy, by simpa [stNone] using h⟩
theorem stOk_push {n p B C : Nat} {pre : Int} (hs : Spc n p B C pre) {t : StD} (h : StOk n t) (ys : List Int) (hy : ∀ y ∈ ys, Smp y) : StOk n (stPush n p pre t ys) := by
  refine ⟨last_smp _ _ h.last hy, fun y hm => ?_, rest_less _ _ _ hs.hp0 hs.hp⟩
  have hm := List.mem_of_mem_drop hm
  rcases List.mem_append.1 hm with hm | hm
  · exact h.rest y hm
  · exact flat_bd pre hs.r0 hs.r1 _ _ h.last hy y hm
theorem stOk_of {n p B C : Nat} {pre : Int} (hs : Spc n p B C pre) (xs : List Int) (hx : ∀ x ∈ xs, Smp x) : StOk n (stOf n p pre xs) := by
  have := stOk_push hs (stOk_none n (by have := hs.hp0; have := hs.hp; omega)) xs hx
  rw [← st_none n p pre (by have := hs.hp0; have := hs.hp; omega), st_push n p pre [] xs hs.hp0 hs.hp] at this
  exact this
theorem owns_only2 {w w' : World} {base n c : Nat} {t : TypeId} {v : Value} {xs : List Value} (h : w.ownsRow base t 1 v n xs) (ho : Only c w w') (hc : c < base) : w'.ownsRow base t 1 v n xs := by
  refine ⟨h.1, ?_⟩
  rcases h.2 with h' | ⟨g, cap, cur, h1, h2, h3, h4⟩
  · exact .inl h'
  · exact .inr ⟨g, cap, cur, h1, h2, by rw [ho.block g (by have := Array.getElem?_eq_some_iff.1 h3; exact this.1) (by omega)]; exact h3, h4⟩

theorem fright_any (s hop b c pre : Int) (w : World) :
    Calls Tryd.prog 22 #[.agg #[.int .i64 s, .int .i64 hop, .int .i64 b, .int .i64 c, .int .i64 pre]] w fun e w' => e = .returned (.bool (decide (rightF s hop b c pre))) ∧ Below w.heap.size w w' := by
  obtain ⟨W0, hW0⟩ : ∃ W0, w.alloc (.cells #[.int .i64 s, .int .i64 hop, .int .i64 b, .int .i64 c, .int .i64 pre] 27) = W0 := ⟨_, rfl⟩
  obtain ⟨F, hF⟩ : ∃ F, w.heap.size = F := ⟨_, rfl⟩
  have HF := hide (show Cells W0 F [.int .i64 s, .int .i64 hop, .int .i64 b, .int .i64 c, .int .i64 pre] by rw [← hW0, ← hF]; exact cells_new w [.int .i64 s, .int .i64 hop, .int .i64 b, .int .i64 c, .int .i64 pre] _)
  have HBW := hide (show Below w.heap.size w W0 by rw [← hW0]; exact alloc_below w _)
  have HC := hide (right_any s hop b c pre W0)
  have q0 := (unhide HF).cell 0 _ rfl
  have q1 := (unhide HF).cell 1 _ rfl
  have q2 := (unhide HF).cell 2 _ rfl
  have q3 := (unhide HF).cell 3 _ rfl
  have q4 := (unhide HF).cell 4 _ rfl
  go_enter Tryd.func22, Tryd.ntmps22
  go_wp2_with fail
  clear hW0 hF q0 q1 q2 q3 q4
  refine (unhide HC).mono ?_
  rintro e w1 ⟨rfl, hb⟩
  have HB := hide (below_trans (unhide HBW) hb)
  clear hb HC
  go_wp2
  go_ret
  exact ⟨rfl, unhide HB⟩

theorem new_no (s hop b c pre : Int) (h : ¬ rightF s hop b c pre) (w : World) :
    Calls Tryd.prog 10 #[.agg #[.int .i64 s, .int .i64 hop, .int .i64 b, .int .i64 c, .int .i64 pre]] w fun e w' => e = .returned (.pointer none) ∧ Below w.heap.size w w' := by
  obtain ⟨W0, hW0⟩ : ∃ W0, w.alloc (.cells #[.int .i64 s, .int .i64 hop, .int .i64 b, .int .i64 c, .int .i64 pre] 27) = W0 := ⟨_, rfl⟩
  obtain ⟨F, hF⟩ : ∃ F, w.heap.size = F := ⟨_, rfl⟩
  have HF := hide (show Cells W0 F [.int .i64 s, .int .i64 hop, .int .i64 b, .int .i64 c, .int .i64 pre] by rw [← hW0, ← hF]; exact cells_new w [.int .i64 s, .int .i64 hop, .int .i64 b, .int .i64 c, .int .i64 pre] _)
  have HBW := hide (show Below w.heap.size w W0 by rw [← hW0]; exact alloc_below w _)
  have HC := hide (fright_any s hop b c pre W0)
  have HD := hide (decide_eq_false h)
  clear h
  have q0 := (unhide HF).cell 0 _ rfl
  have q1 := (unhide HF).cell 1 _ rfl
  have q2 := (unhide HF).cell 2 _ rfl
  have q3 := (unhide HF).cell 3 _ rfl
  have q4 := (unhide HF).cell 4 _ rfl
  go_enter Tryd.func10, Tryd.ntmps10
  go_wp2_with fail
  clear hW0 hF q0 q1 q2 q3 q4
  refine (unhide HC).mono ?_
  rintro e w1 ⟨rfl, hb⟩
  rw [unhide HD]
  have HB := hide (below_trans (unhide HBW) hb)
  clear hb HC
  go_wp2
  go_ret
  exact ⟨rfl, unhide HB⟩
theorem new_made (s hop b c pre : Int) (h : rightF s hop b c pre) (w : World) :
    Calls Tryd.prog 10 #[.agg #[.int .i64 s, .int .i64 hop, .int .i64 b, .int .i64 c, .int .i64 pre]] w fun e w' => ∃ g, e = .returned (.pointer (some ⟨g, 0, none⟩)) ∧ w.heap.size ≤ g ∧ Cells w' g [.int .i64 s, .int .i64 hop, .int .i64 b, .int .i64 c, .int .i64 pre, .int .i64 0, .int .i64 0, .slice none 0 0] ∧ Below w.heap.size w w' := by
  obtain ⟨W0, hW0⟩ : ∃ W0, w.alloc (.cells #[.int .i64 s, .int .i64 hop, .int .i64 b, .int .i64 c, .int .i64 pre] 27) = W0 := ⟨_, rfl⟩
  obtain ⟨F, hF⟩ : ∃ F, w.heap.size = F := ⟨_, rfl⟩
  have HF := hide (show Cells W0 F [.int .i64 s, .int .i64 hop, .int .i64 b, .int .i64 c, .int .i64 pre] by rw [← hW0, ← hF]; exact cells_new w [.int .i64 s, .int .i64 hop, .int .i64 b, .int .i64 c, .int .i64 pre] _)
  have HBW := hide (show Below w.heap.size w W0 by rw [← hW0]; exact alloc_below w _)
  have HC := hide (fright_any s hop b c pre W0)
  have HD := hide (decide_eq_true h)
  clear h
  have q0 := (unhide HF).cell 0 _ rfl
  have q1 := (unhide HF).cell 1 _ rfl
  have q2 := (unhide HF).cell 2 _ rfl
  have q3 := (unhide HF).cell 3 _ rfl
  have q4 := (unhide HF).cell 4 _ rfl
  go_enter Tryd.func10, Tryd.ntmps10
  go_wp2_with fail
  clear hW0 hF q0 q1 q2 q3 q4
  refine (unhide HC).mono ?_
  rintro e w1 ⟨rfl, hb⟩
  rw [unhide HD]
  have HB := hide (below_trans (unhide HBW) hb)
  have k0 := ((unhide HF).below hb).cell 0 _ rfl
  have k1 := ((unhide HF).below hb).cell 1 _ rfl
  have k2 := ((unhide HF).below hb).cell 2 _ rfl
  have k3 := ((unhide HF).below hb).cell 3 _ rfl
  have k4 := ((unhide HF).below hb).cell 4 _ rfl
  have HC2 := hide (show Cells (w1.alloc (.cells #[.int .i64 s, .int .i64 hop, .int .i64 b, .int .i64 c, .int .i64 pre, .int .i64 0, .int .i64 0, .slice none 0 0] 56)) w1.heap.size [.int .i64 s, .int .i64 hop, .int .i64 b, .int .i64 c, .int .i64 pre, .int .i64 0, .int .i64 0, .slice none 0 0] from cells_new w1 [.int .i64 s, .int .i64 hop, .int .i64 b, .int .i64 c, .int .i64 pre, .int .i64 0, .int .i64 0, .slice none 0 0] _)
  clear hb HC
  go_wp2
  go_ret
  exact ⟨_, rfl, (unhide HB).size, unhide HC2, (unhide HB).alloc (unhide HB).size _⟩
theorem new_yes (n p B C : Nat) (pre : Int) (hs : Spc n p B C pre) (w : World) :
    Calls Tryd.prog 10 #[.agg #[.int .i64 (n : Int), .int .i64 (p : Int), .int .i64 (B : Int), .int .i64 (C : Int), .int .i64 pre]] w fun e w' => ∃ c, e = .returned (.pointer (some ⟨c, 0, none⟩)) ∧ w.heap.size ≤ c ∧ Stm c n p B C pre stNone w' ∧ Below w.heap.size w w' := by
  refine (new_made (n : Int) (p : Int) (B : Int) (C : Int) pre hs.right w).mono ?_
  rintro e w' ⟨g, rfl, hg, hc, hb⟩
  exact ⟨g, rfl, hg, ⟨none, 0, 0, hc, rfl, .inl ⟨rfl, rfl, rfl⟩, .inl rfl, fun q hq => by cases hq⟩, hb⟩

theorem made_nil (w : World) : Calls Tryd.prog 23 #[.pointer none] w fun e w' => e = .returned (.bool false) ∧ w' = w := by
  go_enter Tryd.func23, Tryd.ntmps23
  go_wp2
  go_ret
  exact ⟨rfl, rfl⟩
theorem made_yes (c n p B C : Nat) (pre : Int) (hs : Spc n p B C pre) (x y z : Value) (w : World) (h : Cells w c [.int .i64 (n : Int), .int .i64 (p : Int), .int .i64 (B : Int), .int .i64 (C : Int), .int .i64 pre, x, y, z]) :
    Calls Tryd.prog 23 #[.pointer (some ⟨c, 0, none⟩)] w fun e w' => e = .returned (.bool true) ∧ Below w.heap.size w w' := by
  have k0 := h.cell 0 _ rfl
  have k1 := h.cell 1 _ rfl
  have k2 := h.cell 2 _ rfl
  have k3 := h.cell 3 _ rfl
  have k4 := h.cell 4 _ rfl
  have HC := hide (right_any (n : Int) (p : Int) (B : Int) (C : Int) pre w)
  have HD := hide (decide_eq_true hs.right)
  clear h hs
  go_enter Tryd.func23, Tryd.ntmps23
  go_wp2_with fail
  refine (unhide HC).mono ?_
  rintro e w1 ⟨rfl, hb⟩
  rw [unhide HD]
  have HB := hide hb
  clear hb HC
  go_wp2
  go_ret
  exact ⟨rfl, unhide HB⟩
end Go.Proofs.YtbkdgpeooeokmaaDoor
