/- The document's sum of two rows lies in a block of its own. -/
import Derived.Test.YtafbdkebokhnlaaDoorRows2
namespace Go.Proofs.YtafbdkebokhnlaaDoor
open Go.RowKit
set_option linter.unusedVariables false

theorem owned_at {w : World} {base n : Nat} {v : Value} {xs : List Value} (h : w.ownsRow base 3 1 v n xs) : ∀ a m cap, v = .slice a m cap → ∀ p, a = some p → base ≤ p.block := by
  intro a m cap hv p hp
  rcases h.2 with ⟨h', _⟩ | ⟨g, cap', cur, h1, h2, _⟩
  · rw [h'] at hv; cases hv; cases hp
  · rw [h1] at hv; cases hv; cases hp; exact h2
/-- What a call told: a row in a block that was not there. -/
def ToldN (xs : List Int) (w : World) (e : Ending) (w' : World) : Prop := ∃ a l c, e = .returned (.slice a l c) ∧ xs.length = l ∧ Lies w' a xs ∧ Below w.heap.size w w' ∧ ∀ p, a = some p → w.heap.size ≤ p.block
theorem ToldN.told {xs : List Int} {w w' : World} {e : Ending} (h : ToldN xs w e w') : Told xs w e w' := by
  obtain ⟨a, l, c, h1, h2, h3, h4, _⟩ := h
  exact ⟨a, l, c, h1, h2, h3, h4⟩

set_option maxRecDepth 100000 in
theorem radd_new (a b : Option Addr) (n m ca cb : Nat) (xs ys : List Int) (w : World) (ha : Lies w a xs) (hy : Lies w b ys) (hn : xs.length = n) (hm : ys.length = m) (hnx : n ≤ 1000000) (hmx : m ≤ 1000000) :
    Calls Tryd.prog 26 #[.slice a n ca, .slice b m cb] w (ToldN (sum2 xs ys) w) := by
  by_cases c : m = n
  · obtain ⟨i0, hi, hz0, hz1, hz2⟩ := info_parts Tryd.info3
    subst c
    have HE := hide (show sum2 xs ys = add2 xs ys by unfold sum2; rw [hn, hm, if_pos rfl])
    have HA := hide ha
    have HY := hide hy
    have HN := hide hn
    have HM := hide hm
    clear ha hy hn hm
    go_enter Tryd.func26, Tryd.ntmps26
    go_wp2
    go_loopw [5, 6] (fun v i wr => ∃ j : Nat, j ≤ m ∧ i = .int .i64 (j : Int) ∧ Hid (wr.ownsRow w.heap.size 3 1 v j (ints (mkL j fun i => wrap64 (xs.getD i 0 + ys.getD i 0)))) ∧ Hid (Below w.heap.size w wr))
      (fun _ i _ => m - (intOf i).toNat)
    case atStart => exact ⟨0, by omega, rfl, World.ownsRow_nil _ _ _ _, Below.refl _ _⟩
    case round =>
      obtain ⟨j, hj, rfl, HOr, HBr⟩ := hrel
      by_cases hlt : j < m
      · obtain ⟨ba, oa, rfl, hlta, hca⟩ := (unhide HA).some (by intro h; have := unhide HN; subst h; simp at this; omega)
        obtain ⟨bb, ob, rfl, hltb, hcb⟩ := (unhide HY).some (by intro h; have := unhide HM; subst h; simp at this; omega)
        have cx : wr.cell? ⟨ba, oa + j, none⟩ = some (.int .i64 (xs.getD j 0)) := by rw [(unhide HBr).cell (p := ⟨ba, _, none⟩) hlta]; exact hca j (by rw [unhide HN]; exact hlt)
        have cy : wr.cell? ⟨bb, ob + j, none⟩ = some (.int .i64 (ys.getD j 0)) := by rw [(unhide HBr).cell (p := ⟨bb, _, none⟩) hltb]; exact hcb j (by rw [unhide HM]; exact hlt)
        obtain ⟨x, hx⟩ : ∃ x, xs.getD j 0 = x := ⟨_, rfl⟩
        obtain ⟨y, hy⟩ : ∃ x, ys.getD j 0 = x := ⟨_, rfl⟩
        rw [hx] at cx
        rw [hy] at cy
        have HX := hide hx
        have HYY := hide hy
        have HSU := hide (show ints (mkL (j + 1) fun i => wrap64 (xs.getD i 0 + ys.getD i 0)) = ints (mkL j fun i => wrap64 (xs.getD i 0 + ys.getD i 0)) ++ [.int .i64 (wrap64 (x + y))] by rw [← hx, ← hy]; simp [ints, mkL, List.range_succ])
        have hsz := (unhide HBr).size
        have hjm : (j : Int) < (m : Int) := by omega
        have hj0 : (0 : Int) ≤ (j : Int) := by omega
        obtain ⟨LL, hLL⟩ : ∃ LL, ints (mkL j fun i => wrap64 (xs.getD i 0 + ys.getD i 0)) = LL := ⟨_, rfl⟩
        rw [hLL] at HOr HSU
        have hownd : ∀ v o, wr.ownsRow w.heap.size 3 1 v j LL → ((wr.alloc o).drew).ownsRow w.heap.size 3 1 v j LL := fun v o h => h.alloc o
        have hown := unhide HOr
        have hbwa : ba < wr.heap.size := by omega
        have hbwb : bb < wr.heap.size := by omega
        have hrow : ∀ t, t = ba → Value.ownBlock u5 ≠ some t := fun t ht e => by have := (hown.lt t e).1; omega
        have hrow2 : ∀ t, t = bb → Value.ownBlock u5 ≠ some t := fun t ht e => by have := (hown.lt t e).1; omega
        clear hca hcb hx hy hLL HOr
        go_wp2
        go_region_held3 (fun w' => w'.cell? ⟨ba, oa + j, none⟩ = some (.int .i64 x) ∧ w'.cell? ⟨bb, ob + j, none⟩ = some (.int .i64 y)) (first | exact ⟨keep_grown hg3 hbwa hrow cx, keep_grown hg3 hbwb hrow2 cy⟩ | go_keep) ((refine step_append_lies _ (by rfl) _ _ 22 (by rfl) w.heap.size 3 i0 (.int .i64 0) 1 8 Tryd.underlying22 hi hz0 hz1 hz2 (by rfl) (by decide) _ j _ (by rfl) (hownd _ _ hown) ⟨wr.heap.size, 0, none⟩ 1 1 [.int .i64 (IntKind.i64.wrap (x + y))] (by rfl) (by rfl) (cell_one_new _ _ _) (ints_one [IntKind.i64.wrap (x + y)]) (by decide) (by unfold maxLen; omega) (by omega) (by simp; omega) (wr.heap.size + 1) (by simp) ?_; intro g cp w3 hown3 hg3 hat3 hlt3))
        have HB3 := hide ((((unhide HBr).alloc hsz _).drew).grown hg3 (by show w.heap.size ≤ (wr.alloc _).heap.size; simp; omega) (fun j hj => (hown.lt j hj).1))
        rw [show IntKind.i64.wrap (x + y) = wrap64 (x + y) by rw [IntKind.wrap_i64]; unfold wrap64; rfl, ← unhide HSU] at hown3
        have HO3 := hide hown3
        clear hown3 hg3 hat3 hlt3 hownd hrow hrow2 hown
        go_wp2
        go_roundw
        case rel => exact ⟨j + 1, by omega, by go_num, HO3, HB3⟩
        case measure => simp [intOf]; omega
      · obtain rfl : j = m := by omega
        obtain ⟨a', cap, hv, hl, hn⟩ := owned_lies (unhide HOr)
        have HAt := hide (owned_at (unhide HOr) _ _ _ hv)
        subst hv
        have HLL := hide hl
        clear hl hn HOr
        go_wp2
        go_ret
        have he : mkL j (fun i => wrap64 (xs.getD i 0 + ys.getD i 0)) = add2 xs ys := by unfold add2; rw [unhide HN]
        rw [he] at HLL
        rw [ToldN, unhide HE]
        exact ⟨a', _, cap, by rw [he]; rfl, rfl, unhide HLL, unhide HBr, unhide HAt⟩
  · have h1 : ((n : Int) != (m : Int)) = true := by simp; omega
    have HE := hide (show sum2 xs ys = [] by unfold sum2; rw [hn, hm, if_neg c])
    clear c ha hy hn hm
    go_enter Tryd.func26, Tryd.ntmps26
    go_wp2
    go_ret
    rw [ToldN, unhide HE]
    exact ⟨none, 0, 0, rfl, rfl, .inl rfl, Below.refl _ _, fun p hp => by cases hp⟩
end Go.Proofs.YtafbdkebokhnlaaDoor
