/- Contract of the document's Layout. -/
import Derived.Test.YtbekechjphangaaLayw
import Derived.Deep.RegionWith
import Derived.Laws.AppendOwnNone
namespace Go.Proofs.Ytbekechjphangaa
open Go.RowKit
set_option linter.unusedVariables false

theorem cells_grown {w w' : World} {c : Nat} {l : List Value} {row : Option Nat} (h : Cells w c l) (hg : w.grownBy w' row) (hr : ∀ k, row = some k → k ≠ c) : Cells w' c l := by
  have hl := h.lt
  obtain ⟨t, h⟩ := h
  exact ⟨t, by rw [hg.block c hl (fun e => hr c e.symm rfl)]; exact h⟩
theorem owns_cell {w : World} {base n c : Nat} {v : Value} {xs : List Value} (h : w.ownsRow base 3 1 v n xs) (hc : c < base) (i : Nat) (u : Value) : (w.setCell ⟨c, i, none⟩ u).ownsRow base 3 1 v n xs := owns_only h (Only.setHere i u) hc
/-- What the document's Layout tells. -/
def RlayOut (w : World) (m : Nat) (o : Option (List Nat × Nat)) (r : Ending) (w' : World) : Prop :=
  (o = none ∧ r = .returned (.agg #[.slice none 0 0, .int .i64 0, .int .i64 17]) ∧ Below w.heap.size w w') ∨
  (∃ p a cap, o = some p ∧ r = .returned (.agg #[.slice a m cap, .int .i64 ((p.2 : Nat) : Int), .int .i64 0]) ∧ Lies w' a (casts p.1) ∧ Below w.heap.size w w')

theorem three_cells {w1 : World} {n : Nat} {l : List Value} (a b d : Value) (h : Cells w1 n l) (hl : l.length = 3) :
    (((w1.setCell ⟨n, 0, none⟩ a).setCell ⟨n, 1, none⟩ b).setCell ⟨n, 2, none⟩ d).cell? ⟨n, 0, none⟩ = some a ∧ (((w1.setCell ⟨n, 0, none⟩ a).setCell ⟨n, 1, none⟩ b).setCell ⟨n, 2, none⟩ d).cell? ⟨n, 1, none⟩ = some b ∧ (((w1.setCell ⟨n, 0, none⟩ a).setCell ⟨n, 1, none⟩ b).setCell ⟨n, 2, none⟩ d).cell? ⟨n, 2, none⟩ = some d := by
  match l, hl with
  | [x, y, z], _ =>
    have h3 := ((h.set 0 a).set 1 b).set 2 d
    exact ⟨h3.cell 0 _ rfl, h3.cell 1 _ rfl, h3.cell 2 _ rfl⟩
theorem upN_room {x : Nat} : upN x ≤ 4096 ↔ x ≤ 4096 := by unfold upN; omega
def Z3 : List Value := [.slice none 0 0, .int .i64 0, .int .i64 0]

set_option maxHeartbeats 4000000 in
theorem rlay_any (a : Option Addr) (m cap : Nat) (ns : List Nat) (w : World) (hl : Lies w a (casts ns)) (hm : ns.length = m) (hm2 : m ≤ 1000000) :
    Calls Try.prog 40 #[.slice a m cap] w (RlayOut w m (layN ns 0)) := by
  obtain ⟨i0, hi, hz0, hz1, hz2⟩ := info_parts Try.info3
  have HI : Hid (Try.prog.info? 3 = some i0 ∧ i0.zero = some (.int .i64 0) ∧ i0.size = 1 ∧ i0.bytes = 8) := ⟨hi, hz0, hz1, hz2⟩
  have HL := hide hl
  have HM := hide hm
  obtain ⟨O, hO⟩ : ∃ O, layN ns 0 = O := ⟨_, rfl⟩
  rw [hO]
  have HO := hide hO
  clear hi hz0 hz1 hz2 hl hm hO
  go_enter Try.func40, Try.ntmps40
  go_wp2
  generalize hw0 : ((w.alloc (Obj.cells #[Value.slice none 0 0, Value.int IntKind.i64 0, Value.int IntKind.i64 0] 65)).alloc (Obj.cells #[Value.slice none 0 0, Value.int IntKind.i64 0, Value.int IntKind.i64 0] 65)) = w0
  have HB0 : Hid (Below w.heap.size w w0) := by subst hw0; exact ((Below.refl _ w).alloc (Nat.le_refl _) _).alloc (by simp) _
  have HR0 : Hid (Cells w0 w.heap.size Z3) := by subst hw0; exact (cells_new w Z3 65).alloc _
  have HP0 : Hid (Cells w0 (w.heap.size + 1) Z3) := by
    subst hw0
    have := cells_new (w.alloc (Obj.cells #[Value.slice none 0 0, Value.int IntKind.i64 0, Value.int IntKind.i64 0] 65)) Z3 65
    rw [World.size_alloc] at this
    exact this
  have HS0 : Hid (w0.heap.size = w.heap.size + 2) := by subst hw0; show _ = _; simp
  have HL0 := hide ((unhide HL).below (unhide HB0))
  clear hw0
  go_loopw [4] (fun i wr => ∃ k : Nat, k ≤ m ∧ i = .int .i64 (k : Int) ∧ wr = w0) (fun i _ => m - (intOf i).toNat)
  case atStart => exact ⟨0, by omega, rfl, rfl⟩
  case round =>
    obtain ⟨k, hk, rfl, rfl⟩ := hrel
    by_cases hlt : k < m
    · have hkl : k < (casts ns).length := by rw [casts_len, unhide HM]; exact hlt
      obtain ⟨b, off, rfl, hb, hc⟩ := (unhide HL0).some (by intro e; rw [e] at hkl; simp at hkl)
      have hck := hc k hkl
      rw [casts_at] at hck
      generalize ns.getD k 0 = z at hck
      clear hc hkl hb
      go_wp2
      go_roundw
      case rel => exact ⟨k + 1, by omega, by simp, trivial⟩
      case measure => simp [intOf]; omega
    · obtain rfl : k = m := by omega
      obtain ⟨w0, rfl⟩ : ∃ w0, w0 = wr := ⟨_, rfl⟩
      go_wp2
      go_loopw [5] (fun i wr => ∃ (j E : Nat) (P : List Nat) (av : Option Addr) (cv : Nat), j ≤ k ∧ E ≤ 4096 ∧ i = .int .i64 (j : Int) ∧ Hid (P.length = j) ∧ Hid (wr.ownsRow (w.heap.size + 2) 3 1 (.slice av j cv) j (ints (casts P))) ∧ Hid (Cells wr (w.heap.size + 1) [.slice av j cv, .int .i64 (E : Int), .int .i64 0]) ∧ Hid (Cells wr w.heap.size Z3) ∧ Hid (O = (layN (ns.drop j) E).map fun p => (P ++ p.1, p.2)) ∧ Hid (Below w.heap.size w wr)) (fun i _ => k - (intOf i).toNat)
      case atStart => exact ⟨0, 0, [], none, 0, by omega, by omega, rfl, rfl, World.ownsRow_nil _ _ _ _, HP0, HR0, by show O = _; rw [← unhide HO]; simp, HB0⟩
      case round =>
        obtain ⟨j, E, P, av, cv, hj, hE, rfl, HP, HOwn, HPr, HRr, HOr, HBr⟩ := hrel
        have p0 : wr.cell? ⟨w.heap.size + 1, 0, none⟩ = some (.slice av j cv) := (unhide HPr).cell 0 _ rfl
        have p1 : wr.cell? ⟨w.heap.size + 1, 1, none⟩ = some (.int .i64 (E : Int)) := (unhide HPr).cell 1 _ rfl
        have p2 : wr.cell? ⟨w.heap.size + 1, 2, none⟩ = some (.int .i64 0) := (unhide HPr).cell 2 _ rfl
        have r0 : wr.cell? ⟨w.heap.size, 0, none⟩ = some (.slice none 0 0) := (unhide HRr).cell 0 _ rfl
        have r1 : wr.cell? ⟨w.heap.size, 1, none⟩ = some (.int .i64 0) := (unhide HRr).cell 1 _ rfl
        have r2 : wr.cell? ⟨w.heap.size, 2, none⟩ = some (.int .i64 0) := (unhide HRr).cell 2 _ rfl
        have f0 : wr.frozen? ⟨w.heap.size, 0, none⟩ = false := (unhide HRr).free 0
        have f1 : wr.frozen? ⟨w.heap.size, 1, none⟩ = false := (unhide HRr).free 1
        have f2 : wr.frozen? ⟨w.heap.size, 2, none⟩ = false := (unhide HRr).free 2
        by_cases hlt : j < k
        · have hkl : j < (casts ns).length := by rw [casts_len, unhide HM]; exact hlt
          have hl1 := (unhide HL).below (unhide HBr)
          obtain ⟨b, off, rfl, hb, hc⟩ := hl1.some (by intro e; rw [e] at hkl; simp at hkl)
          have hck := hc j hkl
          rw [casts_at] at hck
          have hdr := layN_drop ns E j (by rw [unhide HM]; exact hlt) _ rfl
          have hbw : b < w.heap.size := by
            rcases unhide HL with h | ⟨b', off', h', hb', _⟩
            · rw [h] at hkl; simp at hkl
            · cases h'; exact hb'
          generalize ns.getD j 0 = z at hck hdr
          have HD := hide hdr
          clear hc hkl hb hl1 hdr
          by_cases hz : z ≤ 4096
          · go_wp2_with (at_builtin; refine wpList_append_own _ rfl _ _ 41 rfl (w.heap.size + 2) 3 i0 (.int .i64 0) 1 8 Try.underlying41 (unhide HI).1 (unhide HI).2.1 (unhide HI).2.2.1 (unhide HI).2.2.2 rfl (by decide) _ _ _ rfl ((unhide HOwn).alloc _) ⟨wr.heap.size, 0, none⟩ 1 1 [.int .i64 (E : Int)] rfl rfl ?d1 ?d2 ?d3 ?d4 ?d5 ?_)
            case d1 => exact cell_one_new _ _ _
            case d2 => exact ints_one [(E : Int)]
            case d3 => unfold maxLen; omega
            case d4 => omega
            case d5 => have := (unhide HPr).lt; simp; omega
            intro v4 w4 hown4 hg4 _
            have hgr : ∀ q, (Value.slice av j cv).ownBlock = some q → w.heap.size + 2 ≤ q := fun q hq => ((unhide HOwn).lt q hq).1
            have HP4 := hide (cells_grown ((unhide HPr).alloc _) hg4 (fun q hq => by have := hgr q hq; omega))
            have HR4 := hide (cells_grown ((unhide HRr).alloc _) hg4 (fun q hq => by have := hgr q hq; omega))
            have HB4 := hide (((unhide HBr).alloc (unhide HBr).size _).grown hg4 (by have := (unhide HBr).size; simp; omega) (fun q hq => by have := hgr q hq; omega))
            have HOwn4 := hide (show w4.ownsRow (w.heap.size + 2) 3 1 v4 (j + 1) (ints (casts (P ++ [E]))) by
              have : ints (casts (P ++ [E])) = ints (casts P) ++ [Value.int IntKind.i64 (E : Int)] := by simp [ints, casts]
              rw [this]; exact hown4)
            obtain ⟨a5, c5, rfl, _, hlen5⟩ := owned_lies (unhide HOwn4)
            rw [hlen5] at HOwn4 ⊢
            have hgb : b < w.heap.size → w4.cell? ⟨b, off + j, none⟩ = wr.cell? ⟨b, off + j, none⟩ := fun h => by
              have h1 := (unhide HB4).cell (p := ⟨b, off + j, none⟩) h
              have h2 := (unhide HBr).cell (p := ⟨b, off + j, none⟩) h
              rw [h1, h2]
            clear hown4 hg4 hgr p0 p1 p2 r0 r1 r2 f0 f1 f2 hlen5
            have p0 : w4.cell? ⟨w.heap.size + 1, 0, none⟩ = some (.slice av j cv) := (unhide HP4).cell 0 _ rfl
            have g0 : w4.frozen? ⟨w.heap.size + 1, 0, none⟩ = false := (unhide HP4).free 0
            have HCK : Hid (w4.cell? ⟨b, off + j, none⟩ = some (.int .i64 (z : Int))) := by
              show _ = _
              rw [← hck]
              exact hgb hbw
            clear hck
            go_wp2
            generalize hw5 : w4.setCell ⟨w.heap.size + 1, 0, none⟩ (.slice a5 (j + 1) c5) = w5
            have HP5 : Hid (Cells w5 (w.heap.size + 1) [.slice a5 (j + 1) c5, .int .i64 (E : Int), .int .i64 0]) := by subst hw5; exact (unhide HP4).set 0 _
            have HR5 : Hid (Cells w5 w.heap.size Z3) := by subst hw5; exact (unhide HR4).only (Only.setHere 0 _) (by omega)
            have HB5 : Hid (Below w.heap.size w w5) := by subst hw5; exact (unhide HB4).setCell (by simp) _
            have HOwn5 : Hid (w5.ownsRow (w.heap.size + 2) 3 1 (.slice a5 (j + 1) c5) (j + 1) (ints (casts (P ++ [E])))) := by subst hw5; exact owns_cell (unhide HOwn4) (by omega) 0 _
            have HCK5 : Hid (w5.cell? ⟨b, off + j, none⟩ = some (.int .i64 (z : Int))) := by
              subst hw5
              show _ = _
              rw [← unhide HCK]
              exact World.cell?_of_block (Below.heap_setCell _ _ _ _ (by show b ≠ w.heap.size + 1; omega))
            clear hw5 p0 g0 HP4 HR4 HB4 HOwn4 HPr HRr HBr HOwn
            have hck : w5.cell? ⟨b, off + j, none⟩ = some (.int .i64 (z : Int)) := unhide HCK5
            have p1 : w5.cell? ⟨w.heap.size + 1, 1, none⟩ = some (.int .i64 (E : Int)) := (unhide HP5).cell 1 _ rfl
            have g1 : w5.frozen? ⟨w.heap.size + 1, 1, none⟩ = false := (unhide HP5).free 1
            have K := hide (rup_any (E + z) (by omega) w5.drew)
            have hU := @upN_room (E + z)
            rw [show ((E + z : Nat) : Int) = (E : Int) + (z : Int) by omega] at K
            have HN := hide (show O = if upN (E + z) ≤ 4096 then (layN (ns.drop (j + 1)) (upN (E + z))).map fun p => ((P ++ [E]) ++ p.1, p.2) else none by
              by_cases hr : E + z ≤ 4096
              · rw [unhide HOr, unhide HD, if_pos hr, if_pos (upN_room.2 hr), Option.map_map]
                congr 1
                funext p
                simp
              · rw [unhide HOr, unhide HD, if_neg hr, if_neg (fun h => hr (upN_room.1 h))]
                rfl)
            have hUb : upN (E + z) ≤ 100000 := by unfold upN; omega
            generalize upN (E + z) = U at K HN hU hUb
            clear hU
            rw [show ((E : Int) + (z : Int)) = IntKind.i64.wrap ((E : Int) + (z : Int)) by rw [IntKind.wrap_i64]; omega] at K
            go_region_with (first | (go_at_call 45; refine (unhide K).mono ?_; rintro e' w' ⟨rfl, rfl⟩))
            all_goals (
              generalize hw6 : (w5.setCell ⟨w.heap.size + 1, 1, none⟩ (.int .i64 (U : Int))).drew = w6
              have HP6 : Hid (Cells w6 (w.heap.size + 1) [.slice a5 (j + 1) c5, .int .i64 (U : Int), .int .i64 0]) := by subst hw6; exact (unhide HP5).set 1 _
              have HR6 : Hid (Cells w6 w.heap.size Z3) := by subst hw6; exact ((unhide HR5).only (w' := w5.setCell ⟨w.heap.size + 1, 1, none⟩ (.int .i64 (U : Int))) (Only.setHere (c := w.heap.size + 1) 1 _) (by omega))
              have HB6 : Hid (Below w.heap.size w w6) := by subst hw6; exact ((unhide HB5).setCell (by simp) _).drew
              have HOwn6 : Hid (w6.ownsRow (w.heap.size + 2) 3 1 (.slice a5 (j + 1) c5) (j + 1) (ints (casts (P ++ [E])))) := by subst hw6; exact owns_cell (c := w.heap.size + 1) (unhide HOwn5) (by omega) 1 _
              clear hw6 hck p1 g1 HP5 HR5 HB5 HOwn5 HCK HCK5 hgb K
              have p1 : w6.cell? ⟨w.heap.size + 1, 1, none⟩ = some (.int .i64 (U : Int)) := (unhide HP6).cell 1 _ rfl
              have r0 : w6.cell? ⟨w.heap.size, 0, none⟩ = some (.slice none 0 0) := (unhide HR6).cell 0 _ rfl
              have r1 : w6.cell? ⟨w.heap.size, 1, none⟩ = some (.int .i64 0) := (unhide HR6).cell 1 _ rfl
              have r2 : w6.cell? ⟨w.heap.size, 2, none⟩ = some (.int .i64 0) := (unhide HR6).cell 2 _ rfl
              have f0 : w6.frozen? ⟨w.heap.size, 0, none⟩ = false := (unhide HR6).free 0
              have f1 : w6.frozen? ⟨w.heap.size, 1, none⟩ = false := (unhide HR6).free 1
              have f2 : w6.frozen? ⟨w.heap.size, 2, none⟩ = false := (unhide HR6).free 2
              by_cases hr : U ≤ 4096
              · have hr' : (U : Int) ≤ 4096 := by omega
                go_wp2
                go_roundw
                case rel => exact ⟨j + 1, U, P ++ [E], a5, c5, by omega, hr, rfl, by show _ = _; rw [List.length_append, unhide HP]; rfl, HOwn6, HP6, HR6, by show O = _; rw [unhide HN, if_pos hr], HB6⟩
                case measure => simp [intOf]; omega
              · have hr' : (4096 : Int) < (U : Int) := by omega
                go_wp2
                obtain ⟨d0, d1, d2⟩ := three_cells (.slice none 0 0) (.int .i64 0) (.int .i64 17) (unhide HR6) rfl
                refine bodyPost_ret (v := .agg #[.slice none 0 0, .int .i64 0, .int .i64 17]) (by simp [results, Try.results40, go_sem, d0, d1, d2]) rfl ?_
                exact .inl ⟨by rw [unhide HN, if_neg hr], rfl, (((unhide HB6).setCell (Nat.le_refl _) _).setCell (Nat.le_refl _) _).setCell (Nat.le_refl _) _⟩)
          · have hz' : (4096 : Int) < (z : Int) := by omega
            have HN : Hid (O = none) := by
              show O = none
              rw [unhide HOr, unhide HD, if_neg (by omega)]
              rfl
            go_wp2
            obtain ⟨d0, d1, d2⟩ := three_cells (.slice none 0 0) (.int .i64 0) (.int .i64 17) (unhide HRr) rfl
            refine bodyPost_ret (v := .agg #[.slice none 0 0, .int .i64 0, .int .i64 17]) (by simp [results, Try.results40, go_sem, d0, d1, d2]) rfl ?_
            exact .inl ⟨unhide HN, rfl, (((unhide HBr).setCell (Nat.le_refl _) _).setCell (Nat.le_refl _) _).setCell (Nat.le_refl _) _⟩
        · obtain rfl : j = k := by omega
          go_wp2
          obtain ⟨d0, d1, d2⟩ := three_cells (.slice av j cv) (.int .i64 (E : Int)) (.int .i64 0) (unhide HRr) rfl
          refine bodyPost_ret (v := .agg #[.slice av j cv, .int .i64 (E : Int), .int .i64 0]) (by simp [results, Try.results40, go_sem, d0, d1, d2]) rfl ?_
          have hB := (((unhide HBr).setCell (p := ⟨w.heap.size, 0, none⟩) (Nat.le_refl _) (.slice av j cv)).setCell (p := ⟨w.heap.size, 1, none⟩) (Nat.le_refl _) (.int .i64 (E : Int))).setCell (p := ⟨w.heap.size, 2, none⟩) (Nat.le_refl _) (.int .i64 0)
          have hlt2 : w.heap.size < w.heap.size + 2 := by omega
          have hO := owns_cell (owns_cell (owns_cell (unhide HOwn) hlt2 0 (.slice av j cv)) hlt2 1 (.int .i64 (E : Int))) hlt2 2 (.int .i64 0)
          obtain ⟨a', cap', hv, hl', _⟩ := owned_lies hO
          cases hv
          refine .inr ⟨(P, E), av, cv, ?_, rfl, hl', hB⟩
          rw [unhide HOr, List.drop_of_length_le (by rw [unhide HM]; omega)]
          simp [layN]
end Go.Proofs.Ytbekechjphangaa
