/- The document's Turn, Add, Less: what they answer. -/
import Derived.Test.YtcnpbkgnoeoccaaDoorAdd
namespace Go.Proofs.YtcnpbkgnoeoccaaDoor
open Go.RowKit
set_option linter.unusedVariables false

set_option maxRecDepth 100000 in
theorem rturn_any (a : Option Addr) (cap : Nat) (xs : List Int) (n : Nat) (k : Int) (w : World) (hl : Lies w a xs) (hs : Small xs) (hn : xs.length = n) (hm : n ≤ 1000000) (hk : In64 k) :
    Calls Tryd.prog 19 #[.slice a n cap, .int .i64 k] w (Told (turnL xs k) w) := by
  obtain ⟨i0, hi, hz0, hz1, hz2⟩ := info_parts Tryd.info3
  obtain ⟨R, hR, hR2⟩ : ∃ R : Nat, (0 < n → k % (2 * (n : Int)) = R) ∧ (0 < n → R < 2 * n) := by
    by_cases h0 : 0 < n
    · have h1 := rem_bd k (2 * (n : Int)) (by omega)
      exact ⟨(k % (2 * (n : Int))).toNat, fun _ => by omega, fun _ => by omega⟩
    · exact ⟨0, fun h => absurd h h0, fun h => absurd h h0⟩
  have HL := hide hl
  have HN := hide hn
  have HS := hide hs
  have HR := hide hR
  have HR2 := hide hR2
  have HK := hide hk
  clear hl hn hs hR hR2 hk
  go_enter Tryd.func19, Tryd.ntmps19
  go_wp2_with (at_make; refine wpList_make_full _ rfl _ _ 22 rfl w.heap.size 3 i0 (.int .i64 0) 1 Tryd.underlying22 hi hz0 hz1 _ _ _ _ n rfl rfl rfl rfl ?m1 ?m2 ?m3 ?_)
  case m1 => rw [hz2]; omega
  case m2 => unfold maxLen; omega
  case m3 => exact Nat.le_refl _
  intro w1 hown hgr
  rw [ints_zero] at hown
  have HO := hide (own_cells hown)
  have HB := hide ((Below.refl w.heap.size w).grown hgr (Nat.le_refl _) (fun _ h => by cases h))
  clear hown hgr
  go_wp2
  go_loopw [7] (fun i wr => ∃ (j : Nat) (L : List Int), j ≤ n ∧ i = .int .i64 (j : Int) ∧ Hid (Cells wr w.heap.size (ints L)) ∧ Hid (L.length = n ∧ ∀ t, t < j → L.getD (plc n R t) 0 = vlu xs R t) ∧ Hid (Below w.heap.size w wr))
    (fun i _ => n - (intOf i).toNat)
  case atStart => exact ⟨0, List.replicate n 0, by omega, rfl, HO, ⟨by simp, fun t h => absurd h (Nat.not_lt_zero _)⟩, HB⟩
  case round =>
    obtain ⟨j, L, hj, rfl, HOr, HLr, HBr⟩ := hrel
    by_cases hlt : j < n
    · have hR2 := unhide HR2 (by omega)
      obtain ⟨ba, oa, rfl, hlta, hca⟩ := (unhide HL).some (by intro h; have := unhide HN; subst h; simp at this; omega)
      have cx : wr.cell? ⟨ba, oa + j, none⟩ = some (.int .i64 (xs.getD j 0)) := by rw [(unhide HBr).cell (p := ⟨ba, _, none⟩) hlta]; exact hca j (by rw [unhide HN]; exact hlt)
      have hx := (unhide HS).all j
      obtain ⟨x, hxx⟩ : ∃ x, xs.getD j 0 = x := ⟨_, rfl⟩
      rw [hxx] at cx hx
      have HX := hide hxx
      clear hca hxx HO HB
      go_wp2_with fail
      refine (rrest_any k (2 * (n : Int)) _ (unhide HK) (by omega) (by omega)).mono ?_
      rintro e w2 ⟨rfl, rfl⟩
      rw [unhide HR (by omega)]
      obtain ⟨p, hp⟩ : ∃ p, (j + R) % (2 * n) = p := ⟨_, rfl⟩
      have hp1 : ((j : Int) + R) % (2 * (n : Int)) = (p : Int) := by rw [← hp]; rfl
      have hp3 : ((j : Int) + R).tmod (2 * (n : Int)) = (p : Int) := by rw [Int.tmod_eq_emod_of_nonneg (by omega)]; exact hp1
      have hp2 : p = if j + R < 2 * n then j + R else j + R - 2 * n := by
        rw [← hp]; split
        · rw [Nat.mod_eq_of_lt (by assumption)]
        · rw [Nat.mod_eq_sub_mod (by omega), Nat.mod_eq_of_lt (by omega)]
      have hplt : p < 2 * n := by rw [← hp]; exact Nat.mod_lt _ (by omega)
      have HP := hide hp2
      clear hp hp2
      by_cases c : p < n
      · have hcell := (unhide HOr).cell p _ (ints_at _ p (by rw [(unhide HLr).1]; exact c))
        have hfree := (unhide HOr).free p
        go_wp2
        go_roundw
        case rel =>
          refine ⟨j + 1, L.set p x, by omega, by simp, ?_, ?_, (unhide HBr).setCell (Nat.le_refl _) _⟩
          · have := (unhide HOr).set p (.int .i64 x)
            rw [ints_set] at this
            exact this
          · have hp := unhide HP
            refine place_step xs L n R j p x (unhide HN) (unhide HLr) hlt hR2 ?_ ?_
            · unfold plc; repeat' split
              all_goals (split at hp <;> omega)
            · unfold vlu
              rw [unhide HN, unhide HX]
              repeat' split
              all_goals (first | rfl | (exfalso; split at hp <;> omega))
        case measure => simp [intOf]; omega
      · obtain ⟨q, hq⟩ : ∃ q, p = q + n := ⟨p - n, by omega⟩
        subst hq
        have hcell := (unhide HOr).cell q _ (ints_at _ q (by rw [(unhide HLr).1]; omega))
        have hfree := (unhide HOr).free q
        go_wp2
        go_roundw
        case rel =>
          refine ⟨j + 1, L.set q (neg64 x), by omega, by simp, ?_, ?_, (unhide HBr).setCell (Nat.le_refl _) _⟩
          · have := (unhide HOr).set q (.int .i64 (neg64 x))
            rw [ints_set] at this
            exact this
          · have hp := unhide HP
            refine place_step xs L n R j q (neg64 x) (unhide HN) (unhide HLr) hlt hR2 ?_ ?_
            · unfold plc; repeat' split
              all_goals (split at hp <;> omega)
            · unfold vlu
              rw [unhide HN, unhide HX]
              repeat' split
              all_goals (first | rfl | (exfalso; split at hp <;> omega))
        case measure => simp [intOf]; omega
    · obtain rfl : j = n := by omega
      go_wp2
      go_ret
      refine ⟨_, j, j, rfl, by rw [turn_len]; exact unhide HN, ?_, unhide HBr⟩
      rw [← place_end xs L j R k (unhide HN) (unhide HLr) (unhide HR2) (unhide HR)]
      exact (unhide HOr).lies

set_option maxRecDepth 100000 in
theorem radd_any (a b : Option Addr) (n m ca cb : Nat) (xs ys : List Int) (w : World) (ha : Lies w a xs) (hy : Lies w b ys) (hn : xs.length = n) (hm : ys.length = m) (hnx : n ≤ 1000000) (hmx : m ≤ 1000000) :
    Calls Tryd.prog 20 #[.slice a n ca, .slice b m cb] w (Told (sum2 xs ys) w) := by
  by_cases c : m = n
  · obtain ⟨i0, hi, hz0, hz1, hz2⟩ := info_parts Tryd.info3
    subst c
    have HE := hide (show sum2 xs ys = add2 xs ys by unfold sum2; rw [hn, hm, if_pos rfl])
    have HA := hide ha
    have HY := hide hy
    have HN := hide hn
    have HM := hide hm
    clear ha hy hn hm
    go_enter Tryd.func20, Tryd.ntmps20
    go_wp2
    go_loopw [5, 6] (fun v i wr => ∃ j : Nat, j ≤ m ∧ i = .int .i64 (j : Int) ∧ Hid (wr.ownsRow w.heap.size 3 1 v j (ints (mkL j fun i => wrap64 (xs.getD i 0 + ys.getD i 0)))) ∧ Hid (Below w.heap.size w wr))
      (fun _ i _ => m - (intOf i).toNat)
    case atStart => exact ⟨0, by omega, rfl, World.ownsRow_nil _ _ _ _, Below.refl _ _⟩
    case round =>
      obtain ⟨j, hj, rfl, HOr, HBr⟩ := hrel
      by_cases hlt : j < m
      · obtain ⟨ba, oa, rfl, hlta, hca⟩ := (unhide HA).some (by intro h; have := unhide HN; subst h; simp at this; omega)
        obtain ⟨bb, ob, rfl, hltb, hcb⟩ := (unhide HY).some (by intro h; have := unhide HM; subst h; simp at this; omega)
        have cx : wr.cell? ⟨ba, oa + j, none⟩ = some (.int .i64 (xs.getD j 0)) := by rw [(unhide HBr).cell (p := ⟨ba, _, none⟩) hlta]; exact hca j (by rw [unhide HN]; exact hlt)
        have cy : wr.cell? ⟨bb, ob + j, none⟩ = some (.int .i64 (ys.getD j 0)) := by rw [(unhide HBr).cell (p := ⟨bb, _, none⟩) hltb]; exact hcb j (by rw [unhide HM]; exact hlt)
        obtain ⟨x, hx⟩ : ∃ x, xs.getD j 0 = x := ⟨_, rfl⟩
        obtain ⟨y, hy⟩ : ∃ x, ys.getD j 0 = x := ⟨_, rfl⟩
        rw [hx] at cx
        rw [hy] at cy
        have HX := hide hx
        have HYY := hide hy
        have HSU := hide (show ints (mkL (j + 1) fun i => wrap64 (xs.getD i 0 + ys.getD i 0)) = ints (mkL j fun i => wrap64 (xs.getD i 0 + ys.getD i 0)) ++ [.int .i64 (wrap64 (x + y))] by rw [← hx, ← hy]; simp [ints, mkL, List.range_succ])
        have hsz := (unhide HBr).size
        have hjm : (j : Int) < (m : Int) := by omega
        have hj0 : (0 : Int) ≤ (j : Int) := by omega
        obtain ⟨LL, hLL⟩ : ∃ LL, ints (mkL j fun i => wrap64 (xs.getD i 0 + ys.getD i 0)) = LL := ⟨_, rfl⟩
        rw [hLL] at HOr HSU
        have hownd : ∀ v o, wr.ownsRow w.heap.size 3 1 v j LL → ((wr.alloc o).drew).ownsRow w.heap.size 3 1 v j LL := fun v o h => h.alloc o
        have hown := unhide HOr
        have hbwa : ba < wr.heap.size := by omega
        have hbwb : bb < wr.heap.size := by omega
        have hrow : ∀ t, t = ba → Value.ownBlock u5 ≠ some t := fun t ht e => by have := (hown.lt t e).1; omega
        have hrow2 : ∀ t, t = bb → Value.ownBlock u5 ≠ some t := fun t ht e => by have := (hown.lt t e).1; omega
        clear hca hcb hx hy hLL HOr
        go_wp2
        go_region_held3 (fun w' => w'.cell? ⟨ba, oa + j, none⟩ = some (.int .i64 x) ∧ w'.cell? ⟨bb, ob + j, none⟩ = some (.int .i64 y)) (first | exact ⟨keep_grown hg3 hbwa hrow cx, keep_grown hg3 hbwb hrow2 cy⟩ | go_keep) ((refine step_append_lies _ (by rfl) _ _ 22 (by rfl) w.heap.size 3 i0 (.int .i64 0) 1 8 Tryd.underlying22 hi hz0 hz1 hz2 (by rfl) (by decide) _ j _ (by rfl) (hownd _ _ hown) ⟨wr.heap.size, 0, none⟩ 1 1 [.int .i64 (IntKind.i64.wrap (x + y))] (by rfl) (by rfl) (cell_one_new _ _ _) (ints_one [IntKind.i64.wrap (x + y)]) (by decide) (by unfold maxLen; omega) (by omega) (by simp; omega) (wr.heap.size + 1) (by simp) ?_; intro g cp w3 hown3 hg3 hat3 hlt3))
        have HB3 := hide ((((unhide HBr).alloc hsz _).drew).grown hg3 (by show w.heap.size ≤ (wr.alloc _).heap.size; simp; omega) (fun j hj => (hown.lt j hj).1))
        rw [show IntKind.i64.wrap (x + y) = wrap64 (x + y) by rw [IntKind.wrap_i64]; unfold wrap64; rfl, ← unhide HSU] at hown3
        have HO3 := hide hown3
        clear hown3 hg3 hat3 hlt3 hownd hrow hrow2 hown
        go_wp2
        go_roundw
        case rel => exact ⟨j + 1, by omega, by go_num, HO3, HB3⟩
        case measure => simp [intOf]; omega
      · obtain rfl : j = m := by omega
        obtain ⟨a', cap, hv, hl, hn⟩ := owned_lies (unhide HOr)
        subst hv
        have HLL := hide hl
        clear hl hn HOr
        go_wp2
        go_ret
        have he : mkL j (fun i => wrap64 (xs.getD i 0 + ys.getD i 0)) = add2 xs ys := by unfold add2; rw [unhide HN]
        rw [he] at HLL
        rw [Told, unhide HE]
        exact ⟨a', _, cap, by rw [he]; rfl, rfl, unhide HLL, unhide HBr⟩
  · have h1 : ((n : Int) != (m : Int)) = true := by simp; omega
    have HE := hide (show sum2 xs ys = [] by unfold sum2; rw [hn, hm, if_neg c])
    clear c ha hy hn hm
    go_enter Tryd.func20, Tryd.ntmps20
    go_wp2
    go_ret
    rw [Told, unhide HE]
    exact ⟨none, 0, 0, rfl, rfl, .inl rfl, Below.refl _ _⟩
set_option maxRecDepth 100000 in
theorem rless_any (a b : Option Addr) (n m ca cb : Nat) (xs ys : List Int) (w : World) (ha : Lies w a xs) (hy : Lies w b ys) (hn : xs.length = n) (hm : ys.length = m) (hs : Small ys) (hnx : n ≤ 1000000) (hmx : m ≤ 1000000) :
    Calls Tryd.prog 21 #[.slice a n ca, .slice b m cb] w (Told (less2 xs ys) w) := by
  by_cases c : m = n
  · obtain ⟨i0, hi, hz0, hz1, hz2⟩ := info_parts Tryd.info3
    subst c
    have HE := hide (show less2 xs ys = sub2 xs ys by unfold less2; rw [hn, hm, if_pos rfl]; exact less_sub xs ys (by rw [hn, hm]) hs)
    have HA := hide ha
    have HY := hide hy
    have HN := hide hn
    have HM := hide hm
    clear ha hy hn hm
    go_enter Tryd.func21, Tryd.ntmps21
    go_wp2
    go_loopw [5, 6] (fun v i wr => ∃ j : Nat, j ≤ m ∧ i = .int .i64 (j : Int) ∧ Hid (wr.ownsRow w.heap.size 3 1 v j (ints (mkL j fun i => wrap64 (xs.getD i 0 - ys.getD i 0)))) ∧ Hid (Below w.heap.size w wr))
      (fun _ i _ => m - (intOf i).toNat)
    case atStart => exact ⟨0, by omega, rfl, World.ownsRow_nil _ _ _ _, Below.refl _ _⟩
    case round =>
      obtain ⟨j, hj, rfl, HOr, HBr⟩ := hrel
      by_cases hlt : j < m
      · obtain ⟨ba, oa, rfl, hlta, hca⟩ := (unhide HA).some (by intro h; have := unhide HN; subst h; simp at this; omega)
        obtain ⟨bb, ob, rfl, hltb, hcb⟩ := (unhide HY).some (by intro h; have := unhide HM; subst h; simp at this; omega)
        have cx : wr.cell? ⟨ba, oa + j, none⟩ = some (.int .i64 (xs.getD j 0)) := by rw [(unhide HBr).cell (p := ⟨ba, _, none⟩) hlta]; exact hca j (by rw [unhide HN]; exact hlt)
        have cy : wr.cell? ⟨bb, ob + j, none⟩ = some (.int .i64 (ys.getD j 0)) := by rw [(unhide HBr).cell (p := ⟨bb, _, none⟩) hltb]; exact hcb j (by rw [unhide HM]; exact hlt)
        obtain ⟨x, hx⟩ : ∃ x, xs.getD j 0 = x := ⟨_, rfl⟩
        obtain ⟨y, hy⟩ : ∃ x, ys.getD j 0 = x := ⟨_, rfl⟩
        rw [hx] at cx
        rw [hy] at cy
        have HX := hide hx
        have HYY := hide hy
        have HSU := hide (show ints (mkL (j + 1) fun i => wrap64 (xs.getD i 0 - ys.getD i 0)) = ints (mkL j fun i => wrap64 (xs.getD i 0 - ys.getD i 0)) ++ [.int .i64 (wrap64 (x - y))] by rw [← hx, ← hy]; simp [ints, mkL, List.range_succ])
        have hsz := (unhide HBr).size
        have hjm : (j : Int) < (m : Int) := by omega
        have hj0 : (0 : Int) ≤ (j : Int) := by omega
        obtain ⟨LL, hLL⟩ : ∃ LL, ints (mkL j fun i => wrap64 (xs.getD i 0 - ys.getD i 0)) = LL := ⟨_, rfl⟩
        rw [hLL] at HOr HSU
        have hownd : ∀ v o, wr.ownsRow w.heap.size 3 1 v j LL → ((wr.alloc o).drew).ownsRow w.heap.size 3 1 v j LL := fun v o h => h.alloc o
        have hown := unhide HOr
        have hbwa : ba < wr.heap.size := by omega
        have hbwb : bb < wr.heap.size := by omega
        have hrow : ∀ t, t = ba → Value.ownBlock u5 ≠ some t := fun t ht e => by have := (hown.lt t e).1; omega
        have hrow2 : ∀ t, t = bb → Value.ownBlock u5 ≠ some t := fun t ht e => by have := (hown.lt t e).1; omega
        clear hca hcb hx hy hLL HOr
        go_wp2
        go_region_held3 (fun w' => w'.cell? ⟨ba, oa + j, none⟩ = some (.int .i64 x) ∧ w'.cell? ⟨bb, ob + j, none⟩ = some (.int .i64 y)) (first | exact ⟨keep_grown hg3 hbwa hrow cx, keep_grown hg3 hbwb hrow2 cy⟩ | go_keep) ((refine step_append_lies _ (by rfl) _ _ 22 (by rfl) w.heap.size 3 i0 (.int .i64 0) 1 8 Tryd.underlying22 hi hz0 hz1 hz2 (by rfl) (by decide) _ j _ (by rfl) (hownd _ _ hown) ⟨wr.heap.size, 0, none⟩ 1 1 [.int .i64 (IntKind.i64.wrap (x - y))] (by rfl) (by rfl) (cell_one_new _ _ _) (ints_one [IntKind.i64.wrap (x - y)]) (by decide) (by unfold maxLen; omega) (by omega) (by simp; omega) (wr.heap.size + 1) (by simp) ?_; intro g cp w3 hown3 hg3 hat3 hlt3))
        have HB3 := hide ((((unhide HBr).alloc hsz _).drew).grown hg3 (by show w.heap.size ≤ (wr.alloc _).heap.size; simp; omega) (fun j hj => (hown.lt j hj).1))
        rw [show IntKind.i64.wrap (x - y) = wrap64 (x - y) by rw [IntKind.wrap_i64]; unfold wrap64; rfl, ← unhide HSU] at hown3
        have HO3 := hide hown3
        clear hown3 hg3 hat3 hlt3 hownd hrow hrow2 hown
        go_wp2
        go_roundw
        case rel => exact ⟨j + 1, by omega, by go_num, HO3, HB3⟩
        case measure => simp [intOf]; omega
      · obtain rfl : j = m := by omega
        obtain ⟨a', cap, hv, hl, hn⟩ := owned_lies (unhide HOr)
        subst hv
        have HLL := hide hl
        clear hl hn HOr
        go_wp2
        go_ret
        have he : mkL j (fun i => wrap64 (xs.getD i 0 - ys.getD i 0)) = sub2 xs ys := by unfold sub2; rw [unhide HN]
        rw [he] at HLL
        rw [Told, unhide HE]
        exact ⟨a', _, cap, by rw [he]; rfl, rfl, unhide HLL, unhide HBr⟩
  · have h1 : ((n : Int) != (m : Int)) = true := by simp; omega
    have HE := hide (show less2 xs ys = [] by unfold less2; rw [hn, hm, if_neg c])
    clear c ha hy hn hm
    go_enter Tryd.func21, Tryd.ntmps21
    go_wp2
    go_ret
    rw [Told, unhide HE]
    exact ⟨none, 0, 0, rfl, rfl, .inl rfl, Below.refl _ _⟩
end Go.Proofs.YtcnpbkgnoeoccaaDoor
