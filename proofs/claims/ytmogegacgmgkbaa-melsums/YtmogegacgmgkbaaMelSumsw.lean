/- MelSums: the walk. -/
import Derived.Test.YtmogegacgmgkbaaMelWake
import Derived.Deep.CutBlock
import Derived.Deep.DeepCutAuto
namespace Go.Proofs.Ytmogegacgmgkbaa
open Go.RowKit
set_option linter.unusedVariables false

/-! ### Three rows that grow, each in a block of its own -/
structure Tri (D : Nat) (w : World) (u v t : Value) (i j k : Nat) (L M N : List Value) : Prop where
  o1 : w.ownsRow D 3 1 u i L
  o2 : w.ownsRow D 3 1 v j M
  o3 : w.ownsRow D 3 1 t k N
  a12 : ∀ q, u.ownBlock = some q → v.ownBlock ≠ some q
  a13 : ∀ q, u.ownBlock = some q → t.ownBlock ≠ some q
  a23 : ∀ q, v.ownBlock = some q → t.ownBlock ≠ some q
theorem Tri.rot {D : Nat} {w : World} {u v t : Value} {i j k : Nat} {L M N : List Value} (h : Tri D w u v t i j k L M N) : Tri D w v t u j k i M N L :=
  ⟨h.o2, h.o3, h.o1, h.a23, fun q h1 h2 => h.a12 q h2 h1, fun q h1 h2 => h.a13 q h2 h1⟩
theorem Tri.alloc {D : Nat} {w : World} {u v t : Value} {i j k : Nat} {L M N : List Value} (h : Tri D w u v t i j k L M N) (o : Obj) : Tri D (w.alloc o) u v t i j k L M N :=
  ⟨h.o1.alloc o, h.o2.alloc o, h.o3.alloc o, h.a12, h.a13, h.a23⟩
theorem Tri.drew {D : Nat} {w : World} {u v t : Value} {i j k : Nat} {L M N : List Value} (h : Tri D w u v t i j k L M N) : Tri D w.drew u v t i j k L M N :=
  ⟨h.o1, h.o2, h.o3, h.a12, h.a13, h.a23⟩
theorem Tri.push {D : Nat} {w w' : World} {u v t : Value} {i j k g c n : Nat} {L L' M N : List Value} (h : Tri D w u v t i j k L M N) (hg : w.grownBy w' u.ownBlock) (hat : u.ownBlock = some g ∨ g = w.heap.size) (ho : w'.ownsRow D 3 1 (.slice (some ⟨g, 0, none⟩) n c) n L') :
    Tri D w' (.slice (some ⟨g, 0, none⟩) n c) v t n j k L' M N := by
  have hb : (Value.slice (some ⟨g, 0, none⟩) n c).ownBlock = some g := rfl
  have n2 : v.ownBlock ≠ some g := fun e => by
    rcases hat with h1 | h1
    · exact h.a12 g h1 e
    · have := (h.o2.lt g e).2; omega
  have n3 : t.ownBlock ≠ some g := fun e => by
    rcases hat with h1 | h1
    · exact h.a13 g h1 e
    · have := (h.o3.lt g e).2; omega
  refine ⟨ho, h.o2.kept hg ?_, h.o3.kept hg ?_, ?_, ?_, h.a23⟩
  · by_cases e : v.ownBlock = none
    · exact .inl e
    · refine .inr fun e2 => ?_
      cases hu : u.ownBlock with
      | none => exact e (e2.trans hu)
      | some q => exact h.a12 q hu (e2.trans hu)
  · by_cases e : t.ownBlock = none
    · exact .inl e
    · refine .inr fun e2 => ?_
      cases hu : u.ownBlock with
      | none => exact e (e2.trans hu)
      | some q => exact h.a13 q hu (e2.trans hu)
  · intro q hq; rw [hb] at hq; cases hq; exact n2
  · intro q hq; rw [hb] at hq; cases hq; exact n3
theorem tri_nil (D : Nat) (w : World) : Tri D w (.slice none 0 0) (.slice none 0 0) (.slice none 0 0) 0 0 0 [] [] [] :=
  ⟨World.ownsRow_nil _ _ _ _, World.ownsRow_nil _ _ _ _, World.ownsRow_nil _ _ _ _, (fun q h => by cases h), (fun q h => by cases h), (fun q h => by cases h)⟩

/-! ### Powers that 256 goes into -/
def pow256 (xs : List Int) (i : Nat) : Int := xs.getD i 0 / 16777216 * 256
def pow256L (xs : List Int) (k : Nat) : List Int := mkL k fun i => pow256 xs i
def bothL (xs ys : List Int) (k : Nat) : List Int := mkL k fun i => pow256 xs i + pow256 ys i
theorem pow_bd (xs : List Int) (h : Small xs) (i : Nat) : -140737488355328 ≤ pow256 xs i ∧ pow256 xs i ≤ 140737488355328 := by
  have := h.all i; unfold In64 at this; unfold pow256; omega
theorem powL_step (xs : List Int) (k : Nat) (z : Int) (hz : pow256 xs k = z) : ints (pow256L xs (k + 1)) = ints (pow256L xs k) ++ [.int .i64 z] := by
  rw [← hz]; simp [ints, pow256L, mkL, List.range_succ]
theorem bothL_step (xs ys : List Int) (k : Nat) (z : Int) (hz : pow256 xs k + pow256 ys k = z) : ints (bothL xs ys (k + 1)) = ints (bothL xs ys k) ++ [.int .i64 z] := by
  rw [← hz]; simp [ints, bothL, mkL, List.range_succ]

theorem powL_at (xs : List Int) (k : Nat) (z : Int) (hz : pow256 xs k = z) : (ints (pow256L xs (k + 1)))[k]? = some (.int .i64 z) := by
  rw [ints_at _ _ (by rw [pow256L, mkL_len]; omega), pow256L, mkL_at _ _ _ (by omega), hz]

theorem sums_band (xs ys : List Int) (n : Nat) (e0 e1 e2 : Int) (hx : Small xs) (hy : Small ys) (h66 : n ≤ 66) :
    bandI (pow256L xs n) e0 e1 e2 + bandI (pow256L ys n) e0 e1 e2 = bandI (bothL xs ys n) e0 e1 e2 := by
  rw [band_whole (pow256L xs n) (mkL n fun i => xs.getD i 0 / 16777216) e0 e1 e2 n (mkL_len _ _) h66 (fun b hb => by
      have := hx.all b; unfold In64 at this
      rw [pow256L, mkL_at _ _ _ hb, mkL_at _ _ _ hb, pow256]; omega),
    band_whole (pow256L ys n) (mkL n fun i => ys.getD i 0 / 16777216) e0 e1 e2 n (mkL_len _ _) h66 (fun b hb => by
      have := hy.all b; unfold In64 at this
      rw [pow256L, mkL_at _ _ _ hb, mkL_at _ _ _ hb, pow256]; omega),
    band_whole (bothL xs ys n) (mkL n fun i => xs.getD i 0 / 16777216 + ys.getD i 0 / 16777216) e0 e1 e2 n (mkL_len _ _) h66 (fun b hb => by
      have h1 := hx.all b; have h2 := hy.all b; unfold In64 at h1 h2
      rw [bothL, mkL_at _ _ _ hb, mkL_at _ _ _ hb, pow256, pow256]; omega),
    ← band_plus]
  exact sumF_congr _ _ _ fun b hb => by rw [mkL_at _ _ _ hb, mkL_at _ _ _ hb, mkL_at _ _ _ hb]
/-- One bin alone. -/
def aloneL (n k : Nat) : List Int := (List.replicate n 0).set k 256
theorem alone_len (n k : Nat) : (aloneL n k).length = n := by simp [aloneL]
theorem alone_at (n k b : Nat) (hb : b < n) : (aloneL n k).getD b 0 = if b = k then 256 else 0 := by
  unfold aloneL
  rw [getD_set, List.length_replicate]
  by_cases e : b = k
  · subst e; rw [if_pos ⟨rfl, hb⟩, if_pos rfl]
  · rw [if_neg (fun c : k = b ∧ _ => e c.1.symm), if_neg e]; simp [List.getD_eq_getElem?_getD, hb]
theorem alone_small (n k : Nat) : Small (aloneL n k) := by
  intro x hx
  obtain ⟨i, hi, rfl⟩ := List.getElem_of_mem hx
  rw [alone_len] at hi
  have := alone_at n k i hi
  rw [List.getD_eq_getElem?_getD, List.getElem?_eq_getElem (by rw [alone_len]; exact hi)] at this
  simp at this
  rw [this]; unfold In64; split <;> omega
theorem alone_band (n k : Nat) (e0 e1 e2 : Int) (hk : k < n) (h66 : n ≤ 66) : bandI (aloneL n k) e0 e1 e2 = weightI (k : Int) e0 e1 e2 := by
  rw [band_whole (aloneL n k) (mkL n fun b => if b = k then 1 else 0) e0 e1 e2 n (alone_len n k) h66 (fun b hb => by
      rw [alone_at n k b hb, mkL_at _ _ _ hb]; split <;> omega), ← band_alone k n e0 e1 e2 hk]
  exact sumF_congr _ _ _ fun b hb => by rw [mkL_at _ _ _ hb]
theorem band_bd (p : List Int) (e0 e1 e2 : Int) : -36028797018963968 ≤ bandI p e0 e1 e2 ∧ bandI p e0 e1 e2 ≤ 36028797018963968 := by
  have := wrap_in (bandS p e0 e1 e2 p.length); unfold In64 at this; unfold bandI; omega
theorem bandsL_at (p es : List Int) (t : Nat) (ht : t < es.length - 2) : (bandsL p es).getD t 0 = bandI p (es.getD t 0) (es.getD (t + 1) 0) (es.getD (t + 2) 0) := mkL_at _ _ _ ht
theorem powL_small (xs : List Int) (k : Nat) (h : Small xs) : Small (pow256L xs k) := by
  intro x hx
  unfold pow256L mkL at hx
  obtain ⟨i, _, rfl⟩ := List.mem_map.1 hx
  have := pow_bd xs h i; unfold In64; omega
theorem bothL_small (xs ys : List Int) (k : Nat) (h : Small xs) (h2 : Small ys) : Small (bothL xs ys k) := by
  intro x hx
  unfold bothL mkL at hx
  obtain ⟨i, _, rfl⟩ := List.mem_map.1 hx
  have := pow_bd xs h i; have := pow_bd ys h2 i; unfold In64; omega

set_option maxRecDepth 100000 in
set_option maxHeartbeats 8000000 in
theorem melsums_walk (a : Option Addr) (len cap : Nat) (zs : List Int) (a1 : Option Addr) (len1 cap1 : Nat) (zs1 : List Int) (a2 : Option Addr) (len2 cap2 : Nat) (zs2 : List Int) (w : World) (h1 : IsRow .i64 w a len cap zs) (h2 : IsRow .i64 w a1 len1 cap1 zs1) (h3 : IsRow .i64 w a2 len2 cap2 zs2) :
    Calls Try.prog 7 #[.slice a len cap, .slice a1 len1 cap1, .slice a2 len2 cap2] w fun e w' => e = .returned (.bool true) ∧ Below w.heap.size w w' := by
  obtain ⟨i0, hi, hz0, hz1, hz2⟩ := info_parts Try.info3
  have HI : Hid (Try.prog.info? 3 = some i0 ∧ i0.zero = some (.int .i64 0) ∧ i0.size = 1 ∧ i0.bytes = 8) := ⟨hi, hz0, hz1, hz2⟩
  obtain ⟨xs, nx, hxn, hnx, hlx, hsx, hfewx⟩ := few66_came a len cap zs w h1
  obtain ⟨ys, ny, hyn, hny, hly, hsy, hfewy⟩ := few66_came a1 len1 cap1 zs1 w h2
  obtain ⟨es, m, hym, hm, hlen, hlen63, hle⟩ := cut12_came a2 len2 cap2 zs2 w h3
  have HX := hide (And.intro hxn (And.intro hlx hsx))
  have HYY := hide (And.intro hyn (And.intro hly hsy))
  have HFX := hide hfewx
  have HFY := hide hfewy
  have HE := hide hle
  have HEM := hide hym
  have hml : m ≤ len2 := by rcases hlen with h | h <;> omega
  have HLEN := hide hlen
  clear h1 h2 h3 hi hz0 hz1 hz2 hxn hlx hsx hfewx hyn hly hsy hfewy hle hym hlen
  go_enter Try.func7, Try.ntmps7
  go_wp2_with fail
  refine (mel_awake w).mono ?_
  rintro e w1 ⟨rfl, hb⟩
  have HB := hide hb
  clear hb
  go_upto_block 0 with fail
  go_cut [8, 9] (fun l _ wc => ∃ (a5 : Option Addr) (c5 : Nat), l = .slice a5 m c5 ∧ Hid (Lies wc a5 (lowL es m)) ∧ Hid (Below w.heap.size w wc))
  case first =>
    go_wp2_with fail
    go_loopw [9, 8] (fun i v wr => ∃ j : Nat, j ≤ m ∧ i = .int .i64 (j : Int) ∧ Hid (wr.ownsRow w1.heap.size 3 1 v j (ints (lowL es j))) ∧ Hid (Below w1.heap.size w1 wr)) (fun i _ _ => m - (intOf i).toNat)
    case atStart => exact ⟨0, by omega, rfl, World.ownsRow_nil _ _ _ _, Below.refl _ _⟩
    case round =>
      obtain ⟨j, hj, rfl, HOwn, HBr⟩ := hrel
      by_cases hlt : j < m
      · obtain ⟨b, off, rfl, hb, hc⟩ := (unhide HE).some (by intro e; have := unhide HEM; rw [e] at this; simp at this; omega)
        have hck := hc j (by rw [unhide HEM]; exact hlt)
        obtain ⟨z, hz⟩ : ∃ z, es.getD j 0 = z := ⟨_, rfl⟩
        rw [hz] at hck
        have hck : wr.cell? ⟨b, off + j, none⟩ = some (.int .i64 z) := by rw [(below_trans (unhide HB) (unhide HBr)).cell (p := ⟨b, _, none⟩) hb]; exact hck
        have HZ := hide hz
        have hj1 : (j : Int) < len2 := by omega
        have hj2 : (j : Int) < 12 := by omega
        have ha := and63 z
        clear hc hb hz
        go_wp2_with (at_builtin; refine wpList_append_own _ rfl _ _ 25 rfl w1.heap.size 3 i0 (.int .i64 0) 1 8 Try.underlying25 (unhide HI).1 (unhide HI).2.1 (unhide HI).2.2.1 (unhide HI).2.2.2 rfl (by decide) _ _ _ rfl ((unhide HOwn).alloc _) ⟨wr.heap.size, 0, none⟩ 1 1 [.int .i64 (z % 64)] rfl rfl ?d1 ?d2 ?d3 ?d4 ?d5 ?_)
        case d1 => exact cell_one_new _ _ _
        case d2 => exact ints_one [(z % 64 : Int)]
        case d3 => unfold maxLen; omega
        case d4 => omega
        case d5 => have := (unhide HBr).size; simp; omega
        intro v4 w4 hown4 hg4 _
        have hgr : ∀ q, Value.ownBlock _ = some q → w1.heap.size ≤ q := fun q hq => ((unhide HOwn).lt q hq).1
        have HB4 := hide (((unhide HBr).alloc (unhide HBr).size _).grown hg4 (by have := (unhide HBr).size; simp; omega) hgr)
        have HOwn4 := hide (show w4.ownsRow w1.heap.size 3 1 v4 (j + 1) (ints (lowL es (j + 1))) by rw [lowL_step es j z (unhide HZ)]; exact hown4)
        clear hown4 hg4 hgr
        go_wp2
        go_roundw
        case rel => exact ⟨j + 1, by omega, rfl, HOwn4, HB4⟩
        case measure => simp [intOf]; omega
      · obtain rfl : j = m := by omega
        obtain ⟨a5, c5, rfl, hl5, hlen5⟩ := owned_lies (unhide HOwn)
        rw [lowL_len]
        have HL5 := hide hl5
        have HB5 := hide (below_trans (unhide HB) (unhide HBr))
        clear hl5 hlen5 HOwn
        have hfin : ¬ ((j : Int) < len2 ∧ (j : Int) < 12) := by have := unhide HLEN; omega
        by_cases hjl : (j : Int) < len2
        case' pos => have hj12 : (12 : Int) ≤ j := by omega
        all_goals (
          clear hfin
          go_wp2
          go_meet
          case rel => exact ⟨a5, c5, rfl, HL5, HB5⟩)
  case rest =>
    obtain ⟨a5, c5, rfl, HL5, HB5⟩ := hcut
    obtain ⟨w2, rfl⟩ : ∃ w2, w2 = wc := ⟨_, rfl⟩
    clear HE HEM HLEN HB hml hlen63
    go_wp2_with fail
    refine (unhide HFX w2).mono ?_
    rintro e w3 ⟨rfl, rfl⟩
    go_wp2_with fail
    refine (unhide HFY w3).mono ?_
    rintro e w4 ⟨rfl, rfl⟩
    obtain ⟨n, hn, hnx2, hny2⟩ : ∃ n : Nat, min (nx : Int) (ny : Int) = (n : Int) ∧ n ≤ nx ∧ n ≤ ny := ⟨min nx ny, by omega, by omega, by omega⟩
    have hn66 : n ≤ 66 := by omega
    have HBX := hide ((unhide HX).2.1.below (unhide HB5))
    have HBY := hide ((unhide HYY).2.1.below (unhide HB5))
    go_wp2_with fail
    go_upto_block 2 with fail
    go_loopw [16, 13, 14, 15] (fun i u v t wr => ∃ k : Nat, k ≤ n ∧ i = .int .i64 (k : Int) ∧ Hid (Tri w4.heap.size wr u v t k k k (ints (pow256L xs k)) (ints (pow256L ys k)) (ints (bothL xs ys k))) ∧ Hid (Below w4.heap.size w4 wr)) (fun i _ _ _ _ => n - (intOf i).toNat)
    case atStart => exact ⟨0, by omega, rfl, tri_nil _ _, Below.refl _ _⟩
    case round =>
      obtain ⟨k, hk, rfl, HT, HBr⟩ := hrel
      by_cases hlt : k < n
      · have hlti : (k : Int) < (n : Int) := by omega
        obtain ⟨ba, oa, rfl, hlta, hca⟩ := (unhide HBX).some (by intro h; have := (unhide HX).1; subst h; simp at this; omega)
        obtain ⟨bb, ob, rfl, hltb, hcb⟩ := (unhide HBY).some (by intro h; have := (unhide HYY).1; subst h; simp at this; omega)
        have cx : wr.cell? ⟨ba, oa + k, none⟩ = some (.int .i64 (xs.getD k 0)) := by rw [(unhide HBr).cell (p := ⟨ba, _, none⟩) hlta]; exact hca k (by rw [(unhide HX).1]; omega)
        have cy : wr.cell? ⟨bb, ob + k, none⟩ = some (.int .i64 (ys.getD k 0)) := by rw [(unhide HBr).cell (p := ⟨bb, _, none⟩) hltb]; exact hcb k (by rw [(unhide HYY).1]; omega)
        have px := pow_bd xs (unhide HX).2.2 k
        have py := pow_bd ys (unhide HYY).2.2 k
        have hkx : (k : Int) < (nx : Int) := by omega
        have hky : (k : Int) < (ny : Int) := by omega
        obtain ⟨x, hx⟩ : ∃ x, xs.getD k 0 = x := ⟨_, rfl⟩
        obtain ⟨y, hy⟩ : ∃ x, ys.getD k 0 = x := ⟨_, rfl⟩
        rw [hx] at cx
        rw [hy] at cy
        have hpx : pow256 xs k = x / 16777216 * 256 := by unfold pow256; rw [hx]
        have hpy : pow256 ys k = y / 16777216 * 256 := by unfold pow256; rw [hy]
        rw [hpx] at px
        rw [hpy] at py
        have hin := (unhide HX).2.2.all k
        have hin2 := (unhide HYY).2.2.all k
        rw [hx] at hin
        rw [hy] at hin2
        obtain ⟨g1, g2⟩ := hin
        obtain ⟨g3, g4⟩ := hin2
        obtain ⟨z1, hz1⟩ : ∃ z, x / 16777216 * 256 = z := ⟨_, rfl⟩
        obtain ⟨z2, hz2⟩ : ∃ z, y / 16777216 * 256 = z := ⟨_, rfl⟩
        rw [hz1] at px hpx
        rw [hz2] at py hpy
        have HPX := hide hpx
        have HPY := hide hpy
        have HCY := hide (show w4.cell? ⟨bb, ob + k, none⟩ = some (.int .i64 y) by rw [← hy]; exact hcb k (by rw [(unhide HYY).1]; omega))
        clear hx hy hpx hpy hca hcb cy
        go_wp2_with (at_builtin; refine wpList_append_lies _ rfl _ _ 25 rfl w4.heap.size 3 i0 (.int .i64 0) 1 8 Try.underlying25 (unhide HI).1 (unhide HI).2.1 (unhide HI).2.2.1 (unhide HI).2.2.2 rfl (by decide) _ k _ rfl ((unhide HT).alloc _).o1 ⟨wr.heap.size, 0, none⟩ 1 1 [.int .i64 z1] rfl rfl ?d1 ?d2 ?d3 ?d4 ?d5 ?d6 (wr.heap.size + 1) ?d7 ?_)
        case d1 => exact cell_one_new _ _ _
        case d2 => exact ints_one [z1]
        case d3 => decide
        case d4 => unfold maxLen; omega
        case d5 => omega
        case d6 => have := (unhide HBr).size; simp; omega
        case d7 => simp
        intro g1 c1 w5 hown5 hg5 hat5 hlt5
        rw [← powL_step xs k z1 (unhide HPX)] at hown5
        have hgr : ∀ q, Value.ownBlock _ = some q → w4.heap.size ≤ q := fun q hq => ((unhide HT).o1.lt q hq).1
        have HBr5 := hide (((unhide HBr).alloc (unhide HBr).size _).grown hg5 (by have := (unhide HBr).size; simp; omega) hgr)
        have HT5 := hide (((unhide HT).alloc _).push hg5 (by simpa using hat5) hown5).rot
        have cy : w5.cell? ⟨bb, ob + k, none⟩ = some (.int .i64 y) := by rw [(unhide HBr5).cell (p := ⟨bb, _, none⟩) hltb]; exact unhide HCY
        clear hown5 hg5 hat5 hlt5 hgr cx HT HBr
        go_wp2_with (at_builtin; refine wpList_append_lies _ rfl _ _ 25 rfl w4.heap.size 3 i0 (.int .i64 0) 1 8 Try.underlying25 (unhide HI).1 (unhide HI).2.1 (unhide HI).2.2.1 (unhide HI).2.2.2 rfl (by decide) _ k _ rfl ((unhide HT5).alloc _).o1 ⟨w5.heap.size, 0, none⟩ 1 1 [.int .i64 z2] rfl rfl ?d1 ?d2 ?d3 ?d4 ?d5 ?d6 (w5.heap.size + 1) ?d7 ?_)
        case d1 => exact cell_one_new _ _ _
        case d2 => exact ints_one [z2]
        case d3 => decide
        case d4 => unfold maxLen; omega
        case d5 => omega
        case d6 => have := (unhide HBr5).size; simp; omega
        case d7 => simp
        intro g2 c2 w6 hown6 hg6 hat6 hlt6
        rw [← powL_step ys k z2 (unhide HPY)] at hown6
        have hgr : ∀ q, Value.ownBlock _ = some q → w4.heap.size ≤ q := fun q hq => ((unhide HT5).o1.lt q hq).1
        have HBr6 := hide (((unhide HBr5).alloc (unhide HBr5).size _).grown hg6 (by have := (unhide HBr5).size; simp; omega) hgr)
        have HT6 := hide (((unhide HT5).alloc _).push hg6 (by simpa using hat6) hown6).rot
        clear hown6 hg6 hat6 hlt6 hgr cy HT5 HBr5
        obtain ⟨kk, hkk⟩ : ∃ kk, k + 1 = kk := ⟨_, rfl⟩
        have HT60 := HT6
        rw [hkk] at HT6 ⊢
        have d1 := (unhide HT60).o2.cellAt k (by omega)
        rw [powL_at xs k z1 (unhide HPX)] at d1
        have d2 := (unhide HT60).o3.cellAt k (by omega)
        rw [powL_at ys k z2 (unhide HPY)] at d2
        have hk1 : (k : Int) < (kk : Int) := by omega
        have HKK := hide hkk
        clear HT60 hkk
        obtain ⟨z3, hz3⟩ : ∃ z, z1 + z2 = z := ⟨_, rfl⟩
        have e3 : IntKind.i64.wrap (z1 + z2) = z3 := by rw [IntKind.wrap_i64]; omega
        have HZ3 := hide hz3
        have hbwa : g1 < w6.heap.size := ((unhide HT6).o2.lt g1 rfl).2
        have hbwb : g2 < w6.heap.size := ((unhide HT6).o3.lt g2 rfl).2
        have hrow : ∀ t', t' = g1 → Value.ownBlock u15 ≠ some t' := fun t' ht e => (unhide HT6).a12 t' e (by rw [ht]; rfl)
        have hrow2 : ∀ t', t' = g2 → Value.ownBlock u15 ≠ some t' := fun t' ht e => (unhide HT6).a13 t' e (by rw [ht]; rfl)
        clear hz3 px py
        have hown := (unhide HT6).o1
        go_wp2_with fail
        go_region_held3 (fun w' => w'.cell? ⟨g1, k, none⟩ = some (.int .i64 z1) ∧ w'.cell? ⟨g2, k, none⟩ = some (.int .i64 z2)) (first | exact ⟨keep_grown hg3 hbwa hrow d1, keep_grown hg3 hbwb hrow2 d2⟩ | go_keep) ((refine step_append_lies _ (by rfl) _ _ 25 (by rfl) w4.heap.size 3 i0 (.int .i64 0) 1 8 Try.underlying25 (unhide HI).1 (unhide HI).2.1 (unhide HI).2.2.1 (unhide HI).2.2.2 (by rfl) (by decide) _ k _ (by rfl) (hown.alloc _) ⟨w6.heap.size, 0, none⟩ 1 1 [.int .i64 z3] (by rfl) (by rfl) (cell_one_new _ _ _) (ints_one [z3]) (by decide) (by unfold maxLen; omega) (by omega) (by have := (unhide HBr6).size; simp; omega) (w6.heap.size + 1) (by simp) ?_; intro g9 c9 w7 hown7 hg3 hat7 hlt7))
        rw [← bothL_step xs ys k z3 (by rw [unhide HPX, unhide HPY]; exact unhide HZ3)] at hown7
        have hgr : ∀ q, Value.ownBlock _ = some q → w4.heap.size ≤ q := fun q hq => ((unhide HT6).o1.lt q hq).1
        have HBr7 := hide ((((unhide HBr6).alloc (unhide HBr6).size _).drew).grown hg3 (by have := (unhide HBr6).size; show w4.heap.size ≤ (w6.alloc _).heap.size; simp; omega) hgr)
        have HT7 := hide ((((unhide HT6).alloc _).drew).push hg3 (by have := hat7; show _ ∨ _ = (w6.alloc _).heap.size; simpa using this) hown7).rot
        clear hown7 hg3 hat7 hlt7 hgr d1 d2 e3 hbwa hbwb hrow hrow2 hown HT6 HBr6 hz1 hz2
        obtain rfl := unhide HKK
        clear HKK hk1
        go_wp2
        go_roundw
        case rel => exact ⟨k + 1, by omega, by go_num, HT7, HBr7⟩
        case measure => simp [intOf]; omega
      · obtain rfl : n = k := by omega
        have hge : ¬ (n : Int) < (n : Int) := by omega
        have HTT := unhide HT
        obtain ⟨p1, c1, rfl, hl1, _⟩ := owned_lies HTT.o1
        obtain ⟨p2, c2, rfl, hl2, _⟩ := owned_lies HTT.o2
        obtain ⟨p3, c3, rfl, hl3, _⟩ := owned_lies HTT.o3
        rw [show (pow256L xs n).length = n from mkL_len _ _, show (pow256L ys n).length = n from mkL_len _ _, show (bothL xs ys n).length = n from mkL_len _ _]
        have HL1 := hide hl1
        have HL2 := hide hl2
        have HL3 := hide hl3
        have HBw := hide (below_trans (unhide HB5) (unhide HBr))
        have HLE := hide ((unhide HL5).below (unhide HBr))
        obtain ⟨w5, rfl⟩ : ∃ w5, w5 = wr := ⟨_, rfl⟩
        clear hl1 hl2 hl3 HTT HT HBr HL5 HB5 HBX HBY HFX HFY hk hlt
        obtain ⟨d, hd⟩ : ∃ d, d = m - 2 := ⟨_, rfl⟩
        have HDM := hide hd
        clear hd
        go_wp2_with fail
        refine (bands_any p1 c1 n (pow256L xs n) a5 c5 m (lowL es m) _ (unhide HL1) (powL_small xs n (unhide HX).2.2) (mkL_len _ _) (by omega) (unhide HLE) (lowL_small es m) (lowL_len es m) (by omega)).mono ?_
        intro e w6 hT
        obtain ⟨r1, s1, rfl, hl, hb⟩ := told_len hT (n := d) (by rw [bands_len, lowL_len, unhide HDM])
        have HR1 := hide hl
        have HBB1 := hide hb
        clear hT hl hb
        go_wp2_with fail
        refine (bands_any p2 c2 n (pow256L ys n) a5 c5 m (lowL es m) _ ((unhide HL2).below (unhide HBB1)) (powL_small ys n (unhide HYY).2.2) (mkL_len _ _) (by omega) ((unhide HLE).below (unhide HBB1)) (lowL_small es m) (lowL_len es m) (by omega)).mono ?_
        intro e w7 hT
        obtain ⟨r2, s2, rfl, hl, hb⟩ := told_len hT (n := d) (by rw [bands_len, lowL_len, unhide HDM])
        have HR2 := hide hl
        have HBB2 := hide hb
        clear hT hl hb
        have HB12 := hide (below_trans (unhide HBB1) (unhide HBB2))
        go_wp2_with fail
        refine (bands_any p3 c3 n (bothL xs ys n) a5 c5 m (lowL es m) _ ((unhide HL3).below (unhide HB12)) (bothL_small xs ys n (unhide HX).2.2 (unhide HYY).2.2) (mkL_len _ _) (by omega) ((unhide HLE).below (unhide HB12)) (lowL_small es m) (lowL_len es m) (by omega)).mono ?_
        intro e w8 hT
        obtain ⟨r3, s3, rfl, hl, hb⟩ := told_len hT (n := d) (by rw [bands_len, lowL_len, unhide HDM])
        have HR3 := hide hl
        have HBB3 := hide hb
        clear hT hl hb
        have HB23 := hide (below_trans (unhide HBB2) (unhide HBB3))
        have HB8 := hide (below_trans (unhide HBw) (below_trans (unhide HB12) (unhide HBB3)))
        have HQ1 := hide ((unhide HR1).below (unhide HB23))
        have HQ2 := hide ((unhide HR2).below (unhide HBB3))
        have HQE := hide ((unhide HLE).below (below_trans (unhide HB12) (unhide HBB3)))
        have hmax : max ((m : Int) - 2) 0 = (d : Int) := by have := unhide HDM; omega
        clear HL1 HL2 HL3 HLE HBw HBB1 HBB2 HBB3 HB12 HB23 HR1 HR2
        go_wp2_with fail
        go_loopw [20] (fun i wr => ∃ t : Nat, t ≤ d ∧ i = .int .i64 (t : Int) ∧ Hid (Below w8.heap.size w8 wr)) (fun i _ => d - (intOf i).toNat)
        case atStart => exact ⟨0, by omega, rfl, Below.refl _ _⟩
        case round =>
          obtain ⟨t, ht, rfl, HBr⟩ := hrel
          obtain ⟨wq, rfl⟩ : ∃ wq, wq = wr := ⟨_, rfl⟩
          by_cases hlt : t < d
          · have hti : (t : Int) < (d : Int) := by omega
            have htm : t < (lowL es m).length - 2 := by rw [lowL_len]; have := unhide HDM; omega
            obtain ⟨t1, ht1⟩ : ∃ t1, t + 1 = t1 := ⟨_, rfl⟩
            obtain ⟨t2, ht2⟩ : ∃ t2, t + 2 = t2 := ⟨_, rfl⟩
            obtain ⟨e0, he0⟩ : ∃ x, (lowL es m).getD t 0 = x := ⟨_, rfl⟩
            obtain ⟨e1, he1⟩ : ∃ x, (lowL es m).getD t1 0 = x := ⟨_, rfl⟩
            obtain ⟨e2, he2⟩ : ∃ x, (lowL es m).getD t2 0 = x := ⟨_, rfl⟩
            have hbl : ∀ P : List Int, (bandsL P (lowL es m)).length = d := fun P => by rw [bands_len, lowL_len, unhide HDM]
            have hba : ∀ P : List Int, (bandsL P (lowL es m)).getD t 0 = bandI P e0 e1 e2 := fun P => by rw [bandsL_at P _ t htm, ht1, ht2, he0, he1, he2]
            have hcell : ∀ (r : Option Addr) (P : List Int), Lies w8 r (bandsL P (lowL es m)) → ∃ b o, r = some ⟨b, o, none⟩ ∧ wq.cell? ⟨b, o + t, none⟩ = some (.int .i64 (bandI P e0 e1 e2)) := fun r P h => by
              obtain ⟨b, o, h1, h2, h3⟩ := h.some (by intro e; have := hbl P; rw [e] at this; simp at this; omega)
              exact ⟨b, o, h1, by rw [(unhide HBr).cell (p := ⟨b, _, none⟩) h2, ← hba P]; exact h3 t (by rw [hbl]; exact hlt)⟩
            obtain ⟨b1, o1, rfl, q1⟩ := hcell _ _ (unhide HQ1)
            obtain ⟨b2, o2, rfl, q2⟩ := hcell _ _ (unhide HQ2)
            obtain ⟨b3, o3, rfl, q3⟩ := hcell _ _ (unhide HR3)
            obtain ⟨b4, o4, rfl, hlt4, hc4⟩ := (unhide HQE).some (by intro e; rw [e] at htm; simp at htm)
            have y0 : w8.cell? ⟨b4, o4 + t, none⟩ = some (.int .i64 e0) := by rw [← he0]; exact hc4 t (by omega)
            have y1 : w8.cell? ⟨b4, o4 + t1, none⟩ = some (.int .i64 e1) := by rw [← he1]; exact hc4 t1 (by omega)
            have y2 : w8.cell? ⟨b4, o4 + t2, none⟩ = some (.int .i64 e2) := by rw [← he2]; exact hc4 t2 (by omega)
            have f0 : 0 ≤ e0 ∧ e0 ≤ 63 := by rw [← he0]; exact lowL_bd _ _ _
            have f1 : 0 ≤ e1 ∧ e1 ≤ 63 := by rw [← he1]; exact lowL_bd _ _ _
            have f2 : 0 ≤ e2 ∧ e2 ≤ 63 := by rw [← he2]; exact lowL_bd _ _ _
            have hsum := sums_band xs ys n e0 e1 e2 (unhide HX).2.2 (unhide HYY).2.2 hn66
            have d1 := band_bd (pow256L xs n) e0 e1 e2
            have d2 := band_bd (pow256L ys n) e0 e1 e2
            obtain ⟨z1, hz1⟩ : ∃ z, bandI (pow256L xs n) e0 e1 e2 = z := ⟨_, rfl⟩
            obtain ⟨z2, hz2⟩ : ∃ z, bandI (pow256L ys n) e0 e1 e2 = z := ⟨_, rfl⟩
            obtain ⟨z3, hz3⟩ : ∃ z, bandI (bothL xs ys n) e0 e1 e2 = z := ⟨_, rfl⟩
            rw [hz1] at q1 hsum d1
            rw [hz2] at q2 hsum d2
            rw [hz3] at q3 hsum
            have i3 : IntKind.i64.wrap (z1 + z2) = z3 := by rw [IntKind.wrap_i64]; omega
            have HY := hide (And.intro y0 (And.intro y1 y2))
            have HFF := hide (And.intro f0 (And.intro f1 f2))
            have HBA := hide hba
            have HBL := hide hbl
            have HT12 := hide (And.intro ht1 ht2)
            clear hz1 hz2 hz3 hsum d1 d2 y0 y1 y2 f0 f1 f2 hba hbl hcell hc4 he0 he1 he2 htm ht1 ht2
            go_wp2_with fail
            go_region
            have HBd := hide (show Below w8.heap.size w8 wq.drew from (unhide HBr).drew)
            clear HBr q1 q2 q3 i3 HQ1 HQ2 HR3
            go_wp2_with fail
            go_loopw [21] (fun i wr => ∃ k : Nat, k ≤ n ∧ i = .int .i64 (k : Int) ∧ Hid (Below w8.heap.size w8 wr)) (fun i _ => n - (intOf i).toNat)
            case atStart => exact ⟨0, by omega, rfl, HBd⟩
            case round =>
              obtain ⟨k, hk, rfl, HBk⟩ := hrel
              obtain ⟨wk, rfl⟩ : ∃ wk, wk = wr := ⟨_, rfl⟩
              by_cases hlk : k < n ∧ k < 8
              · have hkn : (k : Int) < (n : Int) := by omega
                have hk8 : (k : Int) < 8 := by omega
                go_wp2_with (at_make; refine wpList_make_full _ rfl _ _ 25 rfl wk.heap.size 3 i0 (.int .i64 0) 1 Try.underlying25 (unhide HI).1 (unhide HI).2.1 (unhide HI).2.2.1 _ _ _ _ n rfl rfl rfl rfl ?m1 ?m2 ?m3 ?_)
                case m1 => rw [(unhide HI).2.2.2]; omega
                case m2 => unfold maxLen; omega
                case m3 => exact Nat.le_refl _
                intro w9 hown hgr
                rw [ints_zero] at hown
                have HO := hide (own_cells hown)
                have hbk : Below wk.heap.size wk w9 := (Below.refl wk.heap.size wk).grown hgr (Nat.le_refl _) (fun _ h => by cases h)
                have HB9 := hide ((unhide HBk).trans (hbk.mono (unhide HBk).size))
                obtain ⟨G, hG⟩ : ∃ G, wk.heap.size = G := ⟨_, rfl⟩
                have hG8 : w8.heap.size ≤ G := by rw [← hG]; exact (unhide HBk).size
                rw [hG] at HO ⊢
                clear hown hgr hbk HBk hG
                have hcell := (unhide HO).cell k _ (ints_at _ k (by simpa using hlk.1))
                have hfree := (unhide HO).free k
                have HS := hide ((unhide HO).set k (.int .i64 256))
                rw [ints_set] at HS
                have HBS := hide ((unhide HB9).setCell (p := ⟨G, k, none⟩) hG8 (.int .i64 256))
                clear HO HB9 hG8
                go_wp2_with fail
                refine (bands_any (some ⟨G, 0, none⟩) n n (aloneL n k) (some ⟨b4, o4, none⟩) c5 m (lowL es m) _ (unhide HS).lies (alone_small n k) (alone_len n k) (by omega) ((unhide HQE).below (unhide HBS)) (lowL_small es m) (lowL_len es m) (by omega)).mono ?_
                intro e w10 hT
                obtain ⟨r4, s4, rfl, hl, hb⟩ := told_len hT (n := d) (unhide HBL _)
                have HB10 := hide ((unhide HBS).trans (hb.mono (unhide HBS).size))
                obtain ⟨b5, o5, rfl, _, h5⟩ := hl.some (by intro e; have := unhide HBL (aloneL n k); rw [e] at this; simp at this; omega)
                obtain ⟨zw, hzw⟩ : ∃ z, weightI (k : Int) e0 e1 e2 = z := ⟨_, rfl⟩
                have v0 : w10.cell? ⟨b5, o5 + t, none⟩ = some (.int .i64 zw) := by rw [h5 t (by rw [unhide HBL]; exact hlt), unhide HBA, alone_band n k e0 e1 e2 hlk.1 hn66, hzw]
                have y0 : w10.cell? ⟨b4, o4 + t, none⟩ = some (.int .i64 e0) := ((unhide HB10).cell (p := ⟨b4, _, none⟩) hlt4).trans (unhide HY).1
                have y1 : w10.cell? ⟨b4, o4 + t1, none⟩ = some (.int .i64 e1) := ((unhide HB10).cell (p := ⟨b4, _, none⟩) hlt4).trans (unhide HY).2.1
                have y2 : w10.cell? ⟨b4, o4 + t2, none⟩ = some (.int .i64 e2) := ((unhide HB10).cell (p := ⟨b4, _, none⟩) hlt4).trans (unhide HY).2.2
                have i1 : IntKind.i64.wrap ((t : Int) + 1) = (t1 : Int) := by have := (unhide HT12).1; rw [IntKind.wrap_i64]; have := unhide HDM; omega
                have i2 : IntKind.i64.wrap ((t : Int) + 2) = (t2 : Int) := by have := (unhide HT12).2; rw [IntKind.wrap_i64]; have := unhide HDM; omega
                have j0 : (t : Int) < (m : Int) := by have := unhide HDM; omega
                have j1 : (t1 : Int) < (m : Int) := by have := (unhide HT12).1; have := unhide HDM; omega
                have j2 : (t2 : Int) < (m : Int) := by have := (unhide HT12).2; have := unhide HDM; omega
                have HW : Hid (∀ w0, Calls Try.prog 14 #[.int .i64 (k : Int), .int .i64 e0, .int .i64 e1, .int .i64 e2] w0 fun e w' => e = .returned (.int .i64 zw) ∧ ∃ d, w' = w0.drewN d) := fun w0 => by
                  rw [← hzw]
                  have hf := unhide HFF
                  exact weight_quiet (k : Int) e0 e1 e2 w0 (by unfold In64; omega) (by unfold In64; omega) (by unfold In64; omega) (by unfold In64; omega)
                clear hzw h5 hl hb hT HS HBS hcell hfree
                go_wp2_with fail
                go_quiet ((go_at_call 14; exact Calls.quiet_of (unhide HW _)))
                have HB11 := hide (show Below w8.heap.size w8 (w10.drewN nq) from (unhide HB10).trans ((below_drewN w10 nq).mono (unhide HB10).size))
                clear HB10 v0 y0 y1 y2 i1 i2 j0 j1 j2 HW
                go_wp2
                go_roundw
                case rel => exact ⟨k + 1, by omega, by go_num, HB11⟩
                case measure => simp [intOf]; omega
              · by_cases hkn : (k : Int) < (n : Int)
                case' pos => have hk8 : ¬ (k : Int) < 8 := by omega
                all_goals clear hlk
                all_goals (
                  go_wp2
                  go_roundw
                  case rel => exact ⟨t + 1, by omega, by go_num, HBk⟩
                  case measure => simp [intOf]; omega)
          · have hge2 : ¬ (t : Int) < (d : Int) := by omega
            have HBF := hide (below_trans (unhide HB8) (unhide HBr))
            clear HBr HB8
            go_wp2_with fail
            go_ret
            exact ⟨rfl, unhide HBF⟩
end Go.Proofs.Ytmogegacgmgkbaa
