/- The walk of LogsNorm. -/
import Derived.Test.YtbommgfoahopfaaTell
namespace Go.Proofs.Ytbommgfoahopfaa
open Go.RowKit
set_option linter.unusedVariables false

def negI (z : Int) : Int := wrap64 (-z)
def negTo (xs : List Int) (k : Nat) : List Int := (xs.take k).map negI
def preTo (xs : List Int) (k : Nat) : List Int := xs.take k
theorem negI_in (z : Int) : In64 (negI z) := by unfold negI wrap64; exact ⟨by omega, by omega⟩
theorem nbI_neg (z : Int) (h : In64 z) : nbI (negI z) = nbI z := by
  obtain ⟨h1, h2⟩ := h
  rw [nbI_eq, nbI_eq, show (negI z).natAbs = z.natAbs by unfold negI wrap64; omega]
theorem nbI_pos (z : Int) (h : 0 < z) : nbI z = blI z := by
  rw [nbI_eq]; unfold blI; rw [show z.natAbs = z.toNat by omega]
theorem negTo_succ (xs : List Int) (k : Nat) (h : k < xs.length) : negTo xs (k + 1) = negTo xs k ++ [negI (xs.getD k 0)] := by
  unfold negTo
  rw [List.take_succ_eq_append_getElem h, List.map_append, List.getD_eq_getElem?_getD, List.getElem?_eq_getElem h]
  rfl
theorem neg_small (xs : List Int) (k : Nat) : Small (negTo xs k) := by
  intro y hy
  unfold negTo at hy
  obtain ⟨z, _, rfl⟩ := List.mem_map.1 hy
  exact negI_in z
theorem norm_neg (l : List Int) (h : Small l) : normI (l.map negI) = normI l := by
  unfold normI
  induction l with
  | nil => rfl
  | cons y l ih =>
    have h1 := nbI_neg y (h y (by simp))
    have h2 := ih (fun z hz => h z (by simp [hz]))
    rw [nbI_eq, nbI_eq] at h1
    show ((max (bl (negI y).natAbs) (normN (l.map negI)) : Nat) : Int) = ((max (bl y.natAbs) (normN l) : Nat) : Int)
    omega
theorem pre_small (xs : List Int) (k : Nat) (h : Small xs) : Small (preTo xs k) := fun y hy => h y (List.mem_of_mem_take hy)
theorem pre_len (xs : List Int) (k : Nat) (h : k ≤ xs.length) : (preTo xs k).length = k := by unfold preTo; rw [List.length_take]; omega
theorem norm_facts (xs : List Int) (N : Nat) (hN : xs.length = N) (hs : Small xs) : (∀ k, k < N → nbI (xs.getD k 0) ≤ normI xs) ∧ (∀ k, normI (preTo xs k) ≤ normI xs) ∧
    (normI xs = 0 ∨ ∃ j, j < N ∧ nbI (xs.getD j 0) = normI xs) ∧ normI (negTo xs N) = normI xs ∧ 0 ≤ normI xs ∧ normI xs ≤ 64 := by
  have e := normTo_all xs N hN
  have b := normTo_bd xs hs N (by omega)
  rw [e] at b
  refine ⟨fun k hk => ?_, fun k => ?_, ?_, ?_, b.1, b.2⟩
  · have := normN_mem xs (xs.getD k 0) (by rw [List.getD_eq_getElem?_getD, List.getElem?_eq_getElem (by omega)]; simp)
    rw [nbI_eq]; unfold normI; omega
  · have := normN_take xs k
    unfold normI preTo; omega
  · rcases normN_met xs with h | ⟨x, hx, h⟩
    · left; unfold normI; omega
    · right
      obtain ⟨j, hj, rfl⟩ := List.getElem_of_mem hx
      refine ⟨j, by omega, ?_⟩
      rw [List.getD_eq_getElem?_getD, List.getElem?_eq_getElem hj, nbI_eq]
      unfold normI
      simp only [Option.getD_some]
      omega
  · unfold negTo
    rw [show xs.take N = xs by rw [← hN, List.take_length]]
    exact norm_neg xs hs
theorem met_step (xs : List Int) (n : Int) (k : Nat) (B : Bool) (h : B = true ↔ (n = 0 ∨ ∃ j, j < k ∧ nbI (xs.getD j 0) = n)) (B' : Bool) (h' : B' = true ↔ (B = true ∨ nbI (xs.getD k 0) = n)) :
    B' = true ↔ (n = 0 ∨ ∃ j, j < k + 1 ∧ nbI (xs.getD j 0) = n) := by
  rw [h', h]
  constructor
  · rintro ((h | ⟨j, hj, e⟩) | h)
    · exact .inl h
    · exact .inr ⟨j, by omega, e⟩
    · exact .inr ⟨k, by omega, h⟩
  · rintro (h | ⟨j, hj, e⟩)
    · exact .inl (.inl h)
    · by_cases c : j = k
      · subst c; exact .inr e
      · exact .inl (.inr ⟨j, by omega, e⟩)
theorem append_new (w : World) (o : Obj) (x : Value) (t : TypeId) : ∀ j u, [x][j]? = some u → ((w.alloc o).alloc (.cells #[x] t)).cell? ((⟨w.heap.size + 1, 0, none⟩ : Addr).add j) = some u := by
  have h := cell_one_new (w.alloc o) x t
  rwa [World.size_alloc] at h
theorem norm_nil : normI [] = 0 := rfl
theorem norm_least : normI [-9223372036854775808] = 64 := by decide +kernel
theorem norm_one (z : Int) : normI [z] = nbI z := by rw [nbI_eq]; unfold normI; rw [normN_one]

set_option maxRecDepth 100000 in
set_option maxHeartbeats 4000000 in
theorem norm_walk (a : Option Addr) (len cap : Nat) (zs : List Int) (w : World) (hrow : IsRow .i64 w a len cap zs) :
    Calls Try.prog 7 #[.slice a len cap] w fun e w' => e = .returned (.bool true) ∧ Below w.heap.size w w' := by
  obtain ⟨xs, N, hN, h40, hcap, hmax, hl, hs, hcase⟩ := cut_came a len cap zs w hrow
  clear hrow
  obtain ⟨i0, hi, hz0, hz1, hz2⟩ := info_parts Try.info3
  obtain ⟨f1, f2, f3, f4, f5, f6⟩ := norm_facts xs N hN hs
  have HN := hide hN
  clear hN
  have h40c : (N : Int) ≤ (cap : Int) := by omega
  have HNN := hide (show normI xs = normI xs from rfl)
  generalize hnn : normI xs = n at f1 f2 f3 f4 f5 f6
  have HE := hide hnn
  have H1 := hide f1
  have H2 := hide f2
  have H3 := hide f3
  have H4 := hide f4
  clear hnn f1 f2 f3 f4 HNN
  rcases hcase with e | ⟨hlen, rfl, ad, rfl⟩
  · obtain rfl : N = len := e.symm
    have hlen : ¬ ((40 : Int) < (N : Int)) := by omega
    go_enter Try.func7, Try.ntmps7
    go_wp2_with fail
    refine (awake_any _).mono ?_
    rintro e w1 ⟨rfl, hb1⟩
    have hl1 := hl.below hb1
    go_wp2_with fail
    refine (norm_any _ _ xs _ (unhide HN) _ hl1 hs (by omega)).mono ?_
    rintro e w2 ⟨rfl, rfl⟩
    rw [unhide HE]
    go_wp2
    go_loopw [5, 6, 7] (fun m v i wr => ∃ (k : Nat) (B : Bool), k ≤ N ∧ i = .int .i64 k ∧ m = .bool B ∧ wr.ownsRow w2.heap.size 3 1 v k ((negTo xs k).map (Value.int .i64)) ∧ Below w2.heap.size w2 wr ∧ Hid (B = true ↔ (n = 0 ∨ ∃ j, j < k ∧ nbI (xs.getD j 0) = n))) (fun _ _ i _ => N - (intOf i).toNat)
    case atStart => exact ⟨0, n == 0, Nat.zero_le _, rfl, rfl, World.ownsRow_nil _ _ _ _, Below.refl _ _, hide (by simp)⟩
    case round =>
      obtain ⟨k, B, hk, rfl, rfl, hown, hb2, HB⟩ := hrel
      by_cases hlt : k < N
      · rcases hl1 with h0 | ⟨ba, off, hae, hblt, hcells⟩
        · have := unhide HN; rw [h0] at this; (simp at this <;> omega)
        subst hae
        have hlx : k < xs.length := by rw [unhide HN]; exact hlt
        have hc : wr.cell? ⟨ba, off + k, none⟩ = some (.int .i64 (xs.getD k 0)) := by rw [hb2.cell (p := ⟨ba, _, none⟩) hblt]; exact hcells _ hlx
        have hz := hs.at k hlx
        have hsucc := negTo_succ xs k hlx
        have g1 := unhide H1 k hlt
        have g2 := unhide H2 k
        have HPL := hide (pre_len xs k (Nat.le_of_lt hlx))
        have HPS := hide (pre_small xs k hs)
        have HNB := hide (show ∀ B' : Bool, (B' = true ↔ (B = true ∨ nbI (xs.getD k 0) = n)) → (B' = true ↔ (n = 0 ∨ ∃ j, j < k + 1 ∧ nbI (xs.getD j 0) = n)) from met_step xs n k B (unhide HB))
        generalize hzz : xs.getD k 0 = z at *
        have HS := hide hsucc
        have hsz := hb2.size
        have hb3 : Below w2.heap.size w2 (wr.alloc (.cells #[.int .i64 z] 3)) := hb2.alloc hsz _
        have hlp : Lies (wr.alloc (.cells #[.int .i64 z] 3)) (some ⟨ba, off, none⟩) (preTo xs k) :=
          lies_take ((show Lies w2 (some ⟨ba, off, none⟩) xs from .inr ⟨ba, off, rfl, hblt, hcells⟩).below hb3) k (Nat.le_of_lt hlx)
        have hkl : (k : Int) < (N : Int) := by omega
        have hkc : (k : Int) ≤ (cap : Int) := by omega
        obtain ⟨d1, d2⟩ := nbI_bd z hz
        have hz' := hz
        obtain ⟨z1, z2⟩ := hz'
        have hc3 : (wr.alloc (.cells #[.int .i64 z] 3)).cell? ⟨ba, off + k, none⟩ = some (.int .i64 z) := by
          rw [hb3.cell (p := ⟨ba, _, none⟩) hblt, ← hb2.cell (p := ⟨ba, _, none⟩) hblt]; exact hc
        clear hzz hsucc hcells HB
        go_wp2_with fail
        refine (norm_any _ _ [z] 1 rfl _ (lies_new wr [z] _ rfl) (by intro y hy; rw [List.mem_singleton.1 hy]; exact hz) (by decide)).mono ?_
        rintro e w3 ⟨rfl, rfl⟩
        rw [norm_one]
        go_wp2_with fail
        refine (norm_any _ _ (preTo xs k) k (unhide HPL) _ hlp (unhide HPS) (by omega)).mono ?_
        rintro e w4 ⟨rfl, rfl⟩
        cases B
        · have HNB' := hide (unhide HNB (nbI z == n) (by simp))
          go_wp2_with (at_builtin; refine wpList_append_own _ rfl _ _ 23 rfl w2.heap.size 3 i0 (.int .i64 0) 1 8 Try.underlying23 hi hz0 hz1 hz2 rfl (by decide) _ _ _ rfl ((hown.alloc _).alloc _) ⟨wr.heap.size + 1, 0, none⟩ 1 1 [.int .i64 (wrap64 (-z))] rfl rfl ?d1 ?d2 ?d3 ?d4 ?d5 ?_)
          case d1 => exact append_new _ _ _ _
          case d2 => exact ints_one [wrap64 (-z)]
          case d3 => unfold maxLen; omega
          case d4 => omega
          case d5 => simp; omega
          intro v4 w4 hown4 hg4 _
          have hb4 : Below w2.heap.size w2 w4 := (((hb2.alloc hsz _).alloc (by simp; omega) _)).grown hg4 (by simp; omega) (fun j hj => (hown.lt j hj).1)
          have hc4 : w4.cell? ⟨ba, off + k, none⟩ = some (.int .i64 z) := by
            rw [hb4.cell (p := ⟨ba, _, none⟩) hblt, ← hb2.cell (p := ⟨ba, _, none⟩) hblt]; exact hc
          clear hg4 hc hc3 hb3 hlp
          by_cases hpos : 0 < z
          · have hzb := nbI_pos z hpos
            go_wp2_with fail
            refine (bits_any z _ ⟨by omega, by omega⟩).mono ?_
            rintro e w5 ⟨rfl, rfl⟩
            rw [← hzb]
            clear hzb
            go_wp2
            go_roundw
            case rel => exact ⟨k + 1, nbI z == n, by omega, by go_num, rfl, by rw [unhide HS, List.map_append]; exact hown4, hb4, hide (by simpa using unhide HNB')⟩
            case measure => simp [intOf]; omega
          · go_wp2
            go_roundw
            case rel => exact ⟨k + 1, nbI z == n, by omega, by go_num, rfl, by rw [unhide HS, List.map_append]; exact hown4, hb4, hide (by simpa using unhide HNB')⟩
            case measure => simp [intOf]; omega
        · have HNB' := hide (unhide HNB true (by simp))
          go_wp2_with (at_builtin; refine wpList_append_own _ rfl _ _ 23 rfl w2.heap.size 3 i0 (.int .i64 0) 1 8 Try.underlying23 hi hz0 hz1 hz2 rfl (by decide) _ _ _ rfl ((hown.alloc _).alloc _) ⟨wr.heap.size + 1, 0, none⟩ 1 1 [.int .i64 (wrap64 (-z))] rfl rfl ?d1 ?d2 ?d3 ?d4 ?d5 ?_)
          case d1 => exact append_new _ _ _ _
          case d2 => exact ints_one [wrap64 (-z)]
          case d3 => unfold maxLen; omega
          case d4 => omega
          case d5 => simp; omega
          intro v4 w4 hown4 hg4 _
          have hb4 : Below w2.heap.size w2 w4 := (((hb2.alloc hsz _).alloc (by simp; omega) _)).grown hg4 (by simp; omega) (fun j hj => (hown.lt j hj).1)
          have hc4 : w4.cell? ⟨ba, off + k, none⟩ = some (.int .i64 z) := by
            rw [hb4.cell (p := ⟨ba, _, none⟩) hblt, ← hb2.cell (p := ⟨ba, _, none⟩) hblt]; exact hc
          clear hg4 hc hc3 hb3 hlp
          by_cases hpos : 0 < z
          · have hzb := nbI_pos z hpos
            go_wp2_with fail
            refine (bits_any z _ ⟨by omega, by omega⟩).mono ?_
            rintro e w5 ⟨rfl, rfl⟩
            rw [← hzb]
            clear hzb
            go_wp2
            go_roundw
            case rel => exact ⟨k + 1, true, by omega, by go_num, rfl, by rw [unhide HS, List.map_append]; exact hown4, hb4, hide (by simpa using unhide HNB')⟩
            case measure => simp [intOf]; omega
          · go_wp2
            go_roundw
            case rel => exact ⟨k + 1, true, by omega, by go_num, rfl, by rw [unhide HS, List.map_append]; exact hown4, hb4, hide (by simpa using unhide HNB')⟩
            case measure => simp [intOf]; omega
      · have e : N = k := by omega
        subst e
        obtain ⟨ta, tc, hv, htl, htlen⟩ := owned_lies hown
        rw [htlen] at hv
        subst hv
        have HT := hide htlen
        have HTS := hide (neg_small xs N)
        have hB : B = true := (unhide HB).2 (unhide H3)
        subst hB
        have hball := below_trans hb1 hb2
        obtain ⟨w3, rfl⟩ : ∃ w3, w3 = wr := ⟨_, rfl⟩
        clear hown hl1 hb1 hb2 HB htlen hk hlt
        go_wp2_with fail
        refine (norm_any ta tc (negTo xs N) N (unhide HT) _ htl (unhide HTS) (by omega)).mono ?_
        rintro e w4 ⟨rfl, rfl⟩
        rw [unhide H4]
        go_wp2_with fail
        refine (norm_any none 0 [] 0 rfl _ (.inl rfl) (by intro y hy; simp at hy) (by decide)).mono ?_
        rintro e w5 ⟨rfl, rfl⟩
        rw [norm_nil]
        go_wp2_with fail
        refine (norm_any _ _ [-9223372036854775808] 1 rfl _ (lies_new _ [-9223372036854775808] _ rfl) (by intro y hy; rw [List.mem_singleton.1 hy]; exact ⟨by decide, by decide⟩) (by decide)).mono ?_
        rintro e w6 ⟨rfl, rfl⟩
        rw [norm_least]
        go_wp2
        go_ret
        exact ⟨rfl, hball.alloc hball.size _⟩
  · have hlen' : (40 : Int) < (len : Int) := by omega
    clear hlen
    go_enter Try.func7, Try.ntmps7
    go_wp2_with fail
    refine (awake_any _).mono ?_
    rintro e w1 ⟨rfl, hb1⟩
    have hl1 := hl.below hb1
    go_wp2_with fail
    refine (norm_any _ _ xs _ (unhide HN) _ hl1 hs (by omega)).mono ?_
    rintro e w2 ⟨rfl, rfl⟩
    rw [unhide HE]
    go_wp2
    go_loopw [5, 6, 7] (fun m v i wr => ∃ (k : Nat) (B : Bool), k ≤ 40 ∧ i = .int .i64 k ∧ m = .bool B ∧ wr.ownsRow w2.heap.size 3 1 v k ((negTo xs k).map (Value.int .i64)) ∧ Below w2.heap.size w2 wr ∧ Hid (B = true ↔ (n = 0 ∨ ∃ j, j < k ∧ nbI (xs.getD j 0) = n))) (fun _ _ i _ => 40 - (intOf i).toNat)
    case atStart => exact ⟨0, n == 0, Nat.zero_le _, rfl, rfl, World.ownsRow_nil _ _ _ _, Below.refl _ _, hide (by simp)⟩
    case round =>
      obtain ⟨k, B, hk, rfl, rfl, hown, hb2, HB⟩ := hrel
      by_cases hlt : k < 40
      · rcases hl1 with h0 | ⟨ba, off, hae, hblt, hcells⟩
        · have := unhide HN; rw [h0] at this; (simp at this <;> omega)
        obtain rfl : ad = ⟨ba, off, none⟩ := Option.some.inj hae
        have hlx : k < xs.length := by rw [unhide HN]; exact hlt
        have hc : wr.cell? ⟨ba, off + k, none⟩ = some (.int .i64 (xs.getD k 0)) := by rw [hb2.cell (p := ⟨ba, _, none⟩) hblt]; exact hcells _ hlx
        have hz := hs.at k hlx
        have hsucc := negTo_succ xs k hlx
        have g1 := unhide H1 k hlt
        have g2 := unhide H2 k
        have HPL := hide (pre_len xs k (Nat.le_of_lt hlx))
        have HPS := hide (pre_small xs k hs)
        have HNB := hide (show ∀ B' : Bool, (B' = true ↔ (B = true ∨ nbI (xs.getD k 0) = n)) → (B' = true ↔ (n = 0 ∨ ∃ j, j < k + 1 ∧ nbI (xs.getD j 0) = n)) from met_step xs n k B (unhide HB))
        generalize hzz : xs.getD k 0 = z at *
        have HS := hide hsucc
        have hsz := hb2.size
        have hb3 : Below w2.heap.size w2 (wr.alloc (.cells #[.int .i64 z] 3)) := hb2.alloc hsz _
        have hlp : Lies (wr.alloc (.cells #[.int .i64 z] 3)) (some ⟨ba, off, none⟩) (preTo xs k) :=
          lies_take ((show Lies w2 (some ⟨ba, off, none⟩) xs from .inr ⟨ba, off, rfl, hblt, hcells⟩).below hb3) k (Nat.le_of_lt hlx)
        have hkl : (k : Int) < (40 : Int) := by omega
        have hkc : (k : Int) ≤ (cap : Int) := by omega
        obtain ⟨d1, d2⟩ := nbI_bd z hz
        have hz' := hz
        obtain ⟨z1, z2⟩ := hz'
        have hc3 : (wr.alloc (.cells #[.int .i64 z] 3)).cell? ⟨ba, off + k, none⟩ = some (.int .i64 z) := by
          rw [hb3.cell (p := ⟨ba, _, none⟩) hblt, ← hb2.cell (p := ⟨ba, _, none⟩) hblt]; exact hc
        clear hzz hsucc hcells HB
        go_wp2_with fail
        refine (norm_any _ _ [z] 1 rfl _ (lies_new wr [z] _ rfl) (by intro y hy; rw [List.mem_singleton.1 hy]; exact hz) (by decide)).mono ?_
        rintro e w3 ⟨rfl, rfl⟩
        rw [norm_one]
        go_wp2_with fail
        refine (norm_any _ _ (preTo xs k) k (unhide HPL) _ hlp (unhide HPS) (by omega)).mono ?_
        rintro e w4 ⟨rfl, rfl⟩
        cases B
        · have HNB' := hide (unhide HNB (nbI z == n) (by simp))
          go_wp2_with (at_builtin; refine wpList_append_own _ rfl _ _ 23 rfl w2.heap.size 3 i0 (.int .i64 0) 1 8 Try.underlying23 hi hz0 hz1 hz2 rfl (by decide) _ _ _ rfl ((hown.alloc _).alloc _) ⟨wr.heap.size + 1, 0, none⟩ 1 1 [.int .i64 (wrap64 (-z))] rfl rfl ?d1 ?d2 ?d3 ?d4 ?d5 ?_)
          case d1 => exact append_new _ _ _ _
          case d2 => exact ints_one [wrap64 (-z)]
          case d3 => unfold maxLen; omega
          case d4 => omega
          case d5 => simp; omega
          intro v4 w4 hown4 hg4 _
          have hb4 : Below w2.heap.size w2 w4 := (((hb2.alloc hsz _).alloc (by simp; omega) _)).grown hg4 (by simp; omega) (fun j hj => (hown.lt j hj).1)
          have hc4 : w4.cell? ⟨ba, off + k, none⟩ = some (.int .i64 z) := by
            rw [hb4.cell (p := ⟨ba, _, none⟩) hblt, ← hb2.cell (p := ⟨ba, _, none⟩) hblt]; exact hc
          clear hg4 hc hc3 hb3 hlp
          by_cases hpos : 0 < z
          · have hzb := nbI_pos z hpos
            go_wp2_with fail
            refine (bits_any z _ ⟨by omega, by omega⟩).mono ?_
            rintro e w5 ⟨rfl, rfl⟩
            rw [← hzb]
            clear hzb
            go_wp2
            go_roundw
            case rel => exact ⟨k + 1, nbI z == n, by omega, by go_num, rfl, by rw [unhide HS, List.map_append]; exact hown4, hb4, hide (by simpa using unhide HNB')⟩
            case measure => simp [intOf]; omega
          · go_wp2
            go_roundw
            case rel => exact ⟨k + 1, nbI z == n, by omega, by go_num, rfl, by rw [unhide HS, List.map_append]; exact hown4, hb4, hide (by simpa using unhide HNB')⟩
            case measure => simp [intOf]; omega
        · have HNB' := hide (unhide HNB true (by simp))
          go_wp2_with (at_builtin; refine wpList_append_own _ rfl _ _ 23 rfl w2.heap.size 3 i0 (.int .i64 0) 1 8 Try.underlying23 hi hz0 hz1 hz2 rfl (by decide) _ _ _ rfl ((hown.alloc _).alloc _) ⟨wr.heap.size + 1, 0, none⟩ 1 1 [.int .i64 (wrap64 (-z))] rfl rfl ?d1 ?d2 ?d3 ?d4 ?d5 ?_)
          case d1 => exact append_new _ _ _ _
          case d2 => exact ints_one [wrap64 (-z)]
          case d3 => unfold maxLen; omega
          case d4 => omega
          case d5 => simp; omega
          intro v4 w4 hown4 hg4 _
          have hb4 : Below w2.heap.size w2 w4 := (((hb2.alloc hsz _).alloc (by simp; omega) _)).grown hg4 (by simp; omega) (fun j hj => (hown.lt j hj).1)
          have hc4 : w4.cell? ⟨ba, off + k, none⟩ = some (.int .i64 z) := by
            rw [hb4.cell (p := ⟨ba, _, none⟩) hblt, ← hb2.cell (p := ⟨ba, _, none⟩) hblt]; exact hc
          clear hg4 hc hc3 hb3 hlp
          by_cases hpos : 0 < z
          · have hzb := nbI_pos z hpos
            go_wp2_with fail
            refine (bits_any z _ ⟨by omega, by omega⟩).mono ?_
            rintro e w5 ⟨rfl, rfl⟩
            rw [← hzb]
            clear hzb
            go_wp2
            go_roundw
            case rel => exact ⟨k + 1, true, by omega, by go_num, rfl, by rw [unhide HS, List.map_append]; exact hown4, hb4, hide (by simpa using unhide HNB')⟩
            case measure => simp [intOf]; omega
          · go_wp2
            go_roundw
            case rel => exact ⟨k + 1, true, by omega, by go_num, rfl, by rw [unhide HS, List.map_append]; exact hown4, hb4, hide (by simpa using unhide HNB')⟩
            case measure => simp [intOf]; omega
      · have e : 40 = k := by omega
        subst e
        obtain ⟨ta, tc, hv, htl, htlen⟩ := owned_lies hown
        rw [htlen] at hv
        subst hv
        have HT := hide htlen
        have HTS := hide (neg_small xs 40)
        have hB : B = true := (unhide HB).2 (unhide H3)
        subst hB
        have hball := below_trans hb1 hb2
        obtain ⟨w3, rfl⟩ : ∃ w3, w3 = wr := ⟨_, rfl⟩
        clear hown hl1 hb1 hb2 HB htlen hk hlt
        go_wp2_with fail
        refine (norm_any ta tc (negTo xs 40) 40 (unhide HT) _ htl (unhide HTS) (by omega)).mono ?_
        rintro e w4 ⟨rfl, rfl⟩
        rw [unhide H4]
        go_wp2_with fail
        refine (norm_any none 0 [] 0 rfl _ (.inl rfl) (by intro y hy; simp at hy) (by decide)).mono ?_
        rintro e w5 ⟨rfl, rfl⟩
        rw [norm_nil]
        go_wp2_with fail
        refine (norm_any _ _ [-9223372036854775808] 1 rfl _ (lies_new _ [-9223372036854775808] _ rfl) (by intro y hy; rw [List.mem_singleton.1 hy]; exact ⟨by decide, by decide⟩) (by decide)).mono ?_
        rintro e w6 ⟨rfl, rfl⟩
        rw [norm_least]
        go_wp2
        go_ret
        exact ⟨rfl, hball.alloc hball.size _⟩
end Go.Proofs.Ytbommgfoahopfaa
