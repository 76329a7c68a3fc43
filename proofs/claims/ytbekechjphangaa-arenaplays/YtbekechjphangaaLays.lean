/- The walk of ArenaLays. -/
import Derived.Test.YtbekechjphangaaRlay
namespace Go.Proofs.Ytbekechjphangaa
open Go.RowKit
set_option linter.unusedVariables false

/-- A row that came, and its first K. -/
theorem cutK_came (K : Nat) (a : Option Addr) (len cap : Nat) (zs : List Int) (w : World) (h : IsRow .i64 w a len cap zs) :
    ∃ (xs : List Int) (n : Nat), xs.length = n ∧ n ≤ K ∧ n ≤ cap ∧ cap ≤ 9223372036854775807 ∧ Lies w a xs ∧ Small xs ∧ ((len = n) ∨ (n = K ∧ K < len ∧ len ≤ cap ∧ ∃ x, a = some x)) := by
  rcases h with ⟨rfl, rfl, rfl, rfl⟩ | ⟨x, rfl, hl, hm, hz, hcell, hwz⟩
  · exact ⟨[], 0, rfl, by omega, by omega, by omega, .inl rfl, by intro x hx; simp at hx, .inl rfl⟩
  · unfold maxLen at hm
    by_cases hlen : K < len
    · exact ⟨zs.take K, K, by simp; omega, by omega, by omega, hm, lies_of_row K (by omega) hcell, small_take K hwz, .inr ⟨rfl, hlen, hl, x, rfl⟩⟩
    · exact ⟨zs.take len, len, by simp; omega, by omega, by omega, hm, lies_of_row len (by omega) hcell, small_take len hwz, .inl rfl⟩

set_option maxHeartbeats 2000000 in
theorem rlay_neg (a : Option Addr) (m cap : Nat) (xs : List Int) (w : World) (hl : Lies w a xs) (hm : xs.length = m) (hm2 : m ≤ 1000000) (hneg : ∃ x ∈ xs, x < 0) :
    Calls Try.prog 40 #[.slice a m cap] w fun r w' => r = .returned (.agg #[.slice none 0 0, .int .i64 0, .int .i64 1]) ∧ Below w.heap.size w w' := by
  have HL := hide hl
  have HM := hide hm
  have HN := hide hneg
  clear hl hm hneg
  go_enter Try.func40, Try.ntmps40
  go_wp2
  generalize hw0 : ((w.alloc (Obj.cells #[Value.slice none 0 0, Value.int IntKind.i64 0, Value.int IntKind.i64 0] 65)).alloc (Obj.cells #[Value.slice none 0 0, Value.int IntKind.i64 0, Value.int IntKind.i64 0] 65)) = w0
  have HB0 : Hid (Below w.heap.size w w0) := by subst hw0; exact ((Below.refl _ w).alloc (Nat.le_refl _) _).alloc (by simp) _
  have HR0 : Hid (Cells w0 w.heap.size Z3) := by subst hw0; exact (cells_new w Z3 65).alloc _
  have HL0 := hide ((unhide HL).below (unhide HB0))
  have r0 : w0.cell? ⟨w.heap.size, 0, none⟩ = some (.slice none 0 0) := (unhide HR0).cell 0 _ rfl
  have r1 : w0.cell? ⟨w.heap.size, 1, none⟩ = some (.int .i64 0) := (unhide HR0).cell 1 _ rfl
  have r2 : w0.cell? ⟨w.heap.size, 2, none⟩ = some (.int .i64 0) := (unhide HR0).cell 2 _ rfl
  have f0 : w0.frozen? ⟨w.heap.size, 0, none⟩ = false := (unhide HR0).free 0
  have f1 : w0.frozen? ⟨w.heap.size, 1, none⟩ = false := (unhide HR0).free 1
  have f2 : w0.frozen? ⟨w.heap.size, 2, none⟩ = false := (unhide HR0).free 2
  clear hw0
  go_loopw [4] (fun i wr => ∃ k : Nat, k ≤ m ∧ i = .int .i64 (k : Int) ∧ Hid (∀ j, j < k → 0 ≤ xs.getD j 0) ∧ wr = w0) (fun i _ => m - (intOf i).toNat)
  case atStart => exact ⟨0, by omega, rfl, fun j hj => by omega, rfl⟩
  case round =>
    obtain ⟨k, hk, rfl, HK, rfl⟩ := hrel
    by_cases hlt : k < m
    · have hkl : k < xs.length := by rw [unhide HM]; exact hlt
      obtain ⟨b, off, rfl, hb, hc⟩ := (unhide HL0).some (by intro e; rw [e] at hkl; simp at hkl)
      have hck := hc k hkl
      obtain ⟨z, hz⟩ : ∃ z, xs.getD k 0 = z := ⟨_, rfl⟩
      rw [hz] at hck
      have Hz := hide hz
      clear hc hkl hb hz
      by_cases hz0 : z < 0
      · go_wp2
        obtain ⟨d0, d1, d2⟩ := three_cells (.slice none 0 0) (.int .i64 0) (.int .i64 1) (unhide HR0) rfl
        refine bodyPost_ret (v := .agg #[.slice none 0 0, .int .i64 0, .int .i64 1]) (by simp [results, Try.results40, go_sem, d0, d1, d2]) rfl ?_
        exact ⟨rfl, (((unhide HB0).setCell (Nat.le_refl _) _).setCell (Nat.le_refl _) _).setCell (Nat.le_refl _) _⟩
      · go_wp2
        go_roundw
        case rel =>
          refine ⟨k + 1, by omega, by simp, fun j hj => ?_, trivial⟩
          by_cases hjk : j = k
          · subst hjk; rw [unhide Hz]; omega
          · exact unhide HK j (by omega)
        case measure => simp [intOf]; omega
    · exfalso
      obtain ⟨x, hx, hx0⟩ := unhide HN
      have : 0 ≤ x := by
        obtain ⟨i, hi, rfl⟩ := List.mem_iff_getElem.1 hx
        have h := unhide HK i (by rw [unhide HM] at hi; omega)
        rwa [List.getD_eq_getElem?_getD, List.getElem?_eq_getElem hi] at h
      omega

set_option maxHeartbeats 4000000 in
theorem lays_any (a : Option Addr) (m cap : Nat) (xs : List Int) (w : World) (hl : Lies w a xs) (hm : xs.length = m) (hm2 : m ≤ 1000000) :
    Calls Try.prog 31 #[.slice a m cap] w fun e w' => e = .returned (.bool true) ∧ Below w.heap.size w w' := by
  have HL := hide hl
  have HM := hide hm
  by_cases hneg : ∃ x ∈ xs, x < 0
  · have HN := hide hneg
    clear hl hm hneg
    go_enter Try.func31, Try.ntmps31
    go_wp2_with fail
    refine (lay_neg a m cap xs _ (unhide HL) (unhide HM) hm2 (unhide HN)).mono ?_
    rintro e w0 ⟨rfl, rfl⟩
    go_wp2_with fail
    refine (rlay_neg a m cap xs _ (unhide HL) (unhide HM) hm2 (unhide HN)).mono ?_
    rintro e w1 ⟨rfl, hb⟩
    have HB1 := hide hb
    clear hb
    go_wp2_with fail
    refine (same_any _ _ _ _ [] 0 rfl (by omega) _ (.inl rfl) (.inl rfl)).mono ?_
    rintro e w2 ⟨rfl, hb⟩
    have HB2 := hide (below_trans (hb_alloc HB1 _) hb)
    have hx1 := hb.cell (p := ⟨w1.heap.size, 1, none⟩) (by simp)
    have hx2 := hb.cell (p := ⟨w1.heap.size, 2, none⟩) (by simp)
    have hcn := cells_new w1 [.slice none 0 0, .int .i64 0, .int .i64 1] 65
    have y1 : w2.cell? ⟨w1.heap.size, 1, none⟩ = some (.int .i64 0) := (hcn.below hb).cell 1 _ rfl
    have y2 : w2.cell? ⟨w1.heap.size, 2, none⟩ = some (.int .i64 1) := (hcn.below hb).cell 2 _ rfl
    clear hb hx1 hx2 hcn
    go_wp2
    go_ret
    exact ⟨rfl, unhide HB2⟩
  · have hx := casts_of xs (fun x hx => by rcases Int.lt_or_le x 0 with h | h; exact absurd ⟨x, hx, h⟩ hneg; exact h)
    generalize hns : xs.map Int.toNat = ns at hx
    subst hx
    rw [casts_len] at hm
    clear hns hneg hl HM
    have HM := hide hm
    clear hm
    obtain ⟨O, hO⟩ : ∃ O, layN ns 0 = O := ⟨_, rfl⟩
    have HO := hide hO
    clear hO
    go_enter Try.func31, Try.ntmps31
    go_wp2_with fail
    refine (lay_any a m cap ns _ (unhide HL) (unhide HM) hm2).mono ?_
    rw [unhide HO]
    rintro e w1 (⟨rfl, rfl, hb⟩ | ⟨p, b, rfl, rfl, hbs, hc, hb⟩)
    · have HB1 := hide hb
      have HL1 := hide ((unhide HL).below hb)
      clear hb
      go_wp2_with fail
      refine (rlay_any a m cap ns _ (unhide HL1) (unhide HM) hm2).mono ?_
      rw [unhide HO]
      rintro e w2 (⟨_, rfl, hb⟩ | ⟨p, b, cap', h, _⟩)
      · have HB2 := hide (below_trans (unhide HB1) hb)
        clear hb
        go_wp2_with fail
        refine (same_any _ _ _ _ [] 0 rfl (by omega) _ (.inl rfl) (.inl rfl)).mono ?_
        rintro e w3 ⟨rfl, hb⟩
        have HB3 := hide (below_trans (hb_alloc HB2 _) hb)
        have hcn := cells_new w2 [.slice none 0 0, .int .i64 0, .int .i64 17] 65
        have y1 : w3.cell? ⟨w2.heap.size, 1, none⟩ = some (.int .i64 0) := (hcn.below hb).cell 1 _ rfl
        have y2 : w3.cell? ⟨w2.heap.size, 2, none⟩ = some (.int .i64 17) := (hcn.below hb).cell 2 _ rfl
        clear hb hcn
        go_wp2
        go_ret
        exact ⟨rfl, unhide HB3⟩
      · cases h
    · obtain ⟨P, E⟩ := p
      have HPL : Hid (P.length = m) := by
        show _ = _
        rw [← unhide HM]
        exact layN_len ns 0 _ (unhide HO)
      have HB1 := hide hb
      have HL1 := hide ((unhide HL).below hb)
      have HC1 := hide hc
      clear hb hc
      simp only
      go_wp2_with fail
      refine (rlay_any a m cap ns _ (unhide HL1) (unhide HM) hm2).mono ?_
      rw [unhide HO]
      rintro e w2 (⟨h, _⟩ | ⟨p, b2, cap', h, rfl, hl2, hb⟩)
      · cases h
      · cases h
        have HB2 := hide (below_trans (unhide HB1) hb)
        have HL2 := hide hl2
        have HC2 := hide ((unhide HC1).below hb)
        clear hb hl2
        simp only
        go_wp2_with fail
        have hal := fun (o : Obj) => (Below.refl _ w2).alloc (Nat.le_refl _) o
        refine (same_any _ _ _ _ (casts P) m (by rw [casts_len]; exact unhide HPL) hm2 _ ((unhide HC2).lies.below (hal _)) ((unhide HL2).below (hal _))).mono ?_
        rintro e w3 ⟨rfl, hb⟩
        have HB3 := hide (below_trans (hb_alloc HB2 _) hb)
        have hcn := cells_new w2 [.slice b2 m cap', .int .i64 (E : Int), .int .i64 0] 65
        have y1 : w3.cell? ⟨w2.heap.size, 1, none⟩ = some (.int .i64 (E : Int)) := (hcn.below hb).cell 1 _ rfl
        have y2 : w3.cell? ⟨w2.heap.size, 2, none⟩ = some (.int .i64 0) := (hcn.below hb).cell 2 _ rfl
        clear hb hcn hal
        go_wp2
        go_ret
        exact ⟨rfl, unhide HB3⟩
end Go.Proofs.Ytbekechjphangaa
