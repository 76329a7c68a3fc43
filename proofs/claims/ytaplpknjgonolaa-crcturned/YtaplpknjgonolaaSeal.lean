/- Contracts of the document's Sum, of crc.Seal and of the document's Seal. -/
import Derived.Test.YtaplpknjgonolaaSum
import Derived.Laws.IdiomStrings
namespace Go.Proofs.Ytaplpknjgonolaa
open Go.RowKit
set_option linter.unusedVariables false

theorem liesS_new (w : World) (ss : List ByteArray) : LiesS (w.alloc (.cells (ss.map Value.string).toArray 9)) (some ⟨w.heap.size, 0, none⟩) ss := by
  refine .inr ⟨w.heap.size, 0, rfl, by simp, fun j hj => ?_⟩
  rw [World.cell?_alloc_at _ _ _ _ rfl]
  simp [List.getElem?_eq_getElem hj]

/-- The sum of one text, in a slice that was built for it. -/
theorem sum_one (s : ByteArray) (w : World) (hs : s.size ≤ 1000000) :
    Calls Try.prog 11 #[.slice (some ⟨w.heap.size, 0, none⟩) 1 1] (w.alloc (.cells #[.string s] 9)) fun e w' => e = .returned (.int .u32 ((sumN (B s) : Nat) : Int)) ∧ Below w.heap.size w w' := by
  refine (sum_any _ 1 [s] 1 rfl _ (liesS_new w [s]) (by simpa using hs) (by omega)).mono ?_
  rintro e w' ⟨rfl, hb⟩
  refine ⟨?_, ((Below.refl _ w).alloc (Nat.le_refl _) _).trans (hb.mono (by simp))⟩
  have : cat [s] = B s := by simp [cat]
  rw [this]

theorem step_any (R : Nat) (w : World) (hR : R < 4294967296) : Calls Try.prog 17 #[.int .u32 (R : Int)] w fun e w' => e = .returned (.int .u32 ((stepN R : Nat) : Int)) ∧ w' = w := by
  have hm : (R : Int).tmod 2 = ((R % 2 : Nat) : Int) := by rw [Int.tmod_eq_emod_of_nonneg (by omega)]; omega
  have hd : (R : Int).tdiv 2 = ((R / 2 : Nat) : Int) := by rw [Int.tdiv_eq_ediv_of_nonneg (by omega)]; omega
  by_cases hodd : R % 2 = 1
  · have HS : Hid (stepN R = (R / 2 ^^^ 3988292384)) := by show stepN R = _; unfold stepN; rw [if_pos hodd]
    rw [hodd] at hm
    have hxx : bits .xor .u32 ((R : Int) / 2) 3988292384 = ((stepN R : Nat) : Int) := by
      rw [unhide HS]
      exact u32_xor_nat (R / 2) 3988292384 (by omega) (by decide)
    go_enter Try.func17, Try.ntmps17
    go_wp2
    go_ret
    exact ⟨rfl, rfl⟩
  · have HS : Hid (stepN R = R / 2) := by show stepN R = _; unfold stepN; rw [if_neg hodd]
    rw [show R % 2 = 0 by omega] at hm
    go_enter Try.func17, Try.ntmps17
    go_wp2
    go_ret
    exact ⟨ret_int (by rw [unhide HS]; rfl), rfl⟩

set_option maxRecDepth 100000 in
set_option maxHeartbeats 1000000 in
theorem rsum_any (s : ByteArray) (w : World) (hs : s.size ≤ 1000000) : Calls Try.prog 12 #[.string s] w fun e w' => e = .returned (.int .u32 ((sumN (B s) : Nat) : Int)) ∧ w' = w := by
  obtain ⟨z, hz⟩ : ∃ z, feedN 4294967295 (B s) = z := ⟨_, rfl⟩
  have HZ := hide hz
  clear hz
  go_enter Try.func12, Try.ntmps12
  go_wp2
  go_loopw [3, 4] (fun r i wr => ∃ (j R : Nat), j ≤ s.size ∧ r = .int .u32 (R : Int) ∧ i = .int .i64 (j : Int) ∧ w = wr ∧ R < 4294967296 ∧ Hid (feedN R ((B s).drop j) = z)) (fun _ i _ => s.size - (intOf i).toNat)
  case atStart => exact ⟨0, 4294967295, by omega, rfl, rfl, rfl, by omega, HZ⟩
  case round =>
    obtain ⟨j, R, hj, rfl, rfl, rfl, hR, HF⟩ := hrel
    by_cases hlt : j < s.size
    · obtain ⟨c, hc⟩ : ∃ c, s[j]'hlt = c := ⟨_, rfl⟩
      have hdrop : (B s).drop j = c :: (B s).drop (j + 1) := by
        have hj' : j < (B s).length := by rw [B_len]; exact hlt
        rw [List.drop_eq_getElem_cons hj', ← hc]
        rfl
      have HF' : Hid (feedN (goN 8 (R ^^^ c.toNat)) ((B s).drop (j + 1)) = z) := by
        have := unhide HF
        rw [hdrop, feed_cons] at this
        exact this
      have hcb := byte_lt c
      have hx : R ^^^ c.toNat < 4294967296 := Nat.xor_lt_two_pow (n := 32) hR (by omega)
      have hx1 : bits .xor .u32 (R : Int) ((s[j]'hlt).toNat : Int) = ((R ^^^ c.toNat : Nat) : Int) := by rw [hc]; exact u32_xor_nat R c.toNat hR (by omega)
      have HX := hide hx
      obtain ⟨y, hy⟩ : ∃ y, goN 8 (R ^^^ c.toNat) = y := ⟨_, rfl⟩
      have HYL := hide (show y < 4294967296 by rw [← hy]; exact go_lt 8 _ hx)
      rw [hy] at HF'
      have HY := hide hy
      have hcb' : (s[j]'hlt).toNat < 256 := byte_lt _
      clear HF hdrop hc hx hcb hy
      go_wp2
      go_loopw [3, 5] (fun r i wr => ∃ (k R' : Nat), k ≤ 8 ∧ r = .int .u32 (R' : Int) ∧ i = .int .i64 (k : Int) ∧ w = wr ∧ R' < 4294967296 ∧ Hid (goN (8 - k) R' = y)) (fun _ i _ => 8 - (intOf i).toNat)
      case atStart => exact ⟨0, _, by omega, rfl, rfl, rfl, unhide HX, HY⟩
      case round =>
        obtain ⟨k, R', hk, rfl, rfl, rfl, hR', HG⟩ := hrel
        clear hx1 HX HY
        by_cases hk8 : k < 8
        · have HG' : Hid (goN (8 - (k + 1)) (stepN R') = y) := by
            have hg := unhide HG
            rw [show 8 - k = (8 - (k + 1)) + 1 by omega] at hg
            exact hg
          have HL := hide (step_lt R' hR')
          clear HG
          go_wp2_with fail
          refine (step_any R' _ hR').mono ?_
          rintro e w' ⟨rfl, rfl⟩
          go_wp2
          go_roundw
          case rel => exact ⟨k + 1, _, by omega, rfl, rfl, trivial, unhide HL, HG'⟩
          case measure => simp [intOf]; omega
        · have e : k = 8 := by omega
          subst e
          have HE : Hid (R' = y) := unhide HG
          clear HG
          go_wp2
          go_roundw
          case rel => exact ⟨j + 1, y, by omega, by rw [unhide HE], rfl, trivial, unhide HYL, HF'⟩
          case measure => simp [intOf]; omega
    · have e : j = s.size := by omega
      have HE : Hid (R = z) := by
        have := unhide HF
        rw [List.drop_of_length_le (by rw [B_len]; omega)] at this
        exact this
      subst e
      go_wp2
      go_ret
      refine ⟨ret_int ?_, rfl⟩
      rw [← unhide HZ] at HE
      unfold sumN
      rw [← unhide HE]
      exact u32_xor_nat R 4294967295 hR (by decide)

/-- A text with its sum behind it. -/
def sealB (s : ByteArray) : ByteArray := ⟨(sealL (B s)).toArray⟩
theorem B_seal (s : ByteArray) : B (sealB s) = sealL (B s) := rfl

/-- What the four bytes of a sum are as a text. -/
theorem four_text (z : Nat) (w : World) : (convert 25 9 (.slice (some ⟨w.heap.size, 0, none⟩) 4 4)).run Try.prog
    (w.alloc (.cells #[.int .u8 ((z : Int) % 256), .int .u8 ((z : Int) / 256 % 256), .int .u8 ((z : Int) / 65536 % 256), .int .u8 ((z : Int) / 16777216 % 256)] 5)) =
    .ok (.string ⟨(le4 z).toArray⟩) (w.alloc (.cells #[.int .u8 ((z : Int) % 256), .int .u8 ((z : Int) / 256 % 256), .int .u8 ((z : Int) / 65536 % 256), .int .u8 ((z : Int) / 16777216 % 256)] 5)) := by
  have h := run_convert_bytes_back (P := Try.prog) (w.alloc (.cells #[.int .u8 ((z : Int) % 256), .int .u8 ((z : Int) / 256 % 256), .int .u8 ((z : Int) / 65536 % 256), .int .u8 ((z : Int) / 16777216 % 256)] 5))
    25 9 5 ⟨w.heap.size, 0, none⟩ 4 (le4 z) Try.underlying25 Try.underlying5 Try.underlying9 (fun j hj => by
      rw [Addr.add_lit, Nat.zero_add, World.cell?_alloc_at _ _ _ _ rfl]
      have hj4 : j < 4 := hj
      match j, hj4 with
      | 0, _ => simp [le4]
      | 1, _ => simp [le4]
      | 2, _ => simp [le4]
      | 3, _ => simp [le4])
  exact h
theorem le4_len (z : Nat) : (le4 z).length = 4 := rfl
theorem seal_text (s : ByteArray) (z : Nat) (h : sumN (B s) = z) : s ++ ⟨(le4 z).toArray⟩ = sealB s := by
  subst h
  apply ByteArray.ext
  unfold sealB sealL B
  simp
theorem size_seal (s : ByteArray) : (sealB s).size = s.size + 4 := by
  show (sealL (B s)).toArray.size = _
  rw [List.size_toArray]
  unfold sealL
  rw [List.length_append, B_len, le4_len]

set_option maxRecDepth 100000 in
set_option maxHeartbeats 1000000 in
theorem seal_any (s : ByteArray) (w : World) (hs : s.size ≤ 1000000) : Calls Try.prog 13 #[.string s] w fun e w' => e = .returned (.string (sealB s)) ∧ Below w.heap.size w w' := by
  obtain ⟨z, hz⟩ : ∃ z, sumN (B s) = z := ⟨_, rfl⟩
  have HZ := hide hz
  have hft := four_text z
  have hlen : ¬ 9223372036854775807 < s.size + (le4 z).length := by rw [le4_len]; omega
  go_enter Try.func13, Try.ntmps13
  go_wp2_with fail
  refine (sum_one s _ hs).mono ?_
  rintro e w1 ⟨rfl, hb⟩
  rw [hz]
  clear hz
  go_wp2
  go_ret
  exact ⟨congrArg (fun x => Ending.returned (Value.string x)) (seal_text s z (unhide HZ)), hb.alloc hb.size _⟩

set_option maxRecDepth 100000 in
set_option maxHeartbeats 1000000 in
theorem rseal_any (s : ByteArray) (w : World) (hs : s.size ≤ 1000000) : Calls Try.prog 10 #[.string s] w fun e w' => e = .returned (.string (sealB s)) ∧ Below w.heap.size w w' := by
  obtain ⟨z, hz⟩ : ∃ z, sumN (B s) = z := ⟨_, rfl⟩
  have HZ := hide hz
  have hft := four_text z
  have hlen : ¬ 9223372036854775807 < s.size + (le4 z).length := by rw [le4_len]; omega
  go_enter Try.func10, Try.ntmps10
  go_wp2_with fail
  refine (rsum_any s _ hs).mono ?_
  rintro e w1 ⟨rfl, rfl⟩
  rw [hz]
  clear hz
  go_wp2
  go_ret
  exact ⟨congrArg (fun x => Ending.returned (Value.string x)) (seal_text s z (unhide HZ)), (Below.refl _ _).alloc (Nat.le_refl _) _⟩

theorem text_same {a b : ByteArray} (h : a = b) : (a.toList == b.toList) = true := by rw [h]; simp
theorem text_other {a b : ByteArray} (h : ¬ a = b) : (a.toList == b.toList) = false := by
  rw [ByteArray.toList_eq, ByteArray.toList_eq]
  simp only [beq_eq_false_iff_ne, ne_eq]
  intro e
  exact h (ByteArray.ext (Array.toList_inj.1 e))
/-- What a frame opens to. -/
def openB (f : ByteArray) : ByteArray × Bool := if f.size < 4 then (⟨#[]⟩, false) else if sealB (f.extract 0 (f.size - 4)) = f then (f.extract 0 (f.size - 4), true) else (⟨#[]⟩, false)

set_option maxRecDepth 100000 in
set_option maxHeartbeats 1000000 in
theorem open_any (f : ByteArray) (w : World) (hf : f.size ≤ 1000000) : Calls Try.prog 15 #[.string f] w fun e w' => e = .returned (.tuple #[.string (openB f).1, .bool (openB f).2]) ∧ Below w.heap.size w w' := by
  by_cases h4 : f.size < 4
  · have HO := hide (show openB f = (⟨#[]⟩, false) by unfold openB; rw [if_pos h4])
    have h4' : (f.size : Int) < 4 := by omega
    go_enter Try.func15, Try.ntmps15
    go_wp2
    go_ret2
    exact ⟨by rw [unhide HO]; rfl, Below.refl _ _⟩
  · have h4' : ¬ (f.size : Int) < 4 := by omega
    obtain ⟨s, hs⟩ : ∃ s, f.extract 0 (f.size - 4) = s := ⟨_, rfl⟩
    have hO : openB f = if sealB s = f then (s, true) else (⟨#[]⟩, false) := by unfold openB; rw [if_neg h4, hs]
    have HO := hide hO
    have HS := hide hs
    have HSS : Hid (s.size ≤ 1000000) := by show s.size ≤ 1000000; rw [← hs, ByteArray.size_extract]; omega
    clear hO hs
    go_enter Try.func15, Try.ntmps15
    go_wp2_with fail
    rw [unhide HS]
    refine (seal_any s _ (unhide HSS)).mono ?_
    rintro e w1 ⟨rfl, hb⟩
    by_cases he : sealB s = f
    · have HE := hide he
      have hx := text_same he
      clear he
      go_wp2
      go_ret2
      exact ⟨by rw [unhide HO, if_pos (unhide HE)]; rfl, hb⟩
    · have HE := hide he
      have hx := text_other he
      clear he
      go_wp2
      go_ret2
      exact ⟨by rw [unhide HO, if_neg (unhide HE)]; rfl, hb⟩

theorem two_cells {w1 : World} {n : Nat} {u v : Value} {t : TypeId} (a b : Value) (h : w1.heap[n]? = some (.cells #[u, v] t (0, 0))) :
    ((w1.setCell ⟨n, 0, none⟩ a).setCell ⟨n, 1, none⟩ b).cell? ⟨n, 0, none⟩ = some a ∧ ((w1.setCell ⟨n, 0, none⟩ a).setCell ⟨n, 1, none⟩ b).cell? ⟨n, 1, none⟩ = some b := by
  simp [World.setCell, World.cell?, Array.getElem?_modify, h]

set_option maxRecDepth 100000 in
set_option maxHeartbeats 1000000 in
theorem ropen_any (f : ByteArray) (w : World) (hf : f.size ≤ 1000000) : Calls Try.prog 18 #[.string f] w fun e w' => e = .returned (.agg #[.string (openB f).1, .bool (openB f).2]) ∧ Below w.heap.size w w' := by
  by_cases h4 : f.size < 4
  · have HO := hide (show openB f = (⟨#[]⟩, false) by unfold openB; rw [if_pos h4])
    have h4' : (f.size : Int) < 4 := by omega
    go_enter Try.func18, Try.ntmps18
    go_wp2
    refine bodyPost_ret (v := .agg #[.string ⟨#[]⟩, .bool false]) (by simp [results, Try.results18, go_sem]) rfl ?_
    exact ⟨by rw [unhide HO], (Below.refl _ _).alloc (Nat.le_refl _) _⟩
  · have h4' : ¬ (f.size : Int) < 4 := by omega
    obtain ⟨s, hs⟩ : ∃ s, f.extract 0 (f.size - 4) = s := ⟨_, rfl⟩
    have hO : openB f = if sealB s = f then (s, true) else (⟨#[]⟩, false) := by unfold openB; rw [if_neg h4, hs]
    have HO := hide hO
    have HS := hide hs
    have HSS : Hid (s.size ≤ 1000000) := by show s.size ≤ 1000000; rw [← hs, ByteArray.size_extract]; omega
    clear hO hs
    go_enter Try.func18, Try.ntmps18
    go_wp2_with fail
    rw [unhide HS]
    refine (rseal_any s _ (unhide HSS)).mono ?_
    rintro e w1 ⟨rfl, hb⟩
    have hbl : w1.heap[w.heap.size]? = some (.cells #[.string ⟨#[]⟩, .bool false] 41 (0, 0)) := by
      rw [hb.block w.heap.size (by simp)]
      show (w.heap.push _)[w.heap.size]? = _
      simp
    have hbw : Below w.heap.size w w1 := ((Below.refl _ w).alloc (Nat.le_refl _) _).trans (hb.mono (by simp))
    have c0 : w1.cell? ⟨w.heap.size, 0, none⟩ = some (.string ⟨#[]⟩) := by unfold World.cell?; rw [hbl]; rfl
    have c1 : w1.cell? ⟨w.heap.size, 1, none⟩ = some (.bool false) := by unfold World.cell?; rw [hbl]; rfl
    have f0 : w1.frozen? ⟨w.heap.size, 0, none⟩ = false := by unfold World.frozen?; rw [hbl]; rfl
    have f1 : w1.frozen? ⟨w.heap.size, 1, none⟩ = false := by unfold World.frozen?; rw [hbl]; rfl
    have HBW := hide hbw
    have HBL := hide hbl
    clear hb hbw hbl
    by_cases he : sealB s = f
    · have HE := hide he
      have hx := text_same he
      clear he
      go_wp2
      obtain ⟨d0, d1⟩ := two_cells (.string s) (.bool true) (unhide HBL)
      refine bodyPost_ret (v := .agg #[.string s, .bool true]) (by simp [results, Try.results18, go_sem, d0, d1]) rfl ?_
      exact ⟨by rw [unhide HO, if_pos (unhide HE)], ((unhide HBW).setCell (Nat.le_refl _) _).setCell (Nat.le_refl _) _⟩
    · have HE := hide he
      have hx := text_other he
      clear he
      go_wp2
      obtain ⟨d0, d1⟩ := two_cells (.string ⟨#[]⟩) (.bool false) (unhide HBL)
      refine bodyPost_ret (v := .agg #[.string ⟨#[]⟩, .bool false]) (by simp [results, Try.results18, go_sem, d0, d1]) rfl ?_
      exact ⟨by rw [unhide HO, if_neg (unhide HE)], ((unhide HBW).setCell (Nat.le_refl _) _).setCell (Nat.le_refl _) _⟩
end Go.Proofs.Ytaplpknjgonolaa
