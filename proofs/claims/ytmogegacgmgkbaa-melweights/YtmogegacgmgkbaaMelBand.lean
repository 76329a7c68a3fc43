/- What is in a band: the closure, and the document's sum. -/
import Derived.Test.YtmogegacgmgkbaaMelLeaf
namespace Go.Proofs.Ytmogegacgmgkbaa
open Go.RowKit
set_option linter.unusedVariables false

theorem wrap_in (x : Int) : In64 (wrap64 x) := by unfold wrap64 In64; omega
theorem wrap_step (A F s z : Int) (h1 : wrap64 A = s) (h2 : wrap64 F = z) : wrap64 (A + F) = wrap64 (s + z) := by subst h1 h2; unfold wrap64; omega
theorem sumF_stop (f : Nat → Int) (a : Nat) : ∀ c, (∀ t, a ≤ t → t < a + c → f t = 0) → sumF f (a + c) = sumF f a
  | 0, _ => rfl
  | c + 1, h => by
    show sumF f (a + c) + f (a + c) = _
    rw [sumF_stop f a c fun t h1 h2 => h t h1 (by omega), h (a + c) (by omega) (by omega)]; omega
/-- What a bin adds. -/
def adds (power : List Int) (e0 e1 e2 : Int) (b : Nat) : Int := power.getD b 0 * weightI (b : Int) e0 e1 e2
theorem adds_low (power : List Int) (e0 e1 e2 : Int) (b : Nat) (h0 : (b : Int) < e0) (h1 : (b : Int) < e1) : adds power e0 e1 e2 b = 0 := by
  unfold adds weightI
  split
  · rw [if_neg (by omega), if_neg (by omega), Int.mul_zero]
  · rw [Int.mul_zero]
theorem adds_top (power : List Int) (e0 e1 e2 : Int) (b : Nat) (h0 : e1 ≤ (b : Int)) (h1 : e2 ≤ (b : Int)) : adds power e0 e1 e2 b = 0 := by
  unfold adds weightI
  split
  · rw [if_neg (by omega), if_neg (by omega), Int.mul_zero]
  · rw [Int.mul_zero]
theorem adds_far (power : List Int) (e0 e1 e2 : Int) (b : Nat) (h : power.length ≤ b) : adds power e0 e1 e2 b = 0 := by
  unfold adds; rw [List.getD_eq_getElem?_getD, List.getElem?_eq_none h]; exact Int.zero_mul _
/-- All that is in a band is between the two ends at which the code stops. -/
theorem band_from (power : List Int) (e0 e1 e2 : Int) (lo : Nat) (h : max 0 (min e0 e1) = (lo : Int)) : sumF (adds power e0 e1 e2) lo = 0 := by
  have := sumF_stop (adds power e0 e1 e2) 0 lo fun t _ ht => adds_low power e0 e1 e2 t (by omega) (by omega)
  rw [Nat.zero_add] at this
  rw [this]; rfl
theorem band_upto (power : List Int) (e0 e1 e2 : Int) (n b : Nat) (hn : power.length = n) (h : (n : Int) ≤ (b : Int) ∨ e1 ≤ (b : Int) ∧ e2 ≤ (b : Int)) : wrap64 (sumF (adds power e0 e1 e2) b) / 256 = bandI power e0 e1 e2 := by
  unfold bandI
  congr 2
  show _ = sumF (adds power e0 e1 e2) power.length
  rw [hn]
  by_cases c : n ≤ b
  · obtain ⟨d, rfl⟩ : ∃ d, b = n + d := ⟨b - n, by omega⟩
    exact sumF_stop _ n d fun t h1 _ => adds_far power e0 e1 e2 t (by omega)
  · obtain ⟨d, rfl⟩ : ∃ d, n = b + d := ⟨n - b, by omega⟩
    exact (sumF_stop _ b d fun t h1 _ => adds_top power e0 e1 e2 t (by omega) (by omega)).symm

set_option maxRecDepth 100000 in
theorem band_quiet (pb : Nat) (a : Option Addr) (ca n : Nat) (power : List Int) (e0 e1 e2 : Int) (w : World) (hp : w.cell? ⟨pb, 0, none⟩ = some (.slice a n ca)) (hl : Lies w a power) (hs : Small power) (hn : power.length = n) (hn2 : n ≤ 9223372036854775807) (h0 : In64 e0) (h1 : In64 e1) (h2 : In64 e2) :
    Calls Try.prog 23 #[.int .i64 e0, .int .i64 e1, .int .i64 e2, .pointer (some ⟨pb, 0, none⟩)] w fun e w' => e = .returned (.int .i64 (bandI power e0 e1 e2)) ∧ ∃ d, w' = w.drewN d := by
  obtain ⟨lo, hlo⟩ : ∃ lo : Nat, max 0 (min e0 e1) = (lo : Int) := ⟨(max 0 (min e0 e1)).toNat, by omega⟩
  have hlo63 : (lo : Int) ≤ 9223372036854775807 := by obtain ⟨_, _⟩ := h0; obtain ⟨_, _⟩ := h1; omega
  obtain ⟨hi, hhi⟩ : ∃ hi, min (n : Int) (max e1 e2) = hi := ⟨_, rfl⟩
  have HLO := hide hlo
  have HHI := hide hhi
  have HL := hide hl
  have HS := hide hs
  have HN := hide hn
  have H0 := hide h0
  have H1 := hide h1
  have H2 := hide h2
  clear hl hs hn h0 h1 h2
  go_enter Try.func23, Try.ntmps23
  go_wp2_with fail
  go_loopw [9, 8] (fun i v wr => ∃ b : Nat, lo ≤ b ∧ i = .int .i64 (b : Int) ∧ (b : Int) ≤ 9223372036854775807 ∧ Hid (v = .int .i64 (wrap64 (sumF (adds power e0 e1 e2) b))) ∧ Hid (∃ d, wr = w.drewN d))
    (fun i _ _ => n - (intOf i).toNat)
  case atStart => exact ⟨lo, Nat.le_refl _, rfl, by omega, by show _ = _; rw [band_from power e0 e1 e2 lo (unhide HLO), show wrap64 0 = 0 from w64_in ⟨by omega, by omega⟩], ⟨0, rfl⟩⟩
  case round =>
    obtain ⟨b, hlo, rfl, hb63, HV, HD⟩ := hrel
    have hp' : wr.cell? ⟨pb, 0, none⟩ = some (.slice a n ca) := by obtain ⟨d, rfl⟩ := unhide HD; exact hp
    obtain ⟨s, hs⟩ : ∃ s, wrap64 (sumF (adds power e0 e1 e2) b) = s := ⟨_, rfl⟩
    rw [hs] at HV
    have hsb : In64 s := by rw [← hs]; exact wrap_in _
    have hv := unhide HV
    subst hv
    have HSS := hide hs
    clear HV hs
    by_cases c : (b : Int) < hi
    · have hbn : b < n := by have := unhide HHI; omega
      obtain ⟨ba, oa, rfl, hlta, hca⟩ := (unhide HL).some (by intro h; have := unhide HN; subst h; simp at this; omega)
      have cx : wr.cell? ⟨ba, oa + b, none⟩ = some (.int .i64 (power.getD b 0)) := by obtain ⟨d, rfl⟩ := unhide HD; exact hca b (by rw [unhide HN]; exact hbn)
      obtain ⟨x, hx⟩ : ∃ x, power.getD b 0 = x := ⟨_, rfl⟩
      rw [hx] at cx
      have HX := hide hx
      obtain ⟨z, hz⟩ : ∃ z, weightI (b : Int) e0 e1 e2 = z := ⟨_, rfl⟩
      have HZ := hide hz
      have HW : Hid (∀ w0, Calls Try.prog 14 #[.int .i64 (b : Int), .int .i64 e0, .int .i64 e1, .int .i64 e2] w0 fun e w' => e = .returned (.int .i64 z) ∧ ∃ d2, w' = w0.drewN d2) := fun w0 => by rw [← hz]; exact weight_quiet (b : Int) e0 e1 e2 _ ⟨by omega, by omega⟩ (unhide H0) (unhide H1) (unhide H2)
      have hbn' : (b : Int) < (n : Int) := by omega
      clear hx hz hca
      go_wp2_with fail
      go_quiet ((go_at_call 14; exact Calls.quiet_of (unhide HW _)))
      go_wp2
      go_roundw
      case rel =>
        refine ⟨b + 1, by omega, by go_num, by omega, ?_, ?_⟩
        · show _ = _
          rw [show sumF (adds power e0 e1 e2) (b + 1) = sumF (adds power e0 e1 e2) b + adds power e0 e1 e2 b from rfl, wrap_step _ _ s (wrap64 (x * z)) (unhide HSS) (by unfold adds; rw [unhide HX, unhide HZ])]
        · obtain ⟨d, hd⟩ := unhide HD
          exact ⟨d + nq, by rw [hd, World.drewN_drewN]⟩
      case measure => simp [intOf]; omega
    · have HE := hide (show s / 256 = bandI power e0 e1 e2 by rw [← unhide HSS]; exact band_upto power e0 e1 e2 n b (unhide HN) (by have := unhide HHI; omega))
      have HSB := hide hsb
      clear hsb
      go_wp2_with fail
      refine (whole_quiet s 256 _ (unhide HSB) (by decide) (by decide)).mono ?_
      rintro e w1 ⟨rfl, d2, rfl⟩
      rw [unhide HE]
      go_wp2_with fail
      go_ret
      refine ⟨rfl, ?_⟩
      obtain ⟨d, hd⟩ := unhide HD
      exact ⟨d + d2, by rw [hd, World.drewN_drewN]⟩

/-- The bands ahead of band k. -/
def bandsTo (power edges : List Int) (k : Nat) : List Int := mkL k fun m => bandI power (edges.getD m 0) (edges.getD (m + 1) 0) (edges.getD (m + 2) 0)
theorem bandsTo_step (power edges : List Int) (k : Nat) (e0 e1 e2 z : Int) (h0 : edges.getD k 0 = e0) (h1 : edges.getD (k + 1) 0 = e1) (h2 : edges.getD (k + 2) 0 = e2) (hz : bandI power e0 e1 e2 = z) : ints (bandsTo power edges (k + 1)) = ints (bandsTo power edges k) ++ [.int .i64 z] := by
  subst h0 h1 h2 hz; simp [ints, bandsTo, mkL, List.range_succ]
theorem bandsTo_all (power edges : List Int) (m : Nat) (h : m = edges.length - 2) : bandsTo power edges m = bandsL power edges := by subst h; rfl

theorem keep_grown2 {X w' : World} {o : Obj} {row : Option Nat} {b off : Nat} {v : Value} (hg : (X.alloc o).grownBy w' row) (hp : b < X.heap.size) (hr : ∀ j, j = b → row ≠ some j) (hc : X.cell? ⟨b, off, none⟩ = some v) : w'.cell? ⟨b, off, none⟩ = some v := by
  rw [← hc]
  apply World.cell?_of_block
  rw [hg.block b (by simp; omega) (fun e => hr b rfl e.symm)]
  exact Below.heap_alloc X o b hp
set_option maxRecDepth 100000 in
theorem bands_any (a : Option Addr) (ca n : Nat) (power : List Int) (a2 : Option Addr) (c2 m : Nat) (edges : List Int) (w : World) (hl : Lies w a power) (hs : Small power) (hn : power.length = n) (hn2 : n ≤ 9223372036854775807) (hl2 : Lies w a2 edges) (hs2 : Small edges) (hm : edges.length = m) (hm2 : m ≤ 1000000) :
    Calls Try.prog 17 #[.slice a n ca, .slice a2 m c2] w (Told (bandsL power edges) w) := by
  obtain ⟨i0, hi, hz0, hz1, hz2⟩ := info_parts Try.info3
  have HI : Hid (Try.prog.info? 3 = some i0 ∧ i0.zero = some (.int .i64 0) ∧ i0.size = 1 ∧ i0.bytes = 8) := ⟨hi, hz0, hz1, hz2⟩
  have HL := hide hl
  have HS := hide hs
  have HN := hide hn
  have HL2 := hide hl2
  have HS2 := hide hs2
  have HM := hide hm
  clear hl hs hn hl2 hs2 hm hi hz0 hz1 hz2
  go_enter Try.func17, Try.ntmps17
  go_wp2_with fail
  obtain ⟨w1, hw1⟩ : ∃ w1, w.alloc (.cells #[.slice a n ca] 25) = w1 := ⟨_, rfl⟩
  have hbox : w1.cell? ⟨w.heap.size, 0, none⟩ = some (.slice a n ca) := by rw [← hw1, World.cell?_alloc_at _ _ _ _ rfl]; rfl
  have hb1 : Below w.heap.size w w1 := by rw [← hw1]; exact alloc_below w _
  have hsz1 : w1.heap.size = w.heap.size + 1 := by rw [← hw1]; simp
  rw [hw1]
  have HBOX := hide hbox
  have HB1 := hide hb1
  have HSZ1 := hide hsz1
  clear hw1 hbox hb1 hsz1
  go_loopw [12, 6] (fun i v wr => ∃ k : Nat, (k = 0 ∨ k + 2 ≤ m) ∧ i = .int .i64 (k : Int) ∧ Hid (wr.ownsRow w1.heap.size 3 1 v k (ints (bandsTo power edges k))) ∧ Hid (Below w1.heap.size w1 wr))
    (fun i _ _ => m - (intOf i).toNat)
  case atStart => exact ⟨0, .inl rfl, rfl, World.ownsRow_nil _ _ _ _, Below.refl _ _⟩
  case round =>
    obtain ⟨k, hk, rfl, HOr, HBr⟩ := hrel
    by_cases hlt : k + 2 < m
    · have HBw := hide (below_trans (unhide HB1) (by have := unhide HBr; exact this))
      obtain ⟨b2, o2, rfl, hlt2, hc2⟩ := (unhide HL2).some (by intro h; have := unhide HM; subst h; simp at this; omega)
      obtain ⟨k1, hk1⟩ : ∃ k1, k + 1 = k1 := ⟨_, rfl⟩
      obtain ⟨k2, hk2⟩ : ∃ k2, k + 2 = k2 := ⟨_, rfl⟩
      obtain ⟨e0, he0⟩ : ∃ x, edges.getD k 0 = x := ⟨_, rfl⟩
      obtain ⟨e1, he1⟩ : ∃ x, edges.getD k1 0 = x := ⟨_, rfl⟩
      obtain ⟨e2, he2⟩ : ∃ x, edges.getD k2 0 = x := ⟨_, rfl⟩
      have c0 : wr.cell? ⟨b2, o2 + k, none⟩ = some (.int .i64 e0) := by rw [(unhide HBw).cell (p := ⟨b2, _, none⟩) hlt2, ← he0]; exact hc2 k (by rw [unhide HM]; omega)
      have c1 : wr.cell? ⟨b2, o2 + k1, none⟩ = some (.int .i64 e1) := by rw [(unhide HBw).cell (p := ⟨b2, _, none⟩) hlt2, ← he1]; exact hc2 k1 (by rw [unhide HM]; omega)
      have c2' : wr.cell? ⟨b2, o2 + k2, none⟩ = some (.int .i64 e2) := by rw [(unhide HBw).cell (p := ⟨b2, _, none⟩) hlt2, ← he2]; exact hc2 k2 (by rw [unhide HM]; omega)
      have hin0 : In64 e0 := by rw [← he0]; exact (unhide HS2).all k
      have hin1 : In64 e1 := by rw [← he1]; exact (unhide HS2).all k1
      have hin2 : In64 e2 := by rw [← he2]; exact (unhide HS2).all k2
      obtain ⟨z, hz⟩ : ∃ z, bandI power e0 e1 e2 = z := ⟨_, rfl⟩
      have HSU := hide (bandsTo_step power edges k e0 e1 e2 z he0 (by rw [hk1]; exact he1) (by rw [hk2]; exact he2) hz)
      have HC : Hid (∀ w0, Below wr.heap.size wr w0 → Calls Try.prog 23 #[.int .i64 e0, .int .i64 e1, .int .i64 e2, .pointer (some ⟨w.heap.size, 0, none⟩)] w0 fun e w' => e = .returned (.int .i64 z) ∧ ∃ d, w' = w0.drewN d) := fun w0 h0 => by
        rw [← hz]
        have hs1 := unhide HSZ1
        have hs2 := (unhide HBr).size
        exact band_quiet w.heap.size a ca n power e0 e1 e2 w0 (((h0.cell (p := ⟨w.heap.size, 0, none⟩) (by show w.heap.size < wr.heap.size; omega)).trans ((unhide HBr).cell (p := ⟨w.heap.size, 0, none⟩) (by show w.heap.size < w1.heap.size; omega))).trans (unhide HBOX)) (((unhide HL).below (unhide HBw)).below h0) (unhide HS) (unhide HN) hn2 hin0 hin1 hin2
      have i1 : IntKind.i64.wrap ((k : Int) + 1) = (k1 : Int) := by rw [IntKind.wrap_i64]; omega
      have i2 : IntKind.i64.wrap ((k : Int) + 2) = (k2 : Int) := by rw [IntKind.wrap_i64]; omega
      have hkm0 : (k : Int) < (m : Int) := by omega
      have hkm1 : (k1 : Int) < (m : Int) := by omega
      have hkm2 : (k2 : Int) < (m : Int) := by omega
      have hkm3 : (k : Int) < (m : Int) - 2 := by omega
      have HK1 := hide (And.intro hk1 hk2)
      clear he0 he1 he2 hz hin0 hin1 hin2 hc2 hk2 hk1
      obtain ⟨LL, hLL⟩ : ∃ LL, ints (bandsTo power edges k) = LL := ⟨_, rfl⟩
      rw [hLL] at HOr HSU
      have hown := unhide HOr
      have hbw2 : b2 < wr.heap.size := by have := (unhide HBw).size; omega
      have hrow : ∀ t, t = b2 → Value.ownBlock u6 ≠ some t := fun t ht e => by have := (hown.lt t e).1; have := unhide HSZ1; omega
      clear hLL HOr
      have hbd : Below wr.heap.size wr wr.drew := ⟨rfl, rfl, rfl, Nat.le_refl _, fun _ _ => rfl⟩
      go_wp2_with fail
      go_region_held3 (fun w' => w'.cell? ⟨b2, o2 + k, none⟩ = some (.int .i64 e0) ∧ w'.cell? ⟨b2, o2 + k1, none⟩ = some (.int .i64 e1) ∧ w'.cell? ⟨b2, o2 + k2, none⟩ = some (.int .i64 e2)) (first | exact ⟨c0, c1, c2'⟩ | exact ⟨keep_grown2 hg3 hbw2 hrow c0, keep_grown2 hg3 hbw2 hrow c1, keep_grown2 hg3 hbw2 hrow c2'⟩ | go_keep) (first | (refine step_append_lies _ (by rfl) _ _ 25 (by rfl) w1.heap.size 3 i0 (.int .i64 0) 1 8 Try.underlying25 (unhide HI).1 (unhide HI).2.1 (unhide HI).2.2.1 (unhide HI).2.2.2 (by rfl) (by decide) _ k _ (by rfl) (hown.alloc _) ⟨wr.heap.size, 0, none⟩ 1 1 [.int .i64 z] (by rfl) (by rfl) (cell_one_new _ _ _) (ints_one [z]) (by decide) (by unfold maxLen; omega) (by omega) (by have := (unhide HBr).size; simp; omega) (wr.heap.size + 1) (by simp) ?_; intro g cp w3 hown3 hg3 hat3 hlt3) | (go_at_call 23; refine (unhide HC _ hbd).mono ?_; rintro e w' ⟨rfl, dd, rfl⟩))
      have hgr : ∀ q, Value.ownBlock _ = some q → w1.heap.size ≤ q := fun q hq => (hown.lt q hq).1
      have HB4 := hide ((((below_drewN wr _).mono (unhide HBr).size |> (unhide HBr).trans).alloc (by have := (unhide HBr).size; exact this) _).grown hg3 (by have := (unhide HBr).size; simp; omega) hgr)
      rw [← unhide HSU] at hown3
      have HO4 := hide hown3
      clear hown3 hg3 hat3 hlt3 hgr hrow hown
      go_wp2
      go_roundw
      case rel => exact ⟨k + 1, .inr (by omega), by rw [(unhide HK1).1], HO4, HB4⟩
      case measure => have := (unhide HK1).1; simp [intOf]; omega
    · have hkm : k = m - 2 := by omega
      have hge : ¬ (k : Int) < (m : Int) - 2 := by omega
      obtain ⟨a5, c5, rfl, hl5, hlen5⟩ := owned_lies (unhide HOr)
      rw [bandsTo_all power edges k (by rw [unhide HM]; exact hkm)] at hl5
      have HL5 := hide hl5
      have HB5 := hide (below_trans (unhide HB1) (unhide HBr))
      clear hl5 hlen5 HOr
      go_wp2
      go_ret
      exact ⟨_, _, _, rfl, by rw [bandsTo_all power edges (m - 2) (by rw [unhide HM])], unhide HL5, unhide HB5⟩

set_option maxRecDepth 100000 in
theorem rbands_any (a : Option Addr) (ca n : Nat) (power : List Int) (a2 : Option Addr) (c2 m : Nat) (edges : List Int) (w : World) (hl : Lies w a power) (hs : Small power) (hn : power.length = n) (hn2 : n ≤ 9223372036854775807) (hl2 : Lies w a2 edges) (hs2 : Small edges) (hm : edges.length = m) (hm2 : m ≤ 1000000) :
    Calls Try.prog 18 #[.slice a n ca, .slice a2 m c2] w (Told (bandsL power edges) w) := by
  obtain ⟨i0, hi, hz0, hz1, hz2⟩ := info_parts Try.info3
  have HI : Hid (Try.prog.info? 3 = some i0 ∧ i0.zero = some (.int .i64 0) ∧ i0.size = 1 ∧ i0.bytes = 8) := ⟨hi, hz0, hz1, hz2⟩
  have HL := hide hl
  have HS := hide hs
  have HN := hide hn
  have HL2 := hide hl2
  have HS2 := hide hs2
  have HM := hide hm
  clear hl hs hn hl2 hs2 hm hi hz0 hz1 hz2
  go_enter Try.func18, Try.ntmps18
  go_wp2_with fail
  go_loopw [6, 5] (fun i v wr => ∃ k : Nat, (k = 0 ∨ k + 2 ≤ m) ∧ i = .int .i64 (k : Int) ∧ Hid (wr.ownsRow w.heap.size 3 1 v k (ints (bandsTo power edges k))) ∧ Hid (Below w.heap.size w wr))
    (fun i _ _ => m - (intOf i).toNat)
  case atStart => exact ⟨0, .inl rfl, rfl, World.ownsRow_nil _ _ _ _, Below.refl _ _⟩
  case round =>
    obtain ⟨k, hk, rfl, HOr, HBr⟩ := hrel
    by_cases hlt : k + 2 < m
    · obtain ⟨b2, o2, rfl, hlt2, hc2⟩ := (unhide HL2).some (by intro h; have := unhide HM; subst h; simp at this; omega)
      obtain ⟨k1, hk1⟩ : ∃ k1, k + 1 = k1 := ⟨_, rfl⟩
      obtain ⟨k2, hk2⟩ : ∃ k2, k + 2 = k2 := ⟨_, rfl⟩
      obtain ⟨e0, he0⟩ : ∃ x, edges.getD k 0 = x := ⟨_, rfl⟩
      obtain ⟨e1, he1⟩ : ∃ x, edges.getD k1 0 = x := ⟨_, rfl⟩
      obtain ⟨e2, he2⟩ : ∃ x, edges.getD k2 0 = x := ⟨_, rfl⟩
      have c0 : wr.cell? ⟨b2, o2 + k, none⟩ = some (.int .i64 e0) := by rw [(unhide HBr).cell (p := ⟨b2, _, none⟩) hlt2, ← he0]; exact hc2 k (by rw [unhide HM]; omega)
      have c1 : wr.cell? ⟨b2, o2 + k1, none⟩ = some (.int .i64 e1) := by rw [(unhide HBr).cell (p := ⟨b2, _, none⟩) hlt2, ← he1]; exact hc2 k1 (by rw [unhide HM]; omega)
      have c2' : wr.cell? ⟨b2, o2 + k2, none⟩ = some (.int .i64 e2) := by rw [(unhide HBr).cell (p := ⟨b2, _, none⟩) hlt2, ← he2]; exact hc2 k2 (by rw [unhide HM]; omega)
      have hin0 : In64 e0 := by rw [← he0]; exact (unhide HS2).all k
      have hin1 : In64 e1 := by rw [← he1]; exact (unhide HS2).all k1
      have hin2 : In64 e2 := by rw [← he2]; exact (unhide HS2).all k2
      obtain ⟨z, hz⟩ : ∃ z, bandI power e0 e1 e2 = z := ⟨_, rfl⟩
      have HZ := hide hz
      have HSU := hide (bandsTo_step power edges k e0 e1 e2 z he0 (by rw [hk1]; exact he1) (by rw [hk2]; exact he2) hz)
      have hk2i : (k : Int) + 2 = (k2 : Int) := by omega
      have i1 : IntKind.i64.wrap ((k : Int) + 1) = (k1 : Int) := by rw [IntKind.wrap_i64]; omega
      have i2 : IntKind.i64.wrap ((k : Int) + 2) = (k2 : Int) := by rw [IntKind.wrap_i64]; omega
      have hkm0 : (k : Int) < (m : Int) := by omega
      have hkm1 : (k1 : Int) < (m : Int) := by omega
      have hkm2 : (k2 : Int) < (m : Int) := by omega
      have HIN := hide (And.intro hin0 (And.intro hin1 hin2))
      have HK2 := hide (And.intro hk1 hk2)
      clear he0 he1 he2 hz hin0 hin1 hin2 hc2 hk1 hk2
      go_wp2_with fail
      go_loopw [8, 7] (fun i v wr2 => ∃ b : Nat, b ≤ n ∧ i = .int .i64 (b : Int) ∧ Hid (v = .int .i64 (wrap64 (sumF (adds power e0 e1 e2) b))) ∧ Hid (∃ d, wr2 = wr.drewN d))
        (fun i _ _ => n - (intOf i).toNat)
      case atStart => exact ⟨0, Nat.zero_le _, rfl, by show _ = _; rw [show wrap64 (sumF (adds power e0 e1 e2) 0) = 0 from (show wrap64 0 = 0 from w64_in ⟨by omega, by omega⟩)], ⟨0, rfl⟩⟩
      case round =>
        obtain ⟨b, hbn, rfl, HV, HD⟩ := hrel
        obtain ⟨wr2, rfl⟩ : ∃ w2, w2 = wr := ⟨_, rfl⟩
        obtain ⟨s, hs⟩ : ∃ s, wrap64 (sumF (adds power e0 e1 e2) b) = s := ⟨_, rfl⟩
        rw [hs] at HV
        have hsb : In64 s := by rw [← hs]; exact wrap_in _
        have hv := unhide HV
        subst hv
        have HSS := hide hs
        clear HV hs
        by_cases c : b < n
        · obtain ⟨ba, oa, rfl, hlta, hca⟩ := (unhide HL).some (by intro h; have := unhide HN; subst h; simp at this; omega)
          obtain ⟨x, hx⟩ : ∃ x, power.getD b 0 = x := ⟨_, rfl⟩
          have q0 : wr2.cell? ⟨b2, o2 + k, none⟩ = some (.int .i64 e0) := by obtain ⟨d, rfl⟩ := unhide HD; exact c0
          have q1 : wr2.cell? ⟨b2, o2 + k1, none⟩ = some (.int .i64 e1) := by obtain ⟨d, rfl⟩ := unhide HD; exact c1
          have q2 : wr2.cell? ⟨b2, o2 + k2, none⟩ = some (.int .i64 e2) := by obtain ⟨d, rfl⟩ := unhide HD; exact c2'
          have q3 : wr2.cell? ⟨ba, oa + b, none⟩ = some (.int .i64 x) := by
            obtain ⟨d, rfl⟩ := unhide HD
            show wr.cell? ⟨ba, oa + b, none⟩ = _
            rw [(unhide HBr).cell (p := ⟨ba, _, none⟩) hlta, ← hx]; exact hca b (by rw [unhide HN]; exact c)
          have HX := hide hx
          obtain ⟨y, hy⟩ : ∃ y, weightI (b : Int) e0 e1 e2 = y := ⟨_, rfl⟩
          have HY := hide hy
          have HW : Hid (∀ w0, Calls Try.prog 15 #[.int .i64 (b : Int), .int .i64 e0, .int .i64 e1, .int .i64 e2] w0 fun e w' => e = .returned (.int .i64 y) ∧ w' = w0) := fun w0 => by rw [← hy]; exact rweight_any (b : Int) e0 e1 e2 _ ⟨by omega, by omega⟩ (unhide HIN).1 (unhide HIN).2.1 (unhide HIN).2.2
          have hbn' : (b : Int) < (n : Int) := by omega
          clear hx hy hca
          go_wp2_with fail
          go_quiet ((go_at_call 15; exact Calls.quiet_of_same (unhide HW _)))
          go_wp2
          go_roundw
          case rel =>
            refine ⟨b + 1, by omega, by go_num, ?_, ?_⟩
            · show _ = _
              rw [show sumF (adds power e0 e1 e2) (b + 1) = sumF (adds power e0 e1 e2) b + adds power e0 e1 e2 b from rfl, wrap_step _ _ s (wrap64 (x * y)) (unhide HSS) (by unfold adds; rw [unhide HX, unhide HY])]
            · obtain ⟨d, hd⟩ := unhide HD
              exact ⟨d + nq, by rw [hd, World.drewN_drewN]⟩
          case measure => simp [intOf]; omega
        · have HE := hide (show s / 256 = z by rw [← unhide HSS, ← unhide HZ]; exact band_upto power e0 e1 e2 n b (unhide HN) (.inl (by omega)))
          have hbn' : ¬ (b : Int) < (n : Int) := by omega
          have HSB := hide hsb
          clear hsb
          go_wp2_with fail
          refine (rquot_any s 256 _ (unhide HSB) (by decide) (by decide)).mono ?_
          rintro e w3 ⟨rfl, rfl⟩
          rw [unhide HE]
          have HB3 : Hid (Below w.heap.size w w3) := by
            obtain ⟨d, hd⟩ := unhide HD
            rw [hd]; exact (unhide HBr).trans ((below_drewN wr d).mono (unhide HBr).size)
          have HO3 : Hid (w3.ownsRow w.heap.size 3 1 u5 k (ints (bandsTo power edges k))) := by
            obtain ⟨d, hd⟩ := unhide HD
            rw [hd]; exact unhide HOr
          clear HBr HOr HD c0 c1 c2'
          go_wp2_with (at_builtin; refine wpList_append_own _ rfl _ _ 25 rfl w.heap.size 3 i0 (.int .i64 0) 1 8 Try.underlying25 (unhide HI).1 (unhide HI).2.1 (unhide HI).2.2.1 (unhide HI).2.2.2 rfl (by decide) _ _ _ rfl ((unhide HO3).alloc _) ⟨w3.heap.size, 0, none⟩ 1 1 [.int .i64 z] rfl rfl ?d1 ?d2 ?d3 ?d4 ?d5 ?_)
          case d1 => exact cell_one_new _ _ _
          case d2 => exact ints_one [z]
          case d3 => unfold maxLen; omega
          case d4 => omega
          case d5 => have := (unhide HB3).size; simp; omega
          intro v4 w5 hown4 hg4 _
          have hgr : ∀ q, Value.ownBlock _ = some q → w.heap.size ≤ q := fun q hq => ((unhide HO3).lt q hq).1
          have HB4 := hide (((unhide HB3).alloc (unhide HB3).size _).grown hg4 (by have := (unhide HB3).size; simp; omega) hgr)
          have HOwn4 := hide (show w5.ownsRow w.heap.size 3 1 v4 (k + 1) (ints (bandsTo power edges (k + 1))) by rw [unhide HSU]; exact hown4)
          clear hown4 hg4 hgr
          go_wp2
          go_roundw
          case rel => exact ⟨k + 1, .inr (by omega), by rw [(unhide HK2).1], HOwn4, HB4⟩
          case measure => have := (unhide HK2).1; simp [intOf]; omega
    · have hkm : k = m - 2 := by omega
      have hge : ¬ (k : Int) + 2 < (m : Int) := by omega
      obtain ⟨a5, c5, rfl, hl5, hlen5⟩ := owned_lies (unhide HOr)
      rw [bandsTo_all power edges k (by rw [unhide HM]; exact hkm)] at hl5
      have HL5 := hide hl5
      clear hl5 hlen5 HOr
      go_wp2
      go_ret
      exact ⟨_, _, _, rfl, by rw [bandsTo_all power edges (m - 2) (by rw [unhide HM])], unhide HL5, unhide HBr⟩
end Go.Proofs.Ytmogegacgmgkbaa
