/- CrcTells returns true. -/
import Derived.Test.YtaplpknjgonolaaBack
namespace Go.Proofs.Ytaplpknjgonolaa
open Go.RowKit
set_option linter.unusedVariables false

/-- A row of bytes lies in a block of its own. -/
def RowB (W : World) (g : Nat) (l : List UInt8) : Prop :=
  ∃ (cs : Array Value) (lo hi : Nat), W.heap[g]? = some (.cells cs 5 (lo, hi)) ∧ l.length ≤ lo ∧ ∀ j (h : j < l.length), cs[j]? = some (.int .u8 (l[j].toNat : Int))
theorem RowB.lt {W : World} {g : Nat} {l : List UInt8} (h : RowB W g l) : g < W.heap.size := by
  obtain ⟨cs, lo, hi, h1, _⟩ := h
  exact (Array.getElem?_eq_some_iff.1 h1).1
theorem RowB.cell {W : World} {g : Nat} {l : List UInt8} (h : RowB W g l) (j : Nat) (hj : j < l.length) : W.cell? ⟨g, j, none⟩ = some (.int .u8 (l[j].toNat : Int)) := by
  obtain ⟨cs, lo, hi, h1, _, h3⟩ := h
  unfold World.cell?
  rw [h1]
  exact h3 j hj
theorem RowB.free {W : World} {g : Nat} {l : List UInt8} (h : RowB W g l) (j : Nat) (hj : j < l.length) : W.frozen? ⟨g, j, none⟩ = false := by
  obtain ⟨cs, lo, hi, h1, h2, _⟩ := h
  unfold World.frozen?
  rw [h1]
  simp
  omega
theorem RowB.below {W W' : World} {g : Nat} {l : List UInt8} (h : RowB W g l) (hb : Below W.heap.size W W') : RowB W' g l := by
  have hl := h.lt
  obtain ⟨cs, lo, hi, h1, h2, h3⟩ := h
  exact ⟨cs, lo, hi, by rw [hb.block g hl]; exact h1, h2, h3⟩
theorem RowB.set {W : World} {g : Nat} {l : List UInt8} (h : RowB W g l) (i : Nat) (v : UInt8) (hi : i < l.length) : RowB (W.setCell ⟨g, i, none⟩ (.int .u8 (v.toNat : Int))) g (l.set i v) := by
  obtain ⟨cs, lo, hi', h1, h2, h3⟩ := h
  refine ⟨cs.setIfInBounds i (.int .u8 (v.toNat : Int)), lo, hi', ?_, by simpa using h2, fun j hj => ?_⟩
  · simp [World.setCell, Array.getElem?_modify, h1]
  · have hj' : j < l.length := by simpa using hj
    have hij := (Array.getElem?_eq_some_iff.1 (h3 i hi)).1
    rw [Array.getElem?_setIfInBounds, List.getElem_set]
    by_cases e : i = j
    · subst e; rw [if_pos rfl, if_pos rfl, if_pos hij]
    · rw [if_neg e, if_neg e]; exact h3 j hj'
/-- '[]byte(s)'. -/
theorem bytes_of (s : ByteArray) (w : World) : ∃ (C : Nat) (W : World), (convert 9 25 (.string s)).run Try.prog w = .ok (.slice (some ⟨w.heap.size, 0, none⟩) s.size C) W ∧ Below w.heap.size w W ∧ RowB W w.heap.size (B s) := by
  refine ⟨_, _, run_bytes_of_string (P := Try.prog) w 9 25 5 s Try.underlying9 Try.underlying25 Try.underlying5, ?_, ?_⟩
  · exact undrew ((Below.refl _ w.drew).alloc (Nat.le_refl _) _)
  · refine ⟨bytesRow s (grownCap w s.size 0 5), (bytesRow s (grownCap w s.size 0 5)).size, (bytesRow s (grownCap w s.size 0 5)).size + 1, ?_, ?_, fun j hj => ?_⟩
    · show (w.heap.push _)[w.heap.size]? = _
      simp
    · rw [B_len]
      simp [bytesRow]
    · have hj' : j < s.data.size := by rw [B_len] at hj; exact hj
      rw [bytesRow_at s _ j hj']
      rfl
/-- 'string(b)'. -/
theorem text_of {W : World} {g : Nat} {l : List UInt8} (h : RowB W g l) (n cap : Nat) (hn : l.length = n) : (convert 25 9 (.slice (some ⟨g, 0, none⟩) n cap)).run Try.prog W = .ok (.string ⟨l.toArray⟩) W := by
  subst hn
  exact run_convert_bytes_back (P := Try.prog) W 25 9 5 ⟨g, 0, none⟩ cap l Try.underlying25 Try.underlying5 Try.underlying9 (fun j hj => by
    rw [Addr.add_lit, Nat.zero_add]
    exact h.cell j hj)
theorem byte_of (q : Int) : ∃ v : UInt8, (v.toNat : Int) = q % 256 := ⟨UInt8.ofNat (q % 256).toNat, by
  rw [UInt8.toNat_ofNat']
  omega⟩
theorem mod_at (t : Int) (n : Nat) (h1 : 1 ≤ n) (h2 : n ≤ 1000000) : ∃ i : Nat, (wrap64 (t.tmod (n : Int) + (n : Int))).tmod (n : Int) = (i : Int) ∧ i < n := by
  have h := mod_bd t n (by omega) (by omega)
  exact ⟨((wrap64 (t.tmod (n : Int) + (n : Int))).tmod (n : Int)).toNat, by omega, by omega⟩

set_option maxRecDepth 100000 in
set_option maxHeartbeats 1600000 in
theorem tells_walk (s frame : ByteArray) (p q : Int) (w : World) (hp : In64 p) (hq : In64 q) : Calls Try.prog 3 #[.string s, .string frame, .agg #[.int .i64 p, .int .i64 q]] w fun e w' => e = .returned (.bool true) ∧ Below w.heap.size w w' := by
  obtain ⟨t, ht⟩ : ∃ t, shortB s = t := ⟨_, rfl⟩
  obtain ⟨t', ht'⟩ : ∃ t, shortB frame = t := ⟨_, rfl⟩
  have htl : t.size ≤ 60 := by rw [← ht]; exact shortB_le s
  have htl' : t'.size ≤ 60 := by rw [← ht']; exact shortB_le frame
  obtain ⟨f, hf⟩ : ∃ f, sealB t = f := ⟨_, rfl⟩
  have hfs : f.size = t.size + 4 := by rw [← hf]; exact size_seal t
  obtain ⟨i, hi, hif⟩ := mod_at p f.size (by omega) (by omega)
  obtain ⟨v, hv⟩ := byte_of q
  obtain ⟨z, hz⟩ : ∃ z, sumN (B t) = z := ⟨_, rfl⟩
  have HZ := hide hz
  have HT := hide ht
  have HT' := hide ht'
  have HF := hide hf
  have HFS := hide hfs
  have HTL := hide htl
  have HTL' := hide htl'
  have HIF := hide hif
  have hf4 : 4 ≤ f.size := by omega
  have hf64 : f.size ≤ 64 := by omega
  clear ht hf hfs ht' htl htl' hz
  go_enter Try.func3, Try.ntmps3
  go_wp2_with fail
  refine (awake_any _).mono ?_
  rintro e w1 ⟨rfl, hb⟩
  have hbw : Below w.heap.size w w1 := ((Below.refl _ w).alloc (Nat.le_refl _) _).trans (hb.mono (by simp))
  have c0 : w1.cell? ⟨w.heap.size, 0, none⟩ = some (.int .i64 p) := by
    rw [hb.cell (p := ⟨w.heap.size, 0, none⟩) (by simp), World.cell?_alloc_at _ _ _ _ rfl]; rfl
  have c1 : w1.cell? ⟨w.heap.size, 1, none⟩ = some (.int .i64 q) := by
    rw [hb.cell (p := ⟨w.heap.size, 1, none⟩) (by simp), World.cell?_alloc_at _ _ _ _ rfl]; rfl
  have hlt : w.heap.size < w1.heap.size := by have := hb.size; simp at this; omega
  have HB1 := hide hbw
  clear hb hbw
  go_wp2_with fail
  refine (short_any s _).mono ?_
  rintro e w1 ⟨rfl, rfl⟩
  rw [unhide HT]
  go_wp2_with fail
  refine (rseal_any t _ (by have := unhide HTL; omega)).mono ?_
  rintro e w2 ⟨rfl, hb⟩
  rw [unhide HF]
  obtain ⟨C, W, hconv, hbW, hrow⟩ := bytes_of f w2
  have hb2 := below_trans hb hbW
  have d0 : W.cell? ⟨w.heap.size, 0, none⟩ = some (.int .i64 p) := (hb2.cell (p := ⟨w.heap.size, 0, none⟩) hlt).trans c0
  have d1 : W.cell? ⟨w.heap.size, 1, none⟩ = some (.int .i64 q) := (hb2.cell (p := ⟨w.heap.size, 1, none⟩) hlt).trans c1
  have HB2 := hide (below_trans (unhide HB1) hb2)
  have hgl : w.heap.size ≤ w2.heap.size := Nat.le_trans (Nat.le_of_lt hlt) hb.size
  have HGL := hide hgl
  obtain ⟨g, hg⟩ : ∃ g, w2.heap.size = g := ⟨_, rfl⟩
  rw [hg] at hconv hrow HGL
  have hil : i < (B f).length := by rw [B_len]; exact hif
  have e0 := hrow.cell i hil
  have e1 := hrow.free i hil
  have HR := hide (hrow.set i v hil)
  clear hb hb2 hbW c0 c1 hgl HB1 hg hlt
  go_wp2_with fail
  rw [← hv]
  obtain ⟨W2, hW2⟩ : ∃ W2, W.setCell ⟨g, i, none⟩ (.int .u8 (v.toNat : Int)) = W2 := ⟨_, rfl⟩
  have hsz : W.heap.size = W2.heap.size := by rw [← hW2]; simp [World.setCell]
  rw [hW2] at HR
  have HB3 : Hid (Below w.heap.size w W2) := by rw [← hW2]; exact (unhide HB2).setCell (unhide HGL) _
  rw [hW2, hsz]
  clear hW2 hsz HB2 e0 e1 d0 d1 hrow hconv hi hv hil hif
  refine (sum_one t _ (by have := unhide HTL; omega)).mono ?_
  rintro e w3 ⟨rfl, hb⟩
  rw [unhide HZ]
  have HB4 := hide (below_trans (unhide HB3) hb)
  have HR4 := hide ((unhide HR).below hb)
  clear hb HB3 HR
  go_wp2_with fail
  refine (rsum_any t _ (by have := unhide HTL; omega)).mono ?_
  rintro e w3 ⟨rfl, rfl⟩
  rw [unhide HZ]
  go_wp2_with fail
  refine (seal_any t _ (by have := unhide HTL; omega)).mono ?_
  rintro e w4 ⟨rfl, hb⟩
  rw [unhide HF]
  have HB5 := hide (below_trans (unhide HB4) hb)
  have HR5 := hide ((unhide HR4).below hb)
  clear hb HB4 HR4
  go_wp2_with fail
  refine (rseal_any t _ (by have := unhide HTL; omega)).mono ?_
  rintro e w5 ⟨rfl, hb⟩
  rw [unhide HF]
  have HB6 := hide (below_trans (unhide HB5) hb)
  have HR6 := hide ((unhide HR5).below hb)
  clear hb HB5 HR5
  go_wp2_with fail
  refine (short_any frame _).mono ?_
  rintro e w5 ⟨rfl, rfl⟩
  rw [unhide HT']
  go_wp2_with fail
  refine (opens_any t' _ (by have := unhide HTL'; omega)).mono ?_
  rintro e w6 ⟨rfl, hb⟩
  have HB7 := hide (below_trans (unhide HB6) hb)
  have hr7 := (unhide HR6).below hb
  have hcv := text_of hr7 f.size C (by rw [List.length_set, B_len])
  clear hb HB6 HR6 hr7
  go_wp2_with fail
  refine (opens_any _ _ (by show (List.toArray _).size ≤ _; rw [List.size_toArray, List.length_set, B_len]; omega)).mono ?_
  rintro e w7 ⟨rfl, hb⟩
  have HB8 := hide (below_trans (unhide HB7) hb)
  clear hb HB7 hcv
  go_wp2
  go_ret
  exact ⟨rfl, unhide HB8⟩
end Go.Proofs.Ytaplpknjgonolaa
