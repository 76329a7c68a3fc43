/- CrcTurned returns true. -/
import Derived.Test.YtaplpknjgonolaaPart
import Derived.Test.YtaplpknjgonolaaAnyr
namespace Go.Proofs.Ytaplpknjgonolaa
open Go.RowKit
set_option linter.unusedVariables false

theorem Try.info5 : (Try.prog.info? 5).map (fun i => (i.zero, i.size, i.bytes)) = some (some (.int .u8 0), 1, 1) := by kernel_rfl
theorem info_parts {P : Program} {t : TypeId} {z : Value} {s b : Nat} (h : (P.info? t).map (fun i => (i.zero, i.size, i.bytes)) = some (some z, s, b)) :
    ∃ i, P.info? t = some i ∧ i.zero = some z ∧ i.size = s ∧ i.bytes = b := by
  cases hi : P.info? t with
  | none => rw [hi] at h; simp at h
  | some i => rw [hi] at h; simp at h; exact ⟨i, rfl, h.1, h.2.1, h.2.2⟩
def cellsOf (l : List UInt8) : List Value := l.map fun x => .int .u8 (x.toNat : Int)
/-- Three texts turned by one another. -/
def mixB (a b c : List UInt8) : List UInt8 := List.zipWith (· ^^^ ·) (List.zipWith (· ^^^ ·) a b) c
theorem mix_len (a b c : ByteArray) (n : Nat) (ha : n ≤ a.size) (hb : n ≤ b.size) (hc : n ≤ c.size) : (mixB ((B a).take n) ((B b).take n) ((B c).take n)).length = n := by
  unfold mixB
  simp [B_len]
  omega
theorem mix_at (a b c : ByteArray) (n k : Nat) (ha : n ≤ a.size) (hb : n ≤ b.size) (hc : n ≤ c.size) (hk : k < n) (h : k < (mixB ((B a).take n) ((B b).take n) ((B c).take n)).length) :
    (mixB ((B a).take n) ((B b).take n) ((B c).take n))[k] = ((a[k]'(by omega)) ^^^ (b[k]'(by omega))) ^^^ (c[k]'(by omega)) := by
  have e : mixB ((B a).take n) ((B b).take n) ((B c).take n) = List.zipWith (· ^^^ ·) (List.zipWith (· ^^^ ·) ((B a).take n) ((B b).take n)) ((B c).take n) := rfl
  simp only [e, List.getElem_zipWith, List.getElem_take]
  rfl
theorem own_cell {w : World} {base n : Nat} {v : Value} {l : List UInt8} (h : w.ownsRow base 5 1 v n (cellsOf l)) (hl : l.length = n) :
    ∃ (a : Option Addr) (cap : Nat), v = .slice a n cap ∧ ∀ W', Below w.heap.size w W' → (convert 25 9 (.slice a n cap)).run Try.prog W' = .ok (.string ⟨l.toArray⟩) W' := by
  rcases h.2 with ⟨hv, h0⟩ | ⟨g, cap, cur, hv, hb, hg, _⟩
  · subst h0
    obtain rfl : l = [] := List.length_eq_zero_iff.1 hl
    refine ⟨none, 0, hv, fun W' _ => ?_⟩
    rw [run_convert_bytes_string W' 25 9 5 none 0 0 Try.underlying25 Try.underlying5 Try.underlying9]
    rfl
  · have hg' := (Array.getElem?_eq_some_iff.1 hg).1
    refine ⟨some ⟨g, 0, none⟩, cap, hv, fun W' hb => ?_⟩
    subst hl
    refine run_convert_bytes_back (P := Try.prog) W' 25 9 5 ⟨g, 0, none⟩ cap l Try.underlying25 Try.underlying5 Try.underlying9 (fun j hj => ?_)
    rw [Addr.add_lit, Nat.zero_add, hb.cell (p := ⟨g, j, none⟩) hg']
    have hc := h.cells (g := g) (by rw [hv]; rfl) j (.int .u8 (l[j].toNat : Int)) (by simp [cellsOf, List.getElem?_eq_getElem hj])
    rw [Addr.add_lit, Nat.zero_add] at hc
    exact hc
theorem byte_one (u : UInt8) : ∀ x ∈ cellsOf [u], x.oneCell' = true := by
  intro x hx
  simp [cellsOf] at hx
  subst hx
  rfl
theorem byte_new (w : World) (u : UInt8) : ∀ j x, (cellsOf [u])[j]? = some x → (w.alloc (.cells #[.int .u8 (u.toNat : Int)] 5)).drew.cell? ((⟨w.heap.size, 0, none⟩ : Addr).add j) = some x :=
  cell_one_new w (.int .u8 (u.toNat : Int)) 5
theorem min_of (x y : Nat) : (if (y : Int) < (x : Int) then (y : Int) else (x : Int)) = ((min x y : Nat) : Int) := by
  split <;> omega
theorem min_nat (x y : Nat) : (if y < x then (y : Int) else (x : Int)) = ((min x y : Nat) : Int) := by
  split <;> omega
/-- What is right for an operation: a value; or a slice of texts that lies in memory. -/
def GoodL (vals : List (Option Value)) (rows : List (Option (List ByteArray))) (j : Nat) (v : Value) (w : World) : Prop :=
  (∀ x, vals[j]? = some (some x) → v = x) ∧ (∀ ss, rows[j]? = some (some ss) → ∃ p, v = .slice p ss.length ss.length ∧ LiesS w p ss)
theorem GoodL.mono {vals : List (Option Value)} {rows : List (Option (List ByteArray))} {w w' : World} (h : ∀ p ss, LiesS w p ss → LiesS w' p ss) (j : Nat) (u : Value) (hg : GoodL vals rows j u w) : GoodL vals rows j u w' :=
  ⟨hg.1, fun ss hs => by obtain ⟨p, h1, h2⟩ := hg.2 ss hs; exact ⟨p, h1, h _ _ h2⟩⟩
theorem good_val {vals : List (Option Value)} {rows : List (Option (List ByteArray))} {j : Nat} {x : Value} {w : World} (hv : vals[j]? = some (some x)) (hr : ∀ ss, rows[j]? ≠ some (some ss)) : GoodL vals rows j x w :=
  ⟨fun y hy => by rw [hv] at hy; exact Option.some.inj (Option.some.inj hy), fun ss hs => absurd hs (hr ss)⟩
theorem good_row {vals : List (Option Value)} {rows : List (Option (List ByteArray))} {j : Nat} {p : Option Addr} {ss : List ByteArray} {w : World} (hv : ∀ x, vals[j]? ≠ some (some x)) (hr : rows[j]? = some (some ss)) (h : LiesS w p ss) : GoodL vals rows j (.slice p ss.length ss.length) w :=
  ⟨fun y hy => absurd hy (hv y), fun ss' hs => by rw [hr] at hs; obtain rfl := Option.some.inj (Option.some.inj hs); exact ⟨p, rfl, h⟩⟩
theorem keep_of {wr W' : World} {v : Value} {X : ByteArray} (hc : Hid (∀ W', Below wr.heap.size wr W' → (convert 25 9 v).run Try.prog W' = .ok (.string X) W')) (h : Hid (Below wr.heap.size wr W')) :
    Hid (Below wr.heap.size wr W') ∧ (convert 25 9 v).run Try.prog W' = .ok (.string X) W' := ⟨h, unhide hc _ (unhide h)⟩

set_option maxRecDepth 100000 in
set_option maxHeartbeats 1600000 in
theorem turned_walk (a b c : ByteArray) (w : World) : Calls Try.prog 7 #[.string a, .string b, .string c] w fun e w' => e = .returned (.bool true) ∧ Below w.heap.size w w' := by
  obtain ⟨n1, hn1, hn1c, hn1k⟩ : ∃ n1 : Nat, (if (60 : Int) < (c.size : Int) then (60 : Int) else (c.size : Int)) = (n1 : Int) ∧ n1 ≤ c.size ∧ n1 ≤ 60 := ⟨min c.size 60, min_of c.size 60, by omega, by omega⟩
  obtain ⟨n2, hn2, hn2b, hn2k⟩ : ∃ n2 : Nat, (if n1 < b.size then (n1 : Int) else (b.size : Int)) = (n2 : Int) ∧ n2 ≤ b.size ∧ n2 ≤ n1 := ⟨min b.size n1, min_nat b.size n1, by omega, by omega⟩
  obtain ⟨n, hn, hna, hnk⟩ : ∃ n : Nat, (if n2 < a.size then (n2 : Int) else (a.size : Int)) = (n : Int) ∧ n ≤ a.size ∧ n ≤ n2 := ⟨min a.size n2, min_nat a.size n2, by omega, by omega⟩
  have hnb : n ≤ b.size := by omega
  have hnc : n ≤ c.size := by omega
  have hn60 : n ≤ 60 := by omega
  obtain ⟨i0, hi, hz0, hz1, hz2⟩ := info_parts Try.info5
  obtain ⟨L, hL⟩ : ∃ L, mixB ((B a).take n) ((B b).take n) ((B c).take n) = L := ⟨_, rfl⟩
  have hLl : L.length = n := by rw [← hL]; exact mix_len a b c n hna hnb hnc
  clear hn1c hn1k hn2b hn2k hnk
  go_enter Try.func7, Try.ntmps7
  go_wp2_with fail
  refine (awake_any _).mono ?_
  rintro e w1 ⟨rfl, hb⟩
  have HB1 := hide hb
  have HL := hide hL
  have HLL := hide hLl
  clear hb hL hLl
  go_wp2
  clear hn hn1 hn2
  go_loopw [9, 10] (fun v i wr => ∃ k : Nat, k ≤ n ∧ i = .int .i64 (k : Int) ∧ wr.ownsRow w1.heap.size 5 1 v k (cellsOf (L.take k)) ∧ Below w1.heap.size w1 wr) (fun _ i _ => n - (intOf i).toNat)
  case atStart => exact ⟨0, Nat.zero_le _, rfl, World.ownsRow_nil _ _ _ _, Below.refl _ _⟩
  case round =>
    obtain ⟨k, hk, rfl, hown, hb2⟩ := hrel
    by_cases hlt : k < n
    · have hkL : k < L.length := by rw [unhide HLL]; exact hlt
      obtain ⟨u, hu⟩ : ∃ u, L[k] = u := ⟨_, rfl⟩
      have hka : k < a.size := by omega
      have hkb : k < b.size := by omega
      have hkc : k < c.size := by omega
      have hLk : ((a[k]'hka) ^^^ (b[k]'hkb)) ^^^ (c[k]'hkc) = u := by
        have hm := mix_at a b c n k hna hnb hnc hlt (by rw [unhide HL]; exact hkL)
        rw [← hm, ← hu]
        simp only [unhide HL]
      obtain ⟨v, hv⟩ : ∃ v, (a[k]'hka) ^^^ (b[k]'hkb) = v := ⟨_, rfl⟩
      have hx1 : bits .xor .u8 ((a[k]'hka).toNat : Int) ((b[k]'hkb).toNat : Int) = (v.toNat : Int) := by
        rw [u8_xor_nat _ _ (byte_lt _) (byte_lt _), ← UInt8.toNat_xor, hv]
      have hx2 : bits .xor .u8 (v.toNat : Int) ((c[k]'hkc).toNat : Int) = (u.toNat : Int) := by
        rw [u8_xor_nat _ _ (byte_lt _) (byte_lt _), ← UInt8.toNat_xor, ← hv, hLk]
      have HT : Hid (L.take (k + 1) = L.take k ++ [u]) := by
        show _ = _
        rw [List.take_succ_eq_append_getElem hkL, hu]
      have hka' : (k : Int) < a.size := by omega
      have hkb' : (k : Int) < b.size := by omega
      have hkc' : (k : Int) < c.size := by omega
      have hlt' : (k : Int) < n := by omega
      have h0k : (0 : Int) ≤ k := by omega
      have hsz := hb2.size
      have hownd : ∀ v o, wr.ownsRow w1.heap.size 5 1 v k (cellsOf (L.take k)) → ((wr.alloc o).drew).ownsRow w1.heap.size 5 1 v k (cellsOf (L.take k)) := fun v o h => h.alloc o
      clear hu hLk hv hkL
      go_wp2
      go_region_held3 (fun w' => True) (trivial) ((refine step_append_lies _ (by rfl) _ _ 25 (by rfl) w1.heap.size 5 i0 (.int .u8 0) 1 1 Try.underlying25 hi hz0 hz1 hz2 (by rfl) (by decide) _ k _ (by rfl) (hownd _ _ hown) ⟨wr.heap.size, 0, none⟩ 1 1 (cellsOf [u]) (by rfl) (by rfl) (byte_new wr u) (byte_one u) (by decide) (by unfold maxLen; omega) (by omega) (by simp; omega) (wr.heap.size + 1) (by simp) ?_; intro g cp w3 hown3 hg3 hat3 hlt3))
      all_goals (
        have hb3 : Below w1.heap.size w1 w3 := ((hb2.alloc hsz _).drew).grown hg3 (by show w1.heap.size ≤ (wr.alloc _).heap.size; simp; omega) (fun j hj => (hown.lt j hj).1)
        replace hown3 : w3.ownsRow w1.heap.size 5 1 (Value.slice (some ⟨g, 0, none⟩) (k + 1) cp) (k + 1) (cellsOf (L.take (k + 1))) := by
          rw [unhide HT]; unfold cellsOf; rw [List.map_append]; exact hown3
        clear hg3 hat3 hlt3 hownd hx1 hx2
        go_wp2
        go_roundw
        (case rel => exact ⟨k + 1, by omega, rfl, hown3, hb3⟩)
        (case measure => simp [intOf]; omega))
    · have e : k = n := by omega
      subst e
      rw [List.take_of_length_le (by rw [unhide HLL]; omega)] at hown
      obtain ⟨a0, cap0, rfl, hconv⟩ := own_cell hown (unhide HLL)
      have HC := hide hconv
      have HB2 := hide (below_trans (unhide HB1) hb2)
      clear hown hconv hi hz0 hz1 hz2 hb2 HB1
      obtain ⟨z1, hz1⟩ : ∃ z, sumN ((B a).take k) = z := ⟨_, rfl⟩
      obtain ⟨z2, hz2⟩ : ∃ z, sumN ((B b).take k) = z := ⟨_, rfl⟩
      obtain ⟨z3, hz3⟩ : ∃ z, sumN ((B c).take k) = z := ⟨_, rfl⟩
      obtain ⟨z0, hz0⟩ : ∃ z, sumN L = z := ⟨_, rfl⟩
      have l1 : z1 < 4294967296 := by rw [← hz1]; exact sum_lt _
      have l2 : z2 < 4294967296 := by rw [← hz2]; exact sum_lt _
      have l3 : z3 < 4294967296 := by rw [← hz3]; exact sum_lt _
      obtain ⟨z4, hz4⟩ : ∃ z, z1 ^^^ z2 = z := ⟨_, rfl⟩
      have l4 : z4 < 4294967296 := by rw [← hz4]; exact Nat.xor_lt_two_pow (n := 32) l1 l2
      have x1 : bits .xor .u32 (z1 : Int) (z2 : Int) = (z4 : Int) := by rw [u32_xor_nat z1 z2 l1 l2, hz4]
      have x2 : bits .xor .u32 (z4 : Int) (z3 : Int) = (z0 : Int) := by
        have h3 := sum_three ((B a).take k) ((B b).take k) ((B c).take k) (by rw [List.length_take, List.length_take, B_len, B_len]; omega) (by rw [List.length_take, List.length_take, B_len, B_len]; omega)
        rw [hz1, hz2, hz3, hz4] at h3
        rw [u32_xor_nat z4 z3 l4 l3, ← h3, ← hz0, ← unhide HL]
        rfl
      have K1 : Hid (Sums [a.extract 0 k] 1 z1) := sums_of _ _ _ rfl (by rw [← hz1]; congr 1; simp [cat, B_extract]) (by intro x hx; simp at hx; subst hx; rw [ByteArray.size_extract]; omega) (by omega)
      have K2 : Hid (Sums [b.extract 0 k] 1 z2) := sums_of _ _ _ rfl (by rw [← hz2]; congr 1; simp [cat, B_extract]) (by intro x hx; simp at hx; subst hx; rw [ByteArray.size_extract]; omega) (by omega)
      have K3 : Hid (Sums [c.extract 0 k] 1 z3) := sums_of _ _ _ rfl (by rw [← hz3]; congr 1; simp [cat, B_extract]) (by intro x hx; simp at hx; subst hx; rw [ByteArray.size_extract]; omega) (by omega)
      obtain ⟨X, hX⟩ : ∃ X : ByteArray, ⟨L.toArray⟩ = X := ⟨_, rfl⟩
      have K0 : Hid (Sums [X] 1 z0) := sums_of _ _ _ rfl (by rw [← hz0, ← hX]; congr 1; simp [cat, B]) (by intro x hx; simp at hx; subst hx; rw [← hX]; show L.toArray.size ≤ _; rw [List.size_toArray, unhide HLL]; omega) (by omega)
      rw [hX] at HC
      have s1 : (k : Int) ≤ a.size := by omega
      have s2 : (k : Int) ≤ b.size := by omega
      have s3 : (k : Int) ≤ c.size := by omega
      clear hz1 hz2 hz3 hz0 hz4 l1 l2 l3 l4 hX HL HLL hk
      go_wp2
      refine region_ssa_ok (fun w' => Below wr.heap.size wr w') (GoodL
          [some (.bool true), some (.bool true), some (.slice a0 k cap0), some (.string X), none, some (.int .u32 (z0 : Int)), some (.string a), some (.int .i64 (k : Int)), some (.string (a.extract 0 k)), none, some (.int .u32 (z1 : Int)), some (.string b), some (.int .i64 (k : Int)), some (.string (b.extract 0 k)), none, some (.int .u32 (z2 : Int)), some (.int .u32 (z4 : Int)), some (.string c), some (.int .i64 (k : Int)), some (.string (c.extract 0 k)), none, some (.int .u32 (z3 : Int)), some (.int .u32 (z0 : Int)), some (.bool true), some (.bool true), some (.bool true)]
          [none, none, none, none, some [X], none, none, none, none, some [a.extract 0 k], none, none, none, none, some [b.extract 0 k], none, none, none, none, none, some [c.extract 0 k]]) (by kernel_rfl) (by kernel_rfl) (unhide (hb_drew (hide (Below.refl _ _)))) ?_ ?_
      · intro i o ho A W hS hK hG
        have hlt : i < 26 := (Array.getElem?_eq_some_iff.1 ho).1
        match i, hlt with
        | 0, _ =>
          obtain rfl := (Option.some.inj ho).symm
          have f7 : A.tmps.getD 7 undef = .bool true := hK.2.2 7 (by kernel_rfl)
          exact wpOp_val (v := (.bool true)) (w' := W) rfl (wanted_none rfl) (by simp [execOp, Act.eval, f7]) ⟨_, rfl, hS, fun _ _ h => h, good_val rfl (by intro ss h; simp at h)⟩
        | 1, _ =>
          obtain rfl := (Option.some.inj ho).symm
          have d40 : A.tmps.getD 40 undef = .bool true := (hG ⟨0, .data⟩ (by simp) rfl 40 rfl).1 _ rfl
          exact wpOp_val (v := (.bool true)) (w' := W) rfl (wanted_none rfl) (by simp [execOp, Act.eval, d40]) ⟨_, rfl, hS, fun _ _ h => h, good_val rfl (by intro ss h; simp at h)⟩
        | 2, _ =>
          obtain rfl := (Option.some.inj ho).symm
          have g1 : A.tmps.getD 41 undef = .bool true := (hG ⟨1, .guard⟩ (by simp) rfl 41 rfl).1 _ rfl
          have f9 : A.tmps.getD 9 undef = .slice a0 k cap0 := hK.2.2 9 (by kernel_rfl)
          exact wpOp_val (v := (.slice a0 k cap0)) (w' := W) rfl (wanted_some rfl rfl g1) (by simp [execOp, Act.eval, f9]) ⟨_, rfl, hS, fun _ _ h => h, good_val rfl (by intro ss h; simp at h)⟩
        | 3, _ =>
          obtain rfl := (Option.some.inj ho).symm
          have g1 : A.tmps.getD 41 undef = .bool true := (hG ⟨1, .guard⟩ (by simp) rfl 41 rfl).1 _ rfl
          have d42 : A.tmps.getD 42 undef = .slice a0 k cap0 := (hG ⟨2, .data⟩ (by simp) rfl 42 rfl).1 _ rfl
          have hc := unhide HC W hS
          exact wpOp_val (v := (.string X)) (w' := W) rfl (wanted_some rfl rfl g1) (by simp [execOp, Act.eval, d42, hc, go_sem]) ⟨_, rfl, hS, fun _ _ h => h, good_val rfl (by intro ss h; simp at h)⟩
        | 4, _ =>
          obtain rfl := (Option.some.inj ho).symm
          have g1 : A.tmps.getD 41 undef = .bool true := (hG ⟨1, .guard⟩ (by simp) rfl 41 rfl).1 _ rfl
          have d43 : A.tmps.getD 43 undef = .string X := (hG ⟨3, .data⟩ (by simp) rfl 43 rfl).1 _ rfl
          have e0 := d43
          rw [Array.getD_eq_getD_getElem?] at e0
          exact wpOp_val (v := (.slice (some ⟨W.heap.size, 0, none⟩) 1 1)) (w' := (W.alloc (.cells #[.string X] 9))) rfl (wanted_some rfl rfl g1) (by simp [execOp, Act.eval, e0, go_sem]) ⟨_, rfl, hS.alloc hS.size _, GoodL.mono fun p ss h => h.alloc _, good_row (by intro x h; simp at h) rfl (liesS_new W [X])⟩
        | 5, _ =>
          obtain rfl := (Option.some.inj ho).symm
          have g1 : A.tmps.getD 41 undef = .bool true := (hG ⟨1, .guard⟩ (by simp) rfl 41 rfl).1 _ rfl
          obtain ⟨p, d44, hl⟩ := (hG ⟨4, .data⟩ (by simp) rfl 44 rfl).2 _ rfl
          exact wpOp_call (f := 11) (args := #[.slice p 1 1]) (w' := W) rfl (wanted_some rfl rfl g1) (by simp [execOp, Act.eval, d44, go_sem]) (Sums.go K0 W p hl (by rintro e w' ⟨rfl, hb⟩; exact ⟨_, rfl, _, rfl, below_trans hS hb, GoodL.mono fun p ss h => h.below hb, good_val rfl (by intro ss h; simp at h)⟩))
        | 6, _ =>
          obtain rfl := (Option.some.inj ho).symm
          have g1 : A.tmps.getD 41 undef = .bool true := (hG ⟨1, .guard⟩ (by simp) rfl 41 rfl).1 _ rfl
          have f0 : A.tmps.getD 0 undef = .string a := hK.2.2 0 (by kernel_rfl)
          exact wpOp_val (v := (.string a)) (w' := W) rfl (wanted_some rfl rfl g1) (by simp [execOp, Act.eval, f0]) ⟨_, rfl, hS, fun _ _ h => h, good_val rfl (by intro ss h; simp at h)⟩
        | 7, _ =>
          obtain rfl := (Option.some.inj ho).symm
          have g1 : A.tmps.getD 41 undef = .bool true := (hG ⟨1, .guard⟩ (by simp) rfl 41 rfl).1 _ rfl
          have f8 : A.tmps.getD 8 undef = .int .i64 (k : Int) := hK.2.2 8 (by kernel_rfl)
          exact wpOp_val (v := (.int .i64 (k : Int))) (w' := W) rfl (wanted_some rfl rfl g1) (by simp [execOp, Act.eval, f8]) ⟨_, rfl, hS, fun _ _ h => h, good_val rfl (by intro ss h; simp at h)⟩
        | 8, _ =>
          obtain rfl := (Option.some.inj ho).symm
          have g1 : A.tmps.getD 41 undef = .bool true := (hG ⟨1, .guard⟩ (by simp) rfl 41 rfl).1 _ rfl
          have d46 : A.tmps.getD 46 undef = .string a := (hG ⟨6, .data⟩ (by simp) rfl 46 rfl).1 _ rfl
          have d47 : A.tmps.getD 47 undef = .int .i64 (k : Int) := (hG ⟨7, .data⟩ (by simp) rfl 47 rfl).1 _ rfl
          exact wpOp_val (v := (.string (a.extract 0 k))) (w' := W) rfl (wanted_some rfl rfl g1) (by simp [execOp, Act.eval, d46, d47, go_sem, s1]) ⟨_, rfl, hS, fun _ _ h => h, good_val rfl (by intro ss h; simp at h)⟩
        | 9, _ =>
          obtain rfl := (Option.some.inj ho).symm
          have g1 : A.tmps.getD 41 undef = .bool true := (hG ⟨1, .guard⟩ (by simp) rfl 41 rfl).1 _ rfl
          have d48 : A.tmps.getD 48 undef = .string (a.extract 0 k) := (hG ⟨8, .data⟩ (by simp) rfl 48 rfl).1 _ rfl
          have e0 := d48
          rw [Array.getD_eq_getD_getElem?] at e0
          exact wpOp_val (v := (.slice (some ⟨W.heap.size, 0, none⟩) 1 1)) (w' := (W.alloc (.cells #[.string (a.extract 0 k)] 9))) rfl (wanted_some rfl rfl g1) (by simp [execOp, Act.eval, e0, go_sem]) ⟨_, rfl, hS.alloc hS.size _, GoodL.mono fun p ss h => h.alloc _, good_row (by intro x h; simp at h) rfl (liesS_new W [(a.extract 0 k)])⟩
        | 10, _ =>
          obtain rfl := (Option.some.inj ho).symm
          have g1 : A.tmps.getD 41 undef = .bool true := (hG ⟨1, .guard⟩ (by simp) rfl 41 rfl).1 _ rfl
          obtain ⟨p, d49, hl⟩ := (hG ⟨9, .data⟩ (by simp) rfl 49 rfl).2 _ rfl
          exact wpOp_call (f := 11) (args := #[.slice p 1 1]) (w' := W) rfl (wanted_some rfl rfl g1) (by simp [execOp, Act.eval, d49, go_sem]) (Sums.go K1 W p hl (by rintro e w' ⟨rfl, hb⟩; exact ⟨_, rfl, _, rfl, below_trans hS hb, GoodL.mono fun p ss h => h.below hb, good_val rfl (by intro ss h; simp at h)⟩))
        | 11, _ =>
          obtain rfl := (Option.some.inj ho).symm
          have g1 : A.tmps.getD 41 undef = .bool true := (hG ⟨1, .guard⟩ (by simp) rfl 41 rfl).1 _ rfl
          have f1 : A.tmps.getD 1 undef = .string b := hK.2.2 1 (by kernel_rfl)
          exact wpOp_val (v := (.string b)) (w' := W) rfl (wanted_some rfl rfl g1) (by simp [execOp, Act.eval, f1]) ⟨_, rfl, hS, fun _ _ h => h, good_val rfl (by intro ss h; simp at h)⟩
        | 12, _ =>
          obtain rfl := (Option.some.inj ho).symm
          have g1 : A.tmps.getD 41 undef = .bool true := (hG ⟨1, .guard⟩ (by simp) rfl 41 rfl).1 _ rfl
          have f8 : A.tmps.getD 8 undef = .int .i64 (k : Int) := hK.2.2 8 (by kernel_rfl)
          exact wpOp_val (v := (.int .i64 (k : Int))) (w' := W) rfl (wanted_some rfl rfl g1) (by simp [execOp, Act.eval, f8]) ⟨_, rfl, hS, fun _ _ h => h, good_val rfl (by intro ss h; simp at h)⟩
        | 13, _ =>
          obtain rfl := (Option.some.inj ho).symm
          have g1 : A.tmps.getD 41 undef = .bool true := (hG ⟨1, .guard⟩ (by simp) rfl 41 rfl).1 _ rfl
          have d51 : A.tmps.getD 51 undef = .string b := (hG ⟨11, .data⟩ (by simp) rfl 51 rfl).1 _ rfl
          have d52 : A.tmps.getD 52 undef = .int .i64 (k : Int) := (hG ⟨12, .data⟩ (by simp) rfl 52 rfl).1 _ rfl
          exact wpOp_val (v := (.string (b.extract 0 k))) (w' := W) rfl (wanted_some rfl rfl g1) (by simp [execOp, Act.eval, d51, d52, go_sem, s2]) ⟨_, rfl, hS, fun _ _ h => h, good_val rfl (by intro ss h; simp at h)⟩
        | 14, _ =>
          obtain rfl := (Option.some.inj ho).symm
          have g1 : A.tmps.getD 41 undef = .bool true := (hG ⟨1, .guard⟩ (by simp) rfl 41 rfl).1 _ rfl
          have d53 : A.tmps.getD 53 undef = .string (b.extract 0 k) := (hG ⟨13, .data⟩ (by simp) rfl 53 rfl).1 _ rfl
          have e0 := d53
          rw [Array.getD_eq_getD_getElem?] at e0
          exact wpOp_val (v := (.slice (some ⟨W.heap.size, 0, none⟩) 1 1)) (w' := (W.alloc (.cells #[.string (b.extract 0 k)] 9))) rfl (wanted_some rfl rfl g1) (by simp [execOp, Act.eval, e0, go_sem]) ⟨_, rfl, hS.alloc hS.size _, GoodL.mono fun p ss h => h.alloc _, good_row (by intro x h; simp at h) rfl (liesS_new W [(b.extract 0 k)])⟩
        | 15, _ =>
          obtain rfl := (Option.some.inj ho).symm
          have g1 : A.tmps.getD 41 undef = .bool true := (hG ⟨1, .guard⟩ (by simp) rfl 41 rfl).1 _ rfl
          obtain ⟨p, d54, hl⟩ := (hG ⟨14, .data⟩ (by simp) rfl 54 rfl).2 _ rfl
          exact wpOp_call (f := 11) (args := #[.slice p 1 1]) (w' := W) rfl (wanted_some rfl rfl g1) (by simp [execOp, Act.eval, d54, go_sem]) (Sums.go K2 W p hl (by rintro e w' ⟨rfl, hb⟩; exact ⟨_, rfl, _, rfl, below_trans hS hb, GoodL.mono fun p ss h => h.below hb, good_val rfl (by intro ss h; simp at h)⟩))
        | 16, _ =>
          obtain rfl := (Option.some.inj ho).symm
          have g1 : A.tmps.getD 41 undef = .bool true := (hG ⟨1, .guard⟩ (by simp) rfl 41 rfl).1 _ rfl
          have d50 : A.tmps.getD 50 undef = .int .u32 (z1 : Int) := (hG ⟨10, .data⟩ (by simp) rfl 50 rfl).1 _ rfl
          have d55 : A.tmps.getD 55 undef = .int .u32 (z2 : Int) := (hG ⟨15, .data⟩ (by simp) rfl 55 rfl).1 _ rfl
          exact wpOp_val (v := (.int .u32 (z4 : Int))) (w' := W) rfl (wanted_some rfl rfl g1) (by simp [execOp, Act.eval, d50, d55, go_sem, x1]) ⟨_, rfl, hS, fun _ _ h => h, good_val rfl (by intro ss h; simp at h)⟩
        | 17, _ =>
          obtain rfl := (Option.some.inj ho).symm
          have g1 : A.tmps.getD 41 undef = .bool true := (hG ⟨1, .guard⟩ (by simp) rfl 41 rfl).1 _ rfl
          have f2 : A.tmps.getD 2 undef = .string c := hK.2.2 2 (by kernel_rfl)
          exact wpOp_val (v := (.string c)) (w' := W) rfl (wanted_some rfl rfl g1) (by simp [execOp, Act.eval, f2]) ⟨_, rfl, hS, fun _ _ h => h, good_val rfl (by intro ss h; simp at h)⟩
        | 18, _ =>
          obtain rfl := (Option.some.inj ho).symm
          have g1 : A.tmps.getD 41 undef = .bool true := (hG ⟨1, .guard⟩ (by simp) rfl 41 rfl).1 _ rfl
          have f8 : A.tmps.getD 8 undef = .int .i64 (k : Int) := hK.2.2 8 (by kernel_rfl)
          exact wpOp_val (v := (.int .i64 (k : Int))) (w' := W) rfl (wanted_some rfl rfl g1) (by simp [execOp, Act.eval, f8]) ⟨_, rfl, hS, fun _ _ h => h, good_val rfl (by intro ss h; simp at h)⟩
        | 19, _ =>
          obtain rfl := (Option.some.inj ho).symm
          have g1 : A.tmps.getD 41 undef = .bool true := (hG ⟨1, .guard⟩ (by simp) rfl 41 rfl).1 _ rfl
          have d57 : A.tmps.getD 57 undef = .string c := (hG ⟨17, .data⟩ (by simp) rfl 57 rfl).1 _ rfl
          have d58 : A.tmps.getD 58 undef = .int .i64 (k : Int) := (hG ⟨18, .data⟩ (by simp) rfl 58 rfl).1 _ rfl
          exact wpOp_val (v := (.string (c.extract 0 k))) (w' := W) rfl (wanted_some rfl rfl g1) (by simp [execOp, Act.eval, d57, d58, go_sem, s3]) ⟨_, rfl, hS, fun _ _ h => h, good_val rfl (by intro ss h; simp at h)⟩
        | 20, _ =>
          obtain rfl := (Option.some.inj ho).symm
          have g1 : A.tmps.getD 41 undef = .bool true := (hG ⟨1, .guard⟩ (by simp) rfl 41 rfl).1 _ rfl
          have d59 : A.tmps.getD 59 undef = .string (c.extract 0 k) := (hG ⟨19, .data⟩ (by simp) rfl 59 rfl).1 _ rfl
          have e0 := d59
          rw [Array.getD_eq_getD_getElem?] at e0
          exact wpOp_val (v := (.slice (some ⟨W.heap.size, 0, none⟩) 1 1)) (w' := (W.alloc (.cells #[.string (c.extract 0 k)] 9))) rfl (wanted_some rfl rfl g1) (by simp [execOp, Act.eval, e0, go_sem]) ⟨_, rfl, hS.alloc hS.size _, GoodL.mono fun p ss h => h.alloc _, good_row (by intro x h; simp at h) rfl (liesS_new W [(c.extract 0 k)])⟩
        | 21, _ =>
          obtain rfl := (Option.some.inj ho).symm
          have g1 : A.tmps.getD 41 undef = .bool true := (hG ⟨1, .guard⟩ (by simp) rfl 41 rfl).1 _ rfl
          obtain ⟨p, d60, hl⟩ := (hG ⟨20, .data⟩ (by simp) rfl 60 rfl).2 _ rfl
          exact wpOp_call (f := 11) (args := #[.slice p 1 1]) (w' := W) rfl (wanted_some rfl rfl g1) (by simp [execOp, Act.eval, d60, go_sem]) (Sums.go K3 W p hl (by rintro e w' ⟨rfl, hb⟩; exact ⟨_, rfl, _, rfl, below_trans hS hb, GoodL.mono fun p ss h => h.below hb, good_val rfl (by intro ss h; simp at h)⟩))
        | 22, _ =>
          obtain rfl := (Option.some.inj ho).symm
          have g1 : A.tmps.getD 41 undef = .bool true := (hG ⟨1, .guard⟩ (by simp) rfl 41 rfl).1 _ rfl
          have d56 : A.tmps.getD 56 undef = .int .u32 (z4 : Int) := (hG ⟨16, .data⟩ (by simp) rfl 56 rfl).1 _ rfl
          have d61 : A.tmps.getD 61 undef = .int .u32 (z3 : Int) := (hG ⟨21, .data⟩ (by simp) rfl 61 rfl).1 _ rfl
          exact wpOp_val (v := (.int .u32 (z0 : Int))) (w' := W) rfl (wanted_some rfl rfl g1) (by simp [execOp, Act.eval, d56, d61, go_sem, x2]) ⟨_, rfl, hS, fun _ _ h => h, good_val rfl (by intro ss h; simp at h)⟩
        | 23, _ =>
          obtain rfl := (Option.some.inj ho).symm
          have g1 : A.tmps.getD 41 undef = .bool true := (hG ⟨1, .guard⟩ (by simp) rfl 41 rfl).1 _ rfl
          have d45 : A.tmps.getD 45 undef = .int .u32 (z0 : Int) := (hG ⟨5, .data⟩ (by simp) rfl 45 rfl).1 _ rfl
          have d62 : A.tmps.getD 62 undef = .int .u32 (z0 : Int) := (hG ⟨22, .data⟩ (by simp) rfl 62 rfl).1 _ rfl
          exact wpOp_val (v := (.bool true)) (w' := W) rfl (wanted_some rfl rfl g1) (by simp [execOp, Act.eval, d45, d62, go_sem]) ⟨_, rfl, hS, fun _ _ h => h, good_val rfl (by intro ss h; simp at h)⟩
        | 24, _ =>
          obtain rfl := (Option.some.inj ho).symm
          have d41 : A.tmps.getD 41 undef = .bool true := (hG ⟨1, .data⟩ (by simp) rfl 41 rfl).1 _ rfl
          have d63 : A.tmps.getD 63 undef = .bool true := (hG ⟨23, .data⟩ (by simp) rfl 63 rfl).1 _ rfl
          exact wpOp_val (v := (.bool true)) (w' := W) rfl (wanted_none rfl) (by simp [execOp, Act.eval, d41, d63, go_sem]) ⟨_, rfl, hS, fun _ _ h => h, good_val rfl (by intro ss h; simp at h)⟩
        | 25, _ =>
          obtain rfl := (Option.some.inj ho).symm
          have d64 : A.tmps.getD 64 undef = .bool true := (hG ⟨24, .data⟩ (by simp) rfl 64 rfl).1 _ rfl
          exact wpOp_val (v := (.bool true)) (w' := W) rfl (wanted_none rfl) (by simp [execOp, Act.eval, d64]) ⟨_, rfl, hS, fun _ _ h => h, good_val rfl (by intro ss h; simp at h)⟩
      · intro A W hS hK hG
        have d6 : A.tmps.getD 6 undef = .bool true := (hG 25 6 (by decide) rfl).1 _ rfl
        have e6 := d6
        rw [Array.getD_eq_getD_getElem?] at e6
        have hdf : A.defers = [] := hK.1
        go_wp2
        refine bodyPost_ret (v := .bool true) (by simp [results, Try.results7, e6, go_sem]) hdf ?_
        exact ⟨rfl, below_trans (unhide HB2) hS⟩
end Go.Proofs.Ytaplpknjgonolaa
