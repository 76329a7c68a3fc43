/- The two arenas, the part and the act at hand: what the regions of ArenaPlays keep. -/
import Derived.Test.YtbekechjphangaaOpen
import Derived.Test.YtbekechjphangaaPart
import Derived.Test.YtbekechjphangaaKeeps
namespace Go.Proofs.Ytbekechjphangaa
open Go.RowKit
set_option linter.unusedVariables false

set_option maxHeartbeats 1000000 in
/-- Part, whatever is asked. -/
theorem part_val (c g n : Nat) (at_ m : Int) (L : List Int) (e : Int) (w : World) (h : Ar c g n w L e) (hn : n ≤ 4096) (hat : In64 at_) (hm : In64 m) :
    Calls Try.prog 11 #[.pointer (some ⟨c, 0, none⟩), .int .i64 at_, .int .i64 m] w fun r w' => ∃ P, r = .returned (.pointer P) ∧ Below w.heap.size w w' ∧ ((0 ≤ at_ ∧ 0 ≤ m ∧ at_ + m ≤ n) → P = some ⟨w.heap.size, 0, none⟩ ∧ ∃ o, Pt w.heap.size c g o m.toNat w' ∧ o + m.toNat ≤ n ∧ (0 < m.toNat → o = at_.toNat)) ∧ (¬ (0 ≤ at_ ∧ 0 ≤ m ∧ at_ + m ≤ n) → P = none) := by
  by_cases hy : 0 ≤ at_ ∧ 0 ≤ m ∧ at_ + m ≤ n
  · obtain ⟨k, rfl⟩ : ∃ k : Nat, at_ = (k : Int) := ⟨at_.toNat, by omega⟩
    obtain ⟨j, rfl⟩ : ∃ j : Nat, m = (j : Int) := ⟨m.toNat, by omega⟩
    refine (part_yes c g n k j L e w h hn (by omega)).mono ?_
    rintro r w' ⟨o, rfl, hp, h1, h2, hb⟩
    exact ⟨_, rfl, hb, fun _ => ⟨rfl, o, hp, h1, h2⟩, fun hno => absurd hy hno⟩
  · refine (part_no c g n at_ m L e w h hn hat hm hy).mono ?_
    rintro r w' ⟨rfl, rfl⟩
    exact ⟨_, rfl, Below.refl _ _, fun h => absurd h hy, fun _ => rfl⟩

/-- The same words are meant, where there is none. -/
theorem getI_off {L : List Int} {o p m : Nat} {i : Int} (h : 0 < m → o = p) : getI L o m i = getI L p m i := by
  unfold getI
  by_cases hi : inR m i
  · rw [if_pos hi, if_pos hi, h (by unfold inR at hi; omega)]
  · rw [if_neg hi, if_neg hi]
theorem putL_off {L : List Int} {o p m : Nat} {i x : Int} (h : 0 < m → o = p) : putL L o m i x = putL L p m i x := by
  unfold putL
  by_cases hi : inR m i
  · rw [h (by unfold inR at hi; omega)]
  · rw [if_neg (fun h => hi h.1), if_neg (fun h => hi h.1)]

/-- What holds between the regions: the arena, the document's, the part. -/
structure Both (X : Nat → Prop) (w0 : World) (c g N B d pb o M : Nat) (La : List Int) (ea : Int) (Lb : List Int) (eb : Int) (W : World) : Prop where
  ar : Ar c g N W La ea
  rg : Rg X B d N W Lb eb
  pt : Pt pb c g o M W
  bl : Below w0.heap.size w0 W
/-- Which block is which. -/
structure Ranks (w0 : World) (c g B d pb sb : Nat) : Prop where
  c0 : w0.heap.size ≤ c
  g0 : w0.heap.size ≤ g
  p0 : w0.heap.size ≤ pb
  cB : c < B
  gB : g < B
  pB : B ≤ pb
  pc : pb ≠ c
  pg : pb ≠ g
  pd : pb ≠ d
  ds : d < sb
  Bs : B ≤ sb
  ps : pb < sb
/-- .. and the act at hand lies in block sb. -/
structure St (X : Nat → Prop) (w0 : World) (c g N B d pb o M sb : Nat) (s : ActD) (La : List Int) (ea : Int) (Lb : List Int) (eb : Int) (W : World) : Prop where
  both : Both X w0 c g N B d pb o M La ea Lb eb W
  sc : Cells W sb s.cells
variable {X : Nat → Prop} {w0 : World} {c g N B d pb o M sb : Nat} {s : ActD} {La : List Int} {ea : Int} {Lb : List Int} {eb : Int} {W W' : World}
theorem Both.below (h : Both X w0 c g N B d pb o M La ea Lb eb W) (hb : Below W.heap.size W W') : Both X w0 c g N B d pb o M La ea Lb eb W' :=
  ⟨h.ar.below hb, h.rg.below hb, Cells.below h.pt hb, below_trans h.bl hb⟩
theorem Both.drew (h : Both X w0 c g N B d pb o M La ea Lb eb W) : Both X w0 c g N B d pb o M La ea Lb eb W.drew :=
  ⟨h.ar.drew, h.rg.drew, h.pt, h.bl.drew⟩
theorem St.below (h : St X w0 c g N B d pb o M sb s La ea Lb eb W) (hb : Below W.heap.size W W') : St X w0 c g N B d pb o M sb s La ea Lb eb W' := ⟨h.both.below hb, h.sc.below hb⟩
theorem Both.stepA {La' : List Int} {ea' : Int} (r : Ranks w0 c g B d pb sb) (h : Both X w0 c g N B d pb o M La ea Lb eb W) (ht : Two c g W W') (ha : Ar c g N W' La' ea') : Both X w0 c g N B d pb o M La' ea' Lb eb W' :=
  ⟨ha, h.rg.two ht r.cB r.gB, Cells.two h.pt ht r.pc r.pg, h.bl.trans (ht.below r.c0 r.g0 h.bl.size)⟩
theorem St.stepA {La' : List Int} {ea' : Int} (r : Ranks w0 c g B d pb sb) (h : St X w0 c g N B d pb o M sb s La ea Lb eb W) (ht : Two c g W W') (ha : Ar c g N W' La' ea') : St X w0 c g N B d pb o M sb s La' ea' Lb eb W' :=
  ⟨h.both.stepA r ht ha, h.sc.two ht (by have := r.cB; have := r.Bs; omega) (by have := r.gB; have := r.Bs; omega)⟩
theorem Both.stepD {Lb' : List Int} {eb' : Int} (r : Ranks w0 c g B d pb sb) (h : Both X w0 c g N B d pb o M La ea Lb eb W) (ho : Only d W W') (hr : Rg X B d N W' Lb' eb') : Both X w0 c g N B d pb o M La ea Lb' eb' W' :=
  ⟨h.ar.only ho (by have := r.cB; have := hr.base; omega) (by have := r.gB; have := hr.base; omega), hr, Cells.only h.pt ho r.pd, h.bl.trans (ho.below (by have := r.c0; have := r.cB; have := hr.base; omega) h.bl.size)⟩
theorem St.stepD {Lb' : List Int} {eb' : Int} (r : Ranks w0 c g B d pb sb) (h : St X w0 c g N B d pb o M sb s La ea Lb eb W) (ho : Only d W W') (hr : Rg X B d N W' Lb' eb') : St X w0 c g N B d pb o M sb s La ea Lb' eb' W' :=
  ⟨h.both.stepD r ho hr, h.sc.only ho (by have := r.ds; omega)⟩
theorem Both.stepP {Lb' : List Int} {eb' : Int} (r : Ranks w0 c g B d pb sb) (hx : X pb) (h : Both X w0 c g N B d pb o M La ea Lb eb W) (hb : Below B W W') (hr : Rg X B d N W' Lb' eb') (hc : ∀ k l, X k → k ≠ d → Cells W k l → Cells W' k l) : Both X w0 c g N B d pb o M La ea Lb' eb' W' :=
  ⟨h.ar.under hb r.cB r.gB, hr, hc _ _ hx r.pd h.pt, h.bl.trans (hb.mono (by have := r.c0; have := r.cB; omega))⟩
theorem St.stepP {Lb' : List Int} {eb' : Int} (r : Ranks w0 c g B d pb sb) (hx : X pb) (hs : X sb) (h : St X w0 c g N B d pb o M sb s La ea Lb eb W) (hb : Below B W W') (hr : Rg X B d N W' Lb' eb') (hc : ∀ k l, X k → k ≠ d → Cells W k l → Cells W' k l) : St X w0 c g N B d pb o M sb s La ea Lb' eb' W' :=
  ⟨h.both.stepP r hx hb hr hc, hc _ _ hs (by have := r.ds; omega) h.sc⟩
theorem Both.other {Y : Nat → Prop} (h : Both X w0 c g N B d pb o M La ea Lb eb W) (hY : ∀ k, k < W.heap.size → Y k → X k) : Both Y w0 c g N B d pb o M La ea Lb eb W := ⟨h.ar, h.rg.other hY, h.pt, h.bl⟩
/-- A row that an act made. -/
def RowOk (s0 m : Nat) (xs : List Int) (v : Value) (w : World) : Prop := ∃ a cap, v = .slice a m cap ∧ Lies w a xs ∧ (a = none → m = 0 ∧ cap = 0) ∧ (∀ p, a = some p → s0 ≤ p.block)
theorem RowOk.below {s0 m : Nat} {xs : List Int} {v : Value} (h : RowOk s0 m xs v W) (hb : Below W.heap.size W W') : RowOk s0 m xs v W' := by
  obtain ⟨a, cap, h1, h2, h3, h4⟩ := h
  exact ⟨a, cap, h1, h2.below hb, h3, h4⟩
theorem Lies.two {a : Option Addr} {xs : List Int} {p q : Nat} (h : Lies W a xs) (ht : Two p q W W') (hp : ∀ x, a = Option.some x → x.block ≠ p ∧ x.block ≠ q) : Lies W' a xs := by
  rcases h with h | ⟨b, off, rfl, hb, hc⟩
  · exact .inl h
  · refine .inr ⟨b, off, rfl, Nat.lt_of_lt_of_le hb ht.size, fun j hj => ?_⟩
    have : W'.cell? ⟨b, off + j, none⟩ = W.cell? ⟨b, off + j, none⟩ := World.cell?_of_block (ht.block b hb (hp _ rfl).1 (hp _ rfl).2)
    rw [this]
    exact hc j hj
theorem RowOk.two {s0 m p q : Nat} {xs : List Int} {v : Value} (h : RowOk s0 m xs v W) (ht : Two p q W W') (hp : p < s0) (hq : q < s0) : RowOk s0 m xs v W' := by
  obtain ⟨a, cap, h1, h2, h3, h4⟩ := h
  exact ⟨a, cap, h1, h2.two ht (fun x hx => ⟨by have := h4 x hx; omega, by have := h4 x hx; omega⟩), h3, h4⟩
theorem RowOk.only {s0 m p : Nat} {xs : List Int} {v : Value} (h : RowOk s0 m xs v W) (ht : Only p W W') (hp : p < s0) : RowOk s0 m xs v W' := h.two (q := p) (Two.of_left ht) hp hp
end Go.Proofs.Ytbekechjphangaa
