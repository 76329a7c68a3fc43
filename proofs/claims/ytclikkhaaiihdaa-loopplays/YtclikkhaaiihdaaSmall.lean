/- Contracts of own, oldest, has, place; of a part's Get within. -/
import Derived.Test.YtclikkhaaiihdaaLeaf
namespace Go.Proofs.Ytclikkhaaiihdaa
open Go.RowKit
set_option linter.unusedVariables false

/-- A loop in block l over a part in block b of m words: frames of wd words, room for R of them, cnt were pushed. -/
structure Lo (l b c g o m : Nat) (wd : Int) (R : Nat) (cnt : Int) (w : World) : Prop where
  me : Lp l b wd cnt w
  pt : Pt b c g o m w
  pos : 1 ≤ wd
  small : wd ≤ 4096
  room : roomN m wd = R
  has : 1 ≤ R
  most : m ≤ 4096
theorem Lo.below {l b c g o m R : Nat} {wd cnt : Int} {w w' : World} (h : Lo l b c g o m wd R cnt w) (hb : Below w.heap.size w w') : Lo l b c g o m wd R cnt w' :=
  ⟨Cells.below h.me hb, Cells.below h.pt hb, h.pos, h.small, h.room, h.has, h.most⟩
theorem Lo.but {X : Nat → Prop} {l b c g o m R : Nat} {wd cnt : Int} {w w' : World} (h : Lo l b c g o m wd R cnt w) (hb : But X w w') (hl : ¬ X l) (hp : ¬ X b) : Lo l b c g o m wd R cnt w' :=
  ⟨Cells.but h.me hb hl, Cells.but h.pt hb hp, h.pos, h.small, h.room, h.has, h.most⟩
theorem Lo.most_room {l b c g o m R : Nat} {wd cnt : Int} {w : World} (h : Lo l b c g o m wd R cnt w) : R ≤ 4096 := Nat.le_trans (h.room ▸ room_le m wd) h.most
theorem Lo.room_call {l b c g o m R : Nat} {wd cnt : Int} {w : World} (h : Lo l b c g o m wd R cnt w) : Calls Try.prog 29 #[.pointer (some ⟨l, 0, none⟩)] w fun r w' => r = .returned (.int .u64 (R : Int)) ∧ ∃ n, w' = w.drewN n := by
  have := room_yes l b c g o m wd cnt w h.me h.pt h.pos ⟨by have := h.pos; omega, by have := h.small; omega⟩ h.most
  rwa [h.room] at this

set_option maxHeartbeats 1000000 in
theorem own_any (l : Nat) (w : World) : Calls Try.prog 31 #[.pointer (some ⟨l, 0, none⟩)] w fun r w' => r = .returned (.pointer (some ⟨l, 0, none⟩)) ∧ w' = w := by
  go_enter Try.func31, Try.ntmps31
  go_wp2
  go_ret
  exact ⟨rfl, rfl⟩
set_option maxHeartbeats 1000000 in
theorem own_nil (w : World) : Calls Try.prog 31 #[.pointer none] w fun r w' => r = .returned (.pointer (some ⟨w.heap.size, 0, none⟩)) ∧ Cells w' w.heap.size [.pointer none, .int .i64 0, .int .u64 0] ∧ Below w.heap.size w w' := by
  go_enter Try.func31, Try.ntmps31
  go_wp2
  go_ret
  exact ⟨rfl, cells_new w [_, _, _] _, (Below.refl _ _).alloc (Nat.le_refl _) _⟩

set_option maxHeartbeats 1000000 in
theorem get_in (c g n o m k : Nat) (L : List Int) (e : Int) (w : World) (h : Ar c g n w L e) (hm : o + m ≤ n) (hk : k < m) :
    Calls Try.prog 45 #[.pointer (some ⟨c, 0, none⟩), .slice (some ⟨g, o, none⟩) m m, .int .i64 (k : Int)] w fun r w' => r = .returned (.int .i64 (L.getD (o + k) 0)) ∧ w' = w := by
  have hcell := h.word (o + k) (by omega)
  have HD := hide (show decide (inR m (k : Int)) = true from decide_eq_true ⟨by omega, by omega⟩)
  clear h
  go_enter Try.func45, Try.ntmps45
  go_wp2_with fail
  refine (has_any _ _ _ _ _).mono ?_
  rw [unhide HD]
  rintro e' w' ⟨rfl, rfl⟩
  go_wp2
  go_ret
  exact ⟨rfl, rfl⟩
set_option maxHeartbeats 1000000 in
theorem pget_in (b c g o m n k : Nat) (L : List Int) (e : Int) (w : World) (h : Pt b c g o m w) (ha : Ar c g n w L e) (hm : o + m ≤ n) (hk : k < m) :
    Calls Try.prog 42 #[.pointer (some ⟨b, 0, none⟩), .int .i64 (k : Int)] w fun r w' => r = .returned (.int .i64 (L.getD (o + k) 0)) ∧ ∃ n, w' = w.drewN n := by
  have h0 : w.cell? ⟨b, 0, none⟩ = some (.pointer (some ⟨c, 0, none⟩)) := h.cell 0 _ rfl
  have h1 : w.cell? ⟨b, 1, none⟩ = some (.slice (some ⟨g, o, none⟩) m m) := h.cell 1 _ rfl
  have HA := hide ha
  clear h ha
  go_enter Try.func42, Try.ntmps42
  go_wp2_with fail
  go_quiet ((go_at_call 45; exact Calls.quiet_of_same (get_in c g n o m k L e _ ((unhide HA).below (below_drewN _ _)) hm hk)))
  go_wp2
  go_ret
  exact ⟨rfl, _, rfl⟩

/-- The number of the first frame that is still there. -/
def oldI (cnt : Int) (R : Nat) : Int := cnt - min cnt (R : Int)
theorem old_bd (cnt : Int) (R : Nat) (h : 0 ≤ cnt) : 0 ≤ oldI cnt R ∧ oldI cnt R ≤ cnt := by unfold oldI; omega
set_option maxHeartbeats 1000000 in
theorem oldest_any (l b c g o m R : Nat) (wd cnt : Int) (w : World) (h : Lo l b c g o m wd R cnt w) (h0 : 0 ≤ cnt) (h1 : cnt ≤ 9223372036854775807) :
    Calls Try.prog 38 #[.pointer (some ⟨l, 0, none⟩)] w fun r w' => r = .returned (.int .u64 (oldI cnt R)) ∧ ∃ n, w' = w.drewN n := by
  have c2 := h.me.cell 2 _ rfl
  have H := hide h
  have hR := h.most_room
  have HV := hide (show oldI cnt R = cnt - min cnt (R : Int) from rfl)
  obtain ⟨z, hz⟩ : ∃ z, min cnt (R : Int) = z := ⟨_, rfl⟩
  have hz0 : 0 ≤ z := by omega
  have hz1 : z ≤ cnt := by omega
  have hz2 : z ≤ 4096 := by omega
  rw [unhide HV, hz]
  clear h HV
  go_enter Try.func38, Try.ntmps38
  go_wp2_with fail
  go_quiet ((go_at_call 29; exact Calls.quiet_of ((unhide H).below (below_drewN _ _)).room_call))
  go_wp2
  · obtain rfl : z = (R : Int) := by omega
    go_ret
    exact ⟨rfl, _, rfl⟩
  · obtain rfl : z = cnt := by omega
    go_ret
    exact ⟨by simp, _, rfl⟩

/-- Whether frame number t is one of the last. -/
def hasI (cnt : Int) (R : Nat) (t : Int) : Prop := oldI cnt R ≤ t ∧ t < cnt
instance (cnt : Int) (R : Nat) (t : Int) : Decidable (hasI cnt R t) := inferInstanceAs (Decidable (_ ∧ _))
set_option maxHeartbeats 1000000 in
theorem lhas_any (l b c g o m R : Nat) (wd cnt t : Int) (w : World) (h : Lo l b c g o m wd R cnt w) (h0 : 0 ≤ cnt) (h1 : cnt ≤ 9223372036854775807) (ht : In64 t) :
    Calls Try.prog 32 #[.pointer (some ⟨l, 0, none⟩), .int .i64 t] w fun r w' => r = .returned (.bool (decide (hasI cnt R t))) ∧ ∃ n, w' = w.drewN n := by
  have c2 := h.me.cell 2 _ rfl
  have H := hide h
  obtain ⟨ht1, ht2⟩ := ht
  obtain ⟨ho1, ho2⟩ := old_bd cnt R h0
  have HV := hide (show hasI cnt R t ↔ (oldI cnt R ≤ t ∧ t < cnt) from Iff.rfl)
  have HO := hide (oldest_any l b c g o m R wd cnt w h h0 h1)
  obtain ⟨z, hz⟩ : ∃ z, oldI cnt R = z := ⟨_, rfl⟩
  rw [hz] at HV HO ho1 ho2
  clear h hz
  by_cases hn : t < 0
  · rw [show decide (hasI cnt R t) = false from decide_eq_false (fun h => by have := ((unhide HV).1 h).1; omega)]
    go_enter Try.func32, Try.ntmps32
    go_wp2
    go_ret
    exact ⟨rfl, 0, rfl⟩
  · by_cases hlo : z ≤ t
    · by_cases hhi : t < cnt
      · rw [show decide (hasI cnt R t) = true from decide_eq_true ((unhide HV).2 ⟨hlo, hhi⟩)]
        go_enter Try.func32, Try.ntmps32
        go_wp2_with fail
        refine (unhide HO).mono ?_
        rintro e' w' ⟨rfl, n, rfl⟩
        go_wp2
        go_ret
        exact ⟨rfl, _, rfl⟩
      · rw [show decide (hasI cnt R t) = false from decide_eq_false (fun h => hhi ((unhide HV).1 h).2)]
        go_enter Try.func32, Try.ntmps32
        go_wp2_with fail
        refine (unhide HO).mono ?_
        rintro e' w' ⟨rfl, n, rfl⟩
        go_wp2
        go_ret
        exact ⟨by simp; omega, _, rfl⟩
    · rw [show decide (hasI cnt R t) = false from decide_eq_false (fun h => hlo ((unhide HV).1 h).1)]
      go_enter Try.func32, Try.ntmps32
      go_wp2_with fail
      refine (unhide HO).mono ?_
      rintro e' w' ⟨rfl, n, rfl⟩
      go_wp2
      go_ret
      exact ⟨rfl, _, rfl⟩
theorem emod_bd (k : Int) (R : Nat) (hR : 1 ≤ R) : 0 ≤ k % (R : Int) ∧ k % (R : Int) < (R : Int) := ⟨Int.emod_nonneg _ (by omega), Int.emod_lt_of_pos _ (by omega)⟩
/-- Where frame number k lies in the part. -/
def atI (k : Int) (R : Nat) (wd : Int) : Int := k % (R : Int) * wd
theorem at_bd (k : Int) (m R : Nat) (wd : Int) (hw : 1 ≤ wd) (hr : roomN m wd = R) (hR : 1 ≤ R) : 0 ≤ atI k R wd ∧ atI k R wd + wd ≤ (m : Int) := by
  obtain ⟨h1, h2⟩ := emod_bd k R hR
  unfold atI
  obtain ⟨d, rfl⟩ : ∃ d : Nat, wd = (d : Int) := ⟨wd.toNat, by omega⟩
  obtain ⟨q, hq⟩ : ∃ q : Nat, k % (R : Int) = (q : Int) := ⟨(k % (R : Int)).toNat, by omega⟩
  rw [hq] at h1 h2 ⊢
  unfold roomN at hr
  rw [if_neg (by omega), Int.toNat_natCast] at hr
  have h3 : (q + 1) * d ≤ R * d := Nat.mul_le_mul_right d (by omega)
  have h4 : R * d ≤ m := by rw [← hr]; exact Nat.div_mul_le_self m d
  rw [Nat.add_mul, Nat.one_mul] at h3
  refine ⟨?_, ?_⟩
  · exact Int.mul_nonneg (by omega) (by omega)
  · have : ((q * d + d : Nat) : Int) ≤ (m : Int) := by omega
    simpa using this
set_option maxHeartbeats 1000000 in
theorem place_any (l b c g o m R : Nat) (wd cnt k : Int) (w : World) (h : Lo l b c g o m wd R cnt w) (h0 : 0 ≤ k) (h1 : k ≤ 9223372036854775807) :
    Calls Try.prog 41 #[.pointer (some ⟨l, 0, none⟩), .int .u64 k] w fun r w' => r = .returned (.int .i64 (atI k R wd)) ∧ ∃ n, w' = w.drewN n := by
  have c1 := h.me.cell 1 _ rfl
  have H := hide h
  have hR := h.most_room
  have hR1 := h.has
  obtain ⟨hb1, hb2⟩ := at_bd k m R wd h.pos h.room h.has
  obtain ⟨he1, he2⟩ := emod_bd k R hR1
  have hm := h.most
  have hp := h.pos
  have HV := hide (show atI k R wd = k % (R : Int) * wd from rfl)
  rw [unhide HV] at hb1 hb2 ⊢
  have hb3 : k % (R : Int) * wd ≤ 4096 := by omega
  have htm : k.tmod (R : Int) = k % (R : Int) := Int.tmod_eq_emod_of_nonneg h0
  clear h HV
  go_enter Try.func41, Try.ntmps41
  go_wp2_with fail
  go_quiet ((go_at_call 29; exact Calls.quiet_of ((unhide H).below (below_drewN _ _)).room_call))
  go_wp2
  go_ret
  exact ⟨rfl, _, rfl⟩
end Go.Proofs.Ytclikkhaaiihdaa
