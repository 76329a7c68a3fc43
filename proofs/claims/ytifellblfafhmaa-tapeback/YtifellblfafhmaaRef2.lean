/- The document's reader: Read, Left, Num, Word: what they answer. -/
import Derived.Test.YtifellblfafhmaaRef
namespace Go.Proofs.Ytifellblfafhmaa
open Go.RowKit
set_option linter.unusedVariables false

/-- The document's reader lies in block c. -/
def Dr (c : Nat) (w : World) (at_ : Nat) (s : ByteArray) (e : Int) : Prop := Cells w c [.string s, .int .i64 (at_ : Int), .int .i64 e]
theorem dread_any (s : ByteArray) (w : World) : Calls Try.prog 13 #[.string s] w fun e w' => e = .returned (.pointer (some ⟨w.heap.size, 0, none⟩)) ∧ w' = w.alloc (.cells #[.string s, .int .i64 0, .int .i64 0] 50) := by
  go_enter Try.func13, Try.ntmps13
  go_wp2
  go_ret
  exact ⟨rfl, rfl⟩
theorem dr_new (w : World) (s : ByteArray) : Dr w.heap.size (w.alloc (.cells #[.string s, .int .i64 0, .int .i64 0] 50)) 0 s 0 := cells_new w [.string s, .int .i64 0, .int .i64 0] 50

theorem dleft_any (c at_ : Nat) (s : ByteArray) (e : Int) (w : World) (h : Dr c w at_ s e) (ha : at_ ≤ s.size) (hs : s.size ≤ 1000000000) :
    Calls Try.prog 26 #[.pointer (some ⟨c, 0, none⟩)] w fun e w' => e = .returned (.int .i64 ((s.size : Int) - (at_ : Int))) ∧ ∃ n, w' = w.drewN n := by
  have h0 := h.cell 0 _ rfl
  have h1 := h.cell 1 _ rfl
  clear h
  go_enter Try.func26, Try.ntmps26
  go_wp2
  go_quiet (fail)
  go_wp2
  go_ret
  exact ⟨rfl, _, rfl⟩

theorem num_down (l : List UInt8) (m : Nat) (h : m < l.length) : numL (l.drop m) = (l[m]).toNat + 256 * numL (l.drop (m + 1)) := by
  rw [List.drop_eq_getElem_cons h]
  rfl

set_option maxRecDepth 100000 in
set_option maxHeartbeats 1000000 in
theorem num_any (c at_ k : Nat) (s : ByteArray) (e : Int) (w : World) (h : Dr c w at_ s e) (ha : at_ ≤ s.size) (hs : s.size ≤ 1000000000) (hk : k ≤ 8) (he : e = 0 ∨ e = 11) :
    Calls Try.prog 16 #[.pointer (some ⟨c, 0, none⟩), .int .i64 (k : Int)] w fun e' w' => e' = .returned (.int .u64 ((takeV at_ s e k : Nat) : Int)) ∧ Only c w w' ∧ Dr c w' (takeA at_ s e k) s (takeE at_ s e k) := by
  have h0 := h.cell 0 _ rfl
  have h1 := h.cell 1 _ rfl
  have h2 := h.cell 2 _ rfl
  have f1 := h.free 1
  have f2 := h.free 2
  have H := hide h
  clear h
  by_cases he0 : e = 0
  · subst he0
    clear he
    by_cases hf : at_ + k ≤ s.size
    · obtain ⟨T1, T2, T3⟩ := take_yes hf
      rw [T1, T2, T3]
      clear T1 T2 T3
      obtain ⟨l, hl⟩ : ∃ l, ((B s).drop at_).take k = l := ⟨_, rfl⟩
      have HLL := hide (show l.length = k by rw [← hl, List.length_take, List.length_drop, B_len]; omega)
      have hat : ∀ m (hm : m < k) (hp : at_ + m < s.size), (l[m]'(by rw [unhide HLL]; exact hm)) = s[at_ + m] := by
        intro m hm hp
        subst hl
        rw [List.getElem_take, List.getElem_drop]
        rfl
      have HAt := hide hat
      rw [hl]
      clear hl hat
      have hnl : ¬ ((s.size : Int) - (at_ : Int) < (k : Int)) := by omega
      go_enter Try.func16, Try.ntmps16
      go_wp2_with fail
      refine (dleft_any c at_ s 0 _ (unhide H) ha hs).mono ?_
      rintro e w1 ⟨rfl, m, rfl⟩
      go_wp2
      go_loopw [5, 6] (fun x i wr => ∃ (j X : Nat), j ≤ k ∧ i = .int .i64 ((j : Int) - 1) ∧ x = .int .u64 (X : Int) ∧ Hid (X = numL (l.drop j)) ∧ Hid (Only c w wr) ∧ Hid (Dr c wr at_ s 0)) (fun _ i _ => (intOf i + 1).toNat)
      case atStart => exact ⟨k, 0, by omega, rfl, rfl, by show _ = _; rw [List.drop_of_length_le (by rw [unhide HLL]; omega)]; rfl, only_drewN _ _ _, unhide H⟩
      case round =>
        obtain ⟨j, X, hj, rfl, rfl, HX, HOr, HRr⟩ := hrel
        have g0 := (unhide HRr).cell 0 _ rfl
        have g1 := (unhide HRr).cell 1 _ rfl
        have e0 := (unhide HRr).free 1
        clear h0 h1 h2 f1 f2
        by_cases hlt : 0 < j
        · obtain ⟨m, rfl⟩ : ∃ m, j = m + 1 := ⟨j - 1, by omega⟩
          obtain ⟨p, hp⟩ : ∃ p, p = at_ + m := ⟨_, rfl⟩
          have hpl : p < s.size := by omega
          have hb := byte_lt (s[p]'hpl)
          have hx0 := unhide HX
          have hXb : X < 256 ^ 7 := by
            rw [hx0]
            refine Nat.lt_of_lt_of_le (numL_lt _) (Nat.pow_le_pow_right (by omega) ?_)
            rw [List.length_drop, unhide HLL]; omega
          have hXb' : X < 72057594037927936 := hXb
          have HNX : Hid ((s[p]'hpl).toNat + 256 * X = numL (l.drop m)) := by
            have hml : m < l.length := by rw [unhide HLL]; omega
            show _ = _
            rw [num_down l m hml, hx0, unhide HAt m (by omega) (by omega)]
            subst hp
            rfl
          have hw1 : IntKind.i64.wrap ((at_ : Int) + ((m : Int))) = (p : Int) := by rw [IntKind.wrap_i64]; omega
          have HP := hide hp
          clear hp hXb hx0
          rw [show ((m + 1 : Nat) : Int) - 1 = (m : Int) by omega]
          go_wp2
          go_quiet (fail)
          go_wp2
          go_roundw
          case rel => exact ⟨m, (s[p]'hpl).toNat + 256 * X, by omega, rfl, congrArg (Value.int .u64) (by omega), HNX, (unhide HOr).trans (only_drewN _ _ _), unhide HRr⟩
          case measure => simp [intOf]
        · obtain rfl : j = 0 := by omega
          go_wp2
          go_ret
          exact ⟨ret_int (by have := unhide HX; rw [List.drop_zero] at this; rw [this]), (unhide HOr).setCell rfl _, Cells.set (l := [.string s, .int .i64 (at_ : Int), .int .i64 0]) (unhide HRr) 1 _⟩
    · obtain ⟨T1, T2, T3⟩ := take_short hf
      rw [T1, T2, T3]
      clear T1 T2 T3
      have hlt : (s.size : Int) - (at_ : Int) < (k : Int) := by omega
      go_enter Try.func16, Try.ntmps16
      go_wp2_with fail
      refine (dleft_any c at_ s 0 _ (unhide H) ha hs).mono ?_
      rintro e w1 ⟨rfl, m, rfl⟩
      go_wp2
      go_ret
      exact ⟨rfl, (only_drewN c w m).setCell rfl _, Cells.set (l := [.string s, .int .i64 (at_ : Int), .int .i64 0]) (unhide H) 2 _⟩
  · obtain ⟨T1, T2, T3⟩ := take_no (at_ := at_) (s := s) (k := k) he0
    rw [T1, T2, T3]
    clear T1 T2 T3
    obtain rfl : e = 11 := by rcases he with h | h; exact absurd h he0; exact h
    go_enter Try.func16, Try.ntmps16
    go_wp2
    go_ret
    exact ⟨rfl, (Only.refl c w).setCell rfl _, Cells.set (l := [.string s, .int .i64 (at_ : Int), .int .i64 11]) (unhide H) 2 _⟩

theorem take_err {a : Nat} {s : ByteArray} {e : Int} {k : Nat} (h : e = 0 ∨ e = 11) : takeE a s e k = 0 ∨ takeE a s e k = 11 := by
  unfold takeE
  split
  · exact .inl rfl
  · split
    · exact .inr rfl
    · rcases h with h | h
      · exact absurd h (by assumption)
      · exact .inr h
theorem dword_any (c at_ : Nat) (s : ByteArray) (e : Int) (w : World) (h : Dr c w at_ s e) (ha : at_ ≤ s.size) (hs : s.size ≤ 1000000000) (he : e = 0 ∨ e = 11) :
    Calls Try.prog 19 #[.pointer (some ⟨c, 0, none⟩)] w fun e' w' => e' = .returned (.int .i64 (wordI (takeV at_ s e 4))) ∧ Only c w w' ∧ Dr c w' (takeA at_ s e 4) s (takeE at_ s e 4) := by
  have H := hide h
  have hv := takeV_lt at_ s e 4
  generalize hV : takeV at_ s e 4 = v at hv ⊢
  have hv' : v < 4294967296 := hv
  obtain ⟨z, hz⟩ : ∃ z : Int, ((takeV at_ s e 4 : Nat) : Int) = z := ⟨_, rfl⟩
  have hzv : z = (v : Int) := by rw [← hz, hV]
  have z0 : 0 ≤ z := by omega
  have z1 : z < 4294967296 := by omega
  have HZ := hide hz
  have HW := hide (show wordI v = wrap32 z by rw [hzv]; rfl)
  rw [unhide HW]
  clear h hv hV hv' hz hzv HW
  clear v
  by_cases hb : 2147483648 ≤ z
  · have HW := hide (show z - 4294967296 = wrap32 z by unfold wrap32; omega)
    go_enter Try.func19, Try.ntmps19
    go_wp2_with fail
    refine (num_any c at_ 4 s e _ (unhide H) ha hs (by omega) he).mono ?_
    rw [unhide HZ]
    rintro e' w1 ⟨rfl, ho, hr⟩
    have HO := hide ho
    have HR := hide hr
    clear ho hr
    go_wp2
    go_ret
    exact ⟨ret_int (unhide HW), unhide HO, unhide HR⟩
  · have HW := hide (show z = wrap32 z by unfold wrap32; omega)
    go_enter Try.func19, Try.ntmps19
    go_wp2_with fail
    refine (num_any c at_ 4 s e _ (unhide H) ha hs (by omega) he).mono ?_
    rw [unhide HZ]
    rintro e' w1 ⟨rfl, ho, hr⟩
    have HO := hide ho
    have HR := hide hr
    clear ho hr
    go_wp2
    go_ret
    exact ⟨ret_int (unhide HW), unhide HO, unhide HR⟩
end Go.Proofs.Ytifellblfafhmaa
