/- The walk of TapeWrites. -/
import Derived.Test.YtifellblfafhmaaWake
import Derived.Test.YtifellblfafhmaaOpen
namespace Go.Proofs.Ytifellblfafhmaa
open Go.RowKit
set_option linter.unusedVariables false

def itB (q : ItemD) : List UInt8 := itemL q.k q.n q.xs
def allB (is : List ItemD) : List UInt8 := is.flatMap itB
theorem It.below {w w' : World} {k n : Int} {a : Option Addr} {len cap : Nat} {xs : List Int} (h : It w k n a len cap xs) (hb : Below w.heap.size w w') : It w' k n a len cap xs :=
  ⟨h.k64, h.n64, h.le, h.max, h.nine, h.lies.below hb, h.some, h.small⟩
theorem ItAt.below {w w' : World} {b o : Nat} {q : ItemD} (h : ItAt w b o q) (hb : Below w.heap.size w w') (hlt : b < w.heap.size) : ItAt w' b o q := by
  obtain ⟨h0, h1, h2, h3⟩ := h
  exact ⟨by rw [hb.cell (p := ⟨b, o, none⟩) hlt]; exact h0, by rw [hb.cell (p := ⟨b, o + 1, none⟩) hlt]; exact h1, by rw [hb.cell (p := ⟨b, o + 2, none⟩) hlt]; exact h2, h3.below hb⟩
theorem allB_succ (is : List ItemD) (j : Nat) (h : j < is.length) : allB (is.take (j + 1)) = allB (is.take j) ++ itB is[j] := by
  unfold allB
  rw [List.take_succ_eq_append_getElem h, List.flatMap_append]
  simp
theorem allB_len (is : List ItemD) (h : ∀ q ∈ is, q.xs.length ≤ 9) : (allB is).length ≤ 38 * is.length := by
  induction is with
  | nil => simp [allB]
  | cons q r ih =>
    have h1 := ih (fun x hx => h x (by simp [hx]))
    have h2 := itemL_len q.k q.n q.xs (h q (by simp))
    show (itB q ++ allB r).length ≤ _
    rw [List.length_append]
    unfold itB
    simp
    omega
theorem LiesI.nine {w : World} {a : Option Addr} {is : List ItemD} (h : LiesI w a is) : ∀ q ∈ is, q.xs.length ≤ 9 := by
  intro q hq
  rcases h with rfl | ⟨b, off, _, _, h⟩
  · simp at hq
  · obtain ⟨j, hj, rfl⟩ := List.getElem_of_mem hq
    have := (h j hj).2.2.2.nine
    omega
theorem take_nine {is : List ItemD} (h : ∀ q ∈ is, q.xs.length ≤ 9) (j : Nat) : ∀ q ∈ is.take j, q.xs.length ≤ 9 := fun q hq => h q (List.mem_of_mem_take hq)

set_option maxRecDepth 100000 in
set_option maxHeartbeats 1000000 in
theorem writes_walk (a : Option Addr) (len cap : Nat) (is : List ItemD) (w : World) (hl : len ≤ 9223372036854775807) (hm : is.length = min len 30) (hi : LiesI w a is) :
    Calls Try.prog 3 #[.slice a len cap] w fun e w' => e = .returned (.bool true) ∧ Below w.heap.size w w' := by
  have HI := hide hi
  have HM := hide hm
  have H9 := hide hi.nine
  clear hi hm
  go_enter Try.func3, Try.ntmps3
  go_wp2_with fail
  refine (awake_any _).mono ?_
  rintro e w1 ⟨rfl, hb1⟩
  have HB1 := hide hb1
  have HS1 := hide hb1.size
  clear hb1
  go_wp2
  go_loopw [5, 6] (fun s i wr => ∃ (j : Nat) (t : ByteArray), j ≤ is.length ∧ s = .string t ∧ i = .int .i64 (j : Int) ∧ Hid (t = txt (allB (is.take j))) ∧ Hid (Wr w1.heap.size wr (allB (is.take j))) ∧ Hid (Below w.heap.size w wr)) (fun _ i _ => is.length - (intOf i).toNat)
  case atStart => exact ⟨0, ⟨#[]⟩, by omega, rfl, rfl, rfl, wr_new w1 30, (unhide HB1).alloc (unhide HS1) _⟩
  case round =>
    obtain ⟨j, t, hj, rfl, rfl, HT, HW, HB⟩ := hrel
    have hjm := unhide HM
    have HLen : Hid ((allB (is.take j)).length ≤ 1140) := by
      have h1 := allB_len _ (take_nine (unhide H9) j)
      show _ ≤ _
      rw [List.length_take] at h1
      omega
    by_cases hlt : j < is.length
    · have hj30 : (j : Int) < 30 := by omega
      have hjl : (j : Int) < (len : Int) := by omega
      obtain ⟨b, off, rfl, hb, hat⟩ : ∃ b off, a = some ⟨b, off, none⟩ ∧ b < w.heap.size ∧ ∀ j (h : j < is.length), ItAt w b (off + j * 3) is[j] := by
        rcases unhide HI with h | h
        · rw [h] at hlt; simp at hlt
        · exact h
      have hatj := (hat j hlt).below (unhide HB) hb
      have HNE := hide ((hat j hlt).2.2.2.lies.ne (unhide HS1))
      have HSucc := hide (allB_succ is j hlt)
      obtain ⟨q, hq⟩ : ∃ q, is[j] = q := ⟨_, rfl⟩
      rw [hq] at hatj HNE HSucc
      obtain ⟨c0, c1, c2, hit⟩ := hatj
      have HIt := hide hit
      have hcat : ¬ 9223372036854775807 < t.size + (txt (itemL q.k q.n q.xs)).size := by
        have h1 := itemL_len q.k q.n q.xs (by have := hit.nine; omega)
        rw [unhide HT, txt_size, txt_size]
        have := unhide HLen
        omega
      clear hat hit hq hjm
      go_wp2_with fail
      refine (write_any q.k q.n q.a q.len q.cap q.xs _ (unhide HIt) w1.heap.size _ (unhide HW) (unhide HNE) (by have := unhide HLen; omega)).mono ?_
      obtain ⟨x, hx⟩ : ∃ x, txt (itemL q.k q.n q.xs) = x := ⟨_, rfl⟩
      rw [hx] at hcat ⊢
      have HTx : Hid (t ++ x = txt (allB (is.take (j + 1)))) := by
        show _ = _
        rw [unhide HSucc, ← txt_append, unhide HT, ← hx]; rfl
      obtain ⟨M, hM⟩ : ∃ M, (allB (is.take (j + 1))).length = M := ⟨_, rfl⟩
      have hsz : t.size + x.size = M := by rw [← ByteArray.size_append, unhide HTx, txt_size, hM]
      rintro e w2 ⟨rfl, ho2, hw2⟩
      have HW2 : Hid (Wr w1.heap.size w2 (allB (is.take (j + 1)))) := by
        show Wr _ _ _
        rw [unhide HSucc]
        exact hw2
      have HB2 := hide ((unhide HB).trans (ho2.below (B := w.heap.size) (unhide HS1) (unhide HB).size))
      have HMM := hide hM
      clear hx ho2 hw2 hM c0 c1 c2 HIt HW HB
      go_wp2_with fail
      refine (wat_any w1.heap.size _ _ (unhide HW2)).mono ?_
      rintro e w3 ⟨rfl, rfl⟩
      rw [unhide HMM]
      go_wp2
      go_roundw
      case rel => exact ⟨j + 1, t ++ x, by omega, rfl, rfl, HTx, HW2, HB2⟩
      case measure => simp [intOf]; omega
    · obtain rfl : j = is.length := by omega
      have HTT := hide (text_same (show (⟨(allB (is.take is.length)).toArray⟩ : ByteArray) = t from (unhide HT).symm))
      have HT2 : Hid ((⟨(allB (is.take is.length)).toArray⟩ : ByteArray) = t) := (unhide HT).symm
      by_cases hl30 : (is.length : Int) < (len : Int)
      · have hj30 : ¬ ((is.length : Int) < 30) := by omega
        clear hjm
        go_wp2_with fail
        refine (wtext_any w1.heap.size _ _ (unhide HW) (by have := unhide HLen; omega)).mono ?_
        rw [unhide HT2]
        rintro e w2 ⟨rfl, hb2⟩
        have HB2 := hide (below_trans (unhide HB) hb2)
        clear hb2
        go_wp2
        go_ret
        exact ⟨rfl, unhide HB2⟩
      · clear hjm
        go_wp2_with fail
        refine (wtext_any w1.heap.size _ _ (unhide HW) (by have := unhide HLen; omega)).mono ?_
        rw [unhide HT2]
        rintro e w2 ⟨rfl, hb2⟩
        have HB2 := hide (below_trans (unhide HB) hb2)
        clear hb2
        go_wp2
        go_ret
        exact ⟨rfl, unhide HB2⟩
end Go.Proofs.Ytifellblfafhmaa
