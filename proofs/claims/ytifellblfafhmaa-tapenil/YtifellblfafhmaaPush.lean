/- Contract of a writer's push. -/
import Derived.Test.YtifellblfafhmaaMem
namespace Go.Proofs.Ytifellblfafhmaa
open Go.RowKit
set_option linter.unusedVariables false

theorem push_end {c : Nat} {n : Int} {w wr : World} {q : Option Addr} {ps : List ByteArray} {x : ByteArray} {L : List UInt8} (t : TypeId) (ho : Only c w wr) (h1 : Cells wr c [.int .i64 n, .pointer q]) (h2 : Chain c wr q ps) (hx : catR ps ++ B x = L) (h0 : 0 < x.size) :
    Only c w ((wr.setCell ⟨c, 1, none⟩ (.pointer (some ⟨wr.heap.size, 0, none⟩))).alloc (.cells #[.pointer q, .string x] t)) ∧
    ∃ q' ps', Cells ((wr.setCell ⟨c, 1, none⟩ (.pointer (some ⟨wr.heap.size, 0, none⟩))).alloc (.cells #[.pointer q, .string x] t)) c [.int .i64 n, .pointer q'] ∧ Chain c ((wr.setCell ⟨c, 1, none⟩ (.pointer (some ⟨wr.heap.size, 0, none⟩))).alloc (.cells #[.pointer q, .string x] t)) q' ps' ∧ catR ps' = L := by
  have hlt := h1.lt
  have ho' : Only c wr ((wr.setCell ⟨c, 1, none⟩ (.pointer (some ⟨wr.heap.size, 0, none⟩))).alloc (.cells #[.pointer q, .string x] t)) := ((Only.refl c wr).setCell rfl _).alloc _
  refine ⟨ho.trans ho', some ⟨wr.heap.size, 0, none⟩, x :: ps, ((h1.set 1 (.pointer (some ⟨wr.heap.size, 0, none⟩))).alloc _), ⟨wr.heap.size, q, rfl, hlt, h0, ?_, h2.only ho'⟩, hx⟩
  have := cells_new (wr.setCell ⟨c, 1, none⟩ (.pointer (some ⟨wr.heap.size, 0, none⟩))) [.pointer q, .string x] t
  rwa [show (wr.setCell ⟨c, 1, none⟩ (.pointer (some ⟨wr.heap.size, 0, none⟩))).heap.size = wr.heap.size by simp [World.setCell]] at this

set_option maxRecDepth 100000 in
set_option maxHeartbeats 1000000 in
theorem push_any (c : Nat) (n : Int) (q : Option Addr) (ps : List ByteArray) (text : ByteArray) (w : World) (h1 : Cells w c [.int .i64 n, .pointer q]) (h2 : Chain c w q ps) (hs : (catR ps).length + text.size ≤ 1000000000) (h0 : 0 < text.size) :
    Calls Try.prog 43 #[.pointer (some ⟨c, 0, none⟩), .string text] w fun e w' => e = .returned (.tuple #[]) ∧ Only c w w' ∧ ∃ q' ps', Cells w' c [.int .i64 n, .pointer q'] ∧ Chain c w' q' ps' ∧ catR ps' = catR ps ++ B text := by
  obtain ⟨L, hL⟩ : ∃ L, catR ps ++ B text = L := ⟨_, rfl⟩
  have HLL : Hid (L.length ≤ 1000000000) := by show L.length ≤ 1000000000; rw [← hL, List.length_append, B_len]; exact hs
  rw [hL]
  have H1 := hide h1
  have H2 := hide h2
  have HL := hide hL
  clear h1 h2 hL hs
  go_enter Try.func43, Try.ntmps43
  go_wp2
  go_loopg [1] ps.length (fun k t wr => ∃ (x : ByteArray) (q' : Option Addr) (ps' : List ByteArray), t = .string x ∧ Hid (0 < x.size) ∧ ps'.length = k ∧ Hid (Only c w wr) ∧ Hid (Cells wr c [.int .i64 n, .pointer q']) ∧ Hid (Chain c wr q' ps') ∧ Hid (catR ps' ++ B x = L))
  case atStart => exact ⟨text, q, ps, rfl, h0, rfl, Only.refl _ _, H1, H2, HL⟩
  case round =>
    obtain ⟨x, q', ps', rfl, H0, hk, HO, HC, HCh, HX⟩ := hrel
    have HK := hide hk
    clear hk
    have c1 := (unhide HC).cell 1 _ rfl
    have f1 := (unhide HC).free 1
    have hc := (unhide HC).lt
    cases ps' with
    | nil =>
      obtain rfl : q' = none := unhide HCh
      go_wp2
      go_end0
      exact ⟨rfl, push_end 72 (unhide HO) (unhide HC) (unhide HCh) (unhide HX) (unhide H0)⟩
    | cons s r =>
      obtain ⟨g, q2, rfl, hg, hs0, hcg, hr⟩ := unhide HCh
      have d0 := hcg.cell 0 _ rfl
      have d1 := hcg.cell 1 _ rfl
      have HR := hide hr
      have HG := hide hcg
      clear hr hcg
      have hcat : ¬ 9223372036854775807 < s.size + x.size := by
        have := congrArg List.length (unhide HX)
        rw [catR_cons, List.length_append, List.length_append, B_len, B_len] at this
        have := unhide HLL
        omega
      by_cases hle : s.size ≤ x.size
      · go_wp2
        go_roundg r.length
        case measure => rw [← unhide HK]; simp
        case rel => exact ⟨s ++ x, q2, r, rfl, by show 0 < _; rw [ByteArray.size_append]; omega, rfl, (unhide HO).setCell rfl _, (unhide HC).set 1 _, hide ((unhide HR).only ((Only.refl c wr).setCell (p := ⟨c, 1, none⟩) rfl _)), by
            show catR r ++ B (s ++ x) = L
            rw [B_append, ← List.append_assoc, ← catR_cons]
            exact unhide HX⟩
      · go_wp2
        go_end0
        exact ⟨rfl, push_end 72 (unhide HO) (unhide HC) (unhide HCh) (unhide HX) (unhide H0)⟩
end Go.Proofs.Ytifellblfafhmaa
