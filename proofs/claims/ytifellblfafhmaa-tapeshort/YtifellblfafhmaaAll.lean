/- Contracts of a writer's Text. -/
import Derived.Test.YtifellblfafhmaaWrow
import Derived.Laws.CopyOwn
import Derived.Deep.OwnRows
namespace Go.Proofs.Ytifellblfafhmaa
open Go.RowKit
set_option linter.unusedVariables false

theorem cellsB_one (l : List UInt8) : ∀ v ∈ cellsB l, v.oneCell' = true := by
  intro v hv
  unfold cellsB at hv
  obtain ⟨b, _, rfl⟩ := List.mem_map.1 hv
  rfl
theorem run_copy_text {P : Program} (w : World) (dT sT ty elem : TypeId) (g o dLen dCap : Nat) (x : ByteArray) (cur : List Value) (t : TypeId)
    (hu : P.underlying dT = some (.slice elem)) (hs : (P.info? elem).map (·.size) = some 1)
    (hg : w.heap[g]? = some (.cells cur.toArray t (0, 0))) (hx : x.size ≤ dLen) (hfit : o + x.size ≤ cur.length) :
    (Builtin.copy_ #[dT, sT] ty #[.slice (some ⟨g, o, none⟩) dLen dCap, .string x]).run P w = .ok (goInt x.size) (w.setRow g (splice cur o (cellsB (B x))).toArray) := by
  have hl : (cellsB (B x)).length = x.size := by unfold cellsB; rw [List.length_map, B_len]
  have hst := run_storeCells_at P g o t (cellsB (B x)) 0 cur.toArray w hg (by rw [hl]; simpa using hfit) (cellsB_one _)
  have hmin : Nat.min x.size dLen = x.size := Nat.min_eq_left hx
  have htk : List.take x.size (List.map (fun b : UInt8 => Value.int .u8 (b.toNat : Int)) x.data.toList) = cellsB (B x) := by
    rw [List.take_of_length_le (by rw [List.length_map]; exact Nat.le_of_eq (B_len x))]; rfl
  cases hq : P.info? elem with
  | none => simp [hq] at hs
  | some i =>
    simp only [Builtin.copy_, Builtin.lenOf, Builtin.firstCells]
    simp [run_underlying hu, sizeOf, typeInfo, hq, hmin]
    rw [htk, hst]
    simp [splice]

open Go.RowKit in
theorem step_copy_text {P : Program} {ops : Array Oper} {o : Oper} {a : Act} {w : World} {K : Act → World → Prop} {Q : Exit → Act → World → Prop} {E : Prop} (hgd : o.guard = none) (d s : Operand) (dT sT : TypeId)
    (ho : o.op = .call { callee := .builtin .copy, args := #[d, s], argTypes := #[dT, sT] }) (elem : TypeId) (hu : P.underlying dT = some (.slice elem)) (hsz : (P.info? elem).map (·.size) = some 1)
    (g off dLen dCap : Nat) (x : ByteArray) (hd : a.eval d = .slice (some ⟨g, off, none⟩) dLen dCap) (hs : a.eval s = .string x)
    (cur : List Value) (hg : Cells w g cur) (hx : x.size ≤ dLen) (hfit : off + x.size ≤ cur.length) (Bk : Nat) (w0 : World) (hb : Below Bk w0 w) (hBg : Bk ≤ g)
    (h : ∀ w', Hid (Cells w' g (splice cur off (cellsB (B x)))) → Hid (Below Bk w0 w') → K (a.put o.dst (goInt x.size)) w') :
    if Region.wanted o (yielded ops a.tmps) = true then Oper.wp P o a w K Q else E := by
  have hw : Region.wanted o (yielded ops a.tmps) = true := by simp [Region.wanted, hgd]
  rw [if_pos hw]
  obtain ⟨t, hg⟩ := hg
  have hrun := run_copy_text (P := P) w dT sT o.type elem g off dLen dCap x cur t hu hsz hg hx hfit
  unfold Oper.wp
  simp [execOp, ho, resolve, invoke, builtin, hd, hs, hrun, Result.andThen]
  exact h _ ⟨t, by simpa using setRow_heap w g _ _ t _ hg⟩ (below_setRow hb hBg _)

/-- What is laid of a writer's row: the last bytes. -/
def tailZ (n : Nat) (rest : List UInt8) : List Value := cellsB (List.replicate n 0 ++ rest)
theorem tailZ_len (n : Nat) (rest : List UInt8) : (tailZ n rest).length = n + rest.length := by simp [tailZ, cellsB]
theorem tailZ_made (n : Nat) : (madeCells #[.int .u8 0] n) = (tailZ n []).toArray := by
  apply Array.ext_getElem?
  intro i
  by_cases h : i < n
  · have h1 : i % 1 = 0 := Nat.mod_one i
    simp [madeCells, tailZ, cellsB, h, h1]
  · simp [madeCells, tailZ, cellsB, h]
theorem tailZ_next (n : Nat) (s : ByteArray) (rest : List UInt8) : splice (tailZ (n + s.size) rest) n (cellsB (B s)) = tailZ n (B s ++ rest) := by
  unfold splice tailZ cellsB
  rw [List.length_map, B_len, List.map_append, List.map_append, List.map_append]
  simp [List.take_append]
theorem Try.size5 : (Try.prog.info? 5).map (·.size) = some 1 := by kernel_rfl
theorem make_bytes (n : Nat) (h : n ≤ 1000000000) (w : World) : (Instr.makeSlice 69 (.int .i64 (n : Int)) (.int .i64 (n : Int))).run Try.prog w = .ok (.slice (some ⟨w.heap.size, 0, none⟩) n n) (w.alloc (.cells (madeCells #[.int .u8 0] n) 5)) :=
  run_make_row' (P := Try.prog) 69 5 (.int .u8 0) 1 Try.underlying69 Try.info5 rfl .i64 .i64 n (by omega) (by omega) w

set_option maxRecDepth 100000 in
set_option maxHeartbeats 1000000 in
theorem all_any (c : Nat) (L : List UInt8) (w : World) (h : Wr c w L) (hs : L.length ≤ 1000000000) :
    Calls Try.prog 38 #[.pointer (some ⟨c, 0, none⟩)] w fun e w' => e = .returned (.string ⟨L.toArray⟩) ∧ Below w.heap.size w w' := by
  obtain ⟨q, ps, hc, hch, hcat⟩ := h
  have h0 := hc.cell 0 _ rfl
  have h1 := hc.cell 1 _ rfl
  have hclt := hc.lt
  obtain ⟨n, hn⟩ : ∃ n, L.length = n := ⟨_, rfl⟩
  rw [hn] at hs h0
  have hmk := make_bytes n hs
  have HN := hide hn
  have HC := hide hc
  have HCh := hide hch
  have HCat := hide hcat
  clear hc hch hcat hn
  go_enter Try.func38, Try.ntmps38
  go_wp2_with fail
  refine (count_at c n _ h0).mono ?_
  rintro e w1 ⟨rfl, rfl⟩
  go_wp2
  go_loopg [4, 5] ps.length (fun k e p wr => ∃ (q' : Option Addr) (ps' : List ByteArray) (m : Nat) (rest : List UInt8), e = .int .i64 (m : Int) ∧ p = .pointer q' ∧ ps'.length = k ∧ Hid ((catR ps').length = m) ∧ m ≤ n ∧ Hid (Below w1.heap.size w1 wr) ∧ Hid (Chain c w1 q' ps') ∧ Hid (catR ps' ++ rest = L) ∧ Hid (Cells wr w1.heap.size (tailZ m rest)))
  case atStart => exact ⟨q, ps, n, [], rfl, rfl, rfl, by rw [unhide HCat]; exact HN, Nat.le_refl _, (Below.refl _ _).alloc (Nat.le_refl _) _, HCh, by simpa using HCat, by rw [tailZ_made]; exact cells_new _ _ _⟩
  case round =>
    obtain ⟨q', ps', m, rest, rfl, rfl, hk, HM, hm, HB, HC1, HR, HRow⟩ := hrel
    have HK := hide hk
    clear hk
    cases ps' with
    | nil =>
      obtain rfl : q' = none := unhide HC1
      obtain rfl : 0 = m := unhide HM
      have hlr : rest = L := by simpa [catR] using unhide HR
      subst hlr
      have htx := text_cells (m := []) (show Cells wr w1.heap.size (cellsB rest ++ []) by rw [List.append_nil]; exact unhide HRow) n n (unhide HN)
      go_wp2
      go_ret
      exact ⟨rfl, unhide HB⟩
    | cons s r =>
      obtain ⟨g, q2, rfl, hg, hs0, hcg, hr⟩ := unhide HC1
      have hglt := hcg.lt
      have d0 : wr.cell? ⟨g, 0, none⟩ = some (.pointer q2) := by rw [(unhide HB).cell (p := ⟨g, 0, none⟩) hglt]; exact hcg.cell 0 _ rfl
      have d1 : wr.cell? ⟨g, 1, none⟩ = some (.string s) := by rw [(unhide HB).cell (p := ⟨g, 1, none⟩) hglt]; exact hcg.cell 1 _ rfl
      have HR2 := hide hr
      have HG := hide hcg
      clear hr hcg h0 h1 hmk
      obtain ⟨m', hm'⟩ : ∃ m', (catR r).length = m' := ⟨_, rfl⟩
      have hmm : m = m' + s.size := by
        have := unhide HM
        rw [catR_cons, List.length_append, B_len, hm'] at this
        exact this.symm
      have HM' := hide hm'
      clear hm'
      subst hmm
      have hnm : ¬ n = m' := by omega
      have hnm2 : m' ≤ n := by omega
      have hnm3 : (m' : Int) ≤ (n : Int) := by omega
      have HF : Hid (m' + s.size ≤ (tailZ (m' + s.size) rest).length) := by show _ ≤ _; rw [tailZ_len]; omega
      have HF2 : Hid (s.size ≤ n - m') := by show _ ≤ _; omega
      go_wp2
      go_region_law (refine step_copy_text rfl (.tmp 32) (.tmp 36) 69 9 rfl 5 Try.underlying69 Try.size5 w1.heap.size m' (n - m') (n - m') s (by simp [Act.eval]) (by simp [Act.eval]) (tailZ (m' + s.size) rest) (unhide HRow) (unhide HF2) (unhide HF) w1.heap.size w1 (unhide HB).drew (Nat.le_refl _) ?_; intro w4 HG4 HB4)
      have e0 : w4.cell? ⟨g, 0, none⟩ = some (.pointer q2) := by rw [(unhide HB4).cell (p := ⟨g, 0, none⟩) hglt]; exact (unhide HG).cell 0 _ rfl
      go_wp2
      go_roundg r.length
      case measure => rw [← unhide HK]; simp
      case rel => exact ⟨q2, r, m', B s ++ rest, rfl, rfl, rfl, HM', by omega, HB4, HR2, by
          have := unhide HR
          rw [catR_cons, List.append_assoc] at this
          exact this, by
          have := unhide HG4
          rw [tailZ_next] at this
          exact this⟩

theorem wtext_any (c : Nat) (L : List UInt8) (w : World) (h : Wr c w L) (hs : L.length ≤ 1000000000) :
    Calls Try.prog 11 #[.pointer (some ⟨c, 0, none⟩)] w fun e w' => e = .returned (.string ⟨L.toArray⟩) ∧ Below w.heap.size w w' := by
  have H := hide h
  clear h
  go_enter Try.func11, Try.ntmps11
  go_wp2_with fail
  refine (wown_any c _).mono ?_
  rintro e w1 ⟨rfl, rfl⟩
  go_wp2_with fail
  refine (all_any c L _ (unhide H) hs).mono ?_
  rintro e w2 ⟨rfl, hb⟩
  go_wp2
  go_ret
  exact ⟨rfl, hb⟩
theorem wtext_nil (w : World) : Calls Try.prog 11 #[.pointer none] w fun e w' => e = .returned (.string ⟨#[]⟩) ∧ Below w.heap.size w w' := by
  go_enter Try.func11, Try.ntmps11
  go_wp2_with fail
  refine (wown_nil _).mono ?_
  rintro e w1 ⟨rfl, rfl⟩
  go_wp2_with fail
  refine (all_any w.heap.size [] _ (wr_new w 28) (by simp)).mono ?_
  rintro e w2 ⟨rfl, hb⟩
  go_wp2
  go_ret
  exact ⟨rfl, ((Below.refl _ w).alloc (Nat.le_refl _) _).trans (hb.mono (by simp))⟩
end Go.Proofs.Ytifellblfafhmaa
