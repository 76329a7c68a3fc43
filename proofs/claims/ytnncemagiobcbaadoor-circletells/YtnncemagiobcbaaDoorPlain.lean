/- Cosines of 64ths of a circle and windows, as lists of numbers. -/
import Derived.Test.YtnncemagiobcbaaDoorBase
namespace Go.Proofs.YtnncemagiobcbaaDoor
open Go.RowKit
set_option linter.unusedVariables false

def quarL : List Int := [16384, 16305, 16069, 15679, 15137, 14449, 13623, 12665, 11585, 10394, 9102, 7723, 6270, 4756, 3196, 1606, 0]
def quarAt (k : Nat) : Int := quarL.getD k 0
def cosL : List Int := [16384, 16305, 16069, 15679, 15137, 14449, 13623, 12665, 11585, 10394, 9102, 7723, 6270, 4756, 3196, 1606, 0, -1606, -3196, -4756, -6270, -7723, -9102, -10394, -11585, -12665, -13623, -14449, -15137, -15679, -16069, -16305, -16384, -16305, -16069, -15679, -15137, -14449, -13623, -12665, -11585, -10394, -9102, -7723, -6270, -4756, -3196, -1606, 0, 1606, 3196, 4756, 6270, 7723, 9102, 10394, 11585, 12665, 13623, 14449, 15137, 15679, 16069, 16305]
def cosAt (r : Nat) : Int := cosL.getD r 0
def cosI (k : Int) : Int := cosAt (k % 64).toNat
def sinI (k : Int) : Int := cosI (k - 16)
def winAt (n t : Nat) : Int := 8847 - halfI (7537 * cosAt (t * 64 / n)) 14
def win16 : List Int := [1310, 1884, 3518, 5963, 8847, 11731, 14176, 15810, 16384, 15810, 14176, 11731, 8847, 5963, 3518, 1884]
def win32 : List Int := [1310, 1455, 1884, 2580, 3518, 4660, 5963, 7377, 8847, 10317, 11731, 13034, 14176, 15114, 15810, 16239, 16384, 16239, 15810, 15114, 14176, 13034, 11731, 10317, 8847, 7377, 5963, 4660, 3518, 2580, 1884, 1455]
def win64 : List Int := [1310, 1346, 1455, 1634, 1884, 2200, 2580, 3021, 3518, 4066, 4660, 5294, 5963, 6659, 7377, 8108, 8847, 9586, 10317, 11035, 11731, 12400, 13034, 13628, 14176, 14673, 15114, 15494, 15810, 16060, 16239, 16348, 16384, 16348, 16239, 16060, 15810, 15494, 15114, 14673, 14176, 13628, 13034, 12400, 11731, 11035, 10317, 9586, 8847, 8108, 7377, 6659, 5963, 5294, 4660, 4066, 3518, 3021, 2580, 2200, 1884, 1634, 1455, 1346]
def winL (n : Nat) : List Int := if n = 16 then win16 else if n = 32 then win32 else if n = 64 then win64 else []

theorem cos_small (k : Nat) (h : k ≤ 16) : cosAt k = quarAt k := by
  have : ∀ k, k < 17 → cosAt k = quarAt k := by decide +kernel
  exact this k (by omega)
theorem cos_half (k : Nat) (h : k ≤ 16) : cosAt (32 - k) = -quarAt k := by
  have : ∀ k, k < 17 → cosAt (32 - k) = -quarAt k := by decide +kernel
  exact this k (by omega)
theorem cos_back (k : Nat) (h : k ≤ 31) (h1 : 1 ≤ k) : cosAt (64 - k) = cosAt k := by
  have : ∀ k, k < 32 → 1 ≤ k → cosAt (64 - k) = cosAt k := by decide +kernel
  exact this k (by omega) h1
theorem cosAt_bd (k : Nat) : -16384 ≤ cosAt k ∧ cosAt k ≤ 16384 := by
  by_cases c : k < 64
  · have : ∀ k, k < 64 → -16384 ≤ cosAt k ∧ cosAt k ≤ 16384 := by decide +kernel
    exact this k c
  · have hl : cosL.length = 64 := by decide +kernel
    have : cosAt k = 0 := by unfold cosAt; rw [List.getD_eq_getElem?_getD, List.getElem?_eq_none (by omega)]; rfl
    omega
theorem cosI_bd (k : Int) : -16384 ≤ cosI k ∧ cosI k ≤ 16384 := cosAt_bd _
theorem cosI_at (k : Nat) (h : k < 64) : cosI k = cosAt k := by unfold cosI; congr 1; omega
theorem cosI_mod (k : Int) : cosI (k % 64) = cosI k := by unfold cosI; rw [Int.emod_emod]
theorem sinI_mod (k : Int) : cosI (k % 64 - 16) = sinI k := by unfold sinI cosI; congr 2; omega
theorem quar_bd (k : Nat) (h : k ≤ 16) : 0 ≤ quarAt k ∧ quarAt k ≤ 16384 := by
  have : ∀ k, k < 17 → 0 ≤ quarAt k ∧ quarAt k ≤ 16384 := by decide +kernel
  exact this k (by omega)
theorem winAt16 : ∀ t, t < 16 → win16.getD t 0 = winAt 16 t := by decide +kernel
theorem winAt32 : ∀ t, t < 32 → win32.getD t 0 = winAt 32 t := by decide +kernel
theorem winAt64 : ∀ t, t < 64 → win64.getD t 0 = winAt 64 t := by decide +kernel

/-- The package's table of the quarter lies in memory. -/
def Quar (w : World) : Prop := 0 < w.heap.size ∧ ∀ i, i < 17 → w.cell? ⟨0, i, none⟩ = some (.int .i64 (quarAt i))
theorem Quar.below {w w' : World} (h : Quar w) (hb : Below w.heap.size w w') : Quar w' := by
  refine ⟨by have := hb.size; have := h.1; omega, fun i hi => ?_⟩
  rw [hb.cell (by exact h.1)]; exact h.2 i hi
end Go.Proofs.YtnncemagiobcbaaDoor
