/-
  Hardware addresses as texts, there and back.
-/
import Derived.Test.YtenhofbhkchjoaaDoorMathU
import Derived.Test.YtenhofbhkchjoaaDoorT
namespace Go.Proofs.YtenhofbhkchjoaaDoor

theorem hx_hd : ∀ v, v < 16 → hx (hd v).toNat = some v := by decide +kernel

theorem mac_list (M : Nat → Nat) : mac M 6 = [hd (M 0 / 16), hd (M 0 % 16), 58, hd (M 1 / 16), hd (M 1 % 16), 58, hd (M 2 / 16), hd (M 2 % 16), 58, hd (M 3 / 16), hd (M 3 % 16), 58, hd (M 4 / 16), hd (M 4 % 16), 58, hd (M 5 / 16), hd (M 5 % 16)] := by
  simp [mac]

/-- What is printed is read back. -/
theorem ansM_mac (M : Nat → Nat) (hM : ∀ k, k < 6 → M k < 256) : ansM ⟨(mac M 6).toArray⟩ = macV (M 0) (M 1) (M 2) (M 3) (M 4) (M 5) := by
  have h0 := hM 0 (by omega)
  have h1 := hM 1 (by omega)
  have h2 := hM 2 (by omega)
  have h3 := hM 3 (by omega)
  have h4 := hM 4 (by omega)
  have h5 := hM 5 (by omega)
  rw [mac_list]
  generalize M 0 = m0 at *
  generalize M 1 = m1 at *
  generalize M 2 = m2 at *
  generalize M 3 = m3 at *
  generalize M 4 = m4 at *
  generalize M 5 = m5 at *
  have x0 := hx_hd (m0 / 16) (by omega)
  have y0 := hx_hd (m0 % 16) (by omega)
  have x1 := hx_hd (m1 / 16) (by omega)
  have y1 := hx_hd (m1 % 16) (by omega)
  have x2 := hx_hd (m2 / 16) (by omega)
  have y2 := hx_hd (m2 % 16) (by omega)
  have x3 := hx_hd (m3 / 16) (by omega)
  have y3 := hx_hd (m3 % 16) (by omega)
  have x4 := hx_hd (m4 / 16) (by omega)
  have y4 := hx_hd (m4 % 16) (by omega)
  have x5 := hx_hd (m5 / 16) (by omega)
  have y5 := hx_hd (m5 % 16) (by omega)
  have r6 : List.range 6 = [0, 1, 2, 3, 4, 5] := rfl
  unfold ansM
  rw [if_pos ⟨rfl, by simp [okM, r6, condM, gb, x0, y0, x1, y1, x2, y2, x3, y3, x4, y4, x5, y5]⟩]
  simp only [bt, gb, hv]
  simp [x0, y0, x1, y1, x2, y2, x3, y3, x4, y4, x5, y5]
  refine congr (congr (congr (congr (congr (congrArg macV ?_) ?_) ?_) ?_) ?_) ?_ <;> omega

/-- The small letter. -/
def low (n : Nat) : Nat := if 65 ≤ n ∧ n ≤ 70 then n + 32 else n

theorem low_hx : ∀ n, n < 256 → (hx n).isSome = true → (hd (hv n)).toNat = low n := by decide +kernel
end Go.Proofs.YtenhofbhkchjoaaDoor
