/-
  Plain mathematics of texts: a dotted quad is read as what it was printed of, and printed as what it was read from.
-/
import Derived.Test.YtenhofbhkchjoaaDoorMathS
namespace Go.Proofs.YtenhofbhkchjoaaDoor.S
open Go.Lib

theorem num_dec {n most : Nat} (hn : n ≤ most) (hm : most < 256) : num (decDigits n) most = some n := (num_some hm).2 ⟨hn, rfl⟩

theorem nodot_dec {n : Nat} (hn : n < 256) : ∀ c, c ∈ decDigits n → nodot c = true := fun c hc => dig_ne ((dec_facts hn).1 c hc)

theorem piece_dec {n : Nat} (hn : n < 256) (t : List UInt8) : piece (decDigits n ++ 46 :: t) = decDigits n ∧ (decDigits n ++ 46 :: t).dropWhile nodot = 46 :: t := by
  have h := nodot_dec hn
  unfold piece
  constructor
  · rw [List.takeWhile_append_of_pos h]; simp [nodot]
  · rw [List.dropWhile_append_of_pos h]; simp [nodot]

theorem piece_end {n : Nat} (hn : n < 256) : piece (decDigits n) = decDigits n ∧ (decDigits n).dropWhile nodot = [] := by
  have h := nodot_dec hn
  unfold piece
  have h1 := List.takeWhile_append_of_pos (l₂ := []) h
  have h2 := List.dropWhile_append_of_pos (l₂ := []) h
  rw [List.append_nil] at h1 h2
  exact ⟨h1.trans (by simp), h2⟩

theorem rq_step_dec {k n acc : Nat} (hn : n < 256) (t : List UInt8) : rq (k + 1) (decDigits n ++ 46 :: t) acc = rq k t (acc * 256 + n) := by
  obtain ⟨h1, h2⟩ := piece_dec hn t
  simp only [rq]
  rw [h1, h2, num_dec (by omega) (by omega)]

theorem rq_end_dec {n acc : Nat} (hn : n < 256) : rq 0 (decDigits n) acc = some (acc * 256 + n) := by
  obtain ⟨h1, h2⟩ := piece_end hn
  simp only [rq]
  rw [h1, h2, num_dec (by omega) (by omega)]

/-- A dotted quad, as a list. -/
def quad (a : Nat) : List UInt8 := decDigits (a / 16777216 % 256) ++ 46 :: (decDigits (a / 65536 % 256) ++ 46 :: (decDigits (a / 256 % 256) ++ 46 :: decDigits (a % 256)))

theorem pa_quad {a : Nat} (ha : a < 4294967296) : pa (quad a) = some a := by
  unfold pa quad
  rw [rq_step_dec (by omega), rq_step_dec (by omega), rq_step_dec (by omega), rq_end_dec (by omega)]
  congr 1; omega

theorem rq_succ_inv {k acc a : Nat} {l : List UInt8} (h : rq (k + 1) l acc = some a) : ∃ n t, n < 256 ∧ l = decDigits n ++ 46 :: t ∧ rq k t (acc * 256 + n) = some a := by
  simp only [rq] at h
  cases e : num (piece l) 255 with
  | none => rw [e] at h; cases h
  | some n =>
    cases eb : l.dropWhile nodot with
    | nil => rw [e, eb] at h; cases h
    | cons c t =>
      rw [e, eb] at h
      have h1 := (num_some (by omega)).1 e
      have hc := dw_head nodot l c t eb
      have hc' : c = 46 := by simpa [nodot] using hc
      refine ⟨n, t, by omega, ?_, h⟩
      have hs := List.takeWhile_append_dropWhile (p := nodot) (l := l)
      rw [eb, hc'] at hs
      rw [h1.2]; exact hs.symm

theorem rq_zero_inv {acc a : Nat} {l : List UInt8} (h : rq 0 l acc = some a) : ∃ n, n < 256 ∧ l = decDigits n ∧ a = acc * 256 + n := by
  simp only [rq] at h
  cases e : num (piece l) 255 with
  | none => rw [e] at h; cases h
  | some n =>
    cases eb : l.dropWhile nodot with
    | cons c t => rw [e, eb] at h; cases h
    | nil =>
      rw [e, eb] at h
      have h1 := (num_some (by omega)).1 e
      refine ⟨n, by omega, ?_, by simpa using h.symm⟩
      have hs := List.takeWhile_append_dropWhile (p := nodot) (l := l)
      rw [eb, List.append_nil] at hs
      rw [h1.2]; exact hs.symm

theorem quad_pa {l : List UInt8} {a : Nat} (h : pa l = some a) : quad a = l := by
  obtain ⟨n1, t1, b1, rfl, h1⟩ := rq_succ_inv h
  obtain ⟨n2, t2, b2, rfl, h2⟩ := rq_succ_inv h1
  obtain ⟨n3, t3, b3, rfl, h3⟩ := rq_succ_inv h2
  obtain ⟨n4, b4, rfl, rfl⟩ := rq_zero_inv h3
  unfold quad
  rw [show ((((0 * 256 + n1) * 256 + n2) * 256 + n3) * 256 + n4) / 16777216 % 256 = n1 from by omega, show ((((0 * 256 + n1) * 256 + n2) * 256 + n3) * 256 + n4) / 65536 % 256 = n2 from by omega, show ((((0 * 256 + n1) * 256 + n2) * 256 + n3) * 256 + n4) / 256 % 256 = n3 from by omega, show ((((0 * 256 + n1) * 256 + n2) * 256 + n3) * 256 + n4) % 256 = n4 from by omega]
end Go.Proofs.YtenhofbhkchjoaaDoor.S
