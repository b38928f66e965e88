import Derived.Test.YtjjmopmdiflffabBE
import Derived.Test.YtjjmopmdiflffabWF
namespace Go.Proofs.Ytjjmopmdiflffab
open Go.ChangeShapes Go.WideShapes Go.ChangeAt Go.RowKit
set_option maxHeartbeats 1000000
set_option maxRecDepth 100000

theorem uncons {X : List Nat} (h : 0 < X.length) : ∃ x T, X = x :: T := by
  cases X with
  | nil => simp at h
  | cons x T => exact ⟨x, T, rfl⟩

theorem list20 {X : List Nat} (h : 20 ≤ X.length) : ∃ x0 x1 x2 x3 x4 x5 x6 x7 x8 x9 x10 x11 x12 x13 x14 x15 x16 x17 x18 x19 T, X = x0 :: x1 :: x2 :: x3 :: x4 :: x5 :: x6 :: x7 :: x8 :: x9 :: x10 :: x11 :: x12 :: x13 :: x14 :: x15 :: x16 :: x17 :: x18 :: x19 :: T := by
  obtain ⟨x0, T0, rfl⟩ := uncons (X := X) (by omega)
  obtain ⟨x1, T1, rfl⟩ := uncons (X := T0) (by simp only [List.length_cons] at h; omega)
  obtain ⟨x2, T2, rfl⟩ := uncons (X := T1) (by simp only [List.length_cons] at h; omega)
  obtain ⟨x3, T3, rfl⟩ := uncons (X := T2) (by simp only [List.length_cons] at h; omega)
  obtain ⟨x4, T4, rfl⟩ := uncons (X := T3) (by simp only [List.length_cons] at h; omega)
  obtain ⟨x5, T5, rfl⟩ := uncons (X := T4) (by simp only [List.length_cons] at h; omega)
  obtain ⟨x6, T6, rfl⟩ := uncons (X := T5) (by simp only [List.length_cons] at h; omega)
  obtain ⟨x7, T7, rfl⟩ := uncons (X := T6) (by simp only [List.length_cons] at h; omega)
  obtain ⟨x8, T8, rfl⟩ := uncons (X := T7) (by simp only [List.length_cons] at h; omega)
  obtain ⟨x9, T9, rfl⟩ := uncons (X := T8) (by simp only [List.length_cons] at h; omega)
  obtain ⟨x10, T10, rfl⟩ := uncons (X := T9) (by simp only [List.length_cons] at h; omega)
  obtain ⟨x11, T11, rfl⟩ := uncons (X := T10) (by simp only [List.length_cons] at h; omega)
  obtain ⟨x12, T12, rfl⟩ := uncons (X := T11) (by simp only [List.length_cons] at h; omega)
  obtain ⟨x13, T13, rfl⟩ := uncons (X := T12) (by simp only [List.length_cons] at h; omega)
  obtain ⟨x14, T14, rfl⟩ := uncons (X := T13) (by simp only [List.length_cons] at h; omega)
  obtain ⟨x15, T15, rfl⟩ := uncons (X := T14) (by simp only [List.length_cons] at h; omega)
  obtain ⟨x16, T16, rfl⟩ := uncons (X := T15) (by simp only [List.length_cons] at h; omega)
  obtain ⟨x17, T17, rfl⟩ := uncons (X := T16) (by simp only [List.length_cons] at h; omega)
  obtain ⟨x18, T18, rfl⟩ := uncons (X := T17) (by simp only [List.length_cons] at h; omega)
  obtain ⟨x19, T19, rfl⟩ := uncons (X := T18) (by simp only [List.length_cons] at h; omega)
  exact ⟨x0, x1, x2, x3, x4, x5, x6, x7, x8, x9, x10, x11, x12, x13, x14, x15, x16, x17, x18, x19, T19, rfl⟩

/-- With another time to live. -/
def Hd.withTTL (H : Hd) (t : Nat) : Hd := ⟨H.tos, H.id, H.df, H.mf, H.off, t, H.proto, H.src, H.dst, H.opts⟩

theorem flag_back (f : Nat) (hf : f < 32768) : flagW (decide (f / 16384 % 2 = 1)) (decide (f / 8192 % 2 = 1)) (f % 8192 * 8) = f := by
  unfold flagW
  by_cases h1 : f / 16384 % 2 = 1 <;> by_cases h2 : f / 8192 % 2 = 1 <;> simp [h1, h2] <;> omega

/-- What was read, laid out again: the bytes, but for the sum. -/
theorem rebuilt {X : List Nat} {m t : Nat} (hx : ∀ x ∈ X, x < 256) (h20 : 20 ≤ X.length) (hm : m + 20 ≤ X.length) (h0 : byt X 0 / 16 = 4) (h1 : byt X 0 % 16 * 4 = m + 20) (h2 : w16 X 2 = X.length) (h6 : byt X 6 < 128) :
    hd20 ((rdH X (m + 20)).withTTL t) X.length 0 ++ (((rdH X (m + 20)).withTTL t).opts ++ X.drop (m + 20)) = ((X.set 8 t).set 10 0).set 11 0 ∧ ((rdH X (m + 20)).withTTL t).opts.length = m := by
  obtain ⟨x0, x1, x2, x3, x4, x5, x6, x7, x8, x9, x10, x11, x12, x13, x14, x15, x16, x17, x18, x19, T, rfl⟩ := list20 h20
  have b : ∀ i, byt (x0 :: x1 :: x2 :: x3 :: x4 :: x5 :: x6 :: x7 :: x8 :: x9 :: x10 :: x11 :: x12 :: x13 :: x14 :: x15 :: x16 :: x17 :: x18 :: x19 :: T) i < 256 := byt_lt hx
  have b3 : x3 < 256 := b 3
  have b5 : x5 < 256 := b 5
  have b7 : x7 < 256 := b 7
  have b13 : x13 < 256 := b 13
  have b14 : x14 < 256 := b 14
  have b15 : x15 < 256 := b 15
  have b17 : x17 < 256 := b 17
  have b18 : x18 < 256 := b 18
  have b19 : x19 < 256 := b 19
  have e0 : x0 / 16 = 4 := h0
  have e1 : x0 % 16 * 4 = m + 20 := h1
  have e6 : x6 < 128 := h6
  have e2 : x2 * 256 + x3 = (x0 :: x1 :: x2 :: x3 :: x4 :: x5 :: x6 :: x7 :: x8 :: x9 :: x10 :: x11 :: x12 :: x13 :: x14 :: x15 :: x16 :: x17 :: x18 :: x19 :: T).length := h2
  have hopt : ((rdH (x0 :: x1 :: x2 :: x3 :: x4 :: x5 :: x6 :: x7 :: x8 :: x9 :: x10 :: x11 :: x12 :: x13 :: x14 :: x15 :: x16 :: x17 :: x18 :: x19 :: T) (m + 20)).withTTL t).opts = T.take m := rfl
  have hT : m ≤ T.length := by simpa using hm
  have hlen : (T.take m).length = m := by rw [List.length_take]; omega
  refine ⟨?_, by rw [hopt]; exact hlen⟩
  have hfl : flagW (decide (x6 / 64 % 2 = 1)) (decide (x6 / 32 % 2 = 1)) (((((x6 * 256 + x7) % 8192 * 8 : Nat) : Int)).toNat) = x6 * 256 + x7 := by
    have := flag_back (x6 * 256 + x7) (by omega)
    rw [show (x6 * 256 + x7) / 16384 % 2 = x6 / 64 % 2 by omega, show (x6 * 256 + x7) / 8192 % 2 = x6 / 32 % 2 by omega] at this
    rw [Int.toNat_natCast]
    exact this
  have hh : hd20 ((rdH (x0 :: x1 :: x2 :: x3 :: x4 :: x5 :: x6 :: x7 :: x8 :: x9 :: x10 :: x11 :: x12 :: x13 :: x14 :: x15 :: x16 :: x17 :: x18 :: x19 :: T) (m + 20)).withTTL t) (x2 * 256 + x3) 0 =
      [69 + (T.take m).length / 4, x1, (x2 * 256 + x3) / 256, (x2 * 256 + x3) % 256, (x4 * 256 + x5) / 256, (x4 * 256 + x5) % 256,
       flagW (decide (x6 / 64 % 2 = 1)) (decide (x6 / 32 % 2 = 1)) (((((x6 * 256 + x7) % 8192 * 8 : Nat) : Int)).toNat) / 256, flagW (decide (x6 / 64 % 2 = 1)) (decide (x6 / 32 % 2 = 1)) (((((x6 * 256 + x7) % 8192 * 8 : Nat) : Int)).toNat) % 256,
       t, x9, 0, 0, ((x12 * 256 + x13) * 65536 + (x14 * 256 + x15)) / 65536 / 256, ((x12 * 256 + x13) * 65536 + (x14 * 256 + x15)) / 65536 % 256, ((x12 * 256 + x13) * 65536 + (x14 * 256 + x15)) % 65536 / 256, ((x12 * 256 + x13) * 65536 + (x14 * 256 + x15)) % 65536 % 256,
       ((x16 * 256 + x17) * 65536 + (x18 * 256 + x19)) / 65536 / 256, ((x16 * 256 + x17) * 65536 + (x18 * 256 + x19)) / 65536 % 256, ((x16 * 256 + x17) * 65536 + (x18 * 256 + x19)) % 65536 / 256, ((x16 * 256 + x17) * 65536 + (x18 * 256 + x19)) % 65536 % 256] := rfl
  rw [← e2, hh, hfl, hopt, hlen]
  rw [show 69 + m / 4 = x0 by omega, show (x2 * 256 + x3) / 256 = x2 by omega, show (x2 * 256 + x3) % 256 = x3 by omega, show (x4 * 256 + x5) / 256 = x4 by omega, show (x4 * 256 + x5) % 256 = x5 by omega, show (x6 * 256 + x7) / 256 = x6 by omega, show (x6 * 256 + x7) % 256 = x7 by omega,
    show ((x12 * 256 + x13) * 65536 + (x14 * 256 + x15)) / 65536 / 256 = x12 by omega, show ((x12 * 256 + x13) * 65536 + (x14 * 256 + x15)) / 65536 % 256 = x13 by omega, show ((x12 * 256 + x13) * 65536 + (x14 * 256 + x15)) % 65536 / 256 = x14 by omega, show ((x12 * 256 + x13) * 65536 + (x14 * 256 + x15)) % 65536 % 256 = x15 by omega,
    show ((x16 * 256 + x17) * 65536 + (x18 * 256 + x19)) / 65536 / 256 = x16 by omega, show ((x16 * 256 + x17) * 65536 + (x18 * 256 + x19)) / 65536 % 256 = x17 by omega, show ((x16 * 256 + x17) * 65536 + (x18 * 256 + x19)) % 65536 / 256 = x18 by omega, show ((x16 * 256 + x17) * 65536 + (x18 * 256 + x19)) % 65536 % 256 = x19 by omega]
  have hd : (x0 :: x1 :: x2 :: x3 :: x4 :: x5 :: x6 :: x7 :: x8 :: x9 :: x10 :: x11 :: x12 :: x13 :: x14 :: x15 :: x16 :: x17 :: x18 :: x19 :: T).drop (m + 20) = T.drop m := rfl
  rw [hd, List.take_append_drop]
  rfl

theorem set_again (X : List Nat) (a b c d : Nat) : ((((X.set 10 a).set 11 b).set 10 c).set 11 d) = (X.set 10 c).set 11 d := by
  rw [List.set_comm (l := X.set 10 a) b c (by omega), List.set_set, List.set_set]

/-- The bytes that the program seals are those that are built anew. -/
theorem aged {X : List Nat} {m t : Nat} (hx : ∀ x ∈ X, x < 256) (h20 : 20 ≤ X.length) (hm : m + 20 ≤ X.length) (h0 : byt X 0 / 16 = 4) (h1 : byt X 0 % 16 * 4 = m + 20) (h2 : w16 X 2 = X.length) (h6 : byt X 6 < 128)
    (he : refE ((rdH X (m + 20)).withTTL t) (X.drop (m + 20)).length = 0) :
    ((X.set 8 t).set 10 (M.csum ((X.set 8 t).take 10 ++ ((X.set 8 t).take (m + 20)).drop 12) / 256)).set 11 (M.csum ((X.set 8 t).take 10 ++ ((X.set 8 t).take (m + 20)).drop 12) % 256) = builtL ((rdH X (m + 20)).withTTL t) (X.drop (m + 20)) := by
  obtain ⟨e, hl⟩ := rebuilt (t := t) hx h20 hm h0 h1 h2 h6
  generalize (rdH X (m + 20)).withTTL t = H at *
  have hln : lenOfPk H (X.drop (m + 20)) = X.length := by unfold lenOfPk; rw [hl, List.length_drop]; omega
  have hs : M.csum ((X.set 8 t).take 10 ++ ((X.set 8 t).take (m + 20)).drop 12) = M.csum (hdBytes H X.length 0) := by
    have e2 : hdBytes H X.length 0 = (((X.set 8 t).set 10 0).set 11 0).take (m + 20) := by
      rw [← e, hdBytes_eq, ← List.append_assoc, List.take_left' (by rw [List.length_append, len20, hl]; omega)]
    rw [e2]
    obtain ⟨x0, x1, x2, x3, x4, x5, x6, x7, x8, x9, x10, x11, x12, x13, x14, x15, x16, x17, x18, x19, T, rfl⟩ := list20 h20
    exact (csum_gap [x0, x1, x2, x3, x4, x5, x6, x7, t, x9] (x12 :: x13 :: x14 :: x15 :: x16 :: x17 :: x18 :: x19 :: T.take m) (by simp)).symm
  rw [hs]
  unfold builtL
  rw [if_pos he, hln, hdBytes_eq H X.length (M.csum (hdBytes H X.length 0)), List.append_assoc, ← set20, e, set_again]
end Go.Proofs.Ytjjmopmdiflffab
