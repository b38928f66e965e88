import Derived.Test.YtdoeebbcieiimaaS
import Derived.Test.YtdoeebbcieiimaaH
namespace Go.Proofs.Ytdoeebbcieiimaa
open Go.ChangeShapes Go.WideShapes Go.ChangeAt Go.RowKit
set_option maxHeartbeats 400000
set_option maxRecDepth 100000

/-- The first error of a header, its body's length told. -/
def hdE (H : List Nat) (nb : Nat) : Int :=
  if M.csum H ≠ 0 then 33
  else if 128 ≤ byt H 6 then 32
  else if M.area (H.drop 20) = false then 34
  else if M.pieceOk ((w16 H 6 % 8192 * 8 : Nat) : Int) nb (decide (byt H 6 / 32 % 2 = 1)) = false then 36
  else 0

theorem bit15 (H : List Nat) (hb : ∀ x ∈ H, x < 256) : (bits .and .u16 ((w16 H 6 : Nat) : Int) 32768 != 0) = decide (128 ≤ byt H 6) := by
  have h := and_u16_bit (w16 H 6) 15 (w16_lt hb 6) (by decide)
  rw [show ((2 ^ 15 : Nat) : Int) = 32768 from rfl] at h
  rw [h]
  have h1 := byt_lt hb 6
  have h2 := byt_lt hb 7
  unfold w16
  by_cases g : 128 ≤ byt H 6
  · rw [decide_eq_true g]; simp; omega
  · rw [decide_eq_false g]; simp; omega

theorem bit13 (H : List Nat) (hb : ∀ x ∈ H, x < 256) : (bits .and .u16 ((w16 H 6 : Nat) : Int) 8192 != 0) = decide (byt H 6 / 32 % 2 = 1) := by
  have h := and_u16_bit (w16 H 6) 13 (w16_lt hb 6) (by decide)
  rw [show ((2 ^ 13 : Nat) : Int) = 8192 from rfl] at h
  rw [h]
  have h1 := byt_lt hb 6
  have h2 := byt_lt hb 7
  unfold w16
  by_cases g : byt H 6 / 32 % 2 = 1
  · rw [decide_eq_true g]; simp; omega
  · rw [decide_eq_false g]; simp; omega

theorem bit14 (H : List Nat) (hb : ∀ x ∈ H, x < 256) : (bits .and .u16 ((w16 H 6 : Nat) : Int) 16384 != 0) = decide (byt H 6 / 64 % 2 = 1) := by
  have h := and_u16_bit (w16 H 6) 14 (w16_lt hb 6) (by decide)
  rw [show ((2 ^ 14 : Nat) : Int) = 16384 from rfl] at h
  rw [h]
  have h1 := byt_lt hb 6
  have h2 := byt_lt hb 7
  unfold w16
  by_cases g : byt H 6 / 64 % 2 = 1
  · rw [decide_eq_true g]; simp; omega
  · rw [decide_eq_false g]; simp; omega

end Go.Proofs.Ytdoeebbcieiimaa
