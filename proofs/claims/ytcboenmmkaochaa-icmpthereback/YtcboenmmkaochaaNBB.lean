import Derived.Test.YtcboenmmkaochaaNBA
import Derived.Test.YtcboenmmkaochaaNH
import Derived.Deep.RegionHeld3
import Derived.Deep.RegionWith
namespace Go.Proofs.Ytcboenmmkaochaa.N
open Go.ChangeShapes Go.WideShapes Go.ChangeAt Go.RowKit
set_option maxHeartbeats 400000
set_option maxRecDepth 100000

theorem or_14 (a : Nat) (ha : a < 16384) : bits .or .u16 (a : Int) 16384 = ((a + 16384 : Nat) : Int) := by
  have := u16_or_nat a 16384 (by omega) (by omega)
  rw [show ((16384 : Nat) : Int) = 16384 from rfl] at this
  rw [this]
  congr 1
  have h := Nat.two_pow_add_eq_or_of_lt (i := 14) (b := a) (by omega) 1
  rw [Nat.or_comm]
  have h' : 16384 + a = 16384 ||| a := h
  omega

theorem or_13 (a : Nat) (ha : a < 8192) (k : Nat) (hk : k < 2) : bits .or .u16 ((a + k * 16384 : Nat) : Int) 8192 = ((a + k * 16384 + 8192 : Nat) : Int) := by
  have := u16_or_nat (a + k * 16384) 8192 (by omega) (by omega)
  rw [show ((8192 : Nat) : Int) = 8192 from rfl] at this
  rw [this]
  congr 1
  have h1 := Nat.two_pow_add_eq_or_of_lt (i := 13) (b := a) (by omega) 1
  have h2 := Nat.two_pow_add_eq_or_of_lt (i := 13) (b := a) (by omega) (2 * k)
  have h3 := Nat.two_pow_add_eq_or_of_lt (i := 13) (b := a) (by omega) (2 * k + 1)
  rw [show a + k * 16384 = 2 ^ 13 * (2 * k) + a by omega, h2, show 2 ^ 13 * (2 * k) ||| a ||| 8192 = (2 ^ 13 * (2 * k) ||| 8192) ||| a by rw [Nat.or_assoc, Nat.or_comm a, ← Nat.or_assoc]]
  rw [show 2 ^ 13 * (2 * k) ||| 8192 = 2 ^ 13 * (2 * k + 1) from by
    rcases Nat.lt_or_ge k 1 with h | h
    · obtain rfl : k = 0 := by omega
      decide
    · obtain rfl : k = 1 := by omega
      decide]
  rw [← h3, ← h2]
  omega

theorem or_64 (a : Nat) (ha : a < 64) : bits .or .u8 64 (a : Int) = ((64 + a : Nat) : Int) := by
  have := u8_or_nat 64 a (by omega) (by omega)
  rw [show ((64 : Nat) : Int) = 64 from rfl] at this
  rw [this]
  congr 1
  exact (Nat.two_pow_add_eq_or_of_lt (i := 6) (b := a) (by omega) 1).symm

def hd20 (h : Hd) (len sum : Nat) : List Nat :=
  [69 + h.opts.length / 4, h.tos, len / 256, len % 256, h.id / 256, h.id % 256, flagW h.df h.mf h.off.toNat / 256, flagW h.df h.mf h.off.toNat % 256, h.ttl, h.proto, sum / 256, sum % 256,
   h.src / 65536 / 256, h.src / 65536 % 256, h.src % 65536 / 256, h.src % 65536 % 256, h.dst / 65536 / 256, h.dst / 65536 % 256, h.dst % 65536 / 256, h.dst % 65536 % 256]

theorem hdBytes_eq (h : Hd) (len sum : Nat) : hdBytes h len sum = hd20 h len sum ++ h.opts := rfl

def z20 : List Nat := [0, 0, 0, 0, 0, 0, 0, 0, 0, 0, 0, 0, 0, 0, 0, 0, 0, 0, 0, 0]

end Go.Proofs.Ytcboenmmkaochaa.N
