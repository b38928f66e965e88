/-
  icmp: numbers read and written.
-/
import Derived.Test.YtcboenmmkaochaaNBD
import Derived.Test.YtcboenmmkaochaaNY
import Derived.Test.YtcboenmmkaochaaIM
namespace Go.Proofs.Ytcboenmmkaochaa.N
open Go.ChangeShapes Go.WideShapes Go.ChangeAt Go.RowKit
set_option maxHeartbeats 1000000
set_option maxRecDepth 100000

theorem iwrite16_any (g off n cap x : Nat) (X : List Nat) (w : World) (hB : Blk w g X) (hn : 2 ≤ n) (ho : off + n ≤ X.length) (hx : x < 65536) :
    Calls Try.prog 20 #[.slice (some ⟨g, off, none⟩) n cap, .int .u16 (x : Int)] w fun e w' => e = .returned (.tuple #[]) ∧ Blk w' g ((X.set off (x / 256)).set (off + 1) (x % 256)) ∧ But g w w' := by
  have c0 := hB.cell off (by omega)
  have c1 := hB.cell (off + 1) (by omega)
  have f0 := hB.free off
  have f1 := hB.free (off + 1)
  have HR : Hid (Blk ((w.setCell ⟨g, off, none⟩ (.int .u8 ((x / 256 : Nat) : Int))).setCell ⟨g, off + 1, none⟩ (.int .u8 ((x % 256 : Nat) : Int))) g ((X.set off (x / 256)).set (off + 1) (x % 256)) ∧ But g w ((w.setCell ⟨g, off, none⟩ (.int .u8 ((x / 256 : Nat) : Int))).setCell ⟨g, off + 1, none⟩ (.int .u8 ((x % 256 : Nat) : Int)))) := ⟨(hB.set _ _).set _ _, (But.set _ _ _ _).trans (But.set _ _ _ _)⟩
  generalize byt X off = y0 at c0
  generalize byt X (off + 1) = y1 at c1
  have hne : ¬ off + 1 = off := by omega
  have hne' : ¬ off = off + 1 := by omega
  clear hB
  go_enter Try.func20, Try.ntmps20
  go_wp2_with fail
  have e0 : ((x / 256 : Nat) : Int) = (x : Int) / 256 := by omega
  have e1 : ((x % 256 : Nat) : Int) = (x : Int) % 256 := by omega
  rw [e0, e1] at HR
  exact bodyPost_end (results_none Try.results20 _ _ _) rfl ⟨rfl, HR.out.1, HR.out.2⟩

theorem iwrite32_any (g off n cap x : Nat) (X : List Nat) (w : World) (hB : Blk w g X) (hn : 4 ≤ n) (hc : n ≤ cap) (ho : off + n ≤ X.length) (hx : x < 4294967296) :
    Calls Try.prog 19 #[.slice (some ⟨g, off, none⟩) n cap, .int .u32 (x : Int)] w fun e w' => e = .returned (.tuple #[]) ∧ Blk w' g ((((X.set off (x / 65536 / 256)).set (off + 1) (x / 65536 % 256)).set (off + 2) (x % 65536 / 256)).set (off + 3) (x % 65536 % 256)) ∧ But g w w' := by
  have H1 := hid (iwrite16_any g off n cap (x / 65536) X w hB (by omega) ho (by omega))
  have H2 : Hid (∀ (Y : List Nat) (u : World), Blk u g Y → Y.length = X.length → Calls Try.prog 20 #[.slice (some ⟨g, off + 2, none⟩) (n - 2) (cap - 2), .int .u16 ((x % 65536 : Nat) : Int)] u fun e w' => e = .returned (.tuple #[]) ∧ Blk w' g ((Y.set (off + 2) (x % 65536 / 256)).set (off + 2 + 1) (x % 65536 % 256)) ∧ But g u w') := fun Y u hY hl => iwrite16_any g (off + 2) (n - 2) (cap - 2) (x % 65536) Y u hY (by omega) (by omega) (by omega)
  have hcut := cut_at g off n cap 2 2 rfl (by omega) (by omega)
  have e0 : ((x / 65536 : Nat) : Int) = (x : Int) / 65536 := by omega
  have e1 : ((x % 65536 : Nat) : Int) = (x : Int) % 65536 := by omega
  rw [e0] at H1
  rw [e1] at H2
  clear hB
  go_enter Try.func19, Try.ntmps19
  go_wp2_with fail
  refine H1.out.mono ?_
  rintro _ w2 ⟨rfl, hb2, hu2⟩
  go_wp2_with fail
  refine (H2.out _ _ hb2 (by simp)).mono ?_
  rintro _ w3 ⟨rfl, hb3, hu3⟩
  go_wp2_with fail
  exact bodyPost_end (results_none Try.results19 _ _ _) rfl ⟨rfl, hb3, hu2.trans hu3⟩

theorem or_u32k (k x y : Nat) (hx : 2 ^ k * x + y < 4294967296) (hy : y < 2 ^ k) : bits .or .u32 ((2 ^ k * x : Nat) : Int) (y : Int) = ((2 ^ k * x + y : Nat) : Int) := by
  rw [u32_or_nat (2 ^ k * x) y (by omega) (by omega)]
  congr 1
  exact (Nat.two_pow_add_eq_or_of_lt (i := k) (b := y) hy x).symm

theorem or4 (a b c d : Nat) (ha : a < 256) (hb : b < 256) (hc : c < 256) (hd : d < 256) :
    bits .or .u32 (bits .or .u32 (bits .or .u32 ((a * 16777216 : Nat) : Int) ((b * 65536 : Nat) : Int)) ((c * 256 : Nat) : Int)) (d : Int) = (((a * 256 + b) * 65536 + (c * 256 + d) : Nat) : Int) := by
  have h1 := or_u32k 24 a (b * 65536) (by omega) (by omega)
  rw [show 2 ^ 24 * a = a * 16777216 by omega] at h1
  rw [h1]
  have h2 := or_u32k 16 (a * 256 + b) (c * 256) (by omega) (by omega)
  rw [show 2 ^ 16 * (a * 256 + b) = a * 16777216 + b * 65536 by omega] at h2
  rw [h2]
  have h3 := or_u32k 8 (a * 65536 + b * 256 + c) d (by omega) (by omega)
  rw [show 2 ^ 8 * (a * 65536 + b * 256 + c) = a * 16777216 + b * 65536 + c * 256 by omega] at h3
  rw [h3]
  exact congrArg Nat.cast (show a * 16777216 + b * 65536 + c * 256 + d = (a * 256 + b) * 65536 + (c * 256 + d) by omega)

theorem iread32_any (v : Value) (L : List Nat) (w : World) (hv : SeesB w v L) (hl : 4 ≤ L.length) :
    Calls Try.prog 15 #[v] w fun e w' => e = .returned (.int .u32 (((byt L 0 * 256 + byt L 1) * 65536 + (byt L 2 * 256 + byt L 3) : Nat) : Int)) ∧ Below w.heap.size w w' := by
  obtain ⟨ao, n, cap, rfl, HN, hn1, hn2⟩ := hv.shape
  have h2 : 4 ≤ n := by have := HN.out; omega
  obtain ⟨g, off, rfl, hg, hc0⟩ := hv.atB 0 (by omega)
  obtain ⟨g', off', he, hg', hc1⟩ := hv.atB 1 (by omega)
  simp at he
  obtain ⟨rfl, rfl⟩ := he
  obtain ⟨g', off', he, hg', hc2⟩ := hv.atB 2 (by omega)
  simp at he
  obtain ⟨rfl, rfl⟩ := he
  obtain ⟨g', off', he, hg', hc3⟩ := hv.atB 3 (by omega)
  simp at he
  obtain ⟨rfl, rfl⟩ := he
  have ha := byt_lt hv.bytes 0
  have hb := byt_lt hv.bytes 1
  have hc := byt_lt hv.bytes 2
  have hd := byt_lt hv.bytes 3
  have HR := hid (or4 _ _ _ _ ha hb hc hd)
  generalize (byt L 0 * 256 + byt L 1) * 65536 + (byt L 2 * 256 + byt L 3) = r at *
  generalize byt L 0 = p at *
  generalize byt L 1 = q at *
  generalize byt L 2 = s at *
  generalize byt L 3 = t at *
  clear hv
  rw [Nat.add_zero] at hc0
  have b0 : (0 : Int) < (n : Int) := by omega
  have b1 : (1 : Int) < (n : Int) := by omega
  have b2 : (2 : Int) < (n : Int) := by omega
  have b3 : (3 : Int) < (n : Int) := by omega
  go_enter Try.func15, Try.ntmps15
  go_wp2_with fail
  go_quiet (fail)
  go_wp2_with fail
  go_ret
  exact ⟨ret_int (by rw [← HR.out]; simp), below_drewN (Below.refl _ _) _⟩
end Go.Proofs.Ytcboenmmkaochaa.N
