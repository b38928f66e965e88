/-
  sumOf, word.
-/
import Derived.Test.YteoebmpfdcbbmacDoorJA
namespace Go.Proofs.YteoebmpfdcbbmacDoor
open Go.ChangeShapes Go.WideShapes Go.ChangeAt Go.RowKit Jn
set_option maxHeartbeats 1000000
set_option maxRecDepth 100000

/-- The table of the program, as it is laid. -/
def TabN (w : World) : Prop := (∀ j, j < 16 → w.cell? ⟨0, j, none⟩ = some (.int .u32 ((tab j : Nat) : Int))) ∧ 0 < w.heap.size
theorem TabN.below {B : Nat} {w w' : World} (h : TabN w) (hb : Below B w w') (hB : 0 < B) : TabN w' :=
  ⟨fun j hj => (hb.cell (p := ⟨0, j, none⟩) hB).trans (h.1 j hj), Nat.lt_of_lt_of_le h.2 hb.size⟩

theorem and15 (s : Nat) (h : s < 4294967296) : bits .and .u32 (s : Int) 15 = ((s % 16 : Nat) : Int) := by
  rw [show (15 : Int) = ((15 : Nat) : Int) from rfl, u32_and_nat s 15 h (by decide)]
  congr 1
  exact Nat.and_two_pow_sub_one_eq_mod s 4

theorem not32 (s : Nat) (h : s < 4294967296) : bits .xor .u32 IntKind.u32.max (s : Int) = ((4294967295 - s : Nat) : Int) := by
  rw [show IntKind.u32.max = ((4294967295 : Nat) : Int) from rfl, u32_xor_nat _ s (by decide) h]
  congr 1
  have e1 : (BitVec.allOnes 32).toNat = 4294967295 := by decide
  have e2 : (BitVec.ofNat 32 s).toNat = s := by rw [BitVec.toNat_ofNat]; exact Nat.mod_eq_of_lt h
  have e3 : (BitVec.allOnes 32 ^^^ BitVec.ofNat 32 s).toNat = (~~~ BitVec.ofNat 32 s).toNat := by rw [BitVec.allOnes_xor]
  rw [BitVec.toNat_xor, e1, e2, BitVec.toNat_not, e2] at e3
  exact e3

theorem sumOf_any (v : Value) (L : List Nat) (w : World) (hv : SeesB w v L) (ht : TabN w) :
    Calls Tryd.prog 67 #[v] w fun e w' => e = .returned (.int .u32 ((crc L : Nat) : Int)) ∧ w' = w := by
  obtain ⟨ao, n, cap, rfl, HN, hn1, hn2⟩ := hv.shape
  have HV := hid hv
  have HT := hid ht.1
  have h0 := ht.2
  clear hv ht
  unfold maxLen at hn2
  go_enter Tryd.func67, Tryd.ntmps67
  go_wp2_with fail
  go_loop [3, 8] (fun s i => ∃ (k t : Nat), i = .int .i64 k ∧ k ≤ n ∧ s = .int .u32 t ∧ t < 4294967296 ∧ Hid (t = reg 4294967295 (L.take k))) (fun _ i => n - (intOf i).toNat)
  case atStart => exact ⟨0, 4294967295, rfl, by omega, rfl, by omega, rfl⟩
  case round =>
    obtain ⟨k, s, rfl, hk, rfl, hs, HS⟩ := hrel
    by_cases hlt : k < n
    · obtain ⟨g, off, x, rfl, hg, hc, hx, HX⟩ := HV.out.at k hlt
      have HS2 : Hid (reg 4294967295 (L.take (k + 1)) = Jn.step s x) := by
        unfold Hid; rw [take_snoc HX.out, reg_append, ← HS.out]; rfl
      have x1 : bits .xor .u32 (s : Int) (x : Int) = ((s ^^^ x : Nat) : Int) := u32_xor_nat s x hs (by omega)
      have l1 : s ^^^ x < 4294967296 := Nat.xor_lt_two_pow (n := 32) hs (by omega)
      generalize hs1 : s ^^^ x = s1 at *
      have a1 := and15 s1 l1
      have c1 := HT.out (s1 % 16) (Nat.mod_lt _ (by decide))
      have m1 : s1 % 16 < 16 := Nat.mod_lt _ (by decide)
      have y1 : bits .xor .u32 ((tab (s1 % 16) : Nat) : Int) ((s1 / 16 : Nat) : Int) = ((half s1 : Nat) : Int) := u32_xor_nat _ _ (tab_lt _) (by omega)
      have l2 : half s1 < 4294967296 := half_lt l1
      have HS3 : Hid (reg 4294967295 (L.take (k + 1)) = half (half s1)) := by unfold Hid; rw [HS2.out, ← hs1]; rfl
      have HD1 : Hid (half s1 = half s1) := rfl
      have t1 := tab_lt (s1 % 16)
      generalize tab (s1 % 16) = z1 at *
      generalize half s1 = s2 at *
      have a2 := and15 s2 l2
      have c2 := HT.out (s2 % 16) (Nat.mod_lt _ (by decide))
      have m2 : s2 % 16 < 16 := Nat.mod_lt _ (by decide)
      have y2 : bits .xor .u32 ((tab (s2 % 16) : Nat) : Int) ((s2 / 16 : Nat) : Int) = ((half s2 : Nat) : Int) := u32_xor_nat _ _ (tab_lt _) (by omega)
      have l3 : half s2 < 4294967296 := half_lt l2
      have t2 := tab_lt (s2 % 16)
      generalize tab (s2 % 16) = z2 at *
      generalize half s2 = s3 at *
      clear HS HS2 HD1 hs1 HX
      generalize hm1 : s1 % 16 = q1 at *
      generalize hm2 : s2 % 16 = q2 at *
      generalize hd1 : s1 / 16 = r1 at *
      generalize hd2 : s2 / 16 = r2 at *
      have e1 : (s1 : Int) / 16 = (r1 : Int) := by omega
      have e2 : (s2 : Int) / 16 = (r2 : Int) := by omega
      clear hm1 hm2 hd1 hd2
      go_wp2_with fail
      go_round
      case rel => exact ⟨k + 1, s3, by go_num, by omega, by go_num, l3, HS3.out.symm⟩
      case measure => simp [intOf]; omega
    · have HE : Hid (s = reg 4294967295 L) := by
        have := HS.out
        rw [List.take_of_length_le (by have := HN.out; omega)] at this
        exact this
      have hx := not32 s hs
      go_wp2_with fail
      go_ret
      exact ⟨ret_int (by unfold crc; rw [← HE.out]), rfl⟩

theorem or_u32k (k x y : Nat) (hx : 2 ^ k * x + y < 4294967296) (hy : y < 2 ^ k) : bits .or .u32 ((2 ^ k * x : Nat) : Int) (y : Int) = ((2 ^ k * x + y : Nat) : Int) := by
  rw [u32_or_nat (2 ^ k * x) y (by omega) (by omega)]
  congr 1
  exact (Nat.two_pow_add_eq_or_of_lt (i := k) (b := y) hy x).symm

theorem or4 (a b c d : Nat) (ha : a < 256) (hb : b < 256) (hc : c < 256) (hd : d < 256) :
    bits .or .u32 (bits .or .u32 (bits .or .u32 ((a * 16777216 : Nat) : Int) ((b * 65536 : Nat) : Int)) ((c * 256 : Nat) : Int)) (d : Int) = ((((a * 256 + b) * 256 + c) * 256 + d : Nat) : Int) := by
  have h1 := or_u32k 24 a (b * 65536) (by omega) (by omega)
  rw [show 2 ^ 24 * a = a * 16777216 by omega] at h1
  rw [h1]
  have h2 := or_u32k 16 (a * 256 + b) (c * 256) (by omega) (by omega)
  rw [show 2 ^ 16 * (a * 256 + b) = a * 16777216 + b * 65536 by omega] at h2
  rw [h2]
  have h3 := or_u32k 8 (a * 65536 + b * 256 + c) d (by omega) (by omega)
  rw [show 2 ^ 8 * (a * 65536 + b * 256 + c) = a * 16777216 + b * 65536 + c * 256 by omega] at h3
  rw [h3]
  exact congrArg Nat.cast (show a * 16777216 + b * 65536 + c * 256 + d = ((a * 256 + b) * 256 + c) * 256 + d by omega)

theorem word_any (v : Value) (L : List Nat) (i : Nat) (w : World) (hv : SeesB w v L) (hi : i + 4 ≤ L.length) :
    Calls Tryd.prog 60 #[v, .int .i64 (i : Int)] w fun e w' => e = .returned (.int .u32 ((num L i : Nat) : Int)) ∧ Below w.heap.size w w' := by
  obtain ⟨ao, n, cap, rfl, HN, hn1, hn2⟩ := hv.shape
  have hi' : i + 4 ≤ n := by have := HN.out; omega
  unfold maxLen at hn2
  obtain ⟨g, off, x0, rfl, hg, hc0, hx0, H0⟩ := hv.at i (by omega)
  obtain ⟨g1, off1, x1, he1, -, hc1, hx1, H1⟩ := hv.at (i + 1) (by omega)
  obtain ⟨g2, off2, x2, he2, -, hc2, hx2, H2⟩ := hv.at (i + 2) (by omega)
  obtain ⟨g3, off3, x3, he3, -, hc3, hx3, H3⟩ := hv.at (i + 3) (by omega)
  simp at he1 he2 he3
  obtain ⟨rfl, rfl⟩ := he1
  obtain ⟨rfl, rfl⟩ := he2
  obtain ⟨rfl, rfl⟩ := he3
  have HR : Hid (bits .or .u32 (bits .or .u32 (bits .or .u32 ((x0 * 16777216 : Nat) : Int) ((x1 * 65536 : Nat) : Int)) ((x2 * 256 : Nat) : Int)) (x3 : Int) = ((num L i : Nat) : Int)) := by
    unfold Hid
    rw [or4 _ _ _ _ hx0 hx1 hx2 hx3]
    unfold num
    rw [List.getD_eq_getElem?_getD, List.getD_eq_getElem?_getD, List.getD_eq_getElem?_getD, List.getD_eq_getElem?_getD, H0.out, H1.out, H2.out, H3.out]
    simp only [Option.getD_some]
  generalize num L i = r at *
  clear H0 H1 H2 H3 hv hi
  have b0 : (i : Int) < (n : Int) := by omega
  have b1 : (i : Int) + 1 < (n : Int) := by omega
  have b2 : (i : Int) + 2 < (n : Int) := by omega
  have b3 : (i : Int) + 3 < (n : Int) := by omega
  have p0 : (0 : Int) ≤ (i : Int) := by omega
  go_enter Tryd.func60, Tryd.ntmps60
  go_wp2_with fail
  go_quiet (fail)
  go_wp2_with fail
  go_ret
  exact ⟨ret_int (by rw [← HR.out]; simp), below_drewN (Below.refl _ _) _⟩
end Go.Proofs.YteoebmpfdcbbmacDoor
