/-
  tunnel: numbers read and written; fieldOf, checkType.
-/
import Derived.Test.YtcelcnafcfefhaaTN
import Derived.Test.YtcelcnafcfefhaaNBA
namespace Go.Proofs.Ytcelcnafcfefhaa.N
open Go.ChangeShapes Go.WideShapes Go.ChangeAt Go.RowKit
set_option maxHeartbeats 4000000
set_option maxRecDepth 100000

/-- The block g, of whatever type, holds the bytes X. -/
def BlkT (t : TypeId) (w : World) (g : Nat) (X : List Nat) : Prop := w.heap[g]? = some (.cells (bs X).toArray t (0, 0))

theorem BlkT.lt {t : TypeId} {w : World} {g : Nat} {X : List Nat} (h : BlkT t w g X) : g < w.heap.size := (Array.getElem?_eq_some_iff.1 h).1

theorem BlkT.cell {t : TypeId} {w : World} {g : Nat} {X : List Nat} (h : BlkT t w g X) (i : Nat) (hi : i < X.length) : w.cell? ⟨g, i, none⟩ = some (.int .u8 ((byt X i : Nat) : Int)) := by
  rw [cell_of_row _ _ _ _ _ _ h]
  simp [bs, byt, hi]

theorem BlkT.free {t : TypeId} {w : World} {g : Nat} {X : List Nat} (h : BlkT t w g X) (i : Nat) : w.frozen? ⟨g, i, none⟩ = false := frozen_of_row _ _ _ _ _ h

theorem BlkT.set {t : TypeId} {w : World} {g : Nat} {X : List Nat} (h : BlkT t w g X) (i x : Nat) : BlkT t (w.setCell ⟨g, i, none⟩ (.int .u8 (x : Int))) g (X.set i x) := by
  unfold BlkT at *
  simp only [World.setCell, Array.getElem?_modify, h]
  simp [bs, List.map_set]

theorem BlkT.below {t : TypeId} {w w' : World} {g B : Nat} {X : List Nat} (h : BlkT t w g X) (hb : Below B w w') (hg : g < B) : BlkT t w' g X := (hb.block g hg).trans h

theorem BlkT.sees {t : TypeId} {w : World} {g : Nat} {X : List Nat} (h : BlkT t w g X) (hx : ∀ x ∈ X, x < 256) (off n cap : Nat) (ho : off + n ≤ X.length) (hn : n ≤ cap) (hc : cap ≤ maxLen) : SeesB w (.slice (some ⟨g, off, none⟩) n cap) ((X.drop off).take n) := by
  have hl : ((X.drop off).take n).length = n := by rw [List.length_take, List.length_drop]; omega
  refine ⟨some ⟨g, off, none⟩, cap, by rw [hl], ⟨by rw [hl]; exact hn, fun h => by cases h⟩, hc, fun j hj => ?_⟩
  rw [hl] at hj
  refine ⟨g, off, rfl, h.lt, ?_, ?_⟩
  · rw [h.cell (off + j) (by omega)]
    simp [byt, List.getD_eq_getElem?_getD, show off + j < X.length by omega]
  · rw [List.getElem_take, List.getElem_drop]
    exact hx _ (List.getElem_mem _)

theorem bitsBehind_any (ao : Option Addr) (n cap k : Nat) (w : World) (hk : k < n) (hn : n ≤ 8) :
    Calls Try.prog 51 #[.slice ao n cap, .int .i64 (k : Int)] w fun e w' => e = .returned (.int .i64 ((8 * (n - 1 - k) : Nat) : Int)) ∧ w' = w := by
  have e1 : ((8 * (n - 1 - k) : Nat) : Int) = 8 * ((n : Int) - 1 - (k : Int)) := by omega
  rw [e1]
  clear e1
  go_enter Try.func51, Try.ntmps51
  go_wp2_with fail
  go_ret
  exact ⟨rfl, rfl⟩

theorem fieldOf_any (s : Nat) (w : World) (hs : s < 65536) :
    Calls Try.prog 24 #[.int .u16 (s : Int)] w fun e w' => e = .returned (.int .u16 (((if s = 0 then 65535 else s : Nat) : Nat) : Int)) ∧ w' = w := by
  by_cases h : s = 0
  · subst h
    rw [if_pos rfl]
    go_enter Try.func24, Try.ntmps24
    go_wp2_with fail
    go_ret
    exact ⟨rfl, rfl⟩
  · rw [if_neg h]
    have q : ((s : Int) == 0) = false := by simp; omega
    go_enter Try.func24, Try.ntmps24
    go_wp2_with fail
    go_ret
    exact ⟨rfl, rfl⟩

theorem checkType_any (n : Nat) (w : World) (hn : n < 65536) :
    Calls Try.prog 55 #[.int .u16 (n : Int)] w fun e w' => e = .returned (.int .i64 (Tn.tyE n)) ∧ w' = w := by
  by_cases h1 : n < 1536
  · have hr : Tn.tyE n = 70 := by unfold Tn.tyE; rw [if_pos h1]
    rw [hr]
    clear hr
    go_enter Try.func55, Try.ntmps55
    go_wp2_with fail
    go_ret
    exact ⟨rfl, rfl⟩
  · by_cases h2 : n = 33024
    · subst h2
      rw [show Tn.tyE 33024 = 71 from rfl]
      go_enter Try.func55, Try.ntmps55
      go_wp2_with fail
      go_ret
      exact ⟨rfl, rfl⟩
    · by_cases h3 : n = 34984
      · subst h3
        rw [show Tn.tyE 34984 = 71 from rfl]
        go_enter Try.func55, Try.ntmps55
        go_wp2_with fail
        go_ret
        exact ⟨rfl, rfl⟩
      · have hr : Tn.tyE n = 0 := by unfold Tn.tyE; rw [if_neg h1, if_neg (by omega)]
        have q1 : ((n : Int) == 33024) = false := by simp; omega
        have q2 : ((n : Int) == 34984) = false := by simp; omega
        rw [hr]
        clear hr h2 h3
        go_enter Try.func55, Try.ntmps55
        go_wp2_with fail
        go_ret
        exact ⟨rfl, rfl⟩

theorem or_u32k (k x y : Nat) (hx : 2 ^ k * x + y < 4294967296) (hy : y < 2 ^ k) : bits .or .u32 ((2 ^ k * x : Nat) : Int) (y : Int) = ((2 ^ k * x + y : Nat) : Int) := by
  rw [u32_or_nat (2 ^ k * x) y (by omega) (by omega)]
  congr 1
  exact (Nat.two_pow_add_eq_or_of_lt (i := k) (b := y) hy x).symm

theorem twrite16_any (t : TypeId) (g off cap x : Nat) (X : List Nat) (w : World) (hB : BlkT t w g X) (ho : off + 2 ≤ X.length) (hx : x < 65536) :
    Calls Try.prog 22 #[.slice (some ⟨g, off, none⟩) 2 cap, .int .u16 (x : Int)] w fun e w' => e = .returned (.tuple #[]) ∧ BlkT t w' g ((X.set off (x / 256 % 256)).set (off + 1) (x % 256)) ∧ But g w w' := by
  have HC0 : Hid (∀ u, Calls Try.prog 51 #[.slice (some ⟨g, off, none⟩) 2 cap, .int .i64 0] u fun e w' => e = .returned (.int .i64 8) ∧ w' = u) := fun u => bitsBehind_any _ 2 cap 0 u (by omega) (by omega)
  have HC1 : Hid (∀ u, Calls Try.prog 51 #[.slice (some ⟨g, off, none⟩) 2 cap, .int .i64 1] u fun e w' => e = .returned (.int .i64 0) ∧ w' = u) := fun u => bitsBehind_any _ 2 cap 1 u (by omega) (by omega)
  have HB := hid hB
  clear hB
  go_enter Try.func22, Try.ntmps22
  go_wp2_with fail
  go_loopw [4, 7] (fun _ i wv => ∃ wr, wr = wv ∧ But g w wr ∧ (i = .int .i64 0 ∧ Hid (BlkT t wr g (X)) ∨ i = .int .i64 1 ∧ Hid (BlkT t wr g (X.set off (x / 256 % 256))) ∨ i = .int .i64 2 ∧ Hid (BlkT t wr g ((X.set off (x / 256 % 256)).set (off + 1) (x % 256))))) (fun _ i _ => 2 - (intOf i).toNat)
  case atStart => exact ⟨_, rfl, But.refl _ _, .inl ⟨rfl, HB.out⟩⟩
  case round =>
    obtain ⟨wr, rfl, hbut, hrel⟩ := hrel
    rcases hrel with ⟨rfl, HBK⟩ | ⟨rfl, HBK⟩ | ⟨rfl, HBK⟩
    · have hc := HBK.out.cell (off) (by omega)
      have hf := HBK.out.free (off)
      have hs := HBK.out.set (off) (x / 256 % 256)
      have hu := But.set g (off) wr (.int .u8 ((x / 256 % 256 : Nat) : Int))
      have e0 : ((x / 256 % 256 : Nat) : Int) = (x : Int) / 256 := by omega
      rw [e0] at hs hu
      have HS := hid hs
      have HU := hid (hbut.trans hu)
      generalize byt (X) (off) = y at hc
      clear hs hu e0 HBK
      go_wp2_with fail
      refine (HC0.out _).mono ?_
      rintro _ w2 ⟨rfl, rfl⟩
      go_wp2_with fail
      go_roundw
      case rel => exact ⟨_, rfl, HU.out, .inr (.inl (⟨by go_num, HS.out⟩))⟩
      case measure => simp [intOf]
    · have hc := HBK.out.cell (off + 1) (by simp only [List.length_set]; omega)
      have hf := HBK.out.free (off + 1)
      have hs := HBK.out.set (off + 1) (x % 256)
      have hu := But.set g (off + 1) wr (.int .u8 ((x % 256 : Nat) : Int))
      have e0 : ((x % 256 : Nat) : Int) = (x : Int) % 256 := by omega
      rw [e0] at hs hu
      have HS := hid hs
      have HU := hid (hbut.trans hu)
      generalize byt (X.set off (x / 256 % 256)) (off + 1) = y at hc
      clear hs hu e0 HBK
      go_wp2_with fail
      refine (HC1.out _).mono ?_
      rintro _ w2 ⟨rfl, rfl⟩
      go_wp2_with fail
      go_roundw
      case rel => exact ⟨_, rfl, HU.out, .inr (.inr (⟨by go_num, HS.out⟩))⟩
      case measure => simp [intOf]
    · go_wp2_with fail
      exact bodyPost_end (results_none Try.results22 _ _ _) rfl ⟨rfl, HBK.out, hbut⟩

theorem twrite32_any (t : TypeId) (g off cap x : Nat) (X : List Nat) (w : World) (hB : BlkT t w g X) (ho : off + 4 ≤ X.length) (hx : x < 4294967296) :
    Calls Try.prog 52 #[.slice (some ⟨g, off, none⟩) 4 cap, .int .u32 (x : Int)] w fun e w' => e = .returned (.tuple #[]) ∧ BlkT t w' g ((((X.set off (x / 16777216 % 256)).set (off + 1) (x / 65536 % 256)).set (off + 2) (x / 256 % 256)).set (off + 3) (x % 256)) ∧ But g w w' := by
  have HC0 : Hid (∀ u, Calls Try.prog 51 #[.slice (some ⟨g, off, none⟩) 4 cap, .int .i64 0] u fun e w' => e = .returned (.int .i64 24) ∧ w' = u) := fun u => bitsBehind_any _ 4 cap 0 u (by omega) (by omega)
  have HC1 : Hid (∀ u, Calls Try.prog 51 #[.slice (some ⟨g, off, none⟩) 4 cap, .int .i64 1] u fun e w' => e = .returned (.int .i64 16) ∧ w' = u) := fun u => bitsBehind_any _ 4 cap 1 u (by omega) (by omega)
  have HC2 : Hid (∀ u, Calls Try.prog 51 #[.slice (some ⟨g, off, none⟩) 4 cap, .int .i64 2] u fun e w' => e = .returned (.int .i64 8) ∧ w' = u) := fun u => bitsBehind_any _ 4 cap 2 u (by omega) (by omega)
  have HC3 : Hid (∀ u, Calls Try.prog 51 #[.slice (some ⟨g, off, none⟩) 4 cap, .int .i64 3] u fun e w' => e = .returned (.int .i64 0) ∧ w' = u) := fun u => bitsBehind_any _ 4 cap 3 u (by omega) (by omega)
  have HB := hid hB
  clear hB
  go_enter Try.func52, Try.ntmps52
  go_wp2_with fail
  go_loopw [4, 7] (fun _ i wv => ∃ wr, wr = wv ∧ But g w wr ∧ (i = .int .i64 0 ∧ Hid (BlkT t wr g (X)) ∨ i = .int .i64 1 ∧ Hid (BlkT t wr g (X.set off (x / 16777216 % 256))) ∨ i = .int .i64 2 ∧ Hid (BlkT t wr g ((X.set off (x / 16777216 % 256)).set (off + 1) (x / 65536 % 256))) ∨ i = .int .i64 3 ∧ Hid (BlkT t wr g (((X.set off (x / 16777216 % 256)).set (off + 1) (x / 65536 % 256)).set (off + 2) (x / 256 % 256))) ∨ i = .int .i64 4 ∧ Hid (BlkT t wr g ((((X.set off (x / 16777216 % 256)).set (off + 1) (x / 65536 % 256)).set (off + 2) (x / 256 % 256)).set (off + 3) (x % 256))))) (fun _ i _ => 4 - (intOf i).toNat)
  case atStart => exact ⟨_, rfl, But.refl _ _, .inl ⟨rfl, HB.out⟩⟩
  case round =>
    obtain ⟨wr, rfl, hbut, hrel⟩ := hrel
    rcases hrel with ⟨rfl, HBK⟩ | ⟨rfl, HBK⟩ | ⟨rfl, HBK⟩ | ⟨rfl, HBK⟩ | ⟨rfl, HBK⟩
    · have hc := HBK.out.cell (off) (by omega)
      have hf := HBK.out.free (off)
      have hs := HBK.out.set (off) (x / 16777216 % 256)
      have hu := But.set g (off) wr (.int .u8 ((x / 16777216 % 256 : Nat) : Int))
      have e0 : ((x / 16777216 % 256 : Nat) : Int) = (x : Int) / 16777216 := by omega
      rw [e0] at hs hu
      have HS := hid hs
      have HU := hid (hbut.trans hu)
      generalize byt (X) (off) = y at hc
      clear hs hu e0 HBK
      go_wp2_with fail
      refine (HC0.out _).mono ?_
      rintro _ w2 ⟨rfl, rfl⟩
      go_wp2_with fail
      go_roundw
      case rel => exact ⟨_, rfl, HU.out, .inr (.inl (⟨by go_num, HS.out⟩))⟩
      case measure => simp [intOf]
    · have hc := HBK.out.cell (off + 1) (by simp only [List.length_set]; omega)
      have hf := HBK.out.free (off + 1)
      have hs := HBK.out.set (off + 1) (x / 65536 % 256)
      have hu := But.set g (off + 1) wr (.int .u8 ((x / 65536 % 256 : Nat) : Int))
      have e0 : ((x / 65536 % 256 : Nat) : Int) = (x : Int) / 65536 % 256 := by omega
      rw [e0] at hs hu
      have HS := hid hs
      have HU := hid (hbut.trans hu)
      generalize byt (X.set off (x / 16777216 % 256)) (off + 1) = y at hc
      clear hs hu e0 HBK
      go_wp2_with fail
      refine (HC1.out _).mono ?_
      rintro _ w2 ⟨rfl, rfl⟩
      go_wp2_with fail
      go_roundw
      case rel => exact ⟨_, rfl, HU.out, .inr (.inr (.inl (⟨by go_num, HS.out⟩)))⟩
      case measure => simp [intOf]
    · have hc := HBK.out.cell (off + 2) (by simp only [List.length_set]; omega)
      have hf := HBK.out.free (off + 2)
      have hs := HBK.out.set (off + 2) (x / 256 % 256)
      have hu := But.set g (off + 2) wr (.int .u8 ((x / 256 % 256 : Nat) : Int))
      have e0 : ((x / 256 % 256 : Nat) : Int) = (x : Int) / 256 % 256 := by omega
      rw [e0] at hs hu
      have HS := hid hs
      have HU := hid (hbut.trans hu)
      generalize byt ((X.set off (x / 16777216 % 256)).set (off + 1) (x / 65536 % 256)) (off + 2) = y at hc
      clear hs hu e0 HBK
      go_wp2_with fail
      refine (HC2.out _).mono ?_
      rintro _ w2 ⟨rfl, rfl⟩
      go_wp2_with fail
      go_roundw
      case rel => exact ⟨_, rfl, HU.out, .inr (.inr (.inr (.inl (⟨by go_num, HS.out⟩))))⟩
      case measure => simp [intOf]
    · have hc := HBK.out.cell (off + 3) (by simp only [List.length_set]; omega)
      have hf := HBK.out.free (off + 3)
      have hs := HBK.out.set (off + 3) (x % 256)
      have hu := But.set g (off + 3) wr (.int .u8 ((x % 256 : Nat) : Int))
      have e0 : ((x % 256 : Nat) : Int) = (x : Int) % 256 := by omega
      rw [e0] at hs hu
      have HS := hid hs
      have HU := hid (hbut.trans hu)
      generalize byt (((X.set off (x / 16777216 % 256)).set (off + 1) (x / 65536 % 256)).set (off + 2) (x / 256 % 256)) (off + 3) = y at hc
      clear hs hu e0 HBK
      go_wp2_with fail
      refine (HC3.out _).mono ?_
      rintro _ w2 ⟨rfl, rfl⟩
      go_wp2_with fail
      go_roundw
      case rel => exact ⟨_, rfl, HU.out, .inr (.inr (.inr (.inr (⟨by go_num, HS.out⟩))))⟩
      case measure => simp [intOf]
    · go_wp2_with fail
      exact bodyPost_end (results_none Try.results52 _ _ _) rfl ⟨rfl, HBK.out, hbut⟩

theorem twrite24_any (t : TypeId) (g off cap x : Nat) (X : List Nat) (w : World) (hB : BlkT t w g X) (ho : off + 3 ≤ X.length) (hx : x < 16777216) :
    Calls Try.prog 73 #[.slice (some ⟨g, off, none⟩) 3 cap, .int .u32 (x : Int)] w fun e w' => e = .returned (.tuple #[]) ∧ BlkT t w' g (((X.set off (x / 65536 % 256)).set (off + 1) (x / 256 % 256)).set (off + 2) (x % 256)) ∧ But g w w' := by
  have HC0 : Hid (∀ u, Calls Try.prog 51 #[.slice (some ⟨g, off, none⟩) 3 cap, .int .i64 0] u fun e w' => e = .returned (.int .i64 16) ∧ w' = u) := fun u => bitsBehind_any _ 3 cap 0 u (by omega) (by omega)
  have HC1 : Hid (∀ u, Calls Try.prog 51 #[.slice (some ⟨g, off, none⟩) 3 cap, .int .i64 1] u fun e w' => e = .returned (.int .i64 8) ∧ w' = u) := fun u => bitsBehind_any _ 3 cap 1 u (by omega) (by omega)
  have HC2 : Hid (∀ u, Calls Try.prog 51 #[.slice (some ⟨g, off, none⟩) 3 cap, .int .i64 2] u fun e w' => e = .returned (.int .i64 0) ∧ w' = u) := fun u => bitsBehind_any _ 3 cap 2 u (by omega) (by omega)
  have HB := hid hB
  clear hB
  go_enter Try.func73, Try.ntmps73
  go_wp2_with fail
  go_loopw [4, 7] (fun _ i wv => ∃ wr, wr = wv ∧ But g w wr ∧ (i = .int .i64 0 ∧ Hid (BlkT t wr g (X)) ∨ i = .int .i64 1 ∧ Hid (BlkT t wr g (X.set off (x / 65536 % 256))) ∨ i = .int .i64 2 ∧ Hid (BlkT t wr g ((X.set off (x / 65536 % 256)).set (off + 1) (x / 256 % 256))) ∨ i = .int .i64 3 ∧ Hid (BlkT t wr g (((X.set off (x / 65536 % 256)).set (off + 1) (x / 256 % 256)).set (off + 2) (x % 256))))) (fun _ i _ => 3 - (intOf i).toNat)
  case atStart => exact ⟨_, rfl, But.refl _ _, .inl ⟨rfl, HB.out⟩⟩
  case round =>
    obtain ⟨wr, rfl, hbut, hrel⟩ := hrel
    rcases hrel with ⟨rfl, HBK⟩ | ⟨rfl, HBK⟩ | ⟨rfl, HBK⟩ | ⟨rfl, HBK⟩
    · have hc := HBK.out.cell (off) (by omega)
      have hf := HBK.out.free (off)
      have hs := HBK.out.set (off) (x / 65536 % 256)
      have hu := But.set g (off) wr (.int .u8 ((x / 65536 % 256 : Nat) : Int))
      have e0 : ((x / 65536 % 256 : Nat) : Int) = (x : Int) / 65536 := by omega
      rw [e0] at hs hu
      have HS := hid hs
      have HU := hid (hbut.trans hu)
      generalize byt (X) (off) = y at hc
      clear hs hu e0 HBK
      go_wp2_with fail
      refine (HC0.out _).mono ?_
      rintro _ w2 ⟨rfl, rfl⟩
      go_wp2_with fail
      go_roundw
      case rel => exact ⟨_, rfl, HU.out, .inr (.inl (⟨by go_num, HS.out⟩))⟩
      case measure => simp [intOf]
    · have hc := HBK.out.cell (off + 1) (by simp only [List.length_set]; omega)
      have hf := HBK.out.free (off + 1)
      have hs := HBK.out.set (off + 1) (x / 256 % 256)
      have hu := But.set g (off + 1) wr (.int .u8 ((x / 256 % 256 : Nat) : Int))
      have e0 : ((x / 256 % 256 : Nat) : Int) = (x : Int) / 256 % 256 := by omega
      rw [e0] at hs hu
      have HS := hid hs
      have HU := hid (hbut.trans hu)
      generalize byt (X.set off (x / 65536 % 256)) (off + 1) = y at hc
      clear hs hu e0 HBK
      go_wp2_with fail
      refine (HC1.out _).mono ?_
      rintro _ w2 ⟨rfl, rfl⟩
      go_wp2_with fail
      go_roundw
      case rel => exact ⟨_, rfl, HU.out, .inr (.inr (.inl (⟨by go_num, HS.out⟩)))⟩
      case measure => simp [intOf]
    · have hc := HBK.out.cell (off + 2) (by simp only [List.length_set]; omega)
      have hf := HBK.out.free (off + 2)
      have hs := HBK.out.set (off + 2) (x % 256)
      have hu := But.set g (off + 2) wr (.int .u8 ((x % 256 : Nat) : Int))
      have e0 : ((x % 256 : Nat) : Int) = (x : Int) % 256 := by omega
      rw [e0] at hs hu
      have HS := hid hs
      have HU := hid (hbut.trans hu)
      generalize byt ((X.set off (x / 65536 % 256)).set (off + 1) (x / 256 % 256)) (off + 2) = y at hc
      clear hs hu e0 HBK
      go_wp2_with fail
      refine (HC2.out _).mono ?_
      rintro _ w2 ⟨rfl, rfl⟩
      go_wp2_with fail
      go_roundw
      case rel => exact ⟨_, rfl, HU.out, .inr (.inr (.inr (⟨by go_num, HS.out⟩)))⟩
      case measure => simp [intOf]
    · go_wp2_with fail
      exact bodyPost_end (results_none Try.results73 _ _ _) rfl ⟨rfl, HBK.out, hbut⟩

theorem or_u16k (k x y : Nat) (hx : 2 ^ k * x + y < 65536) (hy : y < 2 ^ k) : bits .or .u16 ((2 ^ k * x : Nat) : Int) (y : Int) = ((2 ^ k * x + y : Nat) : Int) := by
  rw [u16_or_nat (2 ^ k * x) y (by omega) (by omega)]
  congr 1
  exact (Nat.two_pow_add_eq_or_of_lt (i := k) (b := y) hy x).symm

theorem tread16_any (v : Value) (L : List Nat) (w : World) (hv : SeesB w v L) (hl : L.length = 2) :
    Calls Try.prog 27 #[v] w fun e w' => e = .returned (.int .u16 ((byt L 0 * 256 + byt L 1 : Nat) : Int)) ∧ w' = w := by
  obtain ⟨ao, n, cap, rfl, HN, hn1, hn2⟩ := hv.shape
  have hn : n = 2 := by rw [HN.out]; exact hl
  subst hn
  obtain ⟨g, off, rfl, hg, hc0⟩ := hv.atB 0 (by omega)
  obtain ⟨g', off', he, hg', hc1⟩ := hv.atB 1 (by omega)
  simp at he
  obtain ⟨rfl, rfl⟩ := he
  have hp0 := byt_lt hv.bytes 0
  have hp1 := byt_lt hv.bytes 1
  generalize byt L 0 = p at *
  generalize byt L 1 = q at *
  clear hv HN hl hn1 hn2
  rw [Nat.add_zero] at hc0
  have HC0 : Hid (∀ u, Calls Try.prog 51 #[.slice (some ⟨g, off, none⟩) 2 cap, .int .i64 0] u fun e w' => e = .returned (.int .i64 8) ∧ w' = u) := fun u => bitsBehind_any _ 2 cap 0 u (by omega) (by omega)
  have HC1 : Hid (∀ u, Calls Try.prog 51 #[.slice (some ⟨g, off, none⟩) 2 cap, .int .i64 1] u fun e w' => e = .returned (.int .i64 0) ∧ w' = u) := fun u => bitsBehind_any _ 2 cap 1 u (by omega) (by omega)
  go_enter Try.func27, Try.ntmps27
  go_wp2_with fail
  go_loopw [3, 4, 5, 8] (fun a _ _ i wv => ∃ wr, wr = wv ∧ wr = w ∧ (i = .int .i64 0 ∧ a = .int .u16 ((0 : Nat) : Int) ∨ i = .int .i64 1 ∧ a = .int .u16 ((p * 256 : Nat) : Int) ∨ i = .int .i64 2 ∧ a = .int .u16 (((p * 256 + q) : Nat) : Int))) (fun _ _ _ i _ => 2 - (intOf i).toNat)
  case atStart => exact ⟨_, rfl, rfl, .inl ⟨rfl, rfl⟩⟩
  case round =>
    obtain ⟨wr, rfl, rfl, hrel⟩ := hrel
    rcases hrel with ⟨rfl, rfl⟩ | ⟨rfl, rfl⟩ | ⟨rfl, rfl⟩
    · have HR : Hid (bits .or .u16 ((0 : Nat) : Int) ((p * 256 : Nat) : Int) = ((p * 256 : Nat) : Int)) := by
        unfold Hid
        rw [u16_or_nat 0 _ (by omega) (by omega)]
        congr 1
        exact Nat.zero_or _
      go_wp2_with fail
      refine (HC0.out _).mono ?_
      rintro _ w2 ⟨rfl, rfl⟩
      go_wp2_with fail
      go_roundw
      case rel => exact ⟨_, rfl, rfl, .inr (.inl (⟨by go_num, by rw [← HR.out]; simp⟩))⟩
      case measure => simp [intOf]
    · have HR : Hid (bits .or .u16 ((p * 256 : Nat) : Int) ((q : Nat) : Int) = (((p * 256 + q) : Nat) : Int)) := by
        unfold Hid
        have := or_u16k 8 p (q) (by omega) (by omega)
        rw [show 2 ^ 8 * p = p * 256 by omega, show p * 256 + q = (p * 256 + q) by omega] at this
        exact this
      generalize hz : (p * 256 + q) = z at *
      have HZ := hid hz
      clear hz
      go_wp2_with fail
      refine (HC1.out _).mono ?_
      rintro _ w2 ⟨rfl, rfl⟩
      go_wp2_with fail
      go_roundw
      case rel => exact ⟨_, rfl, rfl, .inr (.inr (⟨by go_num, by rw [← HR.out]; simp⟩))⟩
      case measure => simp [intOf]
    · go_wp2_with fail
      go_ret
      exact ⟨rfl, rfl⟩

theorem tread24_any (v : Value) (L : List Nat) (w : World) (hv : SeesB w v L) (hl : L.length = 3) :
    Calls Try.prog 74 #[v] w fun e w' => e = .returned (.int .u32 (((byt L 0 * 256 + byt L 1) * 256 + byt L 2 : Nat) : Int)) ∧ w' = w := by
  obtain ⟨ao, n, cap, rfl, HN, hn1, hn2⟩ := hv.shape
  have hn : n = 3 := by rw [HN.out]; exact hl
  subst hn
  obtain ⟨g, off, rfl, hg, hc0⟩ := hv.atB 0 (by omega)
  obtain ⟨g', off', he, hg', hc1⟩ := hv.atB 1 (by omega)
  simp at he
  obtain ⟨rfl, rfl⟩ := he
  obtain ⟨g', off', he, hg', hc2⟩ := hv.atB 2 (by omega)
  simp at he
  obtain ⟨rfl, rfl⟩ := he
  have hp0 := byt_lt hv.bytes 0
  have hp1 := byt_lt hv.bytes 1
  have hp2 := byt_lt hv.bytes 2
  generalize byt L 0 = p at *
  generalize byt L 1 = q at *
  generalize byt L 2 = s at *
  clear hv HN hl hn1 hn2
  rw [Nat.add_zero] at hc0
  have HC0 : Hid (∀ u, Calls Try.prog 51 #[.slice (some ⟨g, off, none⟩) 3 cap, .int .i64 0] u fun e w' => e = .returned (.int .i64 16) ∧ w' = u) := fun u => bitsBehind_any _ 3 cap 0 u (by omega) (by omega)
  have HC1 : Hid (∀ u, Calls Try.prog 51 #[.slice (some ⟨g, off, none⟩) 3 cap, .int .i64 1] u fun e w' => e = .returned (.int .i64 8) ∧ w' = u) := fun u => bitsBehind_any _ 3 cap 1 u (by omega) (by omega)
  have HC2 : Hid (∀ u, Calls Try.prog 51 #[.slice (some ⟨g, off, none⟩) 3 cap, .int .i64 2] u fun e w' => e = .returned (.int .i64 0) ∧ w' = u) := fun u => bitsBehind_any _ 3 cap 2 u (by omega) (by omega)
  go_enter Try.func74, Try.ntmps74
  go_wp2_with fail
  go_loopw [3, 4, 5, 8] (fun a _ _ i wv => ∃ wr, wr = wv ∧ wr = w ∧ (i = .int .i64 0 ∧ a = .int .u32 ((0 : Nat) : Int) ∨ i = .int .i64 1 ∧ a = .int .u32 ((p * 65536 : Nat) : Int) ∨ i = .int .i64 2 ∧ a = .int .u32 (((p * 256 + q) * 256 : Nat) : Int) ∨ i = .int .i64 3 ∧ a = .int .u32 ((((p * 256 + q) * 256 + s) : Nat) : Int))) (fun _ _ _ i _ => 3 - (intOf i).toNat)
  case atStart => exact ⟨_, rfl, rfl, .inl ⟨rfl, rfl⟩⟩
  case round =>
    obtain ⟨wr, rfl, rfl, hrel⟩ := hrel
    rcases hrel with ⟨rfl, rfl⟩ | ⟨rfl, rfl⟩ | ⟨rfl, rfl⟩ | ⟨rfl, rfl⟩
    · have HR : Hid (bits .or .u32 ((0 : Nat) : Int) ((p * 65536 : Nat) : Int) = ((p * 65536 : Nat) : Int)) := by
        unfold Hid
        rw [u32_or_nat 0 _ (by omega) (by omega)]
        congr 1
        exact Nat.zero_or _
      go_wp2_with fail
      refine (HC0.out _).mono ?_
      rintro _ w2 ⟨rfl, rfl⟩
      go_wp2_with fail
      go_roundw
      case rel => exact ⟨_, rfl, rfl, .inr (.inl (⟨by go_num, by rw [← HR.out]; simp⟩))⟩
      case measure => simp [intOf]
    · have HR : Hid (bits .or .u32 ((p * 65536 : Nat) : Int) ((q * 256 : Nat) : Int) = (((p * 256 + q) * 256 : Nat) : Int)) := by
        unfold Hid
        have := or_u32k 16 p (q * 256) (by omega) (by omega)
        rw [show 2 ^ 16 * p = p * 65536 by omega, show p * 65536 + q * 256 = (p * 256 + q) * 256 by omega] at this
        exact this
      generalize hz : (p * 256 + q) * 256 = z at *
      have HZ := hid hz
      clear hz
      go_wp2_with fail
      refine (HC1.out _).mono ?_
      rintro _ w2 ⟨rfl, rfl⟩
      go_wp2_with fail
      go_roundw
      case rel => exact ⟨_, rfl, rfl, .inr (.inr (.inl (⟨by go_num, by rw [← HR.out]; simp⟩)))⟩
      case measure => simp [intOf]
    · have HR : Hid (bits .or .u32 (((p * 256 + q) * 256 : Nat) : Int) ((s : Nat) : Int) = ((((p * 256 + q) * 256 + s) : Nat) : Int)) := by
        unfold Hid
        have := or_u32k 8 (p * 256 + q) (s) (by omega) (by omega)
        rw [show 2 ^ 8 * (p * 256 + q) = (p * 256 + q) * 256 by omega, show (p * 256 + q) * 256 + s = ((p * 256 + q) * 256 + s) by omega] at this
        exact this
      generalize hz : ((p * 256 + q) * 256 + s) = z at *
      have HZ := hid hz
      clear hz
      go_wp2_with fail
      refine (HC2.out _).mono ?_
      rintro _ w2 ⟨rfl, rfl⟩
      go_wp2_with fail
      go_roundw
      case rel => exact ⟨_, rfl, rfl, .inr (.inr (.inr (⟨by go_num, by rw [← HR.out]; simp⟩)))⟩
      case measure => simp [intOf]
    · go_wp2_with fail
      go_ret
      exact ⟨rfl, rfl⟩

end Go.Proofs.Ytcelcnafcfefhaa.N
