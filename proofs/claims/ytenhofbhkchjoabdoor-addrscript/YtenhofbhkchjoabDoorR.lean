import Derived.Test.YtenhofbhkchjoabDoorO
import Derived.Lib.BufferRead
namespace Go.Proofs.YtenhofbhkchjoabDoor
open Go.ChangeShapes Go.WideShapes Go.ChangeAt Go.RowKit
set_option maxHeartbeats 400000

/-- The digits. -/
def hd (k : Nat) : UInt8 := ([48, 49, 50, 51, 52, 53, 54, 55, 56, 57, 97, 98, 99, 100, 101, 102] : List UInt8).getD k 0

/-- A hardware address in hex: its first k bytes. -/
def mac (M : Nat → Nat) : Nat → List UInt8
  | 0 => []
  | k + 1 => (if k = 0 then [] else mac M k ++ [58]) ++ [hd (M k / 16), hd (M k % 16)]

theorem cases16 {k : Nat} (h : k < 16) : k = 0 ∨ k = 1 ∨ k = 2 ∨ k = 3 ∨ k = 4 ∨ k = 5 ∨ k = 6 ∨ k = 7 ∨ k = 8 ∨ k = 9 ∨ k = 10 ∨ k = 11 ∨ k = 12 ∨ k = 13 ∨ k = 14 ∨ k = 15 := by omega

theorem slice_hex (i : Int) (k : Nat) (hi : i = (k : Int)) (hk : k < 16) (w : World) :
    (Instr.slice 9 (.string ⟨#[48, 49, 50, 51, 52, 53, 54, 55, 56, 57, 97, 98, 99, 100, 101, 102]⟩) (some (.int .i64 i)) (some (.int .i64 (i + 1))) none).run Tryd.prog w = .ok (.string ⟨#[hd k]⟩) w := by
  subst hi
  rcases cases16 hk with rfl | rfl | rfl | rfl | rfl | rfl | rfl | rfl | rfl | rfl | rfl | rfl | rfl | rfl | rfl | rfl
  all_goals (simp [Instr.slice, run_underlying Tryd.underlying9, go_sem]; decide +kernel)

theorem index_hex (i : Int) (k : Nat) (hi : i = (k : Int)) (hk : k < 16) (w : World) :
    (Instr.index 9 (.string ⟨#[48, 49, 50, 51, 52, 53, 54, 55, 56, 57, 97, 98, 99, 100, 101, 102]⟩) (.int .u8 i)).run Tryd.prog w = .ok (.int .u8 ((hd k).toNat : Int)) w := by
  subst hi
  rcases cases16 hk with rfl | rfl | rfl | rfl | rfl | rfl | rfl | rfl | rfl | rfl | rfl | rfl | rfl | rfl | rfl | rfl
  all_goals (simp [Instr.index, run_underlying Tryd.underlying9, asIntOf, go_sem]; try decide +kernel)

theorem mac_len (M : Nat → Nat) (k : Nat) : (mac M k).length = if k = 0 then 0 else 3 * k - 1 := by
  induction k with
  | zero => rfl
  | succ k ih =>
    unfold mac
    by_cases h : k = 0
    · subst h; simp
    · rw [if_neg h, if_neg (by omega)]; rw [if_neg h] at ih; simp [ih]; omega

theorem one_size (d : UInt8) : (⟨#[d]⟩ : ByteArray).size = 1 := rfl

set_option maxRecDepth 100000 in
theorem refFormatMAC_any (m0 m1 m2 m3 m4 m5 : Nat) (M : Nat → Nat) (hM : ∀ k, k < 6 → M k < 256) (e0 : m0 = M 0) (e1 : m1 = M 1) (e2 : m2 = M 2) (e3 : m3 = M 3) (e4 : m4 = M 4) (e5 : m5 = M 5) (w : World) :
    Calls Tryd.prog 23 #[.agg #[.int .u8 m0, .int .u8 m1, .int .u8 m2, .int .u8 m3, .int .u8 m4, .int .u8 m5]] w fun e w' => e = .returned (.string ⟨(mac M 6).toArray⟩) ∧ Below w.heap.size w w' := by
  obtain ⟨wa, hwa⟩ : ∃ wa, wa = w.alloc (.cells #[.int .u8 m0, .int .u8 m1, .int .u8 m2, .int .u8 m3, .int .u8 m4, .int .u8 m5] 33) := ⟨_, rfl⟩
  have hb0 : Below w.heap.size w wa := by rw [hwa]; exact (Below.refl _ _).alloc (Nat.le_refl _) _
  have HC : Hid (∀ k, k < 6 → ∀ q, (wa.drewN q).cell? ⟨w.heap.size, k, none⟩ = some (.int .u8 (M k : Int))) := by
    intro k hk q
    have r : (wa.drewN q).heap[w.heap.size]? = some (.cells #[.int .u8 m0, .int .u8 m1, .int .u8 m2, .int .u8 m3, .int .u8 m4, .int .u8 m5] 33) := by rw [hwa]; exact heap_alloc_new w _
    rw [cell_of_row _ _ k _ _ _ r]
    match k, hk with
    | 0, _ => rw [← e0]; rfl
    | 1, _ => rw [← e1]; rfl
    | 2, _ => rw [← e2]; rfl
    | 3, _ => rw [← e3]; rfl
    | 4, _ => rw [← e4]; rfl
    | 5, _ => rw [← e5]; rfl
  have HWA := hid hwa
  have HMM := hid hM
  clear hwa e0 e1 e2 e3 e4 e5 hM
  go_enter Tryd.func23, Tryd.ntmps23
  go_wp2_with fail
  rw [← HWA.out]
  go_loopw [3, 4] (fun s i wr => ∃ (k q : Nat) (b : ByteArray), i = .int .i64 k ∧ k ≤ 6 ∧ s = .string b ∧ Hid (b.data.toList = mac M k) ∧ b.size ≤ 3 * k ∧ wr = wa.drewN q) (fun _ i _ => 6 - (intOf i).toNat)
  case atStart => exact ⟨0, 0, ⟨#[]⟩, rfl, by omega, rfl, rfl, Nat.le_refl _, rfl⟩
  case round =>
    obtain ⟨k, q, b, rfl, hk, rfl, HB, hz, rfl⟩ := hrel
    by_cases hk6 : k < 6
    · have c := HC.out k hk6 q
      have hm := HMM.out k hk6
      generalize hmk : M k = m at c hm
      have HMK := hid hmk
      clear hmk
      have s1 := slice_hex ((m : Int) / 16) (m / 16) (by omega) (by omega)
      have s2 := slice_hex ((m : Int) % 16) (m % 16) (by omega) (by omega)
      have HE : Hid (mac M (k + 1) = (if k = 0 then [] else mac M k ++ [58]) ++ [hd (m / 16), hd (m % 16)]) := by unfold Hid; rw [mac, HMK.out]
      generalize hd (m / 16) = d1 at s1 HE
      generalize hd (m % 16) = d2 at s2 HE
      by_cases hk0 : k = 0
      · subst hk0
        go_wp2_with fail
        go_quiet (fail)
        go_wp2_with fail
        go_roundw
        case rel => exact ⟨0 + 1, q + nq, b ++ ⟨#[d1]⟩ ++ ⟨#[d2]⟩, by go_num, by omega, rfl, by rw [HE.out]; unfold Hid; have hb := HB.out; simp [mac] at hb; simp [hb], by simp [one_size]; omega, by simp⟩
        case measure => simp [intOf]
      · have hkp : 0 < k := by omega
        go_wp2_with fail
        go_quiet (fail)
        go_wp2_with fail
        go_roundw
        case rel => exact ⟨k + 1, q + nq, b ++ ⟨#[58]⟩ ++ ⟨#[d1]⟩ ++ ⟨#[d2]⟩, by go_num, by omega, rfl, by rw [HE.out, if_neg hk0]; unfold Hid; simp [HB.out], by simp [one_size]; omega, by simp⟩
        case measure => simp [intOf]; omega
    · obtain rfl : k = 6 := by omega
      go_wp2_with fail
      go_ret
      exact ⟨ret_str (by rw [← HB.out]), below_drewN hb0 _⟩

theorem info5 : (Tryd.prog.info? 5).map (fun i => (i.zero, i.size, i.bytes)) = some (some (.int .u8 0), 1, 1) := by kernel_rfl
theorem und79 : Tryd.prog.underlying 79 = some (.slice 5) := by kernel_rfl

theorem make17 (w : World) : (Instr.makeSlice 79 (.int .i64 0) (.int .i64 17)).run Tryd.prog w = .ok (.slice (some ⟨w.heap.size, 0, none⟩) 0 17) (w.alloc (.cells (madeCells #[.int .u8 0] 17) 5)) := by
  obtain ⟨i, hi, hz, hs, hb⟩ := info_parts info5
  have h := run_make (P := Tryd.prog) w 79 5 i (.int .u8 0) (by kernel_rfl) hi hz .i64 .i64 0 17 (by omega) (by omega) (by rw [hb]; omega) (by omega)
  rw [h, hs]; rfl

theorem and_15 (m : Nat) (hm : m < 256) : bits .and .u8 (m : Int) 15 = ((m % 16 : Nat) : Int) := by
  have h := u8_and_nat m 15 hm (by omega)
  rw [show m &&& 15 = m % 16 from Nat.and_two_pow_sub_one_eq_mod m 4] at h
  exact h

/-- Bytes in cells. -/
def bcs (l : List UInt8) : List Value := l.map fun b => .int .u8 (b.toNat : Int)

/-- The bytes l lie at the head of the row B, which has room for 17. -/
def Lies (w : World) (B : Nat) (l : List UInt8) : Prop := ∃ cur, w.heap[B]? = some (.cells cur 5 (0, 0)) ∧ cur.size = 17 ∧ cur.toList.take l.length = bcs l

theorem Lies.lt {w : World} {B : Nat} {l : List UInt8} (h : Lies w B l) : B < w.heap.size := by
  obtain ⟨cur, h1, _⟩ := h
  exact (Array.getElem?_eq_some_iff.1 h1).1

theorem Lies.alloc {w : World} {B : Nat} {l : List UInt8} (h : Lies w B l) (o : Obj) : Lies (w.alloc o) B l := by
  have hl := h.lt
  obtain ⟨cur, h1, h2⟩ := h
  exact ⟨cur, (Below.heap_alloc _ _ _ hl).trans h1, h2⟩

theorem below_drew {B : Nat} {a w : World} (h : Below B a w) : Below B a w.drew := ⟨h.os, h.tape, h.output, h.size, h.block⟩

theorem Lies.drew {w : World} {B : Nat} {l : List UInt8} (h : Lies w B l) : Lies w.drew B l := h

theorem Lies.room {w : World} {B : Nat} {l : List UInt8} (h : Lies w B l) (n : Nat) (hn : n < 17) : ∃ x, w.cell? ⟨B, n, none⟩ = some x ∧ w.frozen? ⟨B, n, none⟩ = false := by
  obtain ⟨cur, h1, h2, _⟩ := h
  exact ⟨cur[n], by rw [cell_of_row _ _ n _ _ _ h1]; exact Array.getElem?_eq_getElem (by omega), frozen_of_row _ _ _ _ _ h1⟩

theorem Lies.put {w : World} {B : Nat} {l : List UInt8} (h : Lies w B l) (n : Nat) (hl : n = l.length) (hn : n < 17) (d : UInt8) : Lies (w.setCell ⟨B, n, none⟩ (.int .u8 (d.toNat : Int))) B (l ++ [d]) := by
  obtain ⟨cur, h1, h2, h3⟩ := h
  refine ⟨_, heap_setCell_same _ _ _ _ _ _ h1, by simpa using h2, ?_⟩
  subst hl
  rw [Array.toList_setIfInBounds, List.length_append, List.length_singleton, List.take_add_one, List.take_set_of_le (Nat.le_refl _), h3]
  simp [bcs, h2, hn]

set_option maxRecDepth 100000 in
theorem formatMAC_any (m0 m1 m2 m3 m4 m5 : Nat) (M : Nat → Nat) (hM : ∀ k, k < 6 → M k < 256) (e0 : m0 = M 0) (e1 : m1 = M 1) (e2 : m2 = M 2) (e3 : m3 = M 3) (e4 : m4 = M 4) (e5 : m5 = M 5) (w : World) :
    Calls Tryd.prog 22 #[.agg #[.int .u8 m0, .int .u8 m1, .int .u8 m2, .int .u8 m3, .int .u8 m4, .int .u8 m5]] w fun e w' => e = .returned (.string ⟨(mac M 6).toArray⟩) ∧ Below w.heap.size w w' := by
  obtain ⟨wa, hwa⟩ : ∃ wa, wa = w.alloc (.cells #[.int .u8 m0, .int .u8 m1, .int .u8 m2, .int .u8 m3, .int .u8 m4, .int .u8 m5] 33) := ⟨_, rfl⟩
  have hb0 : Below w.heap.size w wa := by rw [hwa]; exact (Below.refl _ _).alloc (Nat.le_refl _) _
  have hsz : wa.heap.size = w.heap.size + 1 := by rw [hwa]; simp
  have HC : Hid (∀ k, k < 6 → wa.cell? ⟨w.heap.size, k, none⟩ = some (.int .u8 (M k : Int))) := by
    intro k hk
    have r : wa.heap[w.heap.size]? = some (.cells #[.int .u8 m0, .int .u8 m1, .int .u8 m2, .int .u8 m3, .int .u8 m4, .int .u8 m5] 33) := by rw [hwa]; exact heap_alloc_new w _
    rw [cell_of_row _ _ k _ _ _ r]
    match k, hk with
    | 0, _ => rw [← e0]; rfl
    | 1, _ => rw [← e1]; rfl
    | 2, _ => rw [← e2]; rfl
    | 3, _ => rw [← e3]; rfl
    | 4, _ => rw [← e4]; rfl
    | 5, _ => rw [← e5]; rfl
  have HWA := hid hwa
  have HMM := hid hM
  have hmk := make17
  clear hwa e0 e1 e2 e3 e4 e5 hM
  obtain ⟨i0, hi0, hz0, hz1, hz2⟩ := info_parts info5
  have HI := hid hi0
  clear hi0
  obtain ⟨wb, hwb⟩ : ∃ wb, wb = wa.alloc (.cells (madeCells #[.int .u8 0] 17) 5) := ⟨_, rfl⟩
  have HWB := hid hwb
  have hb1 : Below wa.heap.size wa wb := by rw [hwb]; exact (Below.refl _ _).alloc (Nat.le_refl _) _
  have own0 : Lies wb (w.heap.size + 1) (mac M 0) := by
    refine ⟨madeCells #[.int .u8 0] 17, ?_, by simp [madeCells], rfl⟩
    rw [hwb, ← hsz]; exact heap_alloc_new wa _
  clear hwb
  go_enter Tryd.func22, Tryd.ntmps22
  go_wp2_with fail
  rw [← HWA.out, ← HWB.out]
  go_loopw [3, 6] (fun v i wr => ∃ k n : Nat, i = .int .i64 k ∧ k ≤ 6 ∧ v = .slice (some ⟨w.heap.size + 1, 0, none⟩) n 17 ∧ Hid (n = (mac M k).length) ∧ Hid (Lies wr (w.heap.size + 1) (mac M k)) ∧ Below wa.heap.size wa wr) (fun _ i _ => 6 - (intOf i).toNat)
  case atStart => exact ⟨0, 0, rfl, by omega, rfl, rfl, own0, hb1⟩
  case round =>
    obtain ⟨k, n, rfl, hk, rfl, HNL, HO, hbr⟩ := hrel
    by_cases hk6 : k < 6
    · have c := (hbr.cell (p := ⟨w.heap.size, k, none⟩) (by show w.heap.size < wa.heap.size; omega)).trans (HC.out k hk6)
      have hm := HMM.out k hk6
      generalize hmk : M k = m at c hm
      have HMK := hid hmk
      clear hmk
      have s1 := index_hex ((m : Int) / 16) (m / 16) (by omega) (by omega)
      have s2 := index_hex (bits .and .u8 (m : Int) 15) (m % 16) (and_15 m hm) (by omega)
      have s3 := index_hex ((m : Int) % 16) (m % 16) (by omega) (by omega)
      have HE : Hid (mac M (k + 1) = (if k = 0 then [] else mac M k ++ [58]) ++ [hd (m / 16), hd (m % 16)]) := by unfold Hid; rw [mac, HMK.out]
      generalize hd (m / 16) = d1 at s1 HE
      generalize hd (m % 16) = d2 at s2 s3 HE
      have hsr := hbr.size
      by_cases hk0 : k = 0
      · subst hk0
        have hn0 : n ≤ 0 := by rw [HNL.out]; exact Nat.le_refl _
        have L1 := HO.out.alloc (.cells #[.int .u8 (d1.toNat : Int), .int .u8 (d2.toNat : Int)] 5)
        have L2 := L1.put n HNL.out (by omega) d1
        have L3 := hid (L2.put (n + 1) (by rw [HNL.out]; simp) (by omega) d2)
        obtain ⟨x1, f1, f2⟩ := L1.room n (by omega)
        obtain ⟨x2, f3, f4⟩ := L2.room (n + 1) (by omega)
        clear L1 L2
        have hn15 : n ≤ 15 := by omega
        go_wp2_with fail
        go_region
        go_wp2_with fail
        go_roundw
        case rel => exact ⟨0 + 1, n + 2, by go_num, by omega, rfl, by rw [HE.out]; unfold Hid; rw [HNL.out]; simp [mac], by rw [HE.out]; exact L3.out.drew, below_drew (((hbr.alloc hbr.size _).setCell (by show wa.heap.size ≤ w.heap.size + 1; omega) _).setCell (by show wa.heap.size ≤ w.heap.size + 1; omega) _)⟩
        case measure => simp [intOf]
      · have hkp : 0 < k := by omega
        have hn0 : n ≤ 14 := by rw [HNL.out, mac_len, if_neg hk0]; omega
        have L1 := HO.out.alloc (.cells #[.int .u8 58] 5)
        have L2 : Hid (Lies ((wr.alloc (.cells #[.int .u8 58] 5)).setCell ⟨w.heap.size + 1, n, none⟩ (.int .u8 58)) (w.heap.size + 1) (mac M k ++ [58])) := L1.put n HNL.out (by omega) 58
        obtain ⟨x1, f1, f2⟩ := L1.room n (by omega)
        clear L1
        go_wp2_with fail
        have hbV : Below wa.heap.size wa ((wr.alloc (.cells #[.int .u8 58] 5)).setCell ⟨w.heap.size + 1, n, none⟩ (.int .u8 58)) := (hbr.alloc hbr.size _).setCell (by show wa.heap.size ≤ w.heap.size + 1; omega) _
        clear c f1 f2
        generalize (wr.alloc (.cells #[.int .u8 58] 5)).setCell ⟨w.heap.size + 1, n, none⟩ (.int .u8 58) = V at hbV L2 ⊢
        have hsV := hbV.size
        have c := (hbV.cell (p := ⟨w.heap.size, k, none⟩) (by show w.heap.size < wa.heap.size; omega)).trans (HC.out k hk6)
        rw [HMK.out] at c
        have L4 := L2.out.alloc (.cells #[.int .u8 (d1.toNat : Int), .int .u8 (d2.toNat : Int)] 5)
        have L5 := L4.put (n + 1) (by rw [HNL.out]; simp) (by omega) d1
        have L6 := hid (L5.put (n + 1 + 1) (by rw [HNL.out]; simp) (by omega) d2)
        obtain ⟨x2, f3, f4⟩ := L4.room (n + 1) (by omega)
        obtain ⟨x3, f5, f6⟩ := L5.room (n + 1 + 1) (by omega)
        clear L4 L5
        have hn15 : n + 1 ≤ 15 := by omega
        go_region
        go_wp2_with fail
        go_roundw
        case rel => exact ⟨k + 1, n + 1 + 2, by go_num, by omega, rfl, by rw [HE.out, if_neg hk0]; unfold Hid; rw [HNL.out]; simp, by rw [HE.out, if_neg hk0]; have h6 := L6.out.drew; rw [List.append_assoc] at h6; exact h6, below_drew (((hbV.alloc hbV.size _).setCell (by show wa.heap.size ≤ w.heap.size + 1; omega) _).setCell (by show wa.heap.size ≤ w.heap.size + 1; omega) _)⟩
        case measure => simp [intOf]; omega
    · obtain rfl : k = 6 := by omega
      have hconv : (convert 79 9 (.slice (some ⟨w.heap.size + 1, 0, none⟩) n 17)).run Tryd.prog wr = .ok (.string ⟨(mac M 6).toArray⟩) wr := by
        obtain ⟨cur, h1, h2, h3⟩ := HO.out
        rw [HNL.out]
        exact run_convert_bytes_back wr 79 9 5 ⟨w.heap.size + 1, 0, none⟩ 17 (mac M 6) und79 (by kernel_rfl) Tryd.underlying9 (Lib.bytes_of_row h1 h3)
      go_wp2_with fail
      go_ret
      exact ⟨rfl, hb0.trans (hbr.mono (by omega))⟩
end Go.Proofs.YtenhofbhkchjoabDoor
