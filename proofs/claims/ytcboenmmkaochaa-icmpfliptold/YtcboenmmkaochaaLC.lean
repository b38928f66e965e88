/-
  IcmpFlipTold: the walk.
-/
import Derived.Test.YtcboenmmkaochaaLB
namespace Go.Proofs.Ytcboenmmkaochaa.N
open Go.ChangeShapes Go.WideShapes Go.ChangeAt Go.RowKit
set_option maxHeartbeats 8000000
set_option maxRecDepth 100000

theorem icmpFlipTold_walk (m : Im.Ct) (vm : Value) (k : Int) (w : World) (hok : m.Ok) (hvm : SeesB w vm m.B) (hk : -9223372036854775808 ≤ k ∧ k ≤ 9223372036854775807) :
    Calls Try.prog 3 #[.agg (ctCells m vm), .int .i64 k] w fun e w' => e = .returned (.bool true) ∧ Below w.heap.size w w' := by
  obtain ⟨w1, hw1⟩ : ∃ w1, w1 = w.alloc (.cells (ctCells m vm) 25) := ⟨_, rfl⟩
  have hs1 : w1.heap.size = w.heap.size + 1 := by rw [hw1]; simp
  have hb1 : Below w.heap.size w w1 := by rw [hw1]; exact (Below.refl _ _).alloc (Nat.le_refl _) _
  have k1 : w1.heap[w.heap.size]? = some (.cells (ctCells m vm) 25 (0, 0)) := by rw [hw1]; exact heap_alloc_new w _
  have HL : Hid (∀ u, Below w1.heap.size w1 u → (Instr.loadAt 25 (.pointer (some ⟨w.heap.size, 0, none⟩))).run Try.prog u = .ok (.agg (ctCells m vm)) u) := fun u hu =>
    row_load Try.underlying25 ((hu.block _ (by omega)).trans k1) size_ct
  have h8 : (⟨8, 0, 0, []⟩ : Im.Ct).Ok := ⟨by decide, by decide, by decide⟩
  have HT : Hid (∀ u, Calls Try.prog 5 #[.agg #[.int .u8 8, .int .u8 0, .int .u32 0, .slice none 0 0]] u fun e w' => e = .returned (.bool true) ∧ Below u.heap.size u w') := fun u =>
    there_any ⟨8, 0, 0, []⟩ (.slice none 0 0) u h8 (sees_nil _)
  have HF : Hid (∀ (K : Nat) (u : World), K ≤ 9223372036854775807 → Calls Try.prog 6 #[.agg #[.int .u8 8, .int .u8 0, .int .u32 0, .slice none 0 0], .int .i64 (K : Int)] u fun e w' => e = .returned (.bool true) ∧ Below u.heap.size u w') := fun K u hK =>
    flip_any ⟨8, 0, 0, []⟩ (.slice none 0 0) K u h8 (sees_nil _) hK
  have HG : Hid (∀ (K : Nat) (u : World), K ≤ 9223372036854775807 → Below w1.heap.size w1 u → Calls Try.prog 6 #[.agg (ctCells m vm), .int .i64 (K : Int)] u fun e w' => e = .returned (.bool true) ∧ Below u.heap.size u w') := fun K u hK hu =>
    flip_any m vm K u hok (hvm.below (hb1.trans (hu.mono hb1.size))) hK
  have HW1 := hid hw1
  have HB1 := hid hb1
  clear hw1 hs1 hb1 k1 hvm hok h8
  generalize ctCells m vm = ct at *
  by_cases hn : k < 0
  · obtain ⟨K, hK⟩ : ∃ K : Nat, -(k + 1) = (K : Int) := ⟨(-(k + 1)).toNat, by omega⟩
    have hK2 : K ≤ 9223372036854775807 := by omega
    skip
    go_enter Try.func3, Try.ntmps3
    go_upto_region 1 with fail
    rw [← HW1.out]
    go_wp2_with fail
    refine (HT.out _).mono ?_
    rintro _ w2 ⟨rfl, hb2⟩
    have HX := hid (HF.out K w2 hK2)
    have HB2 := hid hb2
    clear hb2
    go_wp2_with fail
    refine HX.out.mono ?_
    rintro _ w3 ⟨rfl, hb3⟩
    have hb13 := HB2.out.trans (hb3.mono HB2.out.size)
    have HL3 := hid (HL.out _ hb13)
    have HX3 := hid (HG.out K w3 hK2 hb13)
    have HB13 := hid hb13
    clear hb3 hb13
    go_wp2_with (first | (refine wpList_ld 25 ⟨w.heap.size, 0, none⟩ (.tmp 2) rfl rfl HL3.out rfl ?_) | fail)
    refine HX3.out.mono ?_
    rintro _ w4 ⟨rfl, hb4⟩
    go_wp2_with fail
    go_ret
    exact ⟨rfl, HB1.out.trans ((HB13.out.trans (hb4.mono HB13.out.size)).mono HB1.out.size)⟩
  · obtain ⟨K, hK⟩ : ∃ K : Nat, k = (K : Int) := ⟨(k).toNat, by omega⟩
    have hK2 : K ≤ 9223372036854775807 := by omega
    subst hK
    go_enter Try.func3, Try.ntmps3
    go_upto_region 1 with fail
    rw [← HW1.out]
    go_wp2_with fail
    refine (HT.out _).mono ?_
    rintro _ w2 ⟨rfl, hb2⟩
    have HX := hid (HF.out K w2 hK2)
    have HB2 := hid hb2
    clear hb2
    go_wp2_with fail
    refine HX.out.mono ?_
    rintro _ w3 ⟨rfl, hb3⟩
    have hb13 := HB2.out.trans (hb3.mono HB2.out.size)
    have HL3 := hid (HL.out _ hb13)
    have HX3 := hid (HG.out K w3 hK2 hb13)
    have HB13 := hid hb13
    clear hb3 hb13
    go_wp2_with (first | (refine wpList_ld 25 ⟨w.heap.size, 0, none⟩ (.tmp 2) rfl rfl HL3.out rfl ?_) | fail)
    refine HX3.out.mono ?_
    rintro _ w4 ⟨rfl, hb4⟩
    go_wp2_with fail
    go_ret
    exact ⟨rfl, HB1.out.trans ((HB13.out.trans (hb4.mono HB13.out.size)).mono HB1.out.size)⟩
end Go.Proofs.Ytcboenmmkaochaa.N
