/-
  IcmpThereBack: the walk.
-/
import Derived.Test.YtcboenmmkaochaaLD
namespace Go.Proofs.Ytcboenmmkaochaa.N
open Go.ChangeShapes Go.WideShapes Go.ChangeAt Go.RowKit
set_option maxHeartbeats 8000000
set_option maxRecDepth 100000

theorem field_bd (x0 x1 x2 x3 x4 x5 x6 x7 x8 x9 x10 : Value) (u : World) : (Instr.field 34 (.agg #[x0, x1, x2, x3, x4, x5, x6, x7, x8, x9, x10]) 1).run Try.prog u = .ok x10 u := by
  simp [Instr.field, run_underlying Try.underlying34, asAgg, part, go_sem]

theorem icmpThereBack_walk (m : Im.Ct) (vm : Value) (v : Value) (L : List Nat) (w : World) (hok : m.Ok) (hvm : SeesB w vm m.B) (hv : SeesB w v L) :
    Calls Try.prog 4 #[.agg (ctCells m vm), v] w fun e w' => e = .returned (.bool true) ∧ Below w.heap.size w w' := by
  obtain ⟨ao, n, cap, rfl, _, _, _⟩ := hv.shape
  obtain ⟨w1, hw1⟩ : ∃ w1, w1 = w.alloc (.cells (ctCells m vm) 25) := ⟨_, rfl⟩
  have hs1 : w1.heap.size = w.heap.size + 1 := by rw [hw1]; simp
  have hb1 : Below w.heap.size w w1 := by rw [hw1]; exact (Below.refl _ _).alloc (Nat.le_refl _) _
  have k1 : w1.heap[w.heap.size]? = some (.cells (ctCells m vm) 25 (0, 0)) := by rw [hw1]; exact heap_alloc_new w _
  have HL : Hid (∀ u, Below w1.heap.size w1 u → (Instr.loadAt 25 (.pointer (some ⟨w.heap.size, 0, none⟩))).run Try.prog u = .ok (.agg (ctCells m vm)) u) := fun u hu =>
    row_load Try.underlying25 ((hu.block _ (by omega)).trans k1) size_ct
  have HT : Hid (∀ (u : World) (v2 : Value), SeesB u v2 [97, 98, 99] → Calls Try.prog 5 #[.agg #[.int .u8 8, .int .u8 0, .int .u32 65538, v2]] u fun e w' => e = .returned (.bool true) ∧ Below u.heap.size u w') := fun u v2 h2 =>
    there_any ⟨8, 0, 65538, [97, 98, 99]⟩ v2 u ⟨by decide, by decide, by decide⟩ h2
  have HRQ : Hid (∀ u, Calls Try.prog 8 #[] u fun e w' => ∃ a1 n1 c1 a2 n2 c2, e = .returned (.agg (pkCells req6 (.slice a1 n1 c1) (.slice a2 n2 c2))) ∧ SeesB w' (.slice a1 n1 c1) req6.opts ∧ SeesB w' (.slice a2 n2 c2) reqB ∧ Below u.heap.size u w') := fun u => request_any u
  have HG : Hid (∀ (u : World), Below w1.heap.size w1 u → Calls Try.prog 5 #[.agg (ctCells m vm)] u fun e w' => e = .returned (.bool true) ∧ Below u.heap.size u w') := fun u hu =>
    there_any m vm u hok (hvm.below (hb1.trans (hu.mono hb1.size)))
  have HK : Hid (∀ (u : World), Below w1.heap.size w1 u → Calls Try.prog 7 #[.slice ao n cap] u fun e w' => e = .returned (.bool true) ∧ Below u.heap.size u w') := fun u hu =>
    back_any _ L u (hv.below (hb1.trans (hu.mono hb1.size)))
  obtain ⟨w2, hw2⟩ : ∃ w2, w2 = w1.alloc (.cells #[.int .u8 97, .int .u8 98, .int .u8 99] 5) := ⟨_, rfl⟩
  have hb12 : Below w1.heap.size w1 w2 := by rw [hw2]; exact (Below.refl _ _).alloc (Nat.le_refl _) _
  have hs2 : SeesB w2 (.slice (some ⟨w1.heap.size, 0, none⟩) 3 3) [97, 98, 99] := by rw [hw2]; exact sees_three 97 98 99 (by decide) (by decide) (by decide) 5
  have HT2 := hid (HT.out w2 _ hs2)
  have HW1 := hid hw1
  have HW2 := hid hw2
  have HB1 := hid hb1
  have HB12 := hid hb12
  clear hw1 hw2 hs1 hb1 k1 hvm hok hv hb12 hs2 HT
  generalize ctCells m vm = ct at *
  go_enter Try.func4, Try.ntmps4
  go_upto_region 1 with fail
  rw [← HW1.out]
  go_wp2_with fail
  rw [← HW2.out]
  refine HT2.out.mono ?_
  rintro _ w3 ⟨rfl, hb3⟩
  have hb13 := HB12.out.trans (hb3.mono HB12.out.size)
  have HB13 := hid hb13
  clear hb3 hb13 HT2
  go_wp2_with fail
  refine (HRQ.out _).mono ?_
  rintro _ w4 ⟨a1, n1, c1, a2, n2, c2, rfl, _, hs4, hb4⟩
  have hb14 := HB13.out.trans (hb4.mono HB13.out.size)
  have HX4 := hid (back_any _ reqB w4 hs4)
  have HB14 := hid hb14
  have hfd := field_bd (.int .u8 (req6.tos : Int)) (.int .u16 (req6.id : Int)) (.bool req6.df) (.bool req6.mf) (.int .i64 req6.off) (.int .u8 (req6.ttl : Int)) (.int .u8 (req6.proto : Int)) (.int .u32 (req6.src : Int)) (.int .u32 (req6.dst : Int)) (.slice a1 n1 c1) (.slice a2 n2 c2)
  have hfd : ∀ u : World, (Instr.field 34 (.agg (pkCells req6 (.slice a1 n1 c1) (.slice a2 n2 c2))) 1).run Try.prog u = .ok (.slice a2 n2 c2) u := hfd
  clear hb4 hs4 hb14
  generalize pkCells req6 (.slice a1 n1 c1) (.slice a2 n2 c2) = pk at *
  go_wp2_with fail
  refine HX4.out.mono ?_
  rintro _ w5 ⟨rfl, hb5⟩
  have hb15 := HB14.out.trans (hb5.mono HB14.out.size)
  have HL5 := hid (HL.out _ hb15)
  have HX5 := hid (HG.out _ hb15)
  have HB15 := hid hb15
  clear hb5 hb15 HX4 hfd
  go_wp2_with (first | (refine wpList_ld 25 ⟨w.heap.size, 0, none⟩ (.tmp 2) rfl rfl HL5.out rfl ?_) | fail)
  refine HX5.out.mono ?_
  rintro _ w6 ⟨rfl, hb6⟩
  have hb16 := HB15.out.trans (hb6.mono HB15.out.size)
  have HX6 := hid (HK.out _ hb16)
  have HB16 := hid hb16
  clear hb6 hb16 HX5
  go_wp2_with fail
  refine HX6.out.mono ?_
  rintro _ w7 ⟨rfl, hb7⟩
  go_wp2_with fail
  go_ret
  exact ⟨rfl, HB1.out.trans ((HB16.out.trans (hb7.mono HB16.out.size)).mono HB1.out.size)⟩
end Go.Proofs.Ytcboenmmkaochaa.N
