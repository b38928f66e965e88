/-
  IpamNews, IpamAdds, IpamDels, IpamFinds, IpamLists, IpamAll.
-/
import Derived.Test.YtjilahbkolcekaaES
namespace Go.Proofs.Ytjilahbkolcekaa
open Go.ChangeShapes Go.WideShapes Go.ChangeAt Go.RowKit Go.Maps Tri
set_option maxHeartbeats 4000000
set_option maxRecDepth 100000

theorem news_walk (x : Nat) (y : Int) (w : World) (hx : x < 4294967296) :
    Calls Try.prog 3 #[.agg #[.int .u32 (x : Int), .int .i64 y]] w fun e w' => e = .returned (.bool true) ∧ Below w.heap.size w w' := by
  obtain ⟨wa, HWA⟩ : ∃ wa, Hid (wa = w.alloc (.cells #[.int .u32 (x : Int), .int .i64 y] 25)) := ⟨_, rfl⟩
  have HB0 : Hid (Below w.heap.size w wa) := by unfold Hid; rw [HWA.out]; exact (Below.refl _ _).alloc (Nat.le_refl _) _
  have R1 : Hid (wa.heap[w.heap.size]? = some (.cells #[.int .u32 (x : Int), .int .i64 y] 25)) := by unfold Hid; rw [HWA.out]; exact heap_alloc_new w _
  obtain ⟨q0, q1⟩ := Beh.two R1.out
  have c0 := q0 ⟨wa, Below.refl _ _⟩
  have c1 := q1 ⟨wa, Below.refl _ _⟩
  simp only at c0 c1
  have HBT := hid (both_any x y wa hx)
  clear q0 q1
  go_enter Try.func3, Try.ntmps3
  go_upto_region 1 with fail
  rw [← HWA.out]
  go_wp2_with fail
  refine HBT.out.mono ?_
  rintro e w1 hbt
  obtain ⟨p1, p2, rfl, hb1⟩ : ∃ p1 p2, e = .returned (.tuple #[.pointer p1, .pointer p2, .bool true]) ∧ Below wa.heap.size wa w1 := by
    rcases hbt with ⟨-, rfl, hb1⟩ | ⟨-, pb, bn, ba, rb, rfl, -, -, hb1⟩
    · exact ⟨_, _, rfl, hb1⟩
    · exact ⟨_, _, rfl, hb1⟩
  have HF := hid (first_any w1)
  have HB1 := hid (HB0.out.trans (hb1.mono HB0.out.size))
  clear c0 c1 HBT hb1 hbt
  go_wp2_with fail
  refine HF.out.mono ?_
  rintro _ w2 ⟨rfl, hb2⟩
  have HB2 := hid (HB1.out.trans (hb2.mono HB1.out.size))
  clear HF hb2
  go_wp2_with fail
  go_ret
  exact ⟨rfl, HB2.out⟩

theorem adds_walk (x : Nat) (y : Int) (v : Value) (S : List Stp) (w : World) (hx : x < 4294967296) (hs : SeesO w v S) (hok : OkO S) (hb : S.length * 32 ≤ 140737488355328) :
    Calls Try.prog 5 #[.agg #[.int .u32 (x : Int), .int .i64 y], v] w fun e w' => e = .returned (.bool true) ∧ Below w.heap.size w w' := by
  obtain ⟨wa, HWA⟩ : ∃ wa, Hid (wa = w.alloc (.cells #[.int .u32 (x : Int), .int .i64 y] 25)) := ⟨_, rfl⟩
  have HB0 : Hid (Below w.heap.size w wa) := by unfold Hid; rw [HWA.out]; exact (Below.refl _ _).alloc (Nat.le_refl _) _
  have R1 : Hid (wa.heap[w.heap.size]? = some (.cells #[.int .u32 (x : Int), .int .i64 y] 25)) := by unfold Hid; rw [HWA.out]; exact heap_alloc_new w _
  obtain ⟨q0, q1⟩ := Beh.two R1.out
  have c0 := q0 ⟨wa, Below.refl _ _⟩
  have c1 := q1 ⟨wa, Below.refl _ _⟩
  simp only at c0 c1
  have HH := hid (holds_any x y v S 1 1 wa hx (hs.below HB0.out) hok hb)
  clear q0 q1 hs
  go_enter Try.func5, Try.ntmps5
  go_upto_region 1 with fail
  rw [← HWA.out]
  go_wp2_with fail
  refine HH.out.mono ?_
  rintro _ w1 ⟨rfl, hb1⟩
  have HB1 := hid (HB0.out.trans (hb1.mono HB0.out.size))
  clear c0 c1 HH hb1
  go_wp2_with fail
  go_ret
  exact ⟨rfl, HB1.out⟩

theorem dels_walk (x : Nat) (y : Int) (v : Value) (S : List Stp) (w : World) (hx : x < 4294967296) (hs : SeesO w v S) (hok : OkO S) (hb : S.length * 32 ≤ 140737488355328) :
    Calls Try.prog 6 #[.agg #[.int .u32 (x : Int), .int .i64 y], v] w fun e w' => e = .returned (.bool true) ∧ Below w.heap.size w w' := by
  obtain ⟨wa, HWA⟩ : ∃ wa, Hid (wa = w.alloc (.cells #[.int .u32 (x : Int), .int .i64 y] 25)) := ⟨_, rfl⟩
  have HB0 : Hid (Below w.heap.size w wa) := by unfold Hid; rw [HWA.out]; exact (Below.refl _ _).alloc (Nat.le_refl _) _
  have R1 : Hid (wa.heap[w.heap.size]? = some (.cells #[.int .u32 (x : Int), .int .i64 y] 25)) := by unfold Hid; rw [HWA.out]; exact heap_alloc_new w _
  obtain ⟨q0, q1⟩ := Beh.two R1.out
  have c0 := q0 ⟨wa, Below.refl _ _⟩
  have c1 := q1 ⟨wa, Below.refl _ _⟩
  simp only at c0 c1
  have HH := hid (holds_any x y v S 2 2 wa hx (hs.below HB0.out) hok hb)
  clear q0 q1 hs
  go_enter Try.func6, Try.ntmps6
  go_upto_region 1 with fail
  rw [← HWA.out]
  go_wp2_with fail
  refine HH.out.mono ?_
  rintro _ w1 ⟨rfl, hb1⟩
  have HB1 := hid (HB0.out.trans (hb1.mono HB0.out.size))
  clear c0 c1 HH hb1
  go_wp2_with fail
  go_ret
  exact ⟨rfl, HB1.out⟩

theorem finds_walk (x : Nat) (y : Int) (v : Value) (S : List Stp) (w : World) (hx : x < 4294967296) (hs : SeesO w v S) (hok : OkO S) (hb : S.length * 32 ≤ 140737488355328) :
    Calls Try.prog 7 #[.agg #[.int .u32 (x : Int), .int .i64 y], v] w fun e w' => e = .returned (.bool true) ∧ Below w.heap.size w w' := by
  obtain ⟨wa, HWA⟩ : ∃ wa, Hid (wa = w.alloc (.cells #[.int .u32 (x : Int), .int .i64 y] 25)) := ⟨_, rfl⟩
  have HB0 : Hid (Below w.heap.size w wa) := by unfold Hid; rw [HWA.out]; exact (Below.refl _ _).alloc (Nat.le_refl _) _
  have R1 : Hid (wa.heap[w.heap.size]? = some (.cells #[.int .u32 (x : Int), .int .i64 y] 25)) := by unfold Hid; rw [HWA.out]; exact heap_alloc_new w _
  obtain ⟨q0, q1⟩ := Beh.two R1.out
  have c0 := q0 ⟨wa, Below.refl _ _⟩
  have c1 := q1 ⟨wa, Below.refl _ _⟩
  simp only at c0 c1
  have HH := hid (holds_any x y v S 3 4 wa hx (hs.below HB0.out) hok hb)
  clear q0 q1 hs
  go_enter Try.func7, Try.ntmps7
  go_upto_region 1 with fail
  rw [← HWA.out]
  go_wp2_with fail
  refine HH.out.mono ?_
  rintro _ w1 ⟨rfl, hb1⟩
  have HB1 := hid (HB0.out.trans (hb1.mono HB0.out.size))
  clear c0 c1 HH hb1
  go_wp2_with fail
  go_ret
  exact ⟨rfl, HB1.out⟩

theorem lists_walk (x : Nat) (y : Int) (v : Value) (S : List Stp) (w : World) (hx : x < 4294967296) (hs : SeesO w v S) (hok : OkO S) (hb : S.length * 32 ≤ 140737488355328) :
    Calls Try.prog 8 #[.agg #[.int .u32 (x : Int), .int .i64 y], v] w fun e w' => e = .returned (.bool true) ∧ Below w.heap.size w w' := by
  obtain ⟨wa, HWA⟩ : ∃ wa, Hid (wa = w.alloc (.cells #[.int .u32 (x : Int), .int .i64 y] 25)) := ⟨_, rfl⟩
  have HB0 : Hid (Below w.heap.size w wa) := by unfold Hid; rw [HWA.out]; exact (Below.refl _ _).alloc (Nat.le_refl _) _
  have R1 : Hid (wa.heap[w.heap.size]? = some (.cells #[.int .u32 (x : Int), .int .i64 y] 25)) := by unfold Hid; rw [HWA.out]; exact heap_alloc_new w _
  obtain ⟨q0, q1⟩ := Beh.two R1.out
  have c0 := q0 ⟨wa, Below.refl _ _⟩
  have c1 := q1 ⟨wa, Below.refl _ _⟩
  simp only at c0 c1
  have HH := hid (holds_any x y v S 5 6 wa hx (hs.below HB0.out) hok hb)
  clear q0 q1 hs
  go_enter Try.func8, Try.ntmps8
  go_upto_region 1 with fail
  rw [← HWA.out]
  go_wp2_with fail
  refine HH.out.mono ?_
  rintro _ w1 ⟨rfl, hb1⟩
  have HB1 := hid (HB0.out.trans (hb1.mono HB0.out.size))
  clear c0 c1 HH hb1
  go_wp2_with fail
  go_ret
  exact ⟨rfl, HB1.out⟩

end Go.Proofs.Ytjilahbkolcekaa
