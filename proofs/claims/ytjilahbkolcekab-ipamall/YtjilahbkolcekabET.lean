/-
  IpamNews, IpamAdds, IpamDels, IpamFinds, IpamLists, IpamAll.
-/
import Derived.Test.YtjilahbkolcekabES
namespace Go.Proofs.Ytjilahbkolcekab
open Go.ChangeShapes Go.WideShapes Go.ChangeAt Go.RowKit Go.Maps Tri
set_option maxHeartbeats 4000000
set_option maxRecDepth 100000

theorem all_walk (x : Nat) (y : Int) (v : Value) (S : List Stp) (w : World) (hx : x < 4294967296) (hs : SeesO w v S) (hok : OkO S) (hb : S.length * 32 ≤ 140737488355328) :
    Calls Try.prog 3 #[.agg #[.int .u32 (x : Int), .int .i64 y], v] w fun e w' => e = .returned (.bool true) ∧ Below w.heap.size w w' := by
  obtain ⟨wa, HWA⟩ : ∃ wa, Hid (wa = w.alloc (.cells #[.int .u32 (x : Int), .int .i64 y] 25)) := ⟨_, rfl⟩
  have HB0 : Hid (Below w.heap.size w wa) := by unfold Hid; rw [HWA.out]; exact (Below.refl _ _).alloc (Nat.le_refl _) _
  have R1 : Hid (wa.heap[w.heap.size]? = some (.cells #[.int .u32 (x : Int), .int .i64 y] 25)) := by unfold Hid; rw [HWA.out]; exact heap_alloc_new w _
  obtain ⟨q0, q1⟩ := Beh.two R1.out
  have c0 := q0 ⟨wa, Below.refl _ _⟩
  have c1 := q1 ⟨wa, Below.refl _ _⟩
  simp only at c0 c1
  have HH := hid (holds_any x y v S 1 6 wa hx (hs.below HB0.out) hok hb)
  clear q0 q1 hs
  go_enter Try.func3, Try.ntmps3
  go_upto_region 1 with fail
  rw [← HWA.out]
  go_wp2_with fail
  refine HH.out.mono ?_
  rintro _ w1 ⟨rfl, hb1⟩
  have HB1 := hid (HB0.out.trans (hb1.mono HB0.out.size))
  clear c0 c1 HH hb1
  go_wp2_with fail
  go_ret
  exact ⟨rfl, HB1.out⟩
end Go.Proofs.Ytjilahbkolcekab
