/-
  weftlaw6.head of the kinds 1 and 2.
-/
import Derived.Test.YtcboenmmkaochabDoorIJ
import Derived.Test.YtcboenmmkaochabDoorIK
namespace Go.Proofs.YtcboenmmkaochabDoor.N
open Go.ChangeShapes Go.WideShapes Go.ChangeAt Go.RowKit
set_option maxHeartbeats 4000000
set_option maxRecDepth 100000

theorem head_1 (w : World) :
    Calls Tryd.prog 10 #[.int .i64 1] w fun e w' => e = .returned (.bool true) ∧ Below w.heap.size w w' := by
  have HR := hid (request_any w)
  have HP : Hid (∀ (u : World) (a : Option Addr) (n c : Nat), SeesB u (.slice a n c) reqB → Calls Tryd.prog 11 #[.agg #[.int .i64 1, .slice a n c, .int .u8 0, .int .u8 0, .int .u32 0, .slice none 0 0, .int .u8 0, .int .u16 0, .bool false, .bool false, .int .i64 0, .int .u8 0, .int .u8 0, .int .u32 0, .int .u32 0, .slice none 0 0, .slice none 0 0, .int .u8 0, .int .u8 0, .int .i64 0, .int .u32 0]] u fun e w' => e = .returned (.bool true) ∧ Below u.heap.size u w') :=
    fun u a n c hs => plays_1 (.slice a n c) reqB Im.none0 (.slice none 0 0) zeroHd (.slice none 0 0) (.slice none 0 0) 0 0 0 0 u hs
  go_enter Tryd.func10, Tryd.ntmps10
  go_wp2_with fail
  refine HR.out.mono ?_
  rintro _ w2 ⟨a1, n1, c1, a2, n2, c2, rfl, ho, hbd, hb2⟩
  rw [show pkCells req6 (.slice a1 n1 c1) (.slice a2 n2 c2) = #[.int .u8 0, .int .u16 7, .bool false, .bool false, .int .i64 0, .int .u8 1, .int .u8 1, .int .u32 167838211, .int .u32 167904004, .slice a1 n1 c1, .slice a2 n2 c2] from rfl]
  have HBD := hid hbd
  have hfl : ∀ u : World, (Instr.field 35 (.agg #[.int .u8 0, .int .u16 7, .bool false, .bool false, .int .i64 0, .int .u8 1, .int .u8 1, .int .u32 167838211, .int .u32 167904004, .slice a1 n1 c1, .slice a2 n2 c2]) 1).run Tryd.prog u = .ok (.slice a2 n2 c2) u := fun u => by kernel_rfl
  clear ho hbd HR
  go_wp2_with fail
  refine (HP.out _ _ _ _ HBD.out).mono ?_
  rintro _ w3 ⟨rfl, hb3⟩
  go_wp2_with fail
  go_ret
  exact ⟨rfl, hb2.trans (hb3.mono hb2.size)⟩

theorem head_2 (w : World) :
    Calls Tryd.prog 10 #[.int .i64 2] w fun e w' => e = .returned (.bool true) ∧ Below w.heap.size w w' := by
  obtain ⟨w1, hw1⟩ : ∃ w1, w1 = w.alloc (.cells (bs [97, 98, 99]).toArray 5) := ⟨_, rfl⟩
  have hb1 : Below w.heap.size w w1 := by rw [hw1]; exact (Below.refl _ _).alloc (Nat.le_refl _) _
  have hs : SeesB w1 (.slice (some ⟨w.heap.size, 0, none⟩) 3 3) [97, 98, 99] := sees_blk (t := 5) (by rw [hw1]; exact heap_alloc_new w _) rfl (by decide) (by decide)
  have HP : Hid (Calls Tryd.prog 11 #[.agg #[.int .i64 2, .slice none 0 0, .int .u8 8, .int .u8 0, .int .u32 65538, .slice (some ⟨w.heap.size, 0, none⟩) 3 3, .int .u8 0, .int .u16 0, .bool false, .bool false, .int .i64 0, .int .u8 0, .int .u8 0, .int .u32 0, .int .u32 0, .slice none 0 0, .slice none 0 0, .int .u8 0, .int .u8 0, .int .i64 0, .int .u32 0]] w1 fun e w' => e = .returned (.bool true) ∧ Below w1.heap.size w1 w') :=
    plays_2 (.slice none 0 0) ⟨8, 0, 65538, [97, 98, 99]⟩ _ zeroHd (.slice none 0 0) (.slice none 0 0) 0 0 0 0 w1 ⟨by decide, by decide, by decide⟩ hs
  have HW1 : Hid (w1 = w.alloc (.cells #[.int .u8 97, .int .u8 98, .int .u8 99] 5)) := hw1
  have HB1 := hid hb1
  clear hw1 hb1 hs
  go_enter Tryd.func10, Tryd.ntmps10
  go_wp2_with fail
  rw [← HW1.out]
  refine HP.out.mono ?_
  rintro _ w3 ⟨rfl, hb3⟩
  go_wp2_with fail
  go_ret
  exact ⟨rfl, HB1.out.trans (hb3.mono HB1.out.size)⟩
end Go.Proofs.YtcboenmmkaochabDoor.N
