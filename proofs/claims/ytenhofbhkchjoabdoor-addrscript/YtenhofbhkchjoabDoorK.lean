import Derived.Test.YtenhofbhkchjoabDoorJ
import Derived.Laws.StructEq
namespace Go.Proofs.YtenhofbhkchjoabDoor
open Go.ChangeShapes Go.WideShapes Go.ChangeAt Go.RowKit
set_option maxHeartbeats 400000

theorem ansA_shape (o : Option Nat) : ∃ a e : Int, ansA o = .tuple #[.int .u32 a, .int .i64 e] := by
  cases o with
  | none => exact ⟨0, 10, rfl⟩
  | some a => exact ⟨a, 0, rfl⟩

theorem ansP_shape (l : List UInt8) : ∃ a n e : Int, ansP l = .tuple #[.agg #[.int .u32 a, .int .i64 n], .int .i64 e] := by
  unfold ansP
  cases pre l with
  | none => exact ⟨_, _, _, rfl⟩
  | some p =>
    simp only
    split
    · exact ⟨_, _, _, rfl⟩
    · exact ⟨_, _, _, rfl⟩

theorem ansM_shape (s : ByteArray) : ∃ a b c d e f g : Int, ansM s = .tuple #[.agg #[.int .u8 a, .int .u8 b, .int .u8 c, .int .u8 d, .int .u8 e, .int .u8 f], .int .i64 g] := by
  unfold ansM
  split
  · exact ⟨_, _, _, _, _, _, _, rfl⟩
  · exact ⟨_, _, _, _, _, _, _, rfl⟩

theorem mac_eq (w : World) (a b c d e f : Int) :
    (Op.equalIn 10000 33 (.agg #[.int .u8 a, .int .u8 b, .int .u8 c, .int .u8 d, .int .u8 e, .int .u8 f]) (.agg #[.int .u8 a, .int .u8 b, .int .u8 c, .int .u8 d, .int .u8 e, .int .u8 f])).run Tryd.prog w = .ok true w := by
  rw [show (10000 : Nat) = 9998 + 1 + 1 from rfl, Op.equalIn]
  simp [run_underlying Tryd.underlying33, go_sem, Std.Legacy.Range.forIn_eq_forIn_range', Std.Legacy.Range.size, List.range']

set_option maxHeartbeats 2000000 in
set_option maxRecDepth 100000 in
theorem parses_any (s : ByteArray) (w : World) (hs : s.size ≤ maxLen) (ht : Tab w) :
    Calls Tryd.prog 7 #[.string s] w fun e w' => e = .returned (.bool true) ∧ Below w.heap.size w w' := by
  have HTB := hid ht
  obtain ⟨a1, a2, hA⟩ := ansA_shape (S.pa s.data.toList)
  obtain ⟨p1, p2, p3, hP⟩ := ansP_shape s.data.toList
  obtain ⟨m1, m2, m3, m4, m5, m6, m7, hM⟩ := ansM_shape s
  have HA := hid hA
  have HP := hid hP
  have HM := hid hM
  clear ht hA hP hM
  go_enter Tryd.func7, Tryd.ntmps7
  go_wp2_with fail
  refine (parse_any s _ hs).mono ?_
  rintro e w1 ⟨rfl, rfl⟩
  rw [HA.out]
  go_wp2_with fail
  refine (refParse_any s _ hs HTB.out).mono ?_
  rintro e w2 ⟨rfl, hb2⟩
  rw [HA.out]
  go_wp2_with fail
  refine (parsePrefix_any s _ hs).mono ?_
  rintro e w3 ⟨rfl, hb3⟩
  rw [HP.out]
  have hb03 : Below w1.heap.size w1 w3 := hb2.trans (hb3.mono hb2.size)
  have hb03a : Below w1.heap.size w1 (w3.alloc (.cells #[.int .u32 p1, .int .i64 p2] 31)) := hb03.alloc hb03.size _
  go_wp2_with fail
  refine (refParsePrefix_any s _ hs (HTB.out.below hb03a)).mono ?_
  rintro e w4 ⟨rfl, hb4⟩
  rw [HP.out]
  have r3 : w4.heap[w3.heap.size]? = some (.cells #[.int .u32 p1, .int .i64 p2] 31) := by
    rw [hb4.block _ (by simp)]; exact heap_alloc_new w3 _
  obtain ⟨c0, c1, _, _, _⟩ := row_two r3
  have hb04 : Below w1.heap.size w1 w4 := hb03a.trans (hb4.mono hb03a.size)
  have hlt34 : w3.heap.size < w4.heap.size := by have := hb4.size; simp at this; omega
  clear r3
  go_wp2_with fail
  refine (parseMAC_any s _).mono ?_
  rintro e w5 ⟨rfl, hb5⟩
  rw [HM.out]
  have hb05 : Below w1.heap.size w1 w5 := (hb04.alloc hb04.size _).trans (hb5.mono (by have := hb04.size; simp; omega))
  clear c0 c1
  go_wp2_with fail
  refine (refParseMAC_any s _).mono ?_
  rintro e w6 ⟨rfl, hb6⟩
  rw [HM.out]
  have r5 : w6.heap[w5.heap.size]? = some (.cells #[.int .u8 m1, .int .u8 m2, .int .u8 m3, .int .u8 m4, .int .u8 m5, .int .u8 m6] 33) := by
    rw [hb6.block _ (by simp)]; exact heap_alloc_new w5 _
  have k0 : w6.cell? ⟨w5.heap.size, 0, none⟩ = some (.int .u8 m1) := by rw [cell_of_row w6 _ 0 _ _ _ r5]; rfl
  have k1 : w6.cell? ⟨w5.heap.size, 1, none⟩ = some (.int .u8 m2) := by rw [cell_of_row w6 _ 1 _ _ _ r5]; rfl
  have k2 : w6.cell? ⟨w5.heap.size, 2, none⟩ = some (.int .u8 m3) := by rw [cell_of_row w6 _ 2 _ _ _ r5]; rfl
  have k3 : w6.cell? ⟨w5.heap.size, 3, none⟩ = some (.int .u8 m4) := by rw [cell_of_row w6 _ 3 _ _ _ r5]; rfl
  have k4 : w6.cell? ⟨w5.heap.size, 4, none⟩ = some (.int .u8 m5) := by rw [cell_of_row w6 _ 4 _ _ _ r5]; rfl
  have k5 : w6.cell? ⟨w5.heap.size, 5, none⟩ = some (.int .u8 m6) := by rw [cell_of_row w6 _ 5 _ _ _ r5]; rfl
  have hb06 : Below w1.heap.size w1 w6 := (hb05.alloc hb05.size _).trans (hb6.mono (by have := hb05.size; simp; omega))
  have hlt56 : w5.heap.size < w6.heap.size := by have := hb6.size; simp at this; omega
  have hmeq := fun w => mac_eq w m1 m2 m3 m4 m5 m6
  clear r5
  go_wp2_with fail
  go_ret
  exact ⟨rfl, hb06.alloc hb06.size _⟩

/-- The slice value v shows, in the world w, the texts T. -/
def SeesS (w : World) (v : Value) (T : List ByteArray) : Prop :=
  ∃ ao cap, v = .slice ao T.length cap ∧ T.length ≤ cap ∧ cap ≤ maxLen ∧
    ∀ j (h : j < T.length), ∃ g off, ao = some ⟨g, off, none⟩ ∧ g < w.heap.size ∧ w.cell? ⟨g, off + j, none⟩ = some (.string T[j]) ∧ T[j].size ≤ maxLen

theorem addrParses_walk (v : Value) (T : List ByteArray) (w : World) (hs : SeesS w v T) (ht : Tab w) :
    Calls Tryd.prog 3 #[v] w fun e w' => e = .returned (.bool true) ∧ Below w.heap.size w w' := by
  obtain ⟨ao, cap, rfl, hnc, hcap, hcell⟩ := hs
  have HC := hid hcell
  have HTB := hid ht
  obtain ⟨n, hn⟩ : ∃ n, n = T.length := ⟨_, rfl⟩
  rw [← hn] at hnc ⊢
  have HN := hid hn
  unfold maxLen at hcap
  clear hcell ht hn
  go_enter Tryd.func3, Tryd.ntmps3
  go_wp2_with fail
  refine (begun_any _).mono ?_
  rintro e w0 ⟨rfl, rfl⟩
  go_wp2_with fail
  go_loopw [3, 4] (fun t i wr => ∃ j : Nat, t = .bool true ∧ i = .int .i64 j ∧ j ≤ n ∧ Below w0.heap.size w0 wr) (fun _ i _ => n - (intOf i).toNat)
  case atStart => exact ⟨0, rfl, rfl, by omega, Below.refl _ _⟩
  case round =>
    obtain ⟨j, rfl, rfl, hj, hbr⟩ := hrel
    by_cases hjn : j < n
    · obtain ⟨g, off, rfl, hg, hc, hz⟩ := HC.out j (by have := HN.out; omega)
      have hc' := (hbr.cell (p := ⟨g, off + j, none⟩) hg).trans hc
      clear hc
      generalize T[j]'(by have := HN.out; omega) = s at hc' hz
      go_wp2_with fail
      refine (parses_any s _ hz (HTB.out.below hbr)).mono ?_
      rintro e w1 ⟨rfl, hb1⟩
      go_wp2_with fail
      go_roundw
      case rel => exact ⟨j + 1, rfl, by go_num, by omega, hbr.trans (hb1.mono hbr.size)⟩
      case measure => simp [intOf]; omega
    · go_wp2_with fail
      go_ret
      exact ⟨rfl, hbr⟩
end Go.Proofs.YtenhofbhkchjoabDoor
