import Derived.Test.YtkoinngpmkmocaaDoorCI
namespace Go.Proofs.YtkoinngpmkmocaaDoor
open Go.ChangeShapes Go.WideShapes Go.ChangeAt Go.RowKit Go.Maps
set_option maxHeartbeats 400000
set_option maxRecDepth 100000

set_option maxHeartbeats 2000000 in
theorem eqReserved_same (v v' : Value) (R : List Rsv) (w : World) (h : SeesV w v R) (h' : SeesV w v' R) :
    Calls Tryd.prog 31 #[v, v'] w fun e w' => e = .returned (.bool true) ∧ ∃ q, w' = w.drewN q := by
  obtain ⟨ao, n, cap, rfl, HN, hn1, hn2⟩ := h.shape
  obtain ⟨ao', n', cap', rfl, HN', hn1', hn2'⟩ := h'.shape
  obtain rfl : n' = n := by rw [HN.out, HN'.out]
  unfold maxLen at hn2 hn2'
  have HS := hid h
  have HS' := hid h'
  clear h h'
  go_enter Tryd.func31, Tryd.ntmps31
  go_wp2_with fail
  go_loopw [5] (fun i wr => ∃ (j q : Nat), i = .int .i64 j ∧ j ≤ n' ∧ wr = w.drewN q) (fun i _ => n' - (intOf i).toNat)
  case atStart => exact ⟨0, 0, rfl, by omega, rfl⟩
  case round =>
    obtain ⟨j, q, rfl, hj, rfl⟩ := hrel
    by_cases hjn : j < n'
    · obtain ⟨g, off, ⟨rh, ra, rl⟩, rfl, hg, c0, c1, c2, _, HR⟩ := HS.out.at j hjn
      obtain ⟨g', off', r', rfl, hg', c0', c1', c2', _, HR'⟩ := HS'.out.at j hjn
      obtain rfl : r' = (rh, ra, rl) := by have := HR.out; rw [HR'.out] at this; exact Option.some.inj this
      simp only at c0 c1 c2 c0' c1' c2'
      have e1 : (0 : Int) ≤ (j : Int) := by omega
      have e2 : (j : Int) < (n' : Int) := by omega
      go_wp2_with fail
      go_quiet (fail)
      go_wp2_with fail
      go_roundw
      case rel => exact ⟨j + 1, q + nq, by go_num, by omega, by simp⟩
      case measure => simp [intOf]; omega
    · go_wp2_with fail
      go_ret
      exact ⟨rfl, q, rfl⟩
end Go.Proofs.YtkoinngpmkmocaaDoor
