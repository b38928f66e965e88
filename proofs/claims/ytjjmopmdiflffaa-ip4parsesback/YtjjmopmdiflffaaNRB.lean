import Derived.Test.YtjjmopmdiflffaaNRA
namespace Go.Proofs.Ytjjmopmdiflffaa.N
open Go.ChangeShapes Go.WideShapes Go.ChangeAt Go.RowKit
set_option maxHeartbeats 1000000
set_option maxRecDepth 100000

theorem again_any (v : Value) (L : List Nat) (w : World) (hv : SeesB w v L) (hl : L.length ≤ 140737488355328) :
    Calls Try.prog 19 #[v, .bool true] w fun e w' => e = .returned (.bool true) ∧ Below w.heap.size w w' := by
  by_cases he : (exam L true).2.2 = 0
  · exact again_good v L true w hv hl he
  · exact again_bad v L w hv hl he

theorem parsesBack_walk (v : Value) (L : List Nat) (w : World) (hv : SeesB w v L) (hl : L.length ≤ 140737488355328) :
    Calls Try.prog 6 #[v] w fun e w' => e = .returned (.bool true) ∧ Below w.heap.size w w' := by
  have HSM := hid (small_any w)
  have HBLD : Hid (∀ (u : World) (va xa : Value), SeesB u va smH.opts → SeesB u xa [1, 2, 3] → Calls Try.prog 16 #[.agg (pkCells smH va xa)] u fun e w' => ∃ ao n cap, e = .returned (.tuple #[.slice ao n cap, .int .i64 0]) ∧ SeesB w' (.slice ao n cap) (builtL smH [1, 2, 3]) ∧ Below u.heap.size u w') := fun u va xa h1 h2 => by
    have := build_code smH va xa [1, 2, 3] u smH_ok h1 h2 (by decide) (by decide)
    rw [sm_ref] at this
    exact this
  have HAG : Hid (∀ (u : World) (a : Value), SeesB u a (builtL smH [1, 2, 3]) → Calls Try.prog 19 #[a, .bool false] u fun e w' => e = .returned (.bool true) ∧ Below u.heap.size u w') := fun u a ha => by
    obtain ⟨x1, x2, _, _⟩ := parse_built smH [1, 2, 3] [] smH_ok sm_ref true
    rw [List.append_nil] at x1
    exact again_good a _ false u ha (by rw [x2]; decide) (by rw [x1])
  have HAL : Hid (∀ u, Below w.heap.size w u → Calls Try.prog 19 #[v, .bool true] u fun e w' => e = .returned (.bool true) ∧ Below u.heap.size u w') := fun u hu => again_any v L u (hv.below hu) hl
  obtain ⟨ao, n, cap, rfl, _, _, _⟩ := hv.shape
  generalize builtL smH [1, 2, 3] = bl at *
  clear hv hl
  go_enter Try.func6, Try.ntmps6
  go_wp2_with fail
  refine HSM.out.mono ?_
  rintro _ w2 ⟨va, xa, rfl, ha, ka, hb2⟩
  have HB := hid (HBLD.out w2 va xa ha ka)
  generalize pkCells smH va xa = p2 at *
  have HB2 := hid hb2
  clear ha ka hb2
  go_wp2_with fail
  refine HB.out.mono ?_
  rintro _ w3 ⟨a3, n3, c3, rfl, hs3, hb3⟩
  have HA := hid (HAG.out w3 _ hs3)
  have HB3 := hid (HB2.out.trans (hb3.mono HB2.out.size))
  clear hb3 hs3
  go_wp2_with fail
  refine HA.out.mono ?_
  rintro _ w4 ⟨rfl, hb4⟩
  have hb04 := HB3.out.trans (hb4.mono HB3.out.size)
  have HA4 := hid (HAL.out w4 hb04)
  have HB4 := hid hb04
  clear hb4 hb04
  go_wp2_with fail
  refine HA4.out.mono ?_
  rintro _ w5 ⟨rfl, hb5⟩
  go_wp2_with fail
  go_ret
  exact ⟨rfl, HB4.out.trans (hb5.mono HB4.out.size)⟩
end Go.Proofs.Ytjjmopmdiflffaa.N
