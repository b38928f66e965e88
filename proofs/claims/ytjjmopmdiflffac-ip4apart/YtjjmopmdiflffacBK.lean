import Derived.Test.YtjjmopmdiflffacMathD
import Derived.Test.YtjjmopmdiflffacWI
import Derived.Test.YtjjmopmdiflffacWF
namespace Go.Proofs.Ytjjmopmdiflffac
open Go.ChangeShapes Go.WideShapes Go.ChangeAt Go.RowKit
set_option maxHeartbeats 1000000
set_option maxRecDepth 100000

theorem lclone_any (v : Value) (L : List Nat) (w : World) (hv : SeesB w v L) (hl : L.length ≤ 1099511627776) :
    Calls Try.prog 12 #[v] w fun e w' => ∃ v', e = .returned v' ∧ OwnB w' w.heap.size v' L ∧ Below w.heap.size w w' := by
  obtain ⟨ao, n, cap, rfl, HN, hn1, hn2⟩ := hv.shape
  have HV := hid hv
  have hnl : n ≤ 1099511627776 := by have := HN.out; omega
  clear hv hl
  unfold maxLen at hn2
  go_enter Try.func12, Try.ntmps12
  go_wp2_with fail
  go_loopw [3, 4] (fun t i wr => ∃ q : Nat, i = .int .i64 q ∧ q ≤ n ∧ Hid (OwnB wr w.heap.size t (L.take q)) ∧ Below w.heap.size w wr) (fun _ i _ => n - (intOf i).toNat)
  case atStart => exact ⟨0, rfl, by omega, ownB_nil _ _, Below.refl _ _⟩
  case round =>
    obtain ⟨q, rfl, hq, HO, hb⟩ := hrel
    by_cases hlt : q < n
    · obtain ⟨ga, oa, x, rfl, hga, hca, hx, HX⟩ := (HV.out.below hb).at q hlt
      have HF : Hid (L.take q ++ [x] = L.take (q + 1)) := by unfold Hid; rw [take_snoc HX.out]
      go_wp2_with (at_builtin; refine wpList_append_bytes rfl _ _ rfl w.heap.size _ _ rfl (HO.out.alloc _) _ [x] rfl (sees_one rfl x hx _) ?c1 ?c2 ?_)
      case c1 => rw [List.length_take]; simp only [List.length_cons, List.length_nil]; omega
      case c2 => have := hb.size; simp; omega
      intro v' w6 ho hb6
      rw [HF.out] at ho
      have HO6 := hid ho
      have hb7 := (hb.alloc hb.size _).trans hb6
      clear ho hb6 hca
      go_wp2_with fail
      go_roundw
      case rel => exact ⟨q + 1, by go_num, by omega, HO6, hb7⟩
      case measure => simp [intOf]; omega
    · have HE : Hid (L.take q = L) := by
        unfold Hid; rw [List.take_of_length_le (by have := HN.out; omega)]
      rw [HE.out] at HO
      go_wp2_with fail
      go_ret
      exact ⟨_, rfl, HO.out, hb⟩

end Go.Proofs.Ytjjmopmdiflffac
