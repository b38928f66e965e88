import Derived.Test.YtpdnnikkaojnkaaGreatYLS1
namespace Go.Proofs.YtpdnnikkaojnkaaGreat.Rt
open Go.Proofs.YtpdnnikkaojnkaaGreat Go.ChangeShapes Go.WideShapes Go.ChangeAt Go.RowKit Go.Maps Tri N
set_option maxHeartbeats 2000000
set_option maxRecDepth 100000
theorem neighT_any (w : World) (x y z : Value) {B : List Nb} (a : Nat) (h : Own kN w 0 y B) (hl : B.length <= 256) :
  Calls Tryz.prog 58 #[.agg #[x, y, z], .int .u32 (a : Int)] w fun e w' => e = .returned (.int .i64 (pz (ix Nb.ip B a))) /\ Below w.heap.size w w' := by
 obtain ⟨av, nv, cv, rfl, HN, hnc, -⟩ := h.shape
 obtain ⟨w1, HW1⟩ : ∃ w1, Hid (w1 = w.alloc (.cells #[x, .slice av nv cv, z] 51)) := ⟨_, rfl⟩
 have hb1 : Below w.heap.size w w1 := by rw [HW1.out]; exact bR.alloc nL _
 have r1 : w1.heap[w.heap.size]? = some (.cells #[x, .slice av nv cv, z] 51) := by rw [HW1.out]; exact heap_alloc_new w _
 have c1 : w1.cell? ⟨w.heap.size, 1, none⟩ = some (.slice av nv cv) := crw r1 rfl
 have HO := hid (h.below hb1)
 have HB1 := hid hb1
 have hle : nv <= 256 := by have := HN.out; omega
 obtain ⟨P, HP⟩ : ∃ P, Hid (P = pz (ix Nb.ip B a)) := ⟨_, rfl⟩
 rw [<- HP.out]
 clear h hb1 r1
 go_enter Tryz.func58, Tryz.ntmps58
 go_upto_region 1 with fail
 rw [<- HW1.out]
 clear HW1
 go_upto_region 2 with fail
 go_loopw [5] (fun i wr => ∃ j : Nat, i = .int .i64 (j : Int) /\ j <= nv /\ Hid (∀ i x, i < j -> B[i]? = some x -> x.ip ≠ a) /\ wr = w1) (fun i _ => nv - (intOf i).toNat)
 case atStart => exact ⟨0, rfl, Nat.zero_le _, fun i x hi => absurd hi (by omega), rfl⟩
 case round =>
  obtain ⟨j, rfl, hj, HI, rfl⟩ := hrel
  by_cases hlt : j < nv
  ·have hlt' : (j : Int) < (nv : Int) := int_lt hlt
   have hj0 : decide ((j : Int) < 0) = false := by simp
   obtain ⟨e, HX⟩ : ∃ e, Hid (B[j]? = some e) := ⟨_, hid (List.getElem?_eq_getElem (by have := HN.out; omega))⟩
   obtain ⟨g, rfl, hg, hcl⟩ := atN HO.out HX.out
   have d0 := (hcl wr rfl).1
   clear hcl hg
   by_cases hk : e.ip = a
   ·have HE : Hid (P = (j : Int)) := by unfold Hid; rw [HP.out]; exact ix_stop HI.out HX.out hk
    have hk' : (e.ip : Int) = (a : Int) := by omega
    clear hk
    go_wp2_with fail
    go_ret
    exact ⟨ret_int HE.out.symm, HB1.out⟩
   ·have HI2 : Hid (∀ i x, i < j + 1 -> B[i]? = some x -> x.ip ≠ a) := ahead_more HI.out HX.out hk
    have hk' : ¬ (e.ip : Int) = (a : Int) := by omega
    clear hk
    go_wp2_with fail
    go_roundw
    case rel => exact ⟨j + 1, by go_num, hlt, HI2, trivial⟩
    case measure => simp [intOf]; omega
  ·have hlt' : ¬ (j : Int) < (nv : Int) := int_nlt hlt
   have HE : Hid (P = -1) := by unfold Hid; rw [HP.out]; exact ix_end HI.out (by have := HN.out; omega)
   go_wp2_with fail
   go_ret
   exact ⟨ret_int HE.out.symm, HB1.out⟩
end Go.Proofs.YtpdnnikkaojnkaaGreat.Rt
