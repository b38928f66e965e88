import Derived.Test.YtjjmopmdiflffaaD
import Derived.Test.YtjjmopmdiflffaaMathA
import Derived.Deep.CutRange
namespace Go.Proofs.Ytjjmopmdiflffaa
open Go.ChangeShapes Go.WideShapes Go.ChangeAt Go.RowKit
set_option maxHeartbeats 400000
set_option maxRecDepth 100000

theorem clone_any (v : Value) (L : List Nat) (w : World) (hv : SeesB w v L) (hl : L.length ≤ 140737488355327) :
    Calls Try.prog 12 #[v] w fun e w' => ∃ v', e = .returned v' ∧ OwnB w' w.heap.size v' L ∧ Below w.heap.size w w' := by
  obtain ⟨ao, n, cap, rfl, HN, hn1, hn2⟩ := hv.shape
  have HV := hid hv
  have hnl : n ≤ 140737488355327 := by have := HN.out; omega
  clear hv hl
  unfold maxLen at hn2
  go_enter Try.func12, Try.ntmps12
  go_wp2_with fail
  go_loopw [3, 4] (fun t i wr => ∃ q : Nat, i = .int .i64 q ∧ q ≤ n ∧ Hid (OwnB wr w.heap.size t (L.take q)) ∧ Below w.heap.size w wr) (fun _ i _ => n - (intOf i).toNat)
  case atStart => exact ⟨0, rfl, by omega, ownB_nil _ _, Below.refl _ _⟩
  case round =>
    obtain ⟨q, rfl, hq, HO, hb⟩ := hrel
    by_cases hlt : q < n
    · obtain ⟨ga, oa, x, rfl, hga, hca, hx, HX⟩ := (HV.out.below hb).at q hlt
      have HF : Hid (L.take q ++ [x] = L.take (q + 1)) := by unfold Hid; rw [take_snoc HX.out]
      go_wp2_with (at_builtin; refine wpList_append_bytes rfl _ _ rfl w.heap.size _ _ rfl (HO.out.alloc _) _ [x] rfl (sees_one rfl x hx _) ?c1 ?c2 ?_)
      case c1 => rw [List.length_take]; simp only [List.length_cons, List.length_nil]; omega
      case c2 => have := hb.size; simp; omega
      intro v' w6 ho hb6
      rw [HF.out] at ho
      have HO6 := hid ho
      have hb7 := (hb.alloc hb.size _).trans hb6
      clear ho hb6 hca
      go_wp2_with fail
      go_roundw
      case rel => exact ⟨q + 1, by go_num, by omega, HO6, hb7⟩
      case measure => simp [intOf]; omega
    · have HE : Hid (L.take q = L) := by
        unfold Hid; rw [List.take_of_length_le (by have := HN.out; omega)]
      rw [HE.out] at HO
      go_wp2_with fail
      go_ret
      exact ⟨_, rfl, HO.out, hb⟩

theorem word_x (v : Value) (i : Int) (j x y : Nat) (L : List Nat) (w : World) (hv : SeesB w v L) (hi : i = (j : Int)) (h0 : L[j]? = some x) (h1 : L[j + 1]? = some y) (hj : j ≤ 140737488355328) :
    Calls Try.prog 13 #[v, .int .i64 i] w fun e w' => e = .returned (.int .i64 ((256 * x + y : Nat) : Int)) ∧ w' = w.drew := by
  subst hi
  obtain ⟨ao, n, cap, rfl, HN, hn1, hn2⟩ := hv.shape
  have h2 : j + 1 < n := by have := (List.getElem?_eq_some_iff.1 h1).1; have := HN.out; omega
  obtain ⟨g, off, p, rfl, hg, hc0, hp, HP⟩ := hv.at j (by omega)
  obtain ⟨g', off', q, he, hg', hc1, hq, HQ⟩ := hv.at (j + 1) (by omega)
  simp at he
  obtain ⟨rfl, rfl⟩ := he
  have e1 : p = x := by have := HP.out; rw [h0] at this; simpa using this.symm
  have e2 : q = y := by have := HQ.out; rw [h1] at this; simpa using this.symm
  subst e1 e2
  clear hv HP HQ h0 h1
  have b0 : j < n := by omega
  have b1 : j + 1 < n := by omega
  have b2 : (j : Int) + 1 < (n : Int) := by omega
  have b3 : (0 : Int) ≤ (j : Int) + 1 := by omega
  have hc1' := hc1
  rw [← Nat.add_assoc] at hc1'
  go_enter Try.func13, Try.ntmps13
  go_wp2
  go_region
  go_wp2
  go_ret
  exact ⟨ret_int (by omega), rfl⟩

theorem seesBB_one {w : World} {n : Nat} (hn : w.heap.size = n) (v : Value) (L : List Nat) (hv : SeesB w v L) (t : TypeId) : SeesBB (w.alloc (.cells #[v] t)) (.slice (some ⟨n, 0, none⟩) 1 1) [L] := by
  subst hn
  refine ⟨some ⟨w.heap.size, 0, none⟩, 1, rfl, by simp, by unfold maxLen; omega, fun j hj => ⟨w.heap.size, 0, v, rfl, by simp, ?_, ?_⟩⟩
  · match j, hj with
    | 0, _ => simp
  · match j, hj with
    | 0, _ => exact hv.below ((Below.refl _ _).alloc (Nat.le_refl _) _)

/-- A byte of a list of the call's own is written. -/
theorem OwnB.set {w : World} {base g n cap : Nat} {C : List Nat} (h : OwnB w base (.slice (some ⟨g, 0, none⟩) n cap) C) (i x : Nat) (_hi : i < n) :
    OwnB (w.setCell ⟨g, i, none⟩ (.int .u8 (x : Int))) base (.slice (some ⟨g, 0, none⟩) n cap) (C.set i x) ∧ Below base w (w.setCell ⟨g, i, none⟩ (.int .u8 (x : Int))) := by
  rcases h.2 with ⟨h1, _⟩ | ⟨g', cap', cur, h1, hb, hg, hnc, hcm, hcs, ht⟩
  · cases h1
  · simp at h1
    obtain ⟨rfl, hn, rfl⟩ := h1
    have h2 := heap_setCell_same w g i cur 5 (.int .u8 (x : Int)) hg
    refine ⟨⟨by simp [bs], .inr ⟨g, cap, _, by rw [List.length_set, hn], hb, h2, by rw [List.length_set]; exact hnc, hcm, by simpa using hcs, ?_⟩⟩, (Below.refl _ _).setCell (p := ⟨g, i, none⟩) hb _⟩
    rw [List.length_set]
    simp only [Array.toList_setIfInBounds, List.take_set]
    rw [ht]
    simp [bs, List.map_set]

theorem OwnB.grip {w : World} {base : Nat} {v : Value} {C : List Nat} (h : OwnB w base v C) (hne : C ≠ []) : ∃ g n cap, v = .slice (some ⟨g, 0, none⟩) n cap ∧ Hid (n = C.length) ∧ base ≤ g ∧ n ≤ cap ∧ cap ≤ maxLen ∧ (∀ j, w.frozen? ⟨g, j, none⟩ = false) := by
  rcases h.2 with ⟨rfl, hn⟩ | ⟨g, cap, cur, rfl, hb, hg, hnc, hcm, hcs, ht⟩
  · exact absurd (List.eq_nil_of_length_eq_zero hn) hne
  · exact ⟨g, _, cap, rfl, rfl, hb, hnc, hcm, fun j => frozen_of_row _ _ _ _ _ hg⟩
end Go.Proofs.Ytjjmopmdiflffaa
