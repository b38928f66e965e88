/-
  slices.Insert at runs, where it is not at the end.
-/
import Derived.Test.YtahoileampdnkaaOC
namespace Go.Proofs.Ytahoileampdnkaa
open Go.ChangeShapes Go.WideShapes Go.ChangeAt Go.RowKit Ru N
set_option maxHeartbeats 1000000
set_option maxRecDepth 100000

theorem shape_row {w : World} {g : Nat} {cur : Array Value} {t : TypeId} (h : w.heap[g]? = some (.cells cur t (0, 0))) : w.shape? g = some (t, cur.size) := by
  simp [World.shape?, h]

theorem overlaps_no (w : World) (va vb la ca lb cb oa ob : Nat) (A C : Array Value) (hne : va ≠ vb) (ha : w.heap[va]? = some (.cells A 64 (0, 0))) (hb : w.heap[vb]? = some (.cells C 64 (0, 0))) (hc : C.size ≠ 0) :
    (callFunc 59 #[.slice (some ⟨va, oa, none⟩) la ca, .slice (some ⟨vb, ob, none⟩) lb cb]).run Try.prog w = .ok (.value (.bool false)) w := by
  rw [run_callFunc_extern Try.func59 (by kernel_rfl) (by kernel_rfl) (by kernel_rfl) (e := Extern.SlicesOverlaps.overlaps #[65, 65] #[4]) (by kernel_rfl),
    Lib.run_overlaps_apart w 65 4 64 u65 2 size64 ⟨va, oa, none⟩ ⟨vb, ob, none⟩ la ca lb cb hne _ _ _ _ (shape_row ha) (shape_row hb) hc (frozen_of_row _ _ _ _ _ ha) (frozen_of_row _ _ _ _ _ ha)]
  rfl

/-- What the row is behind both copies. -/
theorem row_back {w : World} {B g n m i cap : Nat} {cur : Array Value} {xs vs : List Value} (hb : B ≤ g) (hg : w.heap[g]? = some (.cells (cur.toList.take (i * 2) ++ vs ++ xs.drop (i * 2) ++ cur.toList.drop (i * 2 + vs.length + (xs.drop (i * 2)).length)).toArray 64 (0, 0)))
    (hx : cur.toList.take (n * 2) = xs) (hs : cur.size = cap * 2) (hv : vs.length = m * 2) (hi : i ≤ n) (hroom : n + m ≤ cap) (hc : cap ≤ maxLen) :
    Row w B (.slice (some ⟨g, 0, none⟩) (n + m) cap) (n + m) (xs.take (i * 2) ++ vs ++ xs.drop (i * 2)) := by
  have hxl : xs.length = n * 2 := by rw [← hx, List.length_take, Array.length_toList, hs]; omega
  have e1 : cur.toList.take (i * 2) = xs.take (i * 2) := by rw [← hx, List.take_take, Nat.min_eq_left (by omega)]
  have el : (xs.take (i * 2) ++ vs ++ xs.drop (i * 2)).length = (n + m) * 2 := by
    simp only [List.length_append, List.length_take, List.length_drop, hxl, hv]; omega
  refine ⟨el, .inr ⟨g, cap, _, rfl, hb, hg, hroom, hc, ?_, ?_⟩⟩
  · simp only [List.size_toArray, List.length_append, List.length_take, List.length_drop, Array.length_toList, hxl, hv, hs]; omega
  · rw [e1, ← el]
    exact List.take_left

theorem insert_room (B n m i g cap vb vc : Nat) (xs vs : List Value) (w : World) (hs : Row w B (.slice (some ⟨g, 0, none⟩) n cap) n xs) (hv : Row w 0 (.slice (some ⟨vb, 0, none⟩) m vc) m vs) (hx1 : ∀ u ∈ xs, u.oneCell' = true) (hv1 : ∀ u ∈ vs, u.oneCell' = true) (hne : vb ≠ g) (hm : 0 < m) (hi : i < n) (hroom : n + m ≤ cap) :
    Calls Try.prog 58 #[.slice (some ⟨g, 0, none⟩) n cap, .int .i64 (i : Int), .slice (some ⟨vb, 0, none⟩) m vc] w fun e w' => e = .returned (.slice (some ⟨g, 0, none⟩) (n + m) cap) ∧ Row w' B (.slice (some ⟨g, 0, none⟩) (n + m) cap) (n + m) (xs.take (i * 2) ++ vs ++ xs.drop (i * 2)) ∧ w.grownBy w' (some g) := by
  obtain ⟨g', cap', cur, h0, hb, hg, hn, hc, hcs, hx⟩ := Row.at hs (by omega)
  simp only [Value.slice.injEq, Option.some.injEq, Addr.mk.injEq, and_true] at h0
  obtain ⟨rfl, -, rfl⟩ := h0
  obtain ⟨vb', vc', vcur, h0, -, hvg, hvn, hvc, hvs, hvx⟩ := Row.at hv hm
  simp only [Value.slice.injEq, Option.some.injEq, Addr.mk.injEq, and_true] at h0
  obtain ⟨rfl, -, rfl⟩ := h0
  have hxl : xs.length = n * 2 := hs.1
  have hvl : vs.length = m * 2 := hv.1
  have hdl : (xs.drop (i * 2)).length = (n - i) * 2 := by rw [List.length_drop, hxl]; omega
  unfold maxLen at hc
  have hm0 : ¬ ((m : Int) = 0) := by omega
  have hin : ¬ ((i : Int) = (n : Int)) := by omega
  have hle : i ≤ n := by omega
  have hw1 : IntKind.i64.wrap ((i : Int) + (m : Int)) = (i : Int) + (m : Int) := by rw [IntKind.wrap_i64]; omega
  obtain ⟨A, hcut0⟩ := cut_lo' g n cap i i rfl (by omega)
  have hcut1 := cut_hi g n cap (n + m) ((n : Int) + (m : Int)) (by omega) hroom
  have hcut2 := cut_lo g (n + m) cap (i + m) ((i : Int) + (m : Int)) (by omega) (by omega) (by omega)
  have hcut3 := cut_lo g (n + m) cap i i rfl (by omega) (by omega)
  have hov := overlaps_no w vb g m vc (n + m - (i + m)) (cap - (i + m)) 0 ((i + m) * 2) vcur cur hne hvg hg (by omega)
  -- the first copy
  obtain ⟨W1, HW1⟩ : ∃ W1, Hid (W1 = w.drew.setRow g (cur.toList.take ((i + m) * 2) ++ xs.drop (i * 2) ++ cur.toList.drop ((i + m) * 2 + (xs.drop (i * 2)).length)).toArray) := ⟨_, rfl⟩
  have hgd : w.drew.heap[g]? = some (.cells cur 64 (0, 0)) := hg
  have HCP1 : Hid (∀ ty, (Builtin.copy_ #[66, 66] ty #[.slice (some ⟨g, (i + m) * 2, none⟩) (n + m - (i + m)) (cap - (i + m)), .slice (some ⟨g, i * 2, none⟩) (n + m - i) (cap - i)]).run Try.prog w.drew = .ok (goInt (Nat.min (n + m - i) (n + m - (i + m)))) W1) := fun ty => by
    rw [HW1.out]
    refine run_copyK w.drew _ _ ty 64 2 g _ _ _ ⟨g, i * 2, none⟩ _ _ cur 64 (xs.drop (i * 2)) u66 size64 hgd ?_ ?_ ?_ ?_
    · rw [hdl, show Nat.min (n + m - i) (n + m - (i + m)) = n - i by rw [show Nat.min (n + m - i) (n + m - (i + m)) = min (n + m - i) (n + m - (i + m)) from rfl]; omega]
    · intro j v hj
      rw [List.getElem?_drop] at hj
      have := Row.src (n := n) hgd hx (i * 2 + j) v hj
      rw [Addr.add_lit] at this ⊢
      rwa [Nat.zero_add] at this
    · rw [hdl, hcs]; omega
    · exact fun v hv => hx1 v (List.mem_of_mem_drop hv)
  -- the second
  have hg1 : W1.heap[g]? = some (.cells (cur.toList.take ((i + m) * 2) ++ xs.drop (i * 2) ++ cur.toList.drop ((i + m) * 2 + (xs.drop (i * 2)).length)).toArray 64 (0, 0)) := by
    rw [HW1.out]; exact setRow_heap w.drew g cur _ _ _ hgd
  have hvg1 : W1.heap[vb]? = some (.cells vcur 64 (0, 0)) := by
    rw [HW1.out, setRow_other _ _ _ _ hne]; exact hvg
  obtain ⟨W2, HW2⟩ : ∃ W2, Hid (W2 = W1.setRow g (cur.toList.take (i * 2) ++ vs ++ xs.drop (i * 2) ++ cur.toList.drop (i * 2 + vs.length + (xs.drop (i * 2)).length)).toArray) := ⟨_, rfl⟩
  have HCP2 : Hid (∀ ty, (Builtin.copy_ #[66, 65] ty #[.slice (some ⟨g, i * 2, none⟩) (n + m - i) (cap - i), .slice (some ⟨vb, 0, none⟩) m vc]).run Try.prog W1 = .ok (goInt (Nat.min m (n + m - i))) W2) := fun ty => by
    have h := run_copyK (P := Try.prog) W1 66 65 ty 64 2 g (i * 2) (n + m - i) (cap - i) ⟨vb, 0, none⟩ m vc _ 64 vs u66 size64 hg1 (by rw [hvl, show Nat.min m (n + m - i) = m from Nat.min_eq_left (by omega)]) (Row.src hvg1 hvx) (by
      simp only [List.size_toArray, List.length_append, List.length_take, List.length_drop, Array.length_toList, hxl, hvl, hcs]; omega) hv1
    rw [h, HW2.out]
    have e := put_back cur.toList vs (xs.drop (i * 2)) (i * 2) (by rw [hvl, hdl, Array.length_toList, hcs]; omega)
    rw [hvl, show i * 2 + m * 2 = (i + m) * 2 by omega] at e
    rw [hvl, show i * 2 + m * 2 = (i + m) * 2 by omega, e]
  have HF : Hid (Row W2 B (.slice (some ⟨g, 0, none⟩) (n + m) cap) (n + m) (xs.take (i * 2) ++ vs ++ xs.drop (i * 2)) ∧ w.grownBy W2 (some g)) := by
    refine ⟨row_back hb ?_ hx hcs hvl (by omega) hroom (by unfold maxLen; omega), ?_⟩
    · rw [HW2.out]; exact setRow_heap W1 g _ _ _ _ hg1
    · rw [HW2.out, HW1.out]; exact grown_row (grown_row (grown_drew (grown_refl _ _)) _) _
  clear hs hv hx1 hv1 hg hgd hg1 hvg hvg1 hx hvx hcs hvs HW1 HW2 hdl hxl hvl hb hne
  go_enter Try.func58, Try.ntmps58
  go_upto_region 15 with (simp only [hov])
  refine wp_region_still_tail 8 (by kernel_rfl) (by kernel_rfl) ?_
  simp only [List.take_succ_cons, List.take_zero, List.drop_succ_cons, List.drop_zero]
  iterate 8 still_step
  refine wpStill_nil ?_
  refine wpList_copy_run _ rfl _ _ 66 66 rfl _ _ (by simp [Act.eval]) (by simp [Act.eval]) (HCP1.out _) ?_
  have hcp2 := HCP2.out
  go_wp2_with fail
  go_ret
  exact ⟨rfl, HF.out⟩
end Go.Proofs.Ytahoileampdnkaa
