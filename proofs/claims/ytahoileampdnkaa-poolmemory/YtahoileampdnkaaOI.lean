/-
  slices.Replace at runs: what is laid in is longer; Replace in whole.
-/
import Derived.Test.YtahoileampdnkaaOH
namespace Go.Proofs.Ytahoileampdnkaa
open Go.ChangeShapes Go.WideShapes Go.ChangeAt Go.RowKit Ru N
set_option maxHeartbeats 4000000
set_option maxRecDepth 100000

theorem replace_room (B n m i j g cap vb vc : Nat) (xs vs : List Value) (w : World) (hs : Row w B (.slice (some ⟨g, 0, none⟩) n cap) n xs) (hv : Row w 0 (.slice (some ⟨vb, 0, none⟩) m vc) m vs) (hx1 : ∀ u ∈ xs, u.oneCell' = true) (hv1 : ∀ u ∈ vs, u.oneCell' = true) (hne : vb ≠ g) (hij : i < j) (hj : j < n) (hm : j < i + m) (hroom : i + m + (n - j) ≤ cap) (hbig : n + m ≤ 8589934592) :
    Calls Try.prog 49 #[.slice (some ⟨g, 0, none⟩) n cap, .int .i64 (i : Int), .int .i64 (j : Int), .slice (some ⟨vb, 0, none⟩) m vc] w fun e w' => e = .returned (.slice (some ⟨g, 0, none⟩) (i + m + (n - j)) cap) ∧ Row w' B (.slice (some ⟨g, 0, none⟩) (i + m + (n - j)) cap) (i + m + (n - j)) (xs.take (i * 2) ++ vs ++ xs.drop (j * 2)) ∧ w.grownBy w' (some g) := by
  obtain ⟨g', cap', cur, h0, hb, hg, hn, hc, hcs, hx⟩ := Row.at hs (by omega)
  simp only [Value.slice.injEq, Option.some.injEq, Addr.mk.injEq, and_true] at h0
  obtain ⟨rfl, -, rfl⟩ := h0
  obtain ⟨vb', vc', vcur, h0, -, hvg, hvn, hvc, hvs, hvx⟩ := Row.at hv (by omega)
  simp only [Value.slice.injEq, Option.some.injEq, Addr.mk.injEq, and_true] at h0
  obtain ⟨rfl, -, rfl⟩ := h0
  have hxl : xs.length = n * 2 := hs.1
  have hvl : vs.length = m * 2 := hv.1
  obtain ⟨q, HQ⟩ : ∃ q, Hid (q = n - j) := ⟨_, rfl⟩
  have hq : q = n - j := HQ.out
  obtain ⟨t, HT⟩ : ∃ t, Hid (t = i + m + q) := ⟨_, rfl⟩
  have ht : t = i + m + q := HT.out
  have hdl : (xs.drop (j * 2)).length = q * 2 := by rw [List.length_drop, hxl]; omega
  have hgd : w.drew.drew.heap[g]? = some (.cells cur 64 (0, 0)) := hg
  -- the first copy
  obtain ⟨W1, HW1⟩ : ∃ W1, Hid (W1 = w.drew.drew.setRow g (cur.toList.take ((i + m) * 2) ++ xs.drop (j * 2) ++ cur.toList.drop ((i + m) * 2 + (xs.drop (j * 2)).length)).toArray) := ⟨_, rfl⟩
  have HCP1 : Hid (∀ ty, (Builtin.copy_ #[66, 66] ty #[.slice (some ⟨g, (i + m) * 2, none⟩) (t - (i + m)) (cap - (i + m)), .slice (some ⟨g, j * 2, none⟩) q (cap - j)]).run Try.prog w.drew.drew = .ok (goInt (Nat.min q (t - (i + m)))) W1) := fun ty => by
    rw [HW1.out]
    refine run_copyK w.drew.drew _ _ ty 64 2 g _ _ _ ⟨g, j * 2, none⟩ _ _ cur 64 (xs.drop (j * 2)) u66 size64 hgd ?_ ?_ ?_ ?_
    · rw [hdl, show Nat.min q (t - (i + m)) = q from Nat.min_eq_left (by omega)]
    · intro k v hk
      rw [List.getElem?_drop] at hk
      have := Row.src (n := n) hgd hx (j * 2 + k) v hk
      rw [Addr.add_lit] at this ⊢
      rwa [Nat.zero_add] at this
    · rw [hdl, hcs]; omega
    · exact fun v hv => hx1 v (List.mem_of_mem_drop hv)
  have hg1 : W1.heap[g]? = some (.cells (cur.toList.take ((i + m) * 2) ++ xs.drop (j * 2) ++ cur.toList.drop ((i + m) * 2 + (xs.drop (j * 2)).length)).toArray 64 (0, 0)) := by
    rw [HW1.out]; exact setRow_heap w.drew.drew g cur _ _ _ hgd
  have hvg1 : W1.heap[vb]? = some (.cells vcur 64 (0, 0)) := by
    rw [HW1.out, setRow_other _ _ _ _ hne]; exact hvg
  -- the second
  obtain ⟨W2, HW2⟩ : ∃ W2, Hid (W2 = W1.setRow g (cur.toList.take (i * 2) ++ vs ++ xs.drop (j * 2) ++ cur.toList.drop (i * 2 + vs.length + (xs.drop (j * 2)).length)).toArray) := ⟨_, rfl⟩
  have HCP2 : Hid (∀ ty, (Builtin.copy_ #[66, 65] ty #[.slice (some ⟨g, i * 2, none⟩) (t - i) (cap - i), .slice (some ⟨vb, 0, none⟩) m vc]).run Try.prog W1 = .ok (goInt (Nat.min m (t - i))) W2) := fun ty => by
    have h := run_copyK (P := Try.prog) W1 66 65 ty 64 2 g (i * 2) (t - i) (cap - i) ⟨vb, 0, none⟩ m vc _ 64 vs u66 size64 hg1 (by rw [hvl, show Nat.min m (t - i) = m from Nat.min_eq_left (by omega)]) (Row.src hvg1 hvx) (by
      simp only [List.size_toArray, List.length_append, List.length_take, List.length_drop, Array.length_toList, hxl, hvl, hcs]; omega) hv1
    rw [h, HW2.out]
    have e := put_back cur.toList vs (xs.drop (j * 2)) (i * 2) (by rw [hvl, hdl, Array.length_toList, hcs]; omega)
    rw [hvl, show i * 2 + m * 2 = (i + m) * 2 by omega] at e
    rw [hvl, show i * 2 + m * 2 = (i + m) * 2 by omega, e]
  have HF : Hid (Row W2 B (.slice (some ⟨g, 0, none⟩) t cap) t (xs.take (i * 2) ++ vs ++ xs.drop (j * 2)) ∧ w.grownBy W2 (some g)) := by
    have h3 : W2.heap[g]? = some (.cells (cur.toList.take (i * 2) ++ vs ++ xs.drop (j * 2) ++ cur.toList.drop (i * 2 + vs.length + (xs.drop (j * 2)).length)).toArray 64 (0, 0)) := by rw [HW2.out]; exact setRow_heap W1 g _ _ _ _ hg1
    have e1 : cur.toList.take (i * 2) = xs.take (i * 2) := by rw [← hx, List.take_take, Nat.min_eq_left (by omega)]
    have el : (xs.take (i * 2) ++ vs ++ xs.drop (j * 2)).length = t * 2 := by
      simp only [List.length_append, List.length_take, List.length_drop, hxl, hvl]; omega
    refine ⟨⟨el, .inr ⟨g, cap, _, rfl, hb, h3, by omega, hc, ?_, ?_⟩⟩, ?_⟩
    · simp only [List.size_toArray, List.length_append, List.length_take, List.length_drop, Array.length_toList, hxl, hvl, hcs]; omega
    · rw [e1, ← el]
      exact List.take_left
    · rw [HW2.out, HW1.out]; exact grown_row (grown_row (grown_drew (grown_drew (grown_refl _ _))) _) _
  unfold maxLen at hc
  obtain ⟨A, hcut0⟩ := cut_both g n cap i j (by omega) (by omega)
  have hcut1 := cut_hi g n cap i i rfl (by omega)
  have hcut2 := cut_lo g n cap j j rfl (by omega) (by omega)
  rw [← HQ.out] at hcut2
  have hcut3 := cut_hi g n cap t ((i : Int) + (m : Int) + (q : Int)) (by omega) (by omega)
  have hcut4 := cut_lo g t cap i i rfl (by omega) (by omega)
  have hcut5 := cut_lo g t cap (i + m) ((i : Int) + (m : Int)) (by omega) (by omega) (by omega)
  have hov := overlaps_no w.drew g vb (t - (i + m)) (cap - (i + m)) m vc ((i + m) * 2) 0 cur vcur (Ne.symm hne) hg hvg (by omega)
  have hw1 : IntKind.i64.wrap ((i : Int) + (m : Int)) = (i : Int) + (m : Int) := by rw [IntKind.wrap_i64]; omega
  have hw2 : IntKind.i64.wrap ((i : Int) + (m : Int) + (q : Int)) = (i : Int) + (m : Int) + (q : Int) := by rw [IntKind.wrap_i64]; omega
  have hin : ¬ ((i : Int) = (j : Int)) := by omega
  have hjn : ¬ ((j : Int) = (n : Int)) := by omega
  have hfit : i + m + q ≤ cap := by omega
  rw [← HQ.out, ← HT.out]
  clear hs hv hx1 hv1 hg hgd hg1 hvg hvg1 hx hvx hcs hvs HW1 HW2 hdl hxl hvl hb hq ht hne HQ HT hroom
  go_enter Try.func49, Try.ntmps49
  go_upto_region 9 with fail
  refine wp_region_still_tail 12 (by kernel_rfl) (by kernel_rfl) ?_
  simp only [List.take_succ_cons, List.take_zero, List.drop_succ_cons, List.drop_zero]
  iterate 12 still_step
  refine wpStill_nil ?_
  go_upto_region 22 with (simp only [hov])
  refine wp_region_still_tail 9 (by kernel_rfl) (by kernel_rfl) ?_
  simp only [List.take_succ_cons, List.take_zero, List.drop_succ_cons, List.drop_zero]
  iterate 9 still_step
  refine wpStill_nil ?_
  refine wpList_copy_run _ rfl _ _ 66 66 rfl _ _ (by simp [Act.eval]) (by simp [Act.eval]) (HCP1.out _) ?_
  have hcp2 := HCP2.out
  go_wp2_with fail
  go_ret
  exact ⟨rfl, HF.out⟩

theorem replace_grow (B n m i j g cap vb vc : Nat) (xs vs : List Value) (w : World) (hs : Row w B (.slice (some ⟨g, 0, none⟩) n cap) n xs) (hv : Row w 0 (.slice (some ⟨vb, 0, none⟩) m vc) m vs) (hx1 : ∀ u ∈ xs, u.oneCell' = true) (hv1 : ∀ u ∈ vs, u.oneCell' = true) (hm : 0 < m) (hij : i < j) (hj : j < n) (hroom : cap < i + m + (n - j)) (hbig : n + m ≤ 8589934592) (hB : B ≤ w.heap.size) :
    Calls Try.prog 49 #[.slice (some ⟨g, 0, none⟩) n cap, .int .i64 (i : Int), .int .i64 (j : Int), .slice (some ⟨vb, 0, none⟩) m vc] w fun e w' => ∃ nc, e = .returned (.slice (some ⟨w.heap.size, 0, none⟩) (i + m + (n - j)) nc) ∧ Row w' B (.slice (some ⟨w.heap.size, 0, none⟩) (i + m + (n - j)) nc) (i + m + (n - j)) (xs.take (i * 2) ++ vs ++ xs.drop (j * 2)) ∧ w.grownBy w' none := by
  obtain ⟨g', cap', cur, h0, hb, hg, hn, hc, hcs, hx⟩ := Row.at hs (by omega)
  simp only [Value.slice.injEq, Option.some.injEq, Addr.mk.injEq, and_true] at h0
  obtain ⟨rfl, -, rfl⟩ := h0
  obtain ⟨vb', vc', vcur, h0, -, hvg, hvn, hvc, hvs, hvx⟩ := Row.at hv hm
  simp only [Value.slice.injEq, Option.some.injEq, Addr.mk.injEq, and_true] at h0
  obtain ⟨rfl, -, rfl⟩ := h0
  have hxl : xs.length = n * 2 := hs.1
  have hvl : vs.length = m * 2 := hv.1
  obtain ⟨q, HQ⟩ : ∃ q, Hid (q = n - j) := ⟨_, rfl⟩
  have hq : q = n - j := HQ.out
  have hdl : (xs.drop (j * 2)).length = q * 2 := by rw [List.length_drop, hxl]; omega
  have hgl := (Array.getElem?_eq_some_iff.1 hg).1
  have hvgl := (Array.getElem?_eq_some_iff.1 hvg).1
  unfold maxLen at hc
  obtain ⟨t, HT⟩ : ∃ t, Hid (t = i + m + q) := ⟨_, rfl⟩
  have htn : t = i + m + q := HT.out
  obtain ⟨nc, C, hap, hnc1, hnc2, hC, hCt⟩ := zeros_run w.drew n i (i + m + q - i) g cap ((i : Int) + (m : Int) + (q : Int) - (i : Int)) xs cur hg hx hxl (by omega) (by omega) (by omega) (by omega) (by omega)
  rw [show i + (i + m + q - i) = t by rw [HT.out]; omega] at hap hnc1
  obtain ⟨g1, HG1⟩ : ∃ g1, Hid (g1 = w.heap.size) := ⟨_, rfl⟩
  have hsz : w.drew.heap.size = w.heap.size := rfl
  rw [hsz, ← HG1.out] at hap
  obtain ⟨W1, HW1⟩ : ∃ W1, Hid (W1 = w.drew.drew.alloc (.cells C 64)) := ⟨_, rfl⟩
  rw [← HW1.out] at hap
  have HAP := hid hap
  clear hap
  have hg1 : W1.heap[g1]? = some (.cells C 64 (0, 0)) := by rw [HW1.out, HG1.out]; exact heap_alloc_new w.drew.drew _
  have hvg1 : W1.heap[vb]? = some (.cells vcur 64 (0, 0)) := by rw [HW1.out]; exact (heap_alloc_old w.drew.drew _ hvgl).trans hvg
  have hog1 : W1.heap[g]? = some (.cells cur 64 (0, 0)) := by rw [HW1.out]; exact (heap_alloc_old w.drew.drew _ hgl).trans hg
  -- the first copy
  obtain ⟨W2, HW2⟩ : ∃ W2, Hid (W2 = W1.setRow g1 (C.toList.take (i * 2) ++ vs ++ C.toList.drop (i * 2 + vs.length)).toArray) := ⟨_, rfl⟩
  have HCP1 : Hid (∀ ty, (Builtin.copy_ #[66, 65] ty #[.slice (some ⟨g1, i * 2, none⟩) (t - i) (nc - i), .slice (some ⟨vb, 0, none⟩) m vc]).run Try.prog W1 = .ok (goInt (Nat.min m (t - i))) W2) := fun ty => by
    rw [HW2.out]
    exact run_copyK (P := Try.prog) W1 66 65 ty 64 2 g1 (i * 2) (t - i) (nc - i) ⟨vb, 0, none⟩ m vc C 64 vs u66 size64 hg1 (by rw [hvl, show Nat.min m (t - i) = m from Nat.min_eq_left (by omega)]) (Row.src hvg1 hvx) (by rw [hvl, hC]; omega) hv1
  have hne1 : g1 ≠ g := by have := HG1.out; omega
  have hg2 : W2.heap[g1]? = some (.cells (C.toList.take (i * 2) ++ vs ++ C.toList.drop (i * 2 + vs.length)).toArray 64 (0, 0)) := by rw [HW2.out]; exact setRow_heap W1 g1 C _ _ _ hg1
  have hog2 : W2.heap[g]? = some (.cells cur 64 (0, 0)) := by rw [HW2.out, setRow_other _ _ _ _ (Ne.symm hne1)]; exact hog1
  obtain ⟨W3, HW3⟩ : ∃ W3, Hid (W3 = W2.drew.setRow g1 (C.toList.take (i * 2) ++ vs ++ xs.drop (j * 2) ++ C.toList.drop (i * 2 + vs.length + (xs.drop (j * 2)).length)).toArray) := ⟨_, rfl⟩
  have HCP2 : Hid (∀ ty, (Builtin.copy_ #[66, 66] ty #[.slice (some ⟨g1, (i + m) * 2, none⟩) (t - (i + m)) (nc - (i + m)), .slice (some ⟨g, j * 2, none⟩) q (cap - j)]).run Try.prog W2.drew = .ok (goInt (Nat.min q (t - (i + m)))) W3) := fun ty => by
    have h := run_copyK (P := Try.prog) W2.drew 66 66 ty 64 2 g1 ((i + m) * 2) (t - (i + m)) (nc - (i + m)) ⟨g, j * 2, none⟩ q (cap - j) _ 64 (xs.drop (j * 2)) u66 size64 hg2 (by
        rw [hdl, show Nat.min q (t - (i + m)) = q from Nat.min_eq_left (by omega)])
      (fun k v hk => by
        rw [List.getElem?_drop] at hk
        have := Row.src (w := W2.drew) (n := n) hog2 hx (j * 2 + k) v hk
        rw [Addr.add_lit] at this ⊢
        rwa [Nat.zero_add] at this)
      (by simp only [List.size_toArray, List.length_append, List.length_take, List.length_drop, Array.length_toList, hxl, hvl, hC]; omega) (fun v hv => hx1 v (List.mem_of_mem_drop hv))
    rw [h, HW3.out]
    have e := put_fore C.toList vs (xs.drop (j * 2)) (i * 2) (by rw [hvl, hdl, Array.length_toList, hC]; omega)
    rw [hvl, show i * 2 + m * 2 = (i + m) * 2 by omega] at e
    simp only [hvl, show i * 2 + m * 2 = (i + m) * 2 by omega, e]
  have HF : Hid (Row W3 B (.slice (some ⟨g1, 0, none⟩) t nc) t (xs.take (i * 2) ++ vs ++ xs.drop (j * 2)) ∧ w.grownBy W3 none) := by
    have h3 : W3.heap[g1]? = some (.cells (C.toList.take (i * 2) ++ vs ++ xs.drop (j * 2) ++ C.toList.drop (i * 2 + vs.length + (xs.drop (j * 2)).length)).toArray 64 (0, 0)) := by rw [HW3.out]; exact setRow_heap W2.drew g1 _ _ _ _ hg2
    refine ⟨?_, ?_⟩
    · rw [hCt] at h3
      have el : (xs.take (i * 2) ++ vs ++ xs.drop (j * 2)).length = t * 2 := by
        simp only [List.length_append, List.length_take, List.length_drop, hxl, hvl]; omega
      refine ⟨el, .inr ⟨g1, nc, _, rfl, by rw [HG1.out]; exact hB, h3, hnc1, hnc2, ?_, ?_⟩⟩
      · simp only [List.size_toArray, List.length_append, List.length_take, List.length_drop, Array.length_toList, hxl, hvl, hC]; omega
      · rw [← el]
        exact List.take_left
    · rw [HW3.out, HW2.out, HW1.out]
      refine ⟨rfl, rfl, rfl, by simp, fun k hk _ => ?_⟩
      have : k ≠ g1 := by have := HG1.out; omega
      rw [setRow_other _ _ _ _ this]
      show (World.setRow _ g1 _).heap[k]? = _
      rw [setRow_other _ _ _ _ this]
      exact heap_alloc_old w.drew.drew _ hk
  have hin : ¬ ((i : Int) = (j : Int)) := by omega
  have hjn : ¬ ((j : Int) = (n : Int)) := by omega
  have hw1 : IntKind.i64.wrap ((i : Int) + (m : Int)) = (i : Int) + (m : Int) := by rw [IntKind.wrap_i64]; omega
  have hw2 : IntKind.i64.wrap ((i : Int) + (m : Int) + (q : Int)) = (i : Int) + (m : Int) + (q : Int) := by rw [IntKind.wrap_i64]; omega
  obtain ⟨A, hcut0⟩ := cut_both g n cap i j (by omega) (by omega)
  have hcut1 := cut_hi g n cap i i rfl (by omega)
  have hcut2 := cut_lo g n cap j j rfl (by omega) (by omega)
  rw [← HQ.out] at hcut2
  have hcut4 := cut_lo g1 t nc i i rfl (by omega) (by omega)
  have hcut5 := cut_lo g1 t nc (i + m) ((i : Int) + (m : Int)) (by omega) (by omega) (by omega)
  have hr1 : (cap : Int) < (i : Int) + (m : Int) + (q : Int) := by omega
  have hq2 : q ≤ 8589934592 := by omega
  rw [← HQ.out, ← HT.out, ← HG1.out]
  clear hs hv hx1 hv1 hg hg1 hvg hvg1 hog1 hx hvx hcs hvs HW1 HW2 HW3 hdl hxl hvl hb hgl hvgl hC hCt hnc1 hnc2 hne1 hg2 hog2 hB htn hq HQ HT HG1 hsz hroom
  go_enter Try.func49, Try.ntmps49
  go_upto_region 9 with fail
  refine wp_region_still_tail 12 (by kernel_rfl) (by kernel_rfl) ?_
  simp only [List.take_succ_cons, List.take_zero, List.drop_succ_cons, List.drop_zero]
  iterate 12 still_step
  refine wpStill_nil ?_
  go_upto_region 12 with (at_builtin; refine wpList_append_run _ rfl _ _ 66 3 rfl _ _ rfl rfl (HAP.out _) ?_)
  have hcp1 := HCP1.out
  go_upto_region 13 with fail
  clear hcp1
  refine wp_region_still_tail 9 (by kernel_rfl) (by kernel_rfl) ?_
  simp only [List.take_succ_cons, List.take_zero, List.drop_succ_cons, List.drop_zero]
  iterate 9 still_step
  refine wpStill_nil ?_
  refine wpList_copy_run _ rfl _ _ 66 66 rfl _ _ (by simp [Act.eval]) (by simp [Act.eval]) (HCP2.out _) ?_
  go_wp2_with fail
  go_ret
  exact ⟨nc, rfl, HF.out⟩

theorem replace_any (B n m i j : Nat) (s v : Value) (xs vs : List Value) (w : World) (hs : Row w B s n xs) (hv : Row w 0 v m vs) (hx1 : ∀ u ∈ xs, u.oneCell' = true) (hv1 : ∀ u ∈ vs, u.oneCell' = true) (hnil : m = 0 → v = .slice none 0 0 ∧ i < j) (hne : v.ownBlock = none ∨ v.ownBlock ≠ s.ownBlock) (hij : i ≤ j) (hj : j ≤ n) (hbig : n + m ≤ 8589934592) (hB : B ≤ w.heap.size) :
    Calls Try.prog 49 #[s, .int .i64 (i : Int), .int .i64 (j : Int), v] w fun e w' => ∃ v', e = .returned v' ∧ Row w' B v' (i + m + (n - j)) (xs.take (i * 2) ++ vs ++ xs.drop (j * 2)) ∧ w.grownBy w' s.ownBlock ∧ NewBlk s v' w.heap.size := by
  by_cases he : i = j
  · subst he
    have hm : 0 < m := by
      rcases Nat.eq_zero_or_pos m with h | h
      · exact absurd (hnil h).2 (Nat.lt_irrefl _)
      · exact h
    have hne' : v.ownBlock ≠ s.ownBlock := by
      rcases hne with h | h
      · obtain ⟨vb, vc, vcur, rfl, -⟩ := Row.at hv hm
        simp [Value.ownBlock] at h
      · exact h
    refine (replace_ins B n m i s v xs vs w hs hv hx1 hv1 hne' hm hj hbig hB).mono fun e w' ⟨v', h1, h2, h3⟩ => ⟨v', h1, ?_, h3⟩
    rw [show i + m + (n - i) = n + m by omega]
    exact h2
  · have hsb : ∃ g cap, s = .slice (some ⟨g, 0, none⟩) n cap := by
      obtain ⟨g, cap, cur, h, -⟩ := Row.at hs (by omega)
      exact ⟨g, cap, h⟩
    obtain ⟨g, cap, rfl⟩ := hsb
    have hne' : v.ownBlock ≠ Value.ownBlock (.slice (some ⟨g, 0, none⟩) n cap) := by
      rcases hne with h | h
      · rw [h]; simp [Value.ownBlock]
      · exact h
    by_cases hjn : j = n
    · subst hjn
      have hxl : xs.length = j * 2 := hs.1
      refine (replace_end B j m i _ v xs vs w hs hv hv1 (fun h => (hnil h).1) (by omega) hbig hB).mono fun e w' ⟨v', h1, h2, h3⟩ => ⟨v', h1, ?_, h3⟩
      rw [Nat.sub_self, Nat.add_zero, List.drop_of_length_le (by omega), List.append_nil]
      exact h2
    · by_cases hfit : i + m ≤ j
      · exact replace_fit B n m i j _ v xs vs w hs hv hx1 hv1 (fun h => (hnil h).1) hne' (by omega) (by omega) hfit hbig
      · obtain ⟨vb, vc, vcur, rfl, -⟩ := Row.at hv (by omega)
        by_cases hroom : i + m + (n - j) ≤ cap
        · exact (replace_room B n m i j g cap vb vc xs vs w hs hv hx1 hv1 (by simpa [Value.ownBlock] using hne') (by omega) (by omega) (by omega) hroom hbig).mono fun e w' ⟨h1, h2, h3⟩ => ⟨_, h1, h2, h3, .inl rfl⟩
        · exact (replace_grow B n m i j g cap vb vc xs vs w hs hv hx1 hv1 (by omega) (by omega) (by omega) (by omega) hbig hB).mono fun e w' ⟨nc, h1, h2, h3⟩ => ⟨_, h1, h2, ⟨h3.os, h3.tape, h3.output, h3.size, fun k hk _ => h3.block k hk (by simp)⟩, .inr ⟨_, rfl, Nat.le_refl _⟩⟩
end Go.Proofs.Ytahoileampdnkaa
