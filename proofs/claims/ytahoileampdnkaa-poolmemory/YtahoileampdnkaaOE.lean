/-
  slices.Insert at runs, where there is no room; Insert in whole.
-/
import Derived.Test.YtahoileampdnkaaOD
namespace Go.Proofs.Ytahoileampdnkaa
open Go.ChangeShapes Go.WideShapes Go.ChangeAt Go.RowKit Ru N
set_option maxHeartbeats 4000000
set_option maxRecDepth 100000

/-- A row that is made longer by empty ones. -/
theorem zeros_run (w : World) (n i k g cap : Nat) (x : Int) (xs : List Value) (cur : Array Value) (hg : w.heap[g]? = some (.cells cur 64 (0, 0))) (hx : cur.toList.take (n * 2) = xs) (hxl : xs.length = n * 2) (hi : i ≤ n) (hk : 0 < k) (hroom : cap < i + k) (hbig : i + k ≤ 8589934592) (hxk : x = (k : Int)) :
    ∃ nc C, (∀ ty, (Builtin.append_ #[66, 3] ty #[.slice (some ⟨g, 0, none⟩) i cap, .int .i64 x]).run Try.prog w = .ok (.slice (some ⟨w.heap.size, 0, none⟩) (i + k) nc) (w.drew.alloc (.cells C 64))) ∧ i + k ≤ nc ∧ nc ≤ maxLen ∧ C.size = nc * 2 ∧ C.toList.take (i * 2) = xs.take (i * 2) := by
  obtain ⟨i0, hi0, hz0, hz1, hz2⟩ := info_at
  subst hxk
  have hge := grownCap_ge w (i + k) cap 64
  have hcm := grownCap_le_maxLen w (i + k) cap 64 (by unfold maxLen; omega)
  have hel : (xs.take (i * 2)).length = i * 2 := by rw [List.length_take]; omega
  have hzl : ∀ q, (Builtin.zeroCells (.agg #[.int .i64 0, .int .i64 0] : Value).cells q).size = q * 2 := fun q => by rw [← Array.length_toList, zeros_eq, zs_len]; omega
  refine ⟨_, _, fun ty => Lib.run_append_grow_zeros (P := Try.prog) w 66 3 ty 64 i0 _ .i64 .i64 u66 u3 hi0 hz0 (some ⟨g, 0, none⟩) i cap (xs.take (i * 2)) ?_ k hk (by rw [hz1]; decide) hroom (by omega) (by rw [hz2]; omega) (growslice_fits hroom (by rw [hz2]; omega)), hge, hcm, ?_, ?_⟩
  · refine run_firstCells_some (P := Try.prog) w.drew i0.size i ⟨g, 0, none⟩ i cap _ (by rw [hz1, hel]) fun j u hu => ?_
    have hu' : xs[j]? = some u := by
      obtain ⟨h1, h2⟩ := List.getElem?_eq_some_iff.1 hu
      rw [List.getElem_take] at h2
      rw [hel] at h1
      exact List.getElem?_eq_some_iff.2 ⟨by omega, h2⟩
    exact Row.src (w := w.drew) hg hx j u hu'
  · simp only [Array.size_append, List.size_toArray, hel, hzl]; omega
  · simp only [Array.toList_append, List.append_assoc]
    rw [List.take_append_of_le_length (by rw [hel]; omega), List.take_of_length_le (by rw [hel]; omega)]

theorem insert_grow (B n m i g cap vb vc : Nat) (xs vs : List Value) (w : World) (hs : Row w B (.slice (some ⟨g, 0, none⟩) n cap) n xs) (hv : Row w 0 (.slice (some ⟨vb, 0, none⟩) m vc) m vs) (hx1 : ∀ u ∈ xs, u.oneCell' = true) (hv1 : ∀ u ∈ vs, u.oneCell' = true) (hm : 0 < m) (hi : i < n) (hroom : cap < n + m) (hbig : n + m ≤ 8589934592) (hB : B ≤ w.heap.size) :
    Calls Try.prog 58 #[.slice (some ⟨g, 0, none⟩) n cap, .int .i64 (i : Int), .slice (some ⟨vb, 0, none⟩) m vc] w fun e w' => ∃ nc, e = .returned (.slice (some ⟨w.heap.size, 0, none⟩) (n + m) nc) ∧ Row w' B (.slice (some ⟨w.heap.size, 0, none⟩) (n + m) nc) (n + m) (xs.take (i * 2) ++ vs ++ xs.drop (i * 2)) ∧ w.grownBy w' none := by
  obtain ⟨g', cap', cur, h0, hb, hg, hn, hc, hcs, hx⟩ := Row.at hs (by omega)
  simp only [Value.slice.injEq, Option.some.injEq, Addr.mk.injEq, and_true] at h0
  obtain ⟨rfl, -, rfl⟩ := h0
  obtain ⟨vb', vc', vcur, h0, -, hvg, hvn, hvc, hvs, hvx⟩ := Row.at hv hm
  simp only [Value.slice.injEq, Option.some.injEq, Addr.mk.injEq, and_true] at h0
  obtain ⟨rfl, -, rfl⟩ := h0
  have hxl : xs.length = n * 2 := hs.1
  have hvl : vs.length = m * 2 := hv.1
  have hdl : (xs.drop (i * 2)).length = (n - i) * 2 := by rw [List.length_drop, hxl]; omega
  have hgl := (Array.getElem?_eq_some_iff.1 hg).1
  have hvgl := (Array.getElem?_eq_some_iff.1 hvg).1
  unfold maxLen at hc
  obtain ⟨t, HT⟩ : ∃ t, Hid (t = n + m) := ⟨_, rfl⟩
  obtain ⟨nc, C, hap, hnc1, hnc2, hC, hCt⟩ := zeros_run w n i (n + m - i) g cap ((n : Int) + (m : Int) - (i : Int)) xs cur hg hx hxl (by omega) (by omega) (by omega) (by omega) (by omega)
  rw [show i + (n + m - i) = t by rw [HT.out]; omega] at hap hnc1
  have htn : t = n + m := HT.out
  obtain ⟨g1, HG1⟩ : ∃ g1, Hid (g1 = w.heap.size) := ⟨_, rfl⟩
  rw [← HG1.out] at hap
  obtain ⟨W1, HW1⟩ : ∃ W1, Hid (W1 = w.drew.alloc (.cells C 64)) := ⟨_, rfl⟩
  rw [← HW1.out] at hap
  have HAP := hid hap
  clear hap
  have hg1 : W1.heap[g1]? = some (.cells C 64 (0, 0)) := by rw [HW1.out, HG1.out]; exact heap_alloc_new w.drew _
  have hvg1 : W1.heap[vb]? = some (.cells vcur 64 (0, 0)) := by rw [HW1.out]; exact (heap_alloc_old w.drew _ hvgl).trans hvg
  have hog1 : W1.heap[g]? = some (.cells cur 64 (0, 0)) := by rw [HW1.out]; exact (heap_alloc_old w.drew _ hgl).trans hg
  -- the first copy
  obtain ⟨W2, HW2⟩ : ∃ W2, Hid (W2 = W1.setRow g1 (C.toList.take (i * 2) ++ vs ++ C.toList.drop (i * 2 + vs.length)).toArray) := ⟨_, rfl⟩
  have HCP1 : Hid (∀ ty, (Builtin.copy_ #[66, 65] ty #[.slice (some ⟨g1, i * 2, none⟩) (t - i) (nc - i), .slice (some ⟨vb, 0, none⟩) m vc]).run Try.prog W1 = .ok (goInt (Nat.min m (t - i))) W2) := fun ty => by
    rw [HW2.out]
    exact run_copyK (P := Try.prog) W1 66 65 ty 64 2 g1 (i * 2) (t - i) (nc - i) ⟨vb, 0, none⟩ m vc C 64 vs u66 size64 hg1 (by rw [hvl, show Nat.min m (t - i) = m from Nat.min_eq_left (by omega)]) (Row.src hvg1 hvx) (by rw [hvl, hC]; omega) hv1
  have hne1 : g1 ≠ g := by have := HG1.out; omega
  have hg2 : W2.heap[g1]? = some (.cells (C.toList.take (i * 2) ++ vs ++ C.toList.drop (i * 2 + vs.length)).toArray 64 (0, 0)) := by rw [HW2.out]; exact setRow_heap W1 g1 C _ _ _ hg1
  have hog2 : W2.heap[g]? = some (.cells cur 64 (0, 0)) := by rw [HW2.out, setRow_other _ _ _ _ (Ne.symm hne1)]; exact hog1
  obtain ⟨W3, HW3⟩ : ∃ W3, Hid (W3 = W2.drew.setRow g1 (C.toList.take (i * 2) ++ vs ++ xs.drop (i * 2) ++ C.toList.drop (i * 2 + vs.length + (xs.drop (i * 2)).length)).toArray) := ⟨_, rfl⟩
  have HCP2 : Hid (∀ ty, (Builtin.copy_ #[66, 66] ty #[.slice (some ⟨g1, (i + m) * 2, none⟩) (t - (i + m)) (nc - (i + m)), .slice (some ⟨g, i * 2, none⟩) (n - i) (cap - i)]).run Try.prog W2.drew = .ok (goInt (Nat.min (n - i) (t - (i + m)))) W3) := fun ty => by
    have h := run_copyK (P := Try.prog) W2.drew 66 66 ty 64 2 g1 ((i + m) * 2) (t - (i + m)) (nc - (i + m)) ⟨g, i * 2, none⟩ (n - i) (cap - i) _ 64 (xs.drop (i * 2)) u66 size64 hg2 (by
        rw [hdl, show Nat.min (n - i) (t - (i + m)) = n - i by rw [show Nat.min (n - i) (t - (i + m)) = min (n - i) (t - (i + m)) from rfl]; omega])
      (fun j v hj => by
        rw [List.getElem?_drop] at hj
        have := Row.src (w := W2.drew) (n := n) hog2 hx (i * 2 + j) v hj
        rw [Addr.add_lit] at this ⊢
        rwa [Nat.zero_add] at this)
      (by simp only [List.size_toArray, List.length_append, List.length_take, List.length_drop, Array.length_toList, hxl, hvl, hC]; omega) (fun v hv => hx1 v (List.mem_of_mem_drop hv))
    rw [h, HW3.out]
    have e := put_fore C.toList vs (xs.drop (i * 2)) (i * 2) (by rw [hvl, hdl, Array.length_toList, hC]; omega)
    rw [hvl, show i * 2 + m * 2 = (i + m) * 2 by omega] at e
    simp only [hvl, show i * 2 + m * 2 = (i + m) * 2 by omega, e]
  have HF : Hid (Row W3 B (.slice (some ⟨g1, 0, none⟩) t nc) t (xs.take (i * 2) ++ vs ++ xs.drop (i * 2)) ∧ w.grownBy W3 none) := by
    have h3 : W3.heap[g1]? = some (.cells (C.toList.take (i * 2) ++ vs ++ xs.drop (i * 2) ++ C.toList.drop (i * 2 + vs.length + (xs.drop (i * 2)).length)).toArray 64 (0, 0)) := by rw [HW3.out]; exact setRow_heap W2.drew g1 _ _ _ _ hg2
    refine ⟨?_, ?_⟩
    · rw [hCt] at h3
      have el : (xs.take (i * 2) ++ vs ++ xs.drop (i * 2)).length = t * 2 := by
        simp only [List.length_append, List.length_take, List.length_drop, hxl, hvl]; omega
      refine ⟨el, .inr ⟨g1, nc, _, rfl, by rw [HG1.out]; exact hB, h3, hnc1, hnc2, ?_, ?_⟩⟩
      · simp only [List.size_toArray, List.length_append, List.length_take, List.length_drop, Array.length_toList, hxl, hvl, hC]; omega
      · rw [← el]
        exact List.take_left
    · rw [HW3.out, HW2.out, HW1.out]
      refine ⟨rfl, rfl, rfl, by simp, fun k hk _ => ?_⟩
      have : k ≠ g1 := by have := HG1.out; omega
      rw [setRow_other _ _ _ _ this]
      show (World.setRow _ g1 _).heap[k]? = _
      rw [setRow_other _ _ _ _ this]
      exact heap_alloc_old w.drew _ hk
  have hm0 : ¬ ((m : Int) = 0) := by omega
  have hin : ¬ ((i : Int) = (n : Int)) := by omega
  have hw1 : IntKind.i64.wrap ((i : Int) + (m : Int)) = (i : Int) + (m : Int) := by rw [IntKind.wrap_i64]; omega
  obtain ⟨A, hcut0⟩ := cut_lo' g n cap i i rfl (by omega)
  have hcut1 := cut_hi g n cap i i rfl (by omega)
  have hcut2 := cut_lo g1 t nc i i rfl (by omega) (by omega)
  have hcut3 := cut_lo g1 t nc (i + m) ((i : Int) + (m : Int)) (by omega) (by omega) (by omega)
  have hcut4 := cut_lo g n cap i i rfl (by omega) (by omega)
  have hA : A = ⟨g, i * 2, none⟩ := by
    have h := hcut0 w
    rw [hcut4 w] at h
    simp only [Result.ok.injEq, Value.slice.injEq, Option.some.injEq] at h
    exact h.1.1.symm
  clear hcut0 hA A
  clear hs hv hx1 hv1 hg hg1 hvg hvg1 hog1 hx hvx hcs hvs HW1 HW2 HW3 hdl hxl hvl hb hgl hvgl hC hCt hnc1 hnc2 hne1 hg2 hog2 hB htn
  have hr1 : (cap : Int) < (n : Int) + (m : Int) := by omega
  rw [← HG1.out, ← HT.out]
  go_enter Try.func58, Try.ntmps58
  go_upto_region 10 with (at_builtin; refine wpList_append_run _ rfl _ _ 66 3 rfl _ _ rfl rfl (HAP.out _) ?_)
  have hcp1 := HCP1.out
  go_upto_region 11 with fail
  clear hcp1
  refine wp_region_still_tail 8 (by kernel_rfl) (by kernel_rfl) ?_
  simp only [List.take_succ_cons, List.take_zero, List.drop_succ_cons, List.drop_zero]
  iterate 8 still_step
  refine wpStill_nil ?_
  refine wpList_copy_run _ rfl _ _ 66 66 rfl _ _ (by simp [Act.eval]) (by simp [Act.eval]) (HCP2.out _) ?_
  go_wp2_with fail
  go_ret
  exact ⟨nc, rfl, HF.out⟩

theorem insert_any (B n m i : Nat) (s v : Value) (xs vs : List Value) (w : World) (hs : Row w B s n xs) (hv : Row w 0 v m vs) (hx1 : ∀ u ∈ xs, u.oneCell' = true) (hv1 : ∀ u ∈ vs, u.oneCell' = true) (hne : v.ownBlock ≠ s.ownBlock) (hm : 0 < m) (hi : i ≤ n) (hbig : n + m ≤ 8589934592) (hB : B ≤ w.heap.size) :
    Calls Try.prog 58 #[s, .int .i64 (i : Int), v] w fun e w' => ∃ v', e = .returned v' ∧ Row w' B v' (n + m) (xs.take (i * 2) ++ vs ++ xs.drop (i * 2)) ∧ w.grownBy w' s.ownBlock ∧ NewBlk s v' w.heap.size := by
  by_cases he : i = n
  · subst he
    have hxl : xs.length = i * 2 := hs.1
    refine (insert_end B i m s v xs vs w hs hv hv1 hm hB hbig).mono fun e w' ⟨v', h1, h2, h3⟩ => ⟨v', h1, ?_, h3⟩
    rw [List.take_of_length_le (by omega), List.drop_of_length_le (by omega), List.append_nil]
    exact h2
  · obtain ⟨g, cap, cur, rfl, -, -, -, -⟩ := Row.at hs (by omega)
    obtain ⟨vb, vc, vcur, rfl, -, -, -, -⟩ := Row.at hv hm
    simp only [Value.ownBlock, ne_eq, Option.some.injEq] at hne
    by_cases hroom : n + m ≤ cap
    · exact (insert_room B n m i g cap vb vc xs vs w hs hv hx1 hv1 hne hm (by omega) hroom).mono fun e w' ⟨h1, h2, h3⟩ => ⟨_, h1, h2, h3, .inl rfl⟩
    · exact (insert_grow B n m i g cap vb vc xs vs w hs hv hx1 hv1 hm (by omega) (by omega) hbig hB).mono fun e w' ⟨nc, h1, h2, h3⟩ => ⟨_, h1, h2, ⟨h3.os, h3.tape, h3.output, h3.size, fun k hk _ => h3.block k hk (by simp)⟩, .inr ⟨_, rfl, Nat.le_refl _⟩⟩
end Go.Proofs.Ytahoileampdnkaa
