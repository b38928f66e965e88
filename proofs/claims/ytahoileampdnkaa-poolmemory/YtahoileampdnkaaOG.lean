/-
  slices.Replace at runs: in place; at the end.
-/
import Derived.Test.YtahoileampdnkaaOF
namespace Go.Proofs.Ytahoileampdnkaa
open Go.ChangeShapes Go.WideShapes Go.ChangeAt Go.RowKit Ru N
set_option maxHeartbeats 4000000
set_option maxRecDepth 100000

theorem replace_fit (B n m i j : Nat) (s v : Value) (xs vs : List Value) (w : World) (hs : Row w B s n xs) (hv : Row w 0 v m vs) (hx1 : ∀ u ∈ xs, u.oneCell' = true) (hv1 : ∀ u ∈ vs, u.oneCell' = true) (hnil : m = 0 → v = .slice none 0 0) (hne : v.ownBlock ≠ s.ownBlock) (hij : i < j) (hj : j < n) (hm : i + m ≤ j) (hbig : n + m ≤ 8589934592) :
    Calls Try.prog 49 #[s, .int .i64 (i : Int), .int .i64 (j : Int), v] w fun e w' => ∃ v', e = .returned v' ∧ Row w' B v' (i + m + (n - j)) (xs.take (i * 2) ++ vs ++ xs.drop (j * 2)) ∧ w.grownBy w' s.ownBlock ∧ NewBlk s v' w.heap.size := by
  obtain ⟨g, cap, cur, rfl, hb, hg, hn, hc, hcs, hx⟩ := Row.at hs (by omega)
  have hxl : xs.length = n * 2 := hs.1
  have hvl : vs.length = m * 2 := hv.1
  obtain ⟨q, HQ⟩ : ∃ q, Hid (q = n - j) := ⟨_, rfl⟩
  have hq : q = n - j := HQ.out
  obtain ⟨t, HT⟩ : ∃ t, Hid (t = i + m + q) := ⟨_, rfl⟩
  have ht : t = i + m + q := HT.out
  have hdl : (xs.drop (j * 2)).length = q * 2 := by rw [List.length_drop, hxl]; omega
  have hvg0 : ∀ gv, v.ownBlock = some gv → gv ≠ g := fun gv h e => hne (by rw [h, e]; rfl)
  -- the first copy
  have hgd : w.drew.heap[g]? = some (.cells cur 64 (0, 0)) := hg
  have hvd : Row w.drew 0 v m vs := ⟨hv.1, hv.2⟩
  obtain ⟨W1, HW1⟩ : ∃ W1, Hid (W1 = w.drew.setRow g (cur.toList.take (i * 2) ++ vs ++ cur.toList.drop (i * 2 + vs.length)).toArray) := ⟨_, rfl⟩
  obtain ⟨q1, hcp1⟩ := copy_v w.drew g m i v vs cur (t - i) (cap - i) hgd hvd hv1 hnil (by omega) (by omega) 3
  rw [← HW1.out] at hcp1
  have HCP1 := hid hcp1
  have hg1 : W1.heap[g]? = some (.cells (cur.toList.take (i * 2) ++ vs ++ cur.toList.drop (i * 2 + vs.length)).toArray 64 (0, 0)) := by rw [HW1.out]; exact setRow_heap w.drew g cur _ _ _ hgd
  -- the second
  obtain ⟨W2, HW2⟩ : ∃ W2, Hid (W2 = W1.drew.setRow g (cur.toList.take (i * 2) ++ vs ++ xs.drop (j * 2) ++ cur.toList.drop (i * 2 + vs.length + (xs.drop (j * 2)).length)).toArray) := ⟨_, rfl⟩
  have HCP2 : Hid (∀ ty, (Builtin.copy_ #[66, 66] ty #[.slice (some ⟨g, (i + m) * 2, none⟩) (t - (i + m)) (cap - (i + m)), .slice (some ⟨g, j * 2, none⟩) q (cap - j)]).run Try.prog W1.drew = .ok (goInt (Nat.min q (t - (i + m)))) W2) := fun ty => by
    have h := run_copyK (P := Try.prog) W1.drew 66 66 ty 64 2 g ((i + m) * 2) (t - (i + m)) (cap - (i + m)) ⟨g, j * 2, none⟩ q (cap - j) _ 64 (xs.drop (j * 2)) u66 size64 hg1 (by
        rw [hdl, show Nat.min q (t - (i + m)) = q from Nat.min_eq_left (by omega)])
      (fun k u hk => by
        have hk' : (cur.toList.drop (j * 2))[k]? = some u := by
          rw [← hx, List.drop_take, List.getElem?_take] at hk
          split at hk
          · exact hk
          · cases hk
        rw [← seg_fore cur.toList vs (i * 2) (j * 2) (by rw [hvl]; omega) (by rw [Array.length_toList]; omega), List.getElem?_drop] at hk'
        rw [Addr.add_lit, cell_of_row _ _ _ _ _ _ (show W1.drew.heap[g]? = _ from hg1)]
        simpa using hk')
      (by simp only [List.size_toArray, List.length_append, List.length_take, List.length_drop, Array.length_toList, hxl, hvl, hcs]; omega) (fun v hv => hx1 v (List.mem_of_mem_drop hv))
    rw [h, HW2.out]
    have e := put_fore cur.toList vs (xs.drop (j * 2)) (i * 2) (by rw [hvl, hdl, Array.length_toList, hcs]; omega)
    rw [hvl, show i * 2 + m * 2 = (i + m) * 2 by omega] at e
    simp only [hvl, show i * 2 + m * 2 = (i + m) * 2 by omega, e]
  have hg2 : W2.heap[g]? = some (.cells (cur.toList.take (i * 2) ++ vs ++ xs.drop (j * 2) ++ cur.toList.drop (i * 2 + vs.length + (xs.drop (j * 2)).length)).toArray 64 (0, 0)) := by rw [HW2.out]; exact setRow_heap W1.drew g _ _ _ _ hg1
  have e1 : cur.toList.take (i * 2) = xs.take (i * 2) := by rw [← hx, List.take_take, Nat.min_eq_left (by omega)]
  have el : (xs.take (i * 2) ++ vs ++ xs.drop (j * 2)).length = t * 2 := by
    simp only [List.length_append, List.length_take, List.length_drop, hxl, hvl]; omega
  -- what is behind it goes
  obtain ⟨A3, W3, hcut6, hclr, hrow, hgr⟩ := clear_run W2 B n t g cap ((i : Int) + (m : Int) + (q : Int)) (xs.take (i * 2) ++ vs ++ xs.drop (j * 2)) _ hb hg2 (by
    simp only [List.size_toArray, List.length_append, List.length_take, List.length_drop, Array.length_toList, hxl, hvl, hcs]; omega) hc hn (by omega) (by omega) (by
    rw [e1, ← el]; exact List.take_left)
  have HF : Hid (Row W3 B (.slice (some ⟨g, 0, none⟩) t cap) t (xs.take (i * 2) ++ vs ++ xs.drop (j * 2)) ∧ w.grownBy W3 (some g)) := by
    refine ⟨hrow, ?_⟩
    have h2 : w.grownBy W2 (some g) := by rw [HW2.out]; refine grown_row (grown_drew ?_) _; rw [HW1.out]; exact grown_row (grown_drew (grown_refl _ _)) _
    exact ⟨hgr.os.trans h2.os, hgr.tape.trans h2.tape, hgr.output.trans h2.output, Nat.le_trans h2.size hgr.size, fun k hk hne => (hgr.block k (Nat.lt_of_lt_of_le hk h2.size) hne).trans (h2.block k hk hne)⟩
  unfold maxLen at hc
  obtain ⟨A, hcut0⟩ := cut_both g n cap i j (by omega) (by omega)
  have hcut1 := cut_hi g n cap i i rfl (by omega)
  have hcut2 := cut_lo g n cap j j rfl (by omega) (by omega)
  rw [← HQ.out] at hcut2
  have hcut3 := cut_hi g n cap t ((i : Int) + (m : Int) + (q : Int)) (by omega) (by omega)
  have hcut4 := cut_lo g t cap i i rfl (by omega) (by omega)
  have hcut5 := cut_lo g t cap (i + m) ((i : Int) + (m : Int)) (by omega) (by omega) (by omega)
  have hw1 : IntKind.i64.wrap ((i : Int) + (m : Int)) = (i : Int) + (m : Int) := by rw [IntKind.wrap_i64]; omega
  have hw2 : IntKind.i64.wrap ((i : Int) + (m : Int) + (q : Int)) = (i : Int) + (m : Int) + (q : Int) := by rw [IntKind.wrap_i64]; omega
  have hin : ¬ ((i : Int) = (j : Int)) := by omega
  have hjn : ¬ ((j : Int) = (n : Int)) := by omega
  have hfit : i + m + q ≤ cap := by omega
  have hvsh : ∃ va vc, v = .slice va m vc := by
    rcases hv.2 with ⟨h, h0⟩ | ⟨a, b, c, h, -⟩
    · exact ⟨none, 0, by rw [h, h0]⟩
    · exact ⟨_, _, h⟩
  obtain ⟨va, vc, rfl⟩ := hvsh
  have HCUT6 := hid hcut6
  have HCLR := hid hclr
  rw [← HQ.out, ← HT.out]
  clear hs hv hx1 hv1 hg hgd hg1 hg2 hx hcs HW1 HW2 hdl hxl hvl hb hq ht hvd hcp1 hvg0 hne hnil e1 el hrow hgr hcut6 hclr HQ HT hbig
  go_enter Try.func49, Try.ntmps49
  go_upto_region 9 with fail
  refine wp_region_still_tail 12 (by kernel_rfl) (by kernel_rfl) ?_
  simp only [List.take_succ_cons, List.take_zero, List.drop_succ_cons, List.drop_zero]
  iterate 12 still_step
  refine wpStill_nil ?_
  go_upto_region 17 with fail
  have hcp1 := HCP1.out
  go_upto_region 18 with fail
  clear hcp1
  refine wp_region_still_tail 9 (by kernel_rfl) (by kernel_rfl) ?_
  simp only [List.take_succ_cons, List.take_zero, List.drop_succ_cons, List.drop_zero]
  iterate 9 still_step
  refine wpStill_nil ?_
  refine wpList_copy_run _ rfl _ _ 66 66 rfl _ _ (by simp [Act.eval]) (by simp [Act.eval]) (HCP2.out _) ?_
  have hcut6 := HCUT6.out
  have hclr := HCLR.out
  go_wp2_with fail
  go_ret
  exact ⟨_, rfl, HF.out.1, HF.out.2, .inl rfl⟩
end Go.Proofs.Ytahoileampdnkaa
