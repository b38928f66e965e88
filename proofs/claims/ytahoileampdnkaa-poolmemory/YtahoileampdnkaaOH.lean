/-
  slices.Replace at runs: at the end; what is laid in is longer.
-/
import Derived.Test.YtahoileampdnkaaOG
namespace Go.Proofs.Ytahoileampdnkaa
open Go.ChangeShapes Go.WideShapes Go.ChangeAt Go.RowKit Ru N
set_option maxHeartbeats 4000000
set_option maxRecDepth 100000

theorem Row.cut {w : World} {B n i g cap : Nat} {xs : List Value} (hs : Row w B (.slice (some ⟨g, 0, none⟩) n cap) n xs) (hi : i ≤ n) (hn : 0 < n) : Row w B (.slice (some ⟨g, 0, none⟩) i cap) i (xs.take (i * 2)) := by
  obtain ⟨g', cap', cur, h0, hb, hg, hn, hc, hcs, hx⟩ := Row.at hs hn
  simp only [Value.slice.injEq, Option.some.injEq, Addr.mk.injEq, and_true] at h0
  obtain ⟨rfl, -, rfl⟩ := h0
  refine ⟨?_, .inr ⟨g, cap, cur, rfl, hb, hg, by omega, hc, hcs, ?_⟩⟩
  · rw [List.length_take, hs.1]; omega
  · rw [← hx, List.take_take, Nat.min_eq_left (by omega)]

/-- append at the end of a front part: in place while it fits. -/
theorem append_front (w : World) (ty : TypeId) (B n m i g cap : Nat) (v : Value) (xs vs : List Value) (hs : Row w B (.slice (some ⟨g, 0, none⟩) n cap) n xs) (hv : Row w 0 v m vs) (hv1 : ∀ u ∈ vs, u.oneCell' = true) (hnil : m = 0 → v = .slice none 0 0) (hi : i ≤ n) (hn : 0 < n) (hB : B ≤ w.heap.size) (hbig : n + m ≤ 8589934592) :
    ∃ v' w', (Builtin.append_ #[66, 65] ty #[.slice (some ⟨g, 0, none⟩) i cap, v]).run Try.prog w = .ok v' w' ∧ Row w' B v' (i + m) (xs.take (i * 2) ++ vs) ∧ w.grownBy w' (some g) ∧ NewBlk (.slice (some ⟨g, 0, none⟩) n cap) v' w.heap.size ∧ (i + m ≤ n → v' = .slice (some ⟨g, 0, none⟩) (i + m) cap) := by
  have hc := hs.cut hi hn
  have hnc : n ≤ cap := by
    obtain ⟨g', cap', cur, h0, -, -, h, -⟩ := Row.at hs hn
    simp only [Value.slice.injEq, Option.some.injEq, Addr.mk.injEq, and_true] at h0
    omega
  by_cases hm : m = 0
  · have : vs = [] := List.eq_nil_of_length_eq_zero (by rw [hv.1, hm])
    subst this
    subst hm
    rw [hnil rfl]
    refine ⟨.slice (some ⟨g, 0, none⟩) i cap, w, ?_, by rw [List.append_nil]; exact hc, grown_refl _ _, .inl rfl, fun _ => rfl⟩
    obtain ⟨i0, hi0, hz0, hz1, hz2⟩ := info_at
    have h1 : i ≤ cap := by omega
    simp [Builtin.append_, run_underlying u66, run_underlying u65, sizeOf, typeInfo, hi0, Builtin.lenOf, Builtin.firstCells, h1, storeCells]
  · obtain ⟨v', w', hr, h1, h2, h3⟩ := append_run w ty B i m _ v _ vs hc hv hv1 (by omega) hB (by omega)
    refine ⟨v', w', hr, h1, h2, ?_, fun hle => ?_⟩
    · rcases h3 with h3 | h3
      · exact .inl h3
      · exact .inr h3
    · obtain ⟨g', cap', cur, h0, hb, hg, hn, hcm, hcs, hx⟩ := Row.at hs hn
      simp only [Value.slice.injEq, Option.some.injEq, Addr.mk.injEq, and_true] at h0
      obtain ⟨rfl, -, rfl⟩ := h0
      obtain ⟨i0, hi0, hz0, hz1, hz2⟩ := info_at
      obtain ⟨vb, vc, vcur, rfl, -, hvg, hvn, hvc, hvs, hvx⟩ := Row.at hv (by omega)
      have hr2 := run_append_room (P := Try.prog) w 65 ty 64 i0 u65 hi0 g i cap cur hg ⟨vb, 0, none⟩ m vc vs (by rw [hz1]; exact hv.1) (Row.src hvg hvx) hv1 (by omega) (by rw [hz1, hv.1]; omega)
      rw [append_66, hr2] at hr
      simp only [Result.ok.injEq] at hr
      exact hr.1.symm

theorem replace_end (B n m i : Nat) (s v : Value) (xs vs : List Value) (w : World) (hs : Row w B s n xs) (hv : Row w 0 v m vs) (hv1 : ∀ u ∈ vs, u.oneCell' = true) (hnil : m = 0 → v = .slice none 0 0) (hi : i < n) (hbig : n + m ≤ 8589934592) (hB : B ≤ w.heap.size) :
    Calls Try.prog 49 #[s, .int .i64 (i : Int), .int .i64 (n : Int), v] w fun e w' => ∃ v', e = .returned v' ∧ Row w' B v' (i + m) (xs.take (i * 2) ++ vs) ∧ w.grownBy w' s.ownBlock ∧ NewBlk s v' w.heap.size := by
  obtain ⟨g, cap, cur, rfl, hb, hg, hn, hc, hcs, hx⟩ := Row.at hs (by omega)
  obtain ⟨v', w1, hr, h1, h2, h3, h4⟩ := append_front w 66 B n m i g cap v xs vs hs hv hv1 hnil (by omega) (by omega) hB hbig
  have hvsh : ∃ va vc, v = .slice va m vc := by
    rcases hv.2 with ⟨h, h0⟩ | ⟨a, b, c, h, -⟩
    · exact ⟨none, 0, by rw [h, h0]⟩
    · exact ⟨_, _, h⟩
  obtain ⟨va, vc, rfl⟩ := hvsh
  have hc0 := hc
  unfold maxLen at hc
  obtain ⟨A, hcut0⟩ := cut_both g n cap i n (by omega) (by omega)
  have hcut1 := cut_hi g n cap i i rfl (by omega)
  have hin : ¬ ((i : Int) = (n : Int)) := by omega
  have HR := hid hr
  by_cases hlt : i + m < n
  · -- it is given back shorter
    obtain rfl := h4 (by omega)
    obtain ⟨g', cap', cur1, h0, hb1, hg1, hn1, hc1, hcs1, hx1⟩ : ∃ g cap0 cur, Value.slice (some ⟨_, 0, none⟩) (i + m) cap = .slice (some ⟨g, 0, none⟩) (i + m) cap0 ∧ B ≤ g ∧ w1.heap[g]? = some (.cells cur 64 (0, 0)) ∧ i + m ≤ cap0 ∧ cap0 ≤ maxLen ∧ cur.size = cap0 * 2 ∧ cur.toList.take ((i + m) * 2) = xs.take (i * 2) ++ vs := by
      rcases h1.2 with ⟨h, _⟩ | h
      · cases h
      · exact h
    simp only [Value.slice.injEq, Option.some.injEq, Addr.mk.injEq, and_true] at h0
    obtain ⟨rfl, -, rfl⟩ := h0
    obtain ⟨t, HT⟩ : ∃ t, Hid (t = i + m) := ⟨_, rfl⟩
    obtain ⟨A3, W3, hcut6, hclr, hrow, hgr⟩ := clear_run w1 B n t g cap (t : Int) (xs.take (i * 2) ++ vs) cur1 hb1 hg1 hcs1 hc1 hn (by rw [HT.out]; omega) rfl (by rw [HT.out]; exact hx1)
    have HF : Hid (Row W3 B (.slice (some ⟨g, 0, none⟩) t cap) t (xs.take (i * 2) ++ vs) ∧ w.grownBy W3 (some g)) := by
      refine ⟨hrow, ?_⟩
      exact ⟨hgr.os.trans h2.os, hgr.tape.trans h2.tape, hgr.output.trans h2.output, Nat.le_trans h2.size hgr.size, fun k hk hne => (hgr.block k (Nat.lt_of_lt_of_le hk h2.size) hne).trans (h2.block k hk hne)⟩
    have HCUT6 := hid hcut6
    have HCLR := hid hclr
    have htn : t < n := by rw [HT.out]; exact hlt
    rw [← HT.out] at HR ⊢
    clear hs hv hv1 hg hx hcs hb h1 h2 h3 h4 hr hg1 hx1 hcs1 hcut6 hclr hrow hgr hB hbig hnil HT hlt hn1
    go_enter Try.func49, Try.ntmps49
    go_upto_region 6 with (at_builtin; refine wpList_append_run _ rfl _ _ 66 65 rfl _ _ rfl rfl HR.out ?_)
    have hcut6 := HCUT6.out
    have hclr := HCLR.out
    go_wp2_with fail
    go_ret
    exact ⟨_, rfl, HF.out.1, HF.out.2, .inl rfl⟩
  · obtain ⟨g', cap', cur1, rfl, -⟩ := Row.at h1 (by omega)
    obtain ⟨t, HT⟩ : ∃ t, Hid (t = i + m) := ⟨_, rfl⟩
    rw [← HT.out] at HR h1 h3 ⊢
    have htn : ¬ ((t : Int) < (n : Int)) := by rw [HT.out]; omega
    have HF := hid (And.intro h1 (And.intro h2 h3))
    clear hs hv hv1 hg hx hcs hb h1 h2 h3 h4 hr hB hbig hnil HT hlt
    go_enter Try.func49, Try.ntmps49
    go_upto_region 6 with (at_builtin; refine wpList_append_run _ rfl _ _ 66 65 rfl _ _ rfl rfl HR.out ?_)
    go_wp2_with fail
    go_ret
    exact ⟨_, rfl, HF.out⟩
end Go.Proofs.Ytahoileampdnkaa
