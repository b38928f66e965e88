/-
  slices.Insert at runs.
-/
import Derived.Test.YtahoileampdnkaaOB
namespace Go.Proofs.Ytahoileampdnkaa
open Go.ChangeShapes Go.WideShapes Go.ChangeAt Go.RowKit Ru N
set_option maxHeartbeats 1000000
set_option maxRecDepth 100000

/-- An own row's shape. -/
theorem Row.at {w : World} {B n : Nat} {v : Value} {xs : List Value} (h : Row w B v n xs) (hn : 0 < n) : ∃ g cap cur, v = .slice (some ⟨g, 0, none⟩) n cap ∧ B ≤ g ∧ w.heap[g]? = some (.cells cur 64 (0, 0)) ∧ n ≤ cap ∧ cap ≤ maxLen ∧ cur.size = cap * 2 ∧ cur.toList.take (n * 2) = xs := by
  rcases h.2 with ⟨_, h0⟩ | h
  · omega
  · exact h

theorem Row.src {w : World} {n g : Nat} {xs : List Value} {cur : Array Value} (hg : w.heap[g]? = some (.cells cur 64 (0, 0))) (hx : cur.toList.take (n * 2) = xs) : ∀ j u, xs[j]? = some u → w.cell? ((⟨g, 0, none⟩ : Addr).add j) = some u := by
  intro j u hu
  rw [Addr.add_lit, Nat.zero_add, cell_of_row _ _ _ _ _ _ hg, ← Array.getElem?_toList]
  rw [← hx] at hu
  obtain ⟨h1, h2⟩ := List.getElem?_eq_some_iff.1 hu
  rw [List.getElem_take] at h2
  rw [List.length_take] at h1
  exact List.getElem?_eq_some_iff.2 ⟨by omega, h2⟩

/-- Something is laid behind a row. -/
theorem append_run (w : World) (ty : TypeId) (B n m : Nat) (s v : Value) (xs vs : List Value) (hs : Row w B s n xs) (hv : Row w 0 v m vs) (hv1 : ∀ u ∈ vs, u.oneCell' = true) (hm : 0 < m) (hB : B ≤ w.heap.size) (hbig : n + m ≤ 8589934592) :
    ∃ v' w', (Builtin.append_ #[66, 65] ty #[s, v]).run Try.prog w = .ok v' w' ∧ Row w' B v' (n + m) (xs ++ vs) ∧ w.grownBy w' s.ownBlock ∧ NewBlk s v' w.heap.size := by
  obtain ⟨vb, vc, cur, rfl, _, hg, h1, h2, h3, h4⟩ := hv.at hm
  obtain ⟨i0, hi0, hz0, hz1, hz2⟩ := info_at
  have hvl : vs.length = m * 2 := hv.1
  have hsrc := Row.src hg h4
  obtain ⟨v', w', hr, h5, h6, h7⟩ := run_append_own (P := Try.prog) w B 65 ty 64 i0 _ 2 16 u65 hi0 hz0 hz1 hz2 rfl (by decide) s n xs hs ⟨vb, 0, none⟩ m vc vs hvl hsrc hv1 (by unfold maxLen; omega) (by omega) hB
  refine ⟨v', w', by rw [append_66]; exact hr, h5, h6, ?_⟩
  -- where it lies
  obtain ⟨g', cap', cur', rfl, k1, k2, k3, k4, k5, k6⟩ := Row.at h5 (by omega)
  rcases hs.2 with ⟨rfl, rfl⟩ | ⟨g, cap, cur0, rfl, hb0, hg0, hn0, hc0, hs0, ht0⟩
  · have hr2 := run_append_nil (P := Try.prog) w 65 ty 64 i0 _ u65 hi0 hz0 ⟨vb, 0, none⟩ m vc vs (by rw [hz1]; exact hvl) hsrc hm (by omega) (by rw [hz2]; omega)
    rw [hr2] at hr
    simp only [Result.ok.injEq, Value.slice.injEq, Option.some.injEq, Addr.mk.injEq] at hr
    exact .inr ⟨g', rfl, by omega⟩
  · by_cases hroom : n + m ≤ cap
    · have hr2 := run_append_room (P := Try.prog) w 65 ty 64 i0 u65 hi0 g n cap cur0 hg0 ⟨vb, 0, none⟩ m vc vs (by rw [hz1]; exact hvl) hsrc hv1 hroom (by rw [hz1]; omega)
      rw [hr2] at hr
      simp only [Result.ok.injEq, Value.slice.injEq, Option.some.injEq, Addr.mk.injEq] at hr
      exact .inl (by simp [Value.ownBlock, hr.1.1.1])
    · have hr2 := run_append_grow (P := Try.prog) w 65 ty 64 i0 _ u65 hi0 hz0 ⟨g, 0, none⟩ n cap xs (by rw [hz1]; exact hs.1) (hs.cells (g := g) rfl) ⟨vb, 0, none⟩ m vc vs (by rw [hz1]; exact hvl) hsrc (by omega) (by omega) (growslice_fits (by omega) (by rw [hz2]; omega))
      rw [hr2] at hr
      simp only [Result.ok.injEq, Value.slice.injEq, Option.some.injEq, Addr.mk.injEq] at hr
      exact .inr ⟨g', rfl, by omega⟩

theorem insert_end (B n m : Nat) (s v : Value) (xs vs : List Value) (w : World) (hs : Row w B s n xs) (hv : Row w 0 v m vs) (hv1 : ∀ u ∈ vs, u.oneCell' = true) (hm : 0 < m) (hB : B ≤ w.heap.size) (hbig : n + m ≤ 8589934592) :
    Calls Try.prog 58 #[s, .int .i64 (n : Int), v] w fun e w' => ∃ v', e = .returned v' ∧ Row w' B v' (n + m) (xs ++ vs) ∧ w.grownBy w' s.ownBlock ∧ NewBlk s v' w.heap.size := by
  obtain ⟨v', w', hr, h1, h2, h3⟩ := append_run w 66 B n m s v xs vs hs hv hv1 hm hB hbig
  have HF : Hid (Row w' B v' (n + m) (xs ++ vs) ∧ w.grownBy w' s.ownBlock ∧ NewBlk s v' w.heap.size) := ⟨h1, h2, h3⟩
  have hm0 : ¬ ((m : Int) = 0) := by omega
  obtain ⟨vb, vc, cur, rfl, -⟩ := hv.at hm
  clear h1 h2 h3 hv hv1 hB
  have HR := hid hr
  clear hr
  rcases hs.2 with ⟨rfl, rfl⟩ | ⟨g, cap, cur0, rfl, hb0, hg0, hn0, hc0, hs0, ht0⟩
  · clear hs
    go_enter Try.func58, Try.ntmps58
    go_wp2_with (at_builtin; refine wpList_append_run _ rfl _ _ 66 65 rfl _ _ rfl rfl HR.out ?_)
    go_ret
    exact ⟨_, rfl, HF.out⟩
  · obtain ⟨A, hcut⟩ := cut_lo' g n cap n n rfl (Nat.le_refl _)
    clear hs hg0 hs0 ht0 hb0
    unfold maxLen at hc0
    go_enter Try.func58, Try.ntmps58
    go_wp2_with (at_builtin; refine wpList_append_run _ rfl _ _ 66 65 rfl _ _ rfl rfl HR.out ?_)
    go_ret
    exact ⟨_, rfl, HF.out⟩
end Go.Proofs.Ytahoileampdnkaa
