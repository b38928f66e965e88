/-
  slices.Replace at runs: what is laid in is no longer than what goes.
-/
import Derived.Test.YtahoileampdnkaaOE
namespace Go.Proofs.Ytahoileampdnkaa
open Go.ChangeShapes Go.WideShapes Go.ChangeAt Go.RowKit Ru N
set_option maxHeartbeats 4000000
set_option maxRecDepth 100000

theorem replace_ins (B n m i : Nat) (s v : Value) (xs vs : List Value) (w : World) (hs : Row w B s n xs) (hv : Row w 0 v m vs) (hx1 : ∀ u ∈ xs, u.oneCell' = true) (hv1 : ∀ u ∈ vs, u.oneCell' = true) (hne : v.ownBlock ≠ s.ownBlock) (hm : 0 < m) (hi : i ≤ n) (hbig : n + m ≤ 8589934592) (hB : B ≤ w.heap.size) :
    Calls Try.prog 49 #[s, .int .i64 (i : Int), .int .i64 (i : Int), v] w fun e w' => ∃ v', e = .returned v' ∧ Row w' B v' (n + m) (xs.take (i * 2) ++ vs ++ xs.drop (i * 2)) ∧ w.grownBy w' s.ownBlock ∧ NewBlk s v' w.heap.size := by
  have HC := hid (insert_any B n m i s v xs vs w hs hv hx1 hv1 hne hm hi hbig hB)
  obtain ⟨vb, vc, vcur, rfl, -, -, -, -⟩ := Row.at hv hm
  rcases hs.2 with ⟨rfl, rfl⟩ | ⟨g, cap, cur0, rfl, hb0, hg0, hn0, hc0, hs0, ht0⟩
  · obtain rfl : i = 0 := by omega
    clear hs hv hx1 hv1 hne
    go_enter Try.func49, Try.ntmps49
    go_wp2_with fail
    refine HC.out.mono ?_
    rintro _ w1 ⟨v', rfl, h1⟩
    have HF := hid h1
    clear h1
    go_wp2_with fail
    go_ret
    exact ⟨_, rfl, HF.out⟩
  · obtain ⟨A, hcut⟩ := cut_both g n cap i i (Nat.le_refl _) (by omega)
    clear hs hv hx1 hv1 hne hg0 hs0 ht0 hb0
    unfold maxLen at hc0
    go_enter Try.func49, Try.ntmps49
    go_wp2_with fail
    refine HC.out.mono ?_
    rintro _ w1 ⟨v', rfl, h1⟩
    have HF := hid h1
    clear h1
    go_wp2_with fail
    go_ret
    exact ⟨_, rfl, HF.out⟩

/-- The end of a row is taken away, or is given back shorter. -/
theorem clear_run (w : World) (B n t g cap : Nat) (x : Int) (ys : List Value) (cur : Array Value) (hb : B ≤ g) (hg : w.heap[g]? = some (.cells cur 64 (0, 0))) (hcs : cur.size = cap * 2) (hc : cap ≤ maxLen) (hn : n ≤ cap) (ht : t ≤ n) (hx : x = (t : Int)) (hys : cur.toList.take (t * 2) = ys) :
    ∃ (A : Addr) (W : World), (∀ u : World, (Instr.sliceAt 66 (.slice (some ⟨g, 0, none⟩) n cap) (some (.int .i64 x)) none none).run Try.prog u = .ok (.slice (some A) (n - t) (cap - t)) u) ∧
      (∀ ty, (Builtin.clear_ #[66] ty #[.slice (some A) (n - t) (cap - t)]).run Try.prog w = .ok (.tuple #[]) W) ∧ Row W B (.slice (some ⟨g, 0, none⟩) t cap) t ys ∧ w.grownBy W (some g) := by
  subst hx
  have hyl : ys.length = t * 2 := by rw [← hys, List.length_take, Array.length_toList, hcs]; omega
  by_cases he : n = t
  · subst he
    obtain ⟨A, hA⟩ := cut_lo' g n cap n n rfl (Nat.le_refl _)
    refine ⟨A, w, hA, fun ty => ?_, ⟨hyl, .inr ⟨g, cap, cur, rfl, hb, hg, hn, hc, hcs, hys⟩⟩, grown_refl _ _⟩
    rw [Nat.sub_self]
    exact run_clear0 w ty _ _
  · refine ⟨⟨g, t * 2, none⟩, _, cut_lo g n cap t t rfl ht (by omega), fun ty => run_clear64 w ty g (t * 2) (n - t) (cap - t) cur hg (by omega) (by omega), ⟨hyl, .inr ⟨g, cap, _, rfl, hb, setRow_heap w g cur _ _ _ hg, by omega, hc, ?_, ?_⟩⟩, grown_row (grown_refl _ _) _⟩
    · simp only [List.size_toArray, List.length_append, List.length_take, List.length_drop, Array.length_toList, zs_len, hcs]; omega
    · rw [List.append_assoc, List.take_append_of_le_length (by rw [List.length_take, Array.length_toList]; omega), List.take_take, Nat.min_self, hys]

/-- The first copy, of nothing too. -/
theorem copy_v (w : World) (g m i : Nat) (v : Value) (vs : List Value) (cur : Array Value) (dl dc : Nat) (hg : w.heap[g]? = some (.cells cur 64 (0, 0))) (hv : Row w 0 v m vs) (hv1 : ∀ u ∈ vs, u.oneCell' = true) (hnil : m = 0 → v = .slice none 0 0) (hfit : i * 2 + m * 2 ≤ cur.size) (hd : m ≤ dl) :
    (∀ ty, ∃ q, (Builtin.copy_ #[66, 65] ty #[.slice (some ⟨g, i * 2, none⟩) dl dc, v]).run Try.prog w = .ok (goInt q) (w.setRow g (cur.toList.take (i * 2) ++ vs ++ cur.toList.drop (i * 2 + vs.length)).toArray)) := by
  intro ty
  have hvl : vs.length = m * 2 := hv.1
  by_cases hm : m = 0
  · rw [hnil hm]
    have : vs = [] := List.eq_nil_of_length_eq_zero (by omega)
    subst this
    refine ⟨0, ?_⟩
    rw [run_copy0 w _ _ ty 64 2 _ _ _ _ u66 size64]
    simp only [List.append_nil, List.length_nil, Nat.add_zero, List.take_append_drop, Array.toArray_toList]
    rw [setRow_self w g cur _ (0, 0) hg]
  · obtain ⟨vb, vc, vcur, rfl, -, hvg, hvn, hvc, hvs, hvx⟩ := Row.at hv (by omega)
    exact ⟨_, run_copyK (P := Try.prog) w 66 65 ty 64 2 g (i * 2) dl dc ⟨vb, 0, none⟩ m vc cur 64 vs u66 size64 hg (by rw [hvl, show Nat.min m dl = m from Nat.min_eq_left hd]) (Row.src hvg hvx) (by rw [hvl]; omega) hv1⟩
end Go.Proofs.Ytahoileampdnkaa
