/-
  The tale's note.
-/
import Derived.Test.YteoebmpfdcbbmabDoorNB
namespace Go.Proofs.YteoebmpfdcbbmabDoor
open Go.ChangeShapes Go.WideShapes Go.ChangeAt Go.RowKit Jn N
set_option maxHeartbeats 4000000
set_option maxRecDepth 100000

theorem note_some {w u : World} {S : Nat → Prop} {p : Nat} {l : Lg} {q : Nat} {C : Nat → Prop} {vG vP vR : Value} {Gs : List Value} {X : List Pt3} {Gc : List (List (List Nat))} {R : List (List Nat)} {P : Pts} {sz wr : Nat} (h : TaX w u S p l q C vG vP vR Gs X Gc R P sz wr) (hgl : Gs.length = Gc.length + 1) (bX : X.length + 1 ≤ 4000000000000) (bG : Gs.length ≤ 4000000000000) :
    Calls Tryd.prog 44 #[.pointer (some ⟨q, 0, none⟩)] u fun e u' => e = .returned (.tuple #[]) ∧ ∃ vG' vP' Gs' X', TaX w u' S p l q C vG' vP' vR Gs' X' Gc R (P ++ [(wr, R)]) sz wr ∧ Gs'[Gc.length]? = some vR ∧ Gs'.length = Gc.length + 1 ∧ X'.length = X.length + 1 := by
  obtain ⟨k, hk⟩ : ∃ k, k = Gc.length := ⟨_, rfl⟩
  obtain ⟨ag, cg, rfl, hcg1, hcg2⟩ := row_shape h.fg
  obtain ⟨y, hy⟩ : ∃ y, Gs[k]? = some y := ⟨_, List.getElem?_eq_getElem (by omega)⟩
  obtain ⟨g, rfl, hgB, hgl', hgf, hgc⟩ := row_cell h.fg hy
  obtain ⟨ay, ny, cy, rfl⟩ := h.sl _ (List.mem_of_getElem? hy)
  obtain ⟨H0, hset⟩ := h.setGen hgl
  have H1 := H0.below (below_drew (Below.refl _ _))
  rw [← hk] at H1 hset
  clear H0
  obtain ⟨ap, cp, rfl, hcp1, hcp2⟩ := row_shape h.fp
  obtain ⟨ar, nr, cr, rfl, HNR, hcr1, hcr2⟩ := h.fr.sees.shape
  obtain ⟨c0, c1, c2, c3, c4, cf⟩ := ta_cells h.row
  obtain ⟨d0, d1, d2, d3, d4, df⟩ := ta_cells H1.row
  obtain ⟨u1, hu1⟩ : ∃ u1, u1 = (u.setCell ⟨g, k, none⟩ (.slice ar nr cr)).drew := ⟨_, rfl⟩
  rw [← hu1] at H1 d0 d1 d2 d3 d4 df
  have HU1 := hid hu1
  obtain ⟨n, hn⟩ : ∃ n, n = Gs.length := ⟨_, rfl⟩
  rw [← hn] at hgl bG hcg1 c0 d0
  obtain ⟨m, hm⟩ : ∃ m, m = X.length := ⟨_, rfl⟩
  obtain ⟨W, HW⟩ : ∃ W, Hid (W = (u1.alloc (.cells #[.int .i64 (k : Int), .int .i64 (nr : Int), .int .i64 (wr : Int)] 94)).drew) := ⟨_, rfl⟩
  have hbW : Below u1.heap.size u1 W := by rw [HW.out]; exact below_drew ((Below.refl _ _).alloc (Nat.le_refl _) _)
  have HNEW : Hid (∀ (i : Nat) x, [Value.int .i64 (k : Int), .int .i64 (nr : Int), .int .i64 (wr : Int)][i]? = some x → W.cell? ((⟨u1.heap.size, 0, none⟩ : Addr).add i) = some x) := by
    have h1 : W.heap[u1.heap.size]? = some (.cells #[.int .i64 (k : Int), .int .i64 (nr : Int), .int .i64 (wr : Int)] 94 (0, 0)) := by rw [HW.out]; exact heap_alloc_new u1 _
    exact World.news_of_block h1
  have hsW : W.heap.size = u1.heap.size + 1 := by rw [HW.out]; exact World.size_alloc _ _
  obtain ⟨i0, hi0, hz0, hz1, hz2⟩ := info_parts infoPt
  have HI := hid hi0
  have hC3 : m + 1 ≤ maxLen := by unfold maxLen; omega
  have hC : (m + 1) * 24 ≤ 140737488355328 := by omega
  have hC4 : w.heap.size ≤ W.heap.size := (H1.below hbW).jr.be.size
  have HOWN : Hid (W.ownsRow w.heap.size 94 3 (.slice ap m cp) m (X.flatMap ptc)) := by rw [hm]; exact (H1.below hbW).fp
  have hnr : nr = R.length := HNR.out
  have HFIN : Hid (∀ (w6 : World) (g6 cap6 : Nat), w6.ownsRow w.heap.size 94 3 (.slice (some ⟨g6, 0, none⟩) (m + 1) cap6) (m + 1) (X.flatMap ptc ++ [.int .i64 (k : Int), .int .i64 (nr : Int), .int .i64 (wr : Int)]) → W.grownBy w6 (Value.ownBlock (.slice ap m cp)) → (Value.ownBlock (.slice ap m cp) = some g6 ∨ g6 = u1.heap.size + 1) → TaX w (w6.setCell ⟨q, 1, none⟩ (.slice (some ⟨g6, 0, none⟩) (m + 1) cap6)) S p l q C (.slice (some ⟨g, 0, none⟩) n cg) (.slice (some ⟨g6, 0, none⟩) (m + 1) cap6) (.slice ar nr cr) (Gs.set k (.slice ar nr cr)) (X ++ [⟨Gc.length, R.length, wr⟩]) Gc R (P ++ [(wr, R)]) sz wr) := by
    intro w6 g6 cap6 ho6 hg6 hat6
    rw [hn]
    rw [hm] at ho6 hg6 hat6 ⊢
    refine H1.point hbW ?_ hg6 (hat6.imp id (fun e => by omega))
    rw [List.length_append, List.flatMap_append, ← hnr, ← hk]
    exact ho6
  have HROW : Hid (∀ (w6 : World), W.grownBy w6 (Value.ownBlock (.slice ap m cp)) → w6.heap[q]? = some (taRow (.slice (some ⟨g, 0, none⟩) n cg) (.slice ap m cp) (.slice ar nr cr) sz wr)) := fun w6 hg6 => by
    rw [hn]
    rw [hm] at hg6 ⊢
    exact (hg6.block q (Nat.lt_of_lt_of_le H1.lt.1 hbW.size) (fun e => H1.ne.2.1 e.symm)).trans (H1.below hbW).row
  rw [← hm] at c1 d1
  have HSET : Hid ((Gs.set k (.slice ar nr cr))[Gc.length]? = some (.slice ar nr cr)) := by rw [hk] at hset; rw [hk]; exact hset
  have HLEN : Hid ((Gs.set k (.slice ar nr cr)).length = Gc.length + 1) := by unfold Hid; rw [List.length_set]; omega
  have HXL : Hid ((X ++ [(⟨Gc.length, R.length, wr⟩ : Pt3)]).length = X.length + 1) := by unfold Hid; simp
  have hql := h.lt.1
  have hql1 := H1.lt.1
  have hkn : k < n := by omega
  have hnk : (n : Int) - 1 = (k : Int) := by omega
  clear h H1 hset hu1 hn hm hi0 hnr hy hk hgl HNR hbW
  go_enter Tryd.func44, Tryd.ntmps44
  go_upto_region 3 with fail
  refine wp_region_still_tail 10 (by kernel_rfl) (by kernel_rfl) ?_
  simp only [List.take_succ_cons, List.take_zero, List.drop_succ_cons, List.drop_zero]
  iterate 10 still_step
  refine wpStill_nil ?_
  go_upto_region 4 with fail
  rw [← HU1.out]
  go_region_law (first
    | (rw [← HW.out]; refine step_append_lies _ (by rfl) _ _ _ (by rfl) w.heap.size 94 i0 (.agg #[.int .i64 0, .int .i64 0, .int .i64 0]) 3 24 (by kernel_rfl) HI.out hz0 hz1 hz2 rfl (by omega) (.slice ap m cp) m (X.flatMap ptc) (by rfl) HOWN.out ⟨u1.heap.size, 0, none⟩ 1 1 [.int .i64 (k : Int), .int .i64 (nr : Int), .int .i64 (wr : Int)] (by rfl) (by rfl) HNEW.out (by simp [Value.oneCell']) (by omega) hC3 hC hC4 (u1.heap.size + 1) hsW ?_; intro g6 cap6 w6 hown6 hgrow hat6 hlt6; obtain ⟨-, k1, -, -, -, kf⟩ := ta_cells (HROW.out w6 hgrow))
    | fail)
  all_goals (
    have HE := hid (HFIN.out w6 g6 cap6 hown6 hgrow hat6)
    clear hown6 hgrow hat6 hlt6
    go_wp2_with fail
    exact bodyPost_end (results_none Tryd.results44 _ _ _) rfl ⟨rfl, _, _, _, _, HE.out, HSET.out, HLEN.out, HXL.out⟩)
end Go.Proofs.YteoebmpfdcbbmabDoor
