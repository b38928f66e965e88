/-
  Own lists that are written and grown in place; own lists of lists.
-/
import Derived.Test.YtahoileampdnkaaMR
import Derived.Test.YtahoileampdnkaaHA
namespace Go.Proofs.Ytahoileampdnkaa
open Go.ChangeShapes Go.WideShapes Go.ChangeAt Go.RowKit Ru N Tri
set_option maxHeartbeats 1000000
set_option maxRecDepth 100000

theorem pc_cons (p : Nat × Int) (L : List (Nat × Int)) : pc (p :: L) = .int .u32 (p.1 : Int) :: .int .i64 p.2 :: pc L := by simp [pc]

theorem pc_set : ∀ (L : List (Nat × Int)) (k a : Nat) (b : Int), k < L.length → pc (L.set k (a, b)) = ((pc L).set (k * 2) (.int .u32 (a : Int))).set (k * 2 + 1) (.int .i64 b)
  | p :: L, 0, a, b, _ => by simp [pc_cons]
  | p :: L, k + 1, a, b, h => by
    rw [List.set_cons_succ, pc_cons, pc_cons, pc_set L k a b (by simpa using h), show (k + 1) * 2 = k * 2 + 1 + 1 by omega]
    simp

/-- An element is written in its place. -/
theorem OwnP.put {w : World} {B g n cap k a : Nat} {b : Int} {L : List (Nat × Int)} (h : OwnP w B (.slice (some ⟨g, 0, none⟩) n cap) L) (hk : k < L.length) :
    OwnP ((w.setCell ⟨g, k * 2, none⟩ (.int .u32 (a : Int))).setCell ⟨g, k * 2 + 1, none⟩ (.int .i64 b)) B (.slice (some ⟨g, 0, none⟩) n cap) (L.set k (a, b)) := by
  rcases h.2 with ⟨h0, _⟩ | ⟨g', cap', cur, h0, hbb, hg, h1, h2, h3, h4⟩
  · cases h0
  · simp only [Value.slice.injEq, Option.some.injEq, Addr.mk.injEq, and_true] at h0
    obtain ⟨rfl, rfl, rfl⟩ := h0
    have hr := set_cells (i := k * 2 + 1) (v := .int .i64 b) (set_cells (i := k * 2) (v := .int .u32 (a : Int)) hg)
    unfold OwnP
    rw [List.length_set]
    refine ⟨by rw [pc_set L k a b hk]; simpa using h.1, .inr ⟨g, cap, _, rfl, hbb, hr, h1, h2, by simpa using h3, ?_⟩⟩
    rw [pc_set L k a b hk, ← h4, Array.toList_setIfInBounds, Array.toList_setIfInBounds, List.take_set, List.take_set]

/-- What may be written there. -/
theorem OwnP.place {w : World} {B g n cap k : Nat} {L : List (Nat × Int)} (h : OwnP w B (.slice (some ⟨g, 0, none⟩) n cap) L) (hk : k < L.length) :
    w.cell? ⟨g, k * 2, none⟩ = some (.int .u32 (L[k].1 : Int)) ∧ w.cell? ⟨g, k * 2 + 1, none⟩ = some (.int .i64 L[k].2) ∧ w.frozen? ⟨g, k * 2, none⟩ = false ∧ w.frozen? ⟨g, k * 2 + 1, none⟩ = false := by
  obtain ⟨ao, cap', hv, _, _, h3⟩ := h.sees
  simp only [Value.slice.injEq] at hv
  obtain ⟨rfl, -, -⟩ := hv
  obtain ⟨g', off, e, _, c0, c1⟩ := h3 k hk
  simp only [Option.some.injEq, Addr.mk.injEq, and_true] at e
  obtain ⟨rfl, rfl⟩ := e
  rw [Nat.zero_add] at c0 c1
  rcases h.2 with ⟨h0, _⟩ | ⟨g', cap', cur, h0, hbb, hg, _⟩
  · cases h0
  · simp only [Value.slice.injEq, Option.some.injEq, Addr.mk.injEq, and_true] at h0
    obtain ⟨rfl, -, -⟩ := h0
    exact ⟨c0, c1, frozen_of_row _ _ _ _ _ hg, frozen_of_row _ _ _ _ _ hg⟩

/-- One is laid behind where there is room: in the same block. -/
theorem append_room_p (w : World) (ty : TypeId) (B g n cap b a : Nat) (c : Int) (L : List (Nat × Int)) (hv : OwnP w B (.slice (some ⟨g, 0, none⟩) n cap) L) (hu : Sees w (.slice (some ⟨b, 0, none⟩) 1 1) [(a, c)]) (hB : B ≤ w.heap.size) (hbig : L.length + 1 ≤ 8589934592) (hroom : n + 1 ≤ cap) :
    ∃ w', (Builtin.append_ #[26, 26] ty #[.slice (some ⟨g, 0, none⟩) n cap, .slice (some ⟨b, 0, none⟩) 1 1]).run Try.prog w = .ok (.slice (some ⟨g, 0, none⟩) (n + 1) cap) w' ∧ OwnP w' B (.slice (some ⟨g, 0, none⟩) (n + 1) cap) (L ++ [(a, c)]) ∧ w.grownBy w' (some g) ∧ w'.heap.size = w.heap.size := by
  obtain ⟨v', w', hr, ho, hg⟩ := append_pref w ty B _ _ L [(a, c)] hv hu hB (by simp only [List.length_cons, List.length_nil]; omega)
  obtain ⟨i0, hi0, hz0, hz1, hz2⟩ := infoPr_at
  rcases hv.2 with ⟨h0, _⟩ | ⟨g', cap', cur, h0, hbb, hgg, h1, h2, h3, h4⟩
  · cases h0
  · simp only [Value.slice.injEq, Option.some.injEq, Addr.mk.injEq, and_true] at h0
    obtain ⟨rfl, rfl, rfl⟩ := h0
    have hsrc : ∀ j u, (pc [(a, c)])[j]? = some u → w.cell? ((⟨b, 0, none⟩ : Addr).add j) = some u := fun j u hj => by
      obtain ⟨ao, cap2, hv2, _, _, hh⟩ := hu
      simp only [Value.slice.injEq] at hv2
      obtain ⟨rfl, -, -⟩ := hv2
      obtain ⟨g2, off2, e, _, c0, c1⟩ := hh 0 (by simp)
      simp only [Option.some.injEq, Addr.mk.injEq, and_true] at e
      obtain ⟨rfl, rfl⟩ := e
      rw [Addr.add_lit]
      match j, hj with
      | 0, hj => simp [pc] at hj; rw [← hj]; exact c0
      | 1, hj => simp [pc] at hj; rw [← hj]; exact c1
      | j + 2, hj => simp [pc] at hj
    have hr2 := run_append_room (P := Try.prog) w 26 ty 25 i0 u26 hi0 g L.length cap cur hgg ⟨b, 0, none⟩ 1 1 (pc [(a, c)]) (by rw [hz1]; rfl) hsrc (pc_one _) hroom (by rw [hz1, h3]; simp only [pc_len, List.length_cons, List.length_nil]; omega)
    rw [hr2] at hr
    simp only [Result.ok.injEq] at hr
    obtain ⟨rfl, rfl⟩ := hr
    exact ⟨_, hr2, ho, hg, by simp [World.setRow]⟩
end Go.Proofs.Ytahoileampdnkaa
