/-
  own, disk, write.
-/
import Derived.Test.YteoebmpfdcbbmacDoorJL
namespace Go.Proofs.YteoebmpfdcbbmacDoor
open Go.ChangeShapes Go.WideShapes Go.ChangeAt Go.RowKit Jn N
set_option maxHeartbeats 4000000
set_option maxRecDepth 100000

theorem ar_put {u : World} {b : Nat} {C : Array Value} {T : TypeId} (hC : C.size = 2) (h : u.heap[b]? = some (.cells C T (0, 0))) (x y : Value) :
    ((u.setCell ⟨b, 0, none⟩ x).setCell ⟨b, 1, none⟩ y).heap[b]? = some (.cells #[x, y] T (0, 0)) ∧ Keeps (At1 b) u ((u.setCell ⟨b, 0, none⟩ x).setCell ⟨b, 1, none⟩ y) := by
  refine ⟨?_, ((Keeps.refl (At1 b) u).set ⟨b, 0, none⟩ rfl x).set ⟨b, 1, none⟩ rfl y⟩
  rw [set_cells (set_cells h)]
  congr 2
  obtain ⟨l⟩ := C
  match l, hC with
  | [c0, c1], _ => rfl

theorem ar_cells {u : World} {b : Nat} {x y : Value} {T : TypeId} (h : u.heap[b]? = some (.cells #[x, y] T (0, 0))) : u.cell? ⟨b, 0, none⟩ = some x ∧ u.cell? ⟨b, 1, none⟩ = some y ∧ u.frozen? ⟨b, 0, none⟩ = false ∧ u.frozen? ⟨b, 1, none⟩ = false :=
  ⟨by rw [cell_of_row _ _ _ _ _ _ h]; rfl, by rw [cell_of_row _ _ _ _ _ _ h]; rfl, frozen_of_row _ _ _ _ _ h, frozen_of_row _ _ _ _ _ h⟩

theorem disk_any (x y : Value) (w : World) (hx : ∃ a n c, x = .slice a n c) (hy : ∃ a n c, y = .slice a n c) :
    Calls Tryd.prog 53 #[.agg #[x, y]] w fun e w' => e = .returned (.agg #[x, y]) ∧ Below w.heap.size w w' := by
  obtain ⟨a, n, c, rfl⟩ := hx
  obtain ⟨a', n', c', rfl⟩ := hy
  go_enter Tryd.func53, Tryd.ntmps53
  go_wp2_with fail
  refine bodyPost_ret (v := .agg #[.slice a n c, .slice a' n' c']) (by simp [results, Tryd.results53, go_sem]) rfl ⟨rfl, ?_⟩
  exact ((Below.refl _ _).alloc (Nat.le_refl _) _).alloc (by simp) _

/-- Both areas in memory of their own. -/
structure Owns (w w' : World) (ga gb : Nat) (A B : List Nat) : Prop where
  be : Below w.heap.size w w'
  la : w.heap.size ≤ ga
  lb : w.heap.size ≤ gb
  ne : ga ≠ gb
  a : Blk w' ga 5 A
  b : Blk w' gb 5 B

theorem own_any (x y : Value) (A B : List Nat) (w : World) (hx : SeesB w x A) (hy : SeesB w y B) (hA : A.length ≤ 1099511627776) (hB : B.length ≤ 1099511627776) :
    Calls Tryd.prog 37 #[.agg #[x, y]] w fun e w' => ∃ ga gb, e = .returned (.agg #[.slice (some ⟨ga, 0, none⟩) A.length A.length, .slice (some ⟨gb, 0, none⟩) B.length B.length]) ∧ Owns w w' ga gb A B := by
  obtain ⟨a0, n0, c0, rfl, HN0, -, -⟩ := hx.shape
  obtain ⟨a1, n1, c1, rfl, HN1, -, -⟩ := hy.shape
  obtain ⟨xb, HXB⟩ : ∃ xb, Hid (xb = w.heap.size) := ⟨_, rfl⟩
  obtain ⟨W, HW⟩ : ∃ W, Hid (W = (w.alloc (.cells #[.slice a0 n0 c0, .slice a1 n1 c1] 65)).alloc (.cells #[.slice none 0 0, .slice none 0 0] 65)) := ⟨_, rfl⟩
  have hbW : Below w.heap.size w W := by rw [HW.out]; exact ((Below.refl _ _).alloc (Nat.le_refl _) _).alloc (by simp) _
  have hsW : W.heap.size = w.heap.size + 2 := by rw [HW.out]; simp
  have hx0 : W.heap[w.heap.size]? = some (.cells #[.slice a0 n0 c0, .slice a1 n1 c1] 65 (0, 0)) := by
    have h1 : Below (w.heap.size + 1) (w.alloc (.cells #[.slice a0 n0 c0, .slice a1 n1 c1] 65)) W := by rw [HW.out]; exact (Below.refl _ _).alloc (by simp) _
    rw [h1.block _ (by omega)]
    exact heap_alloc_new w _
  have hx1 : W.heap[w.heap.size + 1]? = some (.cells #[.slice none 0 0, .slice none 0 0] 65 (0, 0)) := by
    rw [HW.out]
    have := heap_alloc_new (w.alloc (.cells #[.slice a0 n0 c0, .slice a1 n1 c1] 65)) (.cells #[.slice none 0 0, .slice none 0 0] 65)
    rw [World.size_alloc] at this
    exact this
  have HC : Hid (∀ (u : World) (v : Value) (L : List Nat), Below W.heap.size W u → (v = .slice a0 n0 c0 ∧ L = A ∨ v = .slice a1 n1 c1 ∧ L = B) → Calls Tryd.prog 62 #[v] u fun e w' => ∃ g : Nat, e = .returned (.slice (some ⟨g, 0, none⟩) L.length L.length) ∧ u.heap.size ≤ g ∧ Blk w' g 5 L ∧ Below u.heap.size u w') := by
    rintro u v L hu (⟨rfl, rfl⟩ | ⟨rfl, rfl⟩)
    · exact copied_any _ _ u ((hx.below hbW).below hu) hA
    · exact copied_any _ _ u ((hy.below hbW).below hu) hB
  have y0 : ∀ u : World, Below W.heap.size W u → u.cell? ⟨xb, 0, none⟩ = some (.slice a0 n0 c0) := fun u hu => by rw [HXB.out, cell_of_row _ _ _ _ _ _ (below_keeps hu hx0 (by omega))]; rfl
  have y1 : ∀ u : World, Below W.heap.size W u → u.cell? ⟨xb, 1, none⟩ = some (.slice a1 n1 c1) := fun u hu => by rw [HXB.out, cell_of_row _ _ _ _ _ _ (below_keeps hu hx0 (by omega))]; rfl
  have z0 : W.cell? ⟨xb, 0, none⟩ = some (.slice a0 n0 c0) := y0 W (Below.refl _ _)
  have z1 : W.cell? ⟨xb, 1, none⟩ = some (.slice a1 n1 c1) := y1 W (Below.refl _ _)
  have X1 := hid (fun (u : World) (hu : Below W.heap.size W u) => below_keeps hu hx1 (by omega))
  have HBW := hid hbW
  clear hx hy hx0 hx1 hbW
  go_enter Tryd.func37, Tryd.ntmps37
  go_upto_region 1 with fail
  rw [← HW.out, ← HXB.out]
  rw [← HXB.out] at X1
  clear HN0 HN1
  go_region_with (first
    | (have hbx := hb1; go_at_call 62; refine (HC.out _ _ B ?_ (.inr ⟨rfl, rfl⟩)).mono ?_; exact hb1; rintro _ w2 ⟨g1, rfl, hg1, hB1, hb2⟩; obtain ⟨k0, k1, k2, k3⟩ := ar_cells (X1.out w2 (hb1.trans (hb2.mono hb1.size))))
    | (go_at_call 62; refine (HC.out _ _ A ?_ (.inl ⟨rfl, rfl⟩)).mono ?_; exact below_drew (Below.refl _ _); rintro _ w1 ⟨g0, rfl, hg0, hB0, hb0⟩; have hb1 : Below W.heap.size W w1 := ⟨hb0.os, hb0.tape, hb0.output, hb0.size, hb0.block⟩; have q1 := y1 w1 hb1)
    | fail)
  all_goals (
    go_wp2_with fail
    obtain ⟨hU, hkU⟩ := ar_put (C := #[.slice none 0 0, .slice none 0 0]) rfl (X1.out w2 (hb1.trans (hb2.mono hb1.size))) (.slice (some ⟨g0, 0, none⟩) A.length A.length) (.slice (some ⟨g1, 0, none⟩) B.length B.length)
    generalize ((w2.setCell ⟨xb + 1, 0, none⟩ (.slice (some ⟨g0, 0, none⟩) A.length A.length)).setCell ⟨xb + 1, 1, none⟩ (.slice (some ⟨g1, 0, none⟩) B.length B.length)) = U at *
    obtain ⟨j0, j1, -, -⟩ := ar_cells hU
    refine bodyPost_ret (v := .agg #[.slice (some ⟨g0, 0, none⟩) A.length A.length, .slice (some ⟨g1, 0, none⟩) B.length B.length]) (by simp [results, Tryd.results37, go_sem, j0, j1]) rfl ⟨g0, g1, rfl, ?_⟩
    have hs0 : W.heap.size ≤ g0 := hg0
    have hl0 := hB0.lt
    have hx := HXB.out
    have hb3 := HBW.out.trans ((hb1.trans (hb2.mono hb1.size)).mono HBW.out.size)
    exact ⟨hkU.below hb3 hb3.size (fun k hk e => by unfold At1 at e; omega), by omega, by omega, by omega, (hB0.below hb2 hl0).keep hkU (by unfold At1; omega), hB1.keep hkU (by unfold At1; omega)⟩)
end Go.Proofs.YteoebmpfdcbbmacDoor
