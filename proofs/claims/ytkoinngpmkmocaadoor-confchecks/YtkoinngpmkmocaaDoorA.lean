import Derived.Test.YtkoinngpmkmocaaDoorRows
import Derived.WalkKit
import Derived.ProofKit
import Derived.OpenShut
import Derived.Deep.QuietTactic
import Derived.BigQuiet
import Derived.Laws.BitsAllLaws
namespace Go.Proofs.YtkoinngpmkmocaaDoor
open Go.ChangeShapes Go.WideShapes Go.ChangeAt Go.RowKit
set_option maxHeartbeats 400000

theorem ret_int {k : IntKind} {a b : Int} (h : a = b) : Ending.returned (.int k a) = .returned (.int k b) := by rw [h]
theorem ret_bool {a b : Bool} (h : a = b) : Ending.returned (.bool a) = .returned (.bool b) := by rw [h]
theorem ret_int2 {k l : IntKind} {a b c d : Int} (h : a = b) (g : c = d) : Ending.returned (.tuple #[.int k a, .int l c]) = .returned (.tuple #[.int k b, .int l d]) := by rw [h, g]
theorem hid {p : Prop} (h : p) : Hid p := h
theorem below_drewN {B : Nat} {a w : World} (h : Below B a w) (n : Nat) : Below B a (w.drewN n) := ⟨h.os, h.tape, h.output, h.size, h.block⟩

theorem two_blocks {w w4 : World} {o1 o2 : Obj} {q : Nat} (hb : Below (((w.alloc o1).drewN q).alloc o2).heap.size (((w.alloc o1).drewN q).alloc o2) w4) :
    w4.heap[w.heap.size]? = some o1 ∧ w4.heap[w.heap.size + 1]? = some o2 ∧ Below w.heap.size w w4 := by
  have e1 : ((w.alloc o1).drewN q).heap.size = w.heap.size + 1 := by show (w.alloc o1).heap.size = _; simp
  have hsz : (((w.alloc o1).drewN q).alloc o2).heap.size = w.heap.size + 2 := by
    rw [show (((w.alloc o1).drewN q).alloc o2).heap.size = ((w.alloc o1).drewN q).heap.size + 1 from by simp, e1]
  refine ⟨?_, ?_, ?_⟩
  · rw [hb.block _ (by omega), Below.heap_alloc _ _ _ (by omega)]
    exact heap_alloc_new w o1
  · rw [hb.block _ (by omega), ← e1]
    exact heap_alloc_new _ o2
  · exact ((below_drewN ((Below.refl _ w).alloc (Nat.le_refl _) o1) q).alloc (by omega) o2).trans (hb.mono (by omega))

theorem row_two {w : World} {b : Nat} {x y : Value} {T : TypeId} (h : w.heap[b]? = some (.cells #[x, y] T (0, 0))) : w.cell? ⟨b, 0, none⟩ = some x ∧ w.cell? ⟨b, 1, none⟩ = some y ∧ w.frozen? ⟨b, 0, none⟩ = false ∧ w.frozen? ⟨b, 1, none⟩ = false ∧ b < w.heap.size := by
  refine ⟨by rw [cell_of_row w b 0 _ _ _ h]; rfl, by rw [cell_of_row w b 1 _ _ _ h]; rfl, by simp [World.frozen?, h], by simp [World.frozen?, h], (Array.getElem?_eq_some_iff.1 h).1⟩

theorem back_two {w : World} {b : Nat} {x y : Value} {T : TypeId} (h : w.heap[b]? = some (.cells #[x, y] T (0, 0))) (X Y : Value) : (w.setCell ⟨b, 0, none⟩ X).cell? ⟨b, 0, none⟩ = some X ∧ ((w.setCell ⟨b, 0, none⟩ X).setCell ⟨b, 1, none⟩ Y).cell? ⟨b, 1, none⟩ = some Y := by
  have h1 : (w.setCell ⟨b, 0, none⟩ X).heap[b]? = some (.cells #[X, y] T (0, 0)) := by simp [World.setCell, Array.getElem?_modify, h]
  have h2 : ((w.setCell ⟨b, 0, none⟩ X).setCell ⟨b, 1, none⟩ Y).heap[b]? = some (.cells #[X, Y] T (0, 0)) := by
    generalize (w.setCell ⟨b, 0, none⟩ X) = W at h1 ⊢
    simp [World.setCell, Array.getElem?_modify, h1]
  exact ⟨(row_two h1).1, (row_two h2).2.1⟩

/-- A world behind calls that made memory and wrote none of the elder. -/
structure Beh (w : World) where
  wd : World
  ok : Below w.heap.size w wd

instance (w : World) : Nonempty (Beh w) := ⟨⟨w, Below.refl _ _⟩⟩

theorem wp_region_beh {P : Program} {id : Nat} {Q : Exit → Act → World → Prop} {a : Act} {w : World} {l : List Oper} (hm : P.follows .mixedOrders = true) (hB : Region.lexB .any l.toArray = true)
    (h : wpQuiet P l.toArray (fun w' => ∃ u : Beh w, w' = u.wd) (fun a' => ∀ w', (∃ u : Beh w, w' = u.wd) → Q .normal a' w') l a) : (Code.region id l.toArray true).wp P Q a w :=
  wp_region_quiet (C := fun w' => ∃ u : Beh w, w' = u.wd) hm hB ⟨⟨_, below_drewN (Below.refl _ _) 1⟩, rfl⟩ (by simpa using h)

theorem Calls.beh {P : Program} {f : FuncId} {args : Array Value} {w : World} {u : Beh w} {v : Value}
    (h : Calls P f args u.wd fun e w' => e = .returned v ∧ Below u.wd.heap.size u.wd w') : Calls P f args u.wd fun e w'' => e = .returned v ∧ ∃ u' : Beh w, w'' = u'.wd :=
  h.mono fun _ w' ⟨he, hb⟩ => ⟨he, ⟨w', u.ok.trans (hb.mono u.ok.size)⟩, rfl⟩

theorem Beh.two {w : World} {b : Nat} {x y : Value} {T : TypeId} (h : w.heap[b]? = some (.cells #[x, y] T (0, 0))) :
    (∀ u : Beh w, u.wd.cell? ⟨b, 0, none⟩ = some x) ∧ (∀ u : Beh w, u.wd.cell? ⟨b, 1, none⟩ = some y) := by
  have hlt : b < w.heap.size := (row_two h).2.2.2.2
  constructor <;> intro u
  · exact (row_two ((u.ok.block b hlt).trans h)).1
  · exact (row_two ((u.ok.block b hlt).trans h)).2.1

end Go.Proofs.YtkoinngpmkmocaaDoor
