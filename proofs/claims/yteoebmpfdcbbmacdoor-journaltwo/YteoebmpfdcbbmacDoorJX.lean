/-
  Open: both areas are read.
-/
import Derived.Test.YteoebmpfdcbbmacDoorJU
import Derived.Test.YteoebmpfdcbbmacDoorJV
namespace Go.Proofs.YteoebmpfdcbbmacDoor
open Go.ChangeShapes Go.WideShapes Go.ChangeAt Go.RowKit Jn N
set_option maxHeartbeats 4000000
set_option maxRecDepth 100000

theorem field_dk (b : Nat) (u : World) : (Instr.fieldAt 24 (.pointer (some ⟨b, 0, none⟩)) 0).run Tryd.prog u = .ok (.pointer (some ⟨b, 0, none⟩)) u ∧ (Instr.fieldAt 24 (.pointer (some ⟨b, 0, none⟩)) 1).run Tryd.prog u = .ok (.pointer (some ⟨b, 1, none⟩)) u := ⟨by kernel_rfl, by kernel_rfl⟩
def zero8 : Array Value := #[.int .i64 0, .int .u32 0, .slice none 0 0, .int .i64 0, .int .i64 0, .int .u32 0, .slice none 0 0, .int .i64 0]
theorem alloc_c2 (u : World) : (Instr.alloc 71 true (.tuple #[])).run Tryd.prog u = .ok (.pointer (some ⟨u.heap.size, 0, none⟩)) (u.alloc (.cells zero8 71)) := by kernel_rfl
theorem ex_alloc {P : Program} {o : Oper} {a : Act} {w w' : World} {v : Value} (T : TypeId) (ho : o.op = .alloc T) (hr : (Instr.alloc T true (.tuple #[])).run P w = .ok v w') : (execOp a.eval o).run P w = .ok (.value v) w' := by
  unfold execOp
  simp only [ho, Sem.run_bind, hr, Result.andThen_ok, Sem.run_pure]
theorem build_c2 (s0 g0 f0 s1 g1 f1 : Nat) (a0 a1 : Option Addr) (n0 c0 n1 c1 : Nat) (u : World) : (Instr.build 71 #[(0, ctV s0 g0 (.slice a0 n0 c0) f0), (1, ctV s1 g1 (.slice a1 n1 c1) f1)]).run Tryd.prog u = .ok (ct2 s0 g0 (.slice a0 n0 c0) f0 s1 g1 (.slice a1 n1 c1) f1) u := by
  unfold ctV ct2
  simp [Instr.build, run_underlying Tryd.underlying71, go_sem]

/-- What the operations of the reading yield. -/
def Fo (l : List Value) (w : World) (B : Nat) (c0 c1 : Ct) (i : Nat) (v : Value) (u : World) : Prop :=
  (i = 2 → ∃ vr, v = ctV c0.st c0.gen vr c0.fin ∧ RecsAt w B u vr c0.recs) ∧
  (i = 5 → ∃ vr, v = ctV c1.st c1.gen vr c1.fin ∧ RecsAt w B u vr c1.recs) ∧
  (i = 6 → ∃ vr0 vr1, v = ct2 c0.st c0.gen vr0 c0.fin c1.st c1.gen vr1 c1.fin ∧ RecsAt w B u vr0 c0.recs ∧ RecsAt w B u vr1 c1.recs) ∧
  (i = 7 → ∃ q, v = .pointer (some ⟨q, 0, none⟩) ∧ B ≤ q ∧ u.heap[q]? = some (.cells zero8 71 (0, 0))) ∧
  (i ≠ 2 → i ≠ 5 → i ≠ 6 → i ≠ 7 → l[i]? = some v)
theorem Fo.keeps {l : List Value} {w : World} {B : Nat} {c0 c1 : Ct} : ∀ i v (u u' : World), Fo l w B c0 c1 i v u → Below u.heap.size u u' → Fo l w B c0 c1 i v u' := by
  intro i v u u' h hb
  refine ⟨fun e => ?_, fun e => ?_, fun e => ?_, fun e => ?_, h.2.2.2.2⟩
  · obtain ⟨vr, e1, e2⟩ := h.1 e; exact ⟨vr, e1, e2.below hb⟩
  · obtain ⟨vr, e1, e2⟩ := h.2.1 e; exact ⟨vr, e1, e2.below hb⟩
  · obtain ⟨vr0, vr1, e1, e2, e3⟩ := h.2.2.1 e; exact ⟨vr0, vr1, e1, e2.below hb, e3.below hb⟩
  · obtain ⟨q, e1, e2, e3⟩ := h.2.2.2.1 e; exact ⟨q, e1, e2, below_keeps hb e3 (Array.getElem?_eq_some_iff.1 e3).1⟩
theorem Fo.lit {l : List Value} {w u : World} {B : Nat} {c0 c1 : Ct} {i : Nat} {v : Value} (h : i ≠ 2 ∧ i ≠ 5 ∧ i ≠ 6 ∧ i ≠ 7) (hv : l[i]? = some v) : Fo l w B c0 c1 i v u := ⟨fun e => absurd e h.1, fun e => absurd e h.2.1, fun e => absurd e h.2.2.1, fun e => absurd e h.2.2.2, fun _ _ _ _ => hv⟩
theorem Fo.dep {l : List Value} {w u : World} {B : Nat} {c0 c1 : Ct} {a : Act} {t : Operand} {x y : Value} {i : Nat} (h : a.eval t = x ∧ Fo l w B c0 c1 i x u) (hi : i ≠ 2 ∧ i ≠ 5 ∧ i ≠ 6 ∧ i ≠ 7) (hy : l[i]? = some y) : a.eval t = y := by
  have h2 := h.2.2.2.2.2 hi.1 hi.2.1 hi.2.2.1 hi.2.2.2
  rw [hy] at h2
  rw [h.1]
  exact (Option.some.inj h2).symm

/-- Both areas are read: q holds what they tell. -/
structure OpA (w : World) (B q : Nat) (c0 c1 : Ct) (vr0 vr1 : Value) (W u : World) : Prop where
  be : Below W.heap.size W u
  ql : B ≤ q
  row : u.heap[q]? = some (.cells #[.int .i64 (c0.st : Int), .int .u32 (c0.gen : Int), vr0, .int .i64 (c0.fin : Int), .int .i64 (c1.st : Int), .int .u32 (c1.gen : Int), vr1, .int .i64 (c1.fin : Int)] 71 (0, 0))
  r0 : RecsAt w B u vr0 c0.recs
  r1 : RecsAt w B u vr1 c1.recs

theorem OwnS.ne_of {w : World} {B b : Nat} {v : Value} {Vs : List Value} {cs : Array Value} {T : TypeId} (h : OwnS w B v Vs) (hp : w.heap[b]? = some (.cells cs T (0, 0))) (hT : T ≠ 22) : v.ownBlock ≠ some b := by
  intro e
  rcases h.2 with ⟨rfl, _⟩ | ⟨g', cap', cur', rfl, _, hgg, _⟩
  · cases e
  · simp [Value.ownBlock] at e
    rw [e, hp] at hgg
    simp at hgg
    exact hT hgg.2

theorem c8_put {u : World} {b : Nat} (h : u.heap[b]? = some (.cells zero8 71 (0, 0))) (x0 x1 x2 x3 x4 x5 x6 x7 : Value) :
    ((((((((u.setCell ⟨b, 0, none⟩ x0).setCell ⟨b, 1, none⟩ x1).setCell ⟨b, 2, none⟩ x2).setCell ⟨b, 3, none⟩ x3).setCell ⟨b, 4, none⟩ x4).setCell ⟨b, 5, none⟩ x5).setCell ⟨b, 6, none⟩ x6).setCell ⟨b, 7, none⟩ x7).heap[b]? = some (.cells #[x0, x1, x2, x3, x4, x5, x6, x7] 71 (0, 0)) ∧ Keeps (At1 b) u ((((((((u.setCell ⟨b, 0, none⟩ x0).setCell ⟨b, 1, none⟩ x1).setCell ⟨b, 2, none⟩ x2).setCell ⟨b, 3, none⟩ x3).setCell ⟨b, 4, none⟩ x4).setCell ⟨b, 5, none⟩ x5).setCell ⟨b, 6, none⟩ x6).setCell ⟨b, 7, none⟩ x7) := by
  refine ⟨?_, (((((((((Keeps.refl (At1 b) u).set ⟨b, 0, none⟩ rfl x0).set ⟨b, 1, none⟩ rfl x1).set ⟨b, 2, none⟩ rfl x2).set ⟨b, 3, none⟩ rfl x3).set ⟨b, 4, none⟩ rfl x4).set ⟨b, 5, none⟩ rfl x5).set ⟨b, 6, none⟩ rfl x6).set ⟨b, 7, none⟩ rfl x7)⟩
  rw [set_cells (set_cells (set_cells (set_cells (set_cells (set_cells (set_cells (set_cells h)))))))]
  rfl
theorem RecsAt.keepsT {w0 u u' : World} {B b : Nat} {vr : Value} {recs : List (List Nat)} {cs : Array Value} {T : TypeId} (h : RecsAt w0 B u vr recs) (hb : Keeps (At1 b) u u') (hp : u.heap[b]? = some (.cells cs T (0, 0))) (hT : T ≠ 22) : RecsAt w0 B u' vr recs := by
  obtain ⟨Vs, h1, h2, h3⟩ := h
  exact ⟨Vs, h1.keeps hb (fun k hk e => h1.ne_of hp hT (by unfold At1 at e; rw [← e]; exact hk)), h2, h3⟩
theorem c8_cells {u : World} {b : Nat} {x0 x1 x2 x3 x4 x5 x6 x7 : Value} {T : TypeId} (h : u.heap[b]? = some (.cells #[x0, x1, x2, x3, x4, x5, x6, x7] T (0, 0))) : u.cell? ⟨b, 0, none⟩ = some x0 ∧ u.cell? ⟨b, 1, none⟩ = some x1 ∧ u.cell? ⟨b, 2, none⟩ = some x2 ∧ u.cell? ⟨b, 3, none⟩ = some x3 ∧ u.cell? ⟨b, 4, none⟩ = some x4 ∧ u.cell? ⟨b, 5, none⟩ = some x5 ∧ u.cell? ⟨b, 6, none⟩ = some x6 ∧ u.cell? ⟨b, 7, none⟩ = some x7 ∧ ∀ i, u.frozen? ⟨b, i, none⟩ = false :=
  ⟨by rw [cell_of_row _ _ _ _ _ _ h]; rfl, by rw [cell_of_row _ _ _ _ _ _ h]; rfl, by rw [cell_of_row _ _ _ _ _ _ h]; rfl, by rw [cell_of_row _ _ _ _ _ _ h]; rfl, by rw [cell_of_row _ _ _ _ _ _ h]; rfl, by rw [cell_of_row _ _ _ _ _ _ h]; rfl, by rw [cell_of_row _ _ _ _ _ _ h]; rfl, by rw [cell_of_row _ _ _ _ _ _ h]; rfl, fun i => frozen_of_row _ _ _ _ _ h⟩
theorem dlO {s : Nat} (h : s ∉ [14, 15, 16, 17, 18, 19, 20, 6]) : ∀ j, j < 8 → [14, 15, 16, 17, 18, 19, 20, 6].getD j 0 ≠ s := fun j hj e => h (by
  rw [← e, List.getD_eq_getElem?_getD, List.getElem?_eq_getElem (by exact hj)]
  exact List.getElem_mem _)

end Go.Proofs.YteoebmpfdcbbmacDoor
