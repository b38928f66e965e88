/-
  UnderOrder.
-/
import Derived.Test.YtaelfhjhinfikabDSB
import Derived.Test.YtaelfhjhinfikabVRO
import Derived.Great.BuildSlice
namespace Go.Proofs.Ytaelfhjhinfikab
open Go.ChangeShapes Go.WideShapes Go.ChangeAt Go.RowKit Me N
set_option maxHeartbeats 8000000
set_option maxRecDepth 100000

/-- The slice value v shows the numbers N. -/
def SeesN (K : Nat → Prop) (w : World) (v : Value) (N : List Int) : Prop :=
  ∃ ao cap, v = .slice ao N.length cap ∧ N.length ≤ cap ∧ cap ≤ maxLen ∧
    ∀ j (h : j < N.length), ∃ g off, ao = some ⟨g, off, none⟩ ∧ (g < w.heap.size ∧ K g) ∧ w.cell? ⟨g, off + j, none⟩ = some (.int .i64 N[j]) ∧ (-9223372036854775808 ≤ N[j] ∧ N[j] ≤ 9223372036854775807)

section
variable {K : Nat → Prop} {w w' : World} {v : Value} {N : List Int}
theorem SeesN.shape (h : SeesN K w v N) : ∃ ao n cap, v = .slice ao n cap ∧ Hid (n = N.length) ∧ n ≤ cap ∧ cap ≤ maxLen := by
  obtain ⟨ao, cap, hv, h1, h2, _⟩ := h
  exact ⟨ao, N.length, cap, hv, rfl, h1, h2⟩
theorem SeesN.keeps {X : Nat → Prop} (h : SeesN K w v N) (hk : Keeps X w w') (hn : ∀ k, K k → ¬ X k) : SeesN K w' v N := by
  obtain ⟨ao, cap, hv, h1, h2, h3⟩ := h
  refine ⟨ao, cap, hv, h1, h2, fun j hj => ?_⟩
  obtain ⟨g, off, ha, hg, c0, c1⟩ := h3 j hj
  exact ⟨g, off, ha, ⟨Nat.lt_of_lt_of_le hg.1 hk.size, hg.2⟩, (World.cell?_of_block (w := w) (a := ⟨g, off + j, none⟩) (hk.block g hg.1 (hn g hg.2))).trans c0, c1⟩
theorem SeesN.below (h : SeesN K w v N) (hb : Below w.heap.size w w') : SeesN K w' v N := h.keeps (X := fun _ => False) (Keeps.of hb) fun _ _ e => e
theorem SeesN.at {ao : Option Addr} {n cap : Nat} (h : SeesN K w (.slice ao n cap) N) (j : Nat) (hj : j < n) : ∃ (g off : Nat) (x : Int), ao = some ⟨g, off, none⟩ ∧ (g < w.heap.size ∧ K g) ∧ w.cell? ⟨g, off + j, none⟩ = some (.int .i64 x) ∧ -9223372036854775808 ≤ x ∧ x ≤ 9223372036854775807 := by
  obtain ⟨ao', cap', hv, h1, h2, h3⟩ := h
  simp at hv
  obtain ⟨rfl, rfl, rfl⟩ := hv
  obtain ⟨g, off, a, b, c, d⟩ := h3 j hj
  exact ⟨g, off, N[j], a, b, c, d⟩
end

section
variable {o : Oper} {a : Act} {w : World}
theorem exo_neq (x : Operand) (i : Int) (b : Bool) (ho : o.op = .binOp .neq 42 x (.const (.int .i64 0)) 42) (hx : a.eval x = .int .i64 i) (hb : decide (i ≠ 0) = b) : (execOp a.eval o).run Try.prog w = .ok (.value (.bool b)) w := by
  simp only [execOp, ho, hx]
  simp [go_sem, eqGuard, ← hb]
  rw [Bool.eq_iff_iff]
  simp
theorem exo_add (x : Operand) (i : Int) (ho : o.op = .binOp .add 3 x (.const (.int .i64 1)) 3) (hx : a.eval x = .int .i64 i) (hi : -9223372036854775808 ≤ i) (hh : i ≤ 9223372036854775806) : (execOp a.eval o).run Try.prog w = .ok (.value (.int .i64 (i + 1))) w := by
  simp only [execOp, ho, hx]
  simp [go_sem, eqGuard]
  rw [IntKind.wrap_i64]
  omega
theorem exo_not (x : Operand) (b : Bool) (ho : o.op = .unOp .not 4 x) (hx : a.eval x = .bool b) : (execOp a.eval o).run Try.prog w = .ok (.value (.bool (!b))) w := by
  simp only [execOp, ho, hx]
  simp [go_sem]
theorem exo_cut (T : TypeId) (x y z : Operand) (s i j v : Value) (ho : o.op = .slice T x (some y) (some z) none) (hx : a.eval x = s) (hy : a.eval y = i) (hz : a.eval z = j) (hr : (Instr.sliceAt T s (some i) (some j) none).run Try.prog w = .ok v w) : (execOp a.eval o).run Try.prog w = .ok (.value v) w := by
  unfold execOp
  simp [ho, hx, hy, hz, hr]
end
theorem exo_bs {P : Program} {o : Oper} {a : Act} {w w' : World} (T : TypeId) (n : Nat) (parts : Array (Nat × Operand)) (ps : Array (Nat × Value)) (v : Value) (ho : o.op = .buildSlice T n parts) (hp : (parts.map fun (i, x) => (i, a.eval x)) = ps) (hr : (Instr.buildSlice T n ps).run P w = .ok v w') : (execOp a.eval o).run P w = .ok (.value v) w' := by
  unfold execOp
  simp only [ho, hp, Sem.run_bind, hr, Result.andThen_ok, Sem.run_pure]
theorem load_sno {u : World} {q : Nat} {x y : Value} (h0 : u.cell? ⟨q, 0, none⟩ = some x) (h1 : u.cell? ⟨q, 1, none⟩ = some y) : (Instr.loadAt 41 (.pointer (some ⟨q, 0, none⟩))).run Try.prog u = .ok (.agg #[x, y]) u := by
  simp [Instr.loadAt, go_sem, h0, h1]
theorem build_1 (x0 y0 : Value) (u : World) : (Instr.buildSlice 33 1 #[(0, .agg #[x0, y0])]).run Try.prog u = .ok (.slice (some ⟨u.heap.size, 0, none⟩) 1 1) (u.alloc (.cells #[x0, y0] 41)) := by
  obtain ⟨ie, hi, hz, hs, -⟩ := info_parts infoS
  refine run_buildSlice u _ _ 1 _ _ ie _ uS hi hz (by rw [hs]; decide) (by rw [hs]; decide) ?_
  simp only [hs, show Array.range (1 * 2) = #[0, 1] from rfl]
  simp [Instr.fill, Value.cells]
/-- What the operations of a comparison yield. -/
def FOr (s l cut : Value) (row : Array Value) (j : Nat) (i : Nat) (v : Value) (w : World) : Prop :=
  match i with
  | 0 => v = .int .i64 0
  | 1 => v = .bool false
  | 2 => v = .bool false
  | 3 => v = s
  | 4 => ∃ b, v = .slice (some ⟨b, 0, none⟩) 1 1 ∧ w.heap[b]? = some (.cells row 41 (0, 0))
  | 5 => v = l
  | 6 => v = .int .i64 (j : Int)
  | 7 => v = .int .i64 (j : Int)
  | 8 => v = .int .i64 ((j : Int) + 1)
  | 9 => v = cut
  | 10 => v = .bool true
  | 11 => v = .bool false
  | _ => True
theorem FOr.keeps (s l cut : Value) (row : Array Value) (j : Nat) {i : Nat} {v : Value} {w w' : World} (h : FOr s l cut row j i v w) (hb : Below w.heap.size w w') : FOr s l cut row j i v w' := by
  unfold FOr at *
  split at h <;> first | exact h | (obtain ⟨b, h1, h2⟩ := h; exact ⟨b, h1, below_keeps hb h2 (Array.getElem?_eq_some_iff.1 h2).1⟩)

end Go.Proofs.Ytaelfhjhinfikab
