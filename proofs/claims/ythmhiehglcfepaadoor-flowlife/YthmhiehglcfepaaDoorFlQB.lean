import Derived.Test.YthmhiehglcfepaaDoorFlQ
namespace Go.Proofs.YthmhiehglcfepaaDoor.Fl
open Go.Proofs.YthmhiehglcfepaaDoor Go.ChangeShapes Go.WideShapes Go.ChangeAt Go.RowKit Go.Maps N
set_option maxHeartbeats 2000000
set_option maxRecDepth 100000

section
variable {o : Oper} {a : Act} {w : World}
theorem ex_eqT (x y : Operand) (T : TypeId) (c d : Tu) (ho : o.op = .binOp .eql 26 x y T) (hx : a.eval x = .agg c.cells) (hy : a.eval y = .agg d.cells) : (execOp a.eval o).run Tryd.prog w = .ok (.value (.bool (decide (c = d)))) w := by
  have h : (Op.equal 26 (.agg c.cells) (.agg d.cells)).run Tryd.prog w = .ok (decide (c = d)) w := eqTu 9998 c d w
  unfold execOp
  simp only [ho, hx, hy]
  simp [eqGuard, binOp, go_sem, h]
theorem ex_neT (x y : Operand) (T : TypeId) (c d : Tu) (ho : o.op = .binOp .neq 26 x y T) (hx : a.eval x = .agg c.cells) (hy : a.eval y = .agg d.cells) : (execOp a.eval o).run Tryd.prog w = .ok (.value (.bool (!decide (c = d)))) w := by
  have h : (Op.equal 26 (.agg c.cells) (.agg d.cells)).run Tryd.prog w = .ok (decide (c = d)) w := eqTu 9998 c d w
  unfold execOp
  simp only [ho, hx, hy]
  simp [eqGuard, binOp, go_sem, h]
theorem ex_pick {P : Program} (x y z : Operand) (c : Bool) (v : Value) (ho : o.op = .pick x y z) (hx : a.eval x = .bool c) (hv : (if c then a.eval y else a.eval z) = v) : (execOp a.eval o).run P w = .ok (.value v) w := by
  cases c
  · simp only [Bool.false_eq_true, if_false] at hv
    simp only [execOp, ho, hx, hv]
    simp [go_sem]
  · simp only [if_true] at hv
    simp only [execOp, ho, hx, hv]
    simp [go_sem]
theorem ex_neE (x : Operand) (k : Int) (b : Bool) (T : TypeId) (ho : o.op = .binOp .neq 31 x (.const (.int .i64 0)) T) (hx : a.eval x = .int .i64 k) (hb : (!decide (k = 0)) = b) : (execOp a.eval o).run Tryd.prog w = .ok (.value (.bool b)) w := by
  unfold execOp
  simp only [ho, hx]
  simp [eqGuard, binOp, go_sem, ← hb]
  by_cases e : k = 0 <;> simp [e]
end
theorem ld_mapT {u : World} {p : Addr} {b : Nat} (h : u.cell? p = some (.map (some b))) : (Instr.loadAt 50 (.pointer (some p))).run Tryd.prog u = .ok (.map (some b)) u := by simp [go_sem, h]
theorem ld_mapF {u : World} {p : Addr} {b : Nat} (h : u.cell? p = some (.map (some b))) : (Instr.loadAt 51 (.pointer (some p))).run Tryd.prog u = .ok (.map (some b)) u := by simp [go_sem, h]
theorem ld_int {u : World} {p : Addr} {x : Int} (h : u.cell? p = some (.int .i64 x)) : (Instr.loadAt 3 (.pointer (some p))).run Tryd.prog u = .ok (.int .i64 x) u := by simp [go_sem, h]
theorem fld_t0 (b : Nat) (u : World) : (Instr.fieldAt 53 (.pointer (some ⟨b, 0, none⟩)) 0).run Tryd.prog u = .ok (.pointer (some ⟨b, 0, none⟩)) u := by kernel_rfl
theorem fld_t1 (b : Nat) (u : World) : (Instr.fieldAt 53 (.pointer (some ⟨b, 0, none⟩)) 1).run Tryd.prog u = .ok (.pointer (some ⟨b, 1, none⟩)) u := by kernel_rfl
theorem fld_t2 (b : Nat) (u : World) : (Instr.fieldAt 53 (.pointer (some ⟨b, 0, none⟩)) 2).run Tryd.prog u = .ok (.pointer (some ⟨b, 2, none⟩)) u := by kernel_rfl
theorem fld_t3 (b : Nat) (u : World) : (Instr.fieldAt 53 (.pointer (some ⟨b, 0, none⟩)) 3).run Tryd.prog u = .ok (.pointer (some ⟨b, 3, none⟩)) u := by kernel_rfl
theorem fld_p0 (b : Nat) (u : World) : (Instr.fieldAt 39 (.pointer (some ⟨b, 0, none⟩)) 0).run Tryd.prog u = .ok (.pointer (some ⟨b, 0, none⟩)) u := by kernel_rfl
theorem fld_f1 (b : Nat) (u : World) : (Instr.fieldAt 44 (.pointer (some ⟨b, 0, none⟩)) 1).run Tryd.prog u = .ok (.pointer (some ⟨b, 5, none⟩)) u := by kernel_rfl
theorem fld_f2 (b : Nat) (u : World) : (Instr.fieldAt 44 (.pointer (some ⟨b, 0, none⟩)) 2).run Tryd.prog u = .ok (.pointer (some ⟨b, 10, none⟩)) u := by kernel_rfl
end Go.Proofs.YthmhiehglcfepaaDoor.Fl
