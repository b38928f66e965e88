import Derived.Test.YtkkfioebpppffaaGreatDoorYFlK
namespace Go.Proofs.YtkkfioebpppffaaGreatDoor.Fl
open Go.Proofs.YtkkfioebpppffaaGreatDoor Go.ChangeShapes Go.WideShapes Go.ChangeAt Go.RowKit Go.Maps N
set_option maxHeartbeats 8000000
set_option maxRecDepth 100000

theorem eqI {T : TypeId} {k : IntKind} (n : Nat) (hu : Tryz.prog.underlying T = some (.int k)) (x y : Int) (w : World) : (Op.equalIn (n + 1) T (.int k x) (.int k y)).run Tryz.prog w = .ok (decide (x = y)) w := by
  have h := run_equalIn_int (P := Tryz.prog) w n T k k x y hu
  rw [show decide (x = y) = (x == y) from (by by_cases e : x = y <;> simp [e])]
  simpa using h
theorem uAd : Tryz.prog.underlying 30 = some (.int .u32) := by kernel_rfl
theorem u8' : Tryz.prog.underlying 5 = some (.int .u8) := by kernel_rfl
theorem u16' : Tryz.prog.underlying 28 = some (.int .u16) := by kernel_rfl
theorem uIn' : Tryz.prog.underlying 3 = some (.int .i64) := by kernel_rfl
theorem uI64' : Tryz.prog.underlying 2 = some (.int .i64) := by kernel_rfl

theorem eqTb (n : Nat) (a0 a1 a2 a3 a4 c0 c1 c2 c3 c4 : Int) (u : World) : (Op.equalIn (n + 2) 37 (.agg #[.int .u32 a0, .int .u32 a1, .int .u8 a2, .int .u16 a3, .int .u16 a4]) (.agg #[.int .u32 c0, .int .u32 c1, .int .u8 c2, .int .u16 c3, .int .u16 c4])).run Tryz.prog u = .ok (decide (a0 = c0) && (decide (a1 = c1) && (decide (a2 = c2) && (decide (a3 = c3) && decide (a4 = c4))))) u := by
  rw [show n + 2 = (n + 1) + 1 from rfl, Op.equalIn]
  have s1 : ∀ w : World, (sizeOf 30).run Tryz.prog w = .ok 1 w := fun w => by kernel_rfl
  have s2 : ∀ w : World, (sizeOf 5).run Tryz.prog w = .ok 1 w := fun w => by kernel_rfl
  have s3 : ∀ w : World, (sizeOf 28).run Tryz.prog w = .ok 1 w := fun w => by kernel_rfl
  have i0 := fun w : World => eqI n uAd a0 c0 w
  have i1 := fun w : World => eqI n uAd a1 c1 w
  have i2 := fun w : World => eqI n u8' a2 c2 w
  have i3 := fun w : World => eqI n u16' a3 c3 w
  have i4 := fun w : World => eqI n u16' a4 c4 w
  generalize decide (a0 = c0) = b0 at *
  generalize decide (a1 = c1) = b1 at *
  generalize decide (a2 = c2) = b2 at *
  generalize decide (a3 = c3) = b3 at *
  generalize decide (a4 = c4) = b4 at *
  cases b0 <;> cases b1 <;> cases b2 <;> cases b3 <;> cases b4 <;> simp [run_underlying Tryz.underlying37, s1, s2, s3, part, i0, i1, i2, i3, i4, go_sem]
theorem eqTu (n : Nat) (a c : Tu) (u : World) : (Op.equalIn (n + 2) 37 (.agg a.cells) (.agg c.cells)).run Tryz.prog u = .ok (decide (a = c)) u := by
  refine (eqTb n (a.s : Int) (a.d : Int) (a.p : Int) (a.sp : Int) (a.dp : Int) (c.s : Int) (c.d : Int) (c.p : Int) (c.sp : Int) (c.dp : Int) u).trans ?_
  congr 1
  cases a with | mk a0 a1 a2 a3 a4 => cases c with | mk c0 c1 c2 c3 c4 =>
  simp only [Int.ofNat_inj, Tu.mk.injEq]
  by_cases h0 : a0 = c0 <;> by_cases h1 : a1 = c1 <;> by_cases h2 : a2 = c2 <;> by_cases h3 : a3 = c3 <;> by_cases h4 : a4 = c4 <;> simp [h0, h1, h2, h3, h4]
end Go.Proofs.YtkkfioebpppffaaGreatDoor.Fl

namespace Go.Proofs.YtkkfioebpppffaaGreatDoor.Fl
open Go.Proofs.YtkkfioebpppffaaGreatDoor Go.ChangeShapes Go.WideShapes Go.ChangeAt Go.RowKit Go.Maps N
set_option maxHeartbeats 2000000
set_option maxRecDepth 100000

section
variable {o : Oper} {a : Act} {w : World}
theorem ex_eqT (x y : Operand) (T : TypeId) (c d : Tu) (ho : o.op = .binOp .eql 37 x y T) (hx : a.eval x = .agg c.cells) (hy : a.eval y = .agg d.cells) : (execOp a.eval o).run Tryz.prog w = .ok (.value (.bool (decide (c = d)))) w := by
  have h : (Op.equal 37 (.agg c.cells) (.agg d.cells)).run Tryz.prog w = .ok (decide (c = d)) w := eqTu 9998 c d w
  unfold execOp
  simp only [ho, hx, hy]
  simp [eqGuard, binOp, go_sem, h]
theorem ex_neT (x y : Operand) (T : TypeId) (c d : Tu) (ho : o.op = .binOp .neq 37 x y T) (hx : a.eval x = .agg c.cells) (hy : a.eval y = .agg d.cells) : (execOp a.eval o).run Tryz.prog w = .ok (.value (.bool (!decide (c = d)))) w := by
  have h : (Op.equal 37 (.agg c.cells) (.agg d.cells)).run Tryz.prog w = .ok (decide (c = d)) w := eqTu 9998 c d w
  unfold execOp
  simp only [ho, hx, hy]
  simp [eqGuard, binOp, go_sem, h]
theorem ex_pick {P : Program} (x y z : Operand) (c : Bool) (v : Value) (ho : o.op = .pick x y z) (hx : a.eval x = .bool c) (hv : (if c then a.eval y else a.eval z) = v) : (execOp a.eval o).run P w = .ok (.value v) w := by
  cases c
  · simp only [Bool.false_eq_true, if_false] at hv
    simp only [execOp, ho, hx, hv]
    simp [go_sem]
  · simp only [if_true] at hv
    simp only [execOp, ho, hx, hv]
    simp [go_sem]
theorem ex_neE (x : Operand) (k : Int) (b : Bool) (T : TypeId) (ho : o.op = .binOp .neq 25 x (.const (.int .i64 0)) T) (hx : a.eval x = .int .i64 k) (hb : (!decide (k = 0)) = b) : (execOp a.eval o).run Tryz.prog w = .ok (.value (.bool b)) w := by
  unfold execOp
  simp only [ho, hx]
  simp [eqGuard, binOp, go_sem, ← hb]
  by_cases e : k = 0 <;> simp [e]
end
theorem ld_mapT {u : World} {p : Addr} {b : Nat} (h : u.cell? p = some (.map (some b))) : (Instr.loadAt 58 (.pointer (some p))).run Tryz.prog u = .ok (.map (some b)) u := by simp [go_sem, h]
theorem ld_mapF {u : World} {p : Addr} {b : Nat} (h : u.cell? p = some (.map (some b))) : (Instr.loadAt 59 (.pointer (some p))).run Tryz.prog u = .ok (.map (some b)) u := by simp [go_sem, h]
theorem ld_int {u : World} {p : Addr} {x : Int} (h : u.cell? p = some (.int .i64 x)) : (Instr.loadAt 3 (.pointer (some p))).run Tryz.prog u = .ok (.int .i64 x) u := by simp [go_sem, h]
theorem fld_t0 (b : Nat) (u : World) : (Instr.fieldAt 61 (.pointer (some ⟨b, 0, none⟩)) 0).run Tryz.prog u = .ok (.pointer (some ⟨b, 0, none⟩)) u := by kernel_rfl
theorem fld_t1 (b : Nat) (u : World) : (Instr.fieldAt 61 (.pointer (some ⟨b, 0, none⟩)) 1).run Tryz.prog u = .ok (.pointer (some ⟨b, 1, none⟩)) u := by kernel_rfl
theorem fld_t2 (b : Nat) (u : World) : (Instr.fieldAt 61 (.pointer (some ⟨b, 0, none⟩)) 2).run Tryz.prog u = .ok (.pointer (some ⟨b, 2, none⟩)) u := by kernel_rfl
theorem fld_t3 (b : Nat) (u : World) : (Instr.fieldAt 61 (.pointer (some ⟨b, 0, none⟩)) 3).run Tryz.prog u = .ok (.pointer (some ⟨b, 3, none⟩)) u := by kernel_rfl
theorem fld_p0 (b : Nat) (u : World) : (Instr.fieldAt 35 (.pointer (some ⟨b, 0, none⟩)) 0).run Tryz.prog u = .ok (.pointer (some ⟨b, 0, none⟩)) u := by kernel_rfl
theorem fld_f1 (b : Nat) (u : World) : (Instr.fieldAt 45 (.pointer (some ⟨b, 0, none⟩)) 1).run Tryz.prog u = .ok (.pointer (some ⟨b, 5, none⟩)) u := by kernel_rfl
theorem fld_f2 (b : Nat) (u : World) : (Instr.fieldAt 45 (.pointer (some ⟨b, 0, none⟩)) 2).run Tryz.prog u = .ok (.pointer (some ⟨b, 10, none⟩)) u := by kernel_rfl
end Go.Proofs.YtkkfioebpppffaaGreatDoor.Fl
