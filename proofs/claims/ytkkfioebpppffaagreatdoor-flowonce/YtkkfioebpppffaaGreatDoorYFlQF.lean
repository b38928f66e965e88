import Derived.Test.YtkkfioebpppffaaGreatDoorEN
namespace Go.Proofs.YtkkfioebpppffaaGreatDoor.Fl
open Go.Proofs.YtkkfioebpppffaaGreatDoor Go.ChangeShapes Go.WideShapes Go.ChangeAt Go.RowKit Go.Maps N
set_option maxHeartbeats 8000000
set_option maxRecDepth 100000

theorem eqFw (n : Nat) (f g : Fw) (u : World) : (Op.equalIn (n + 3) 45 (.agg f.cells) (.agg g.cells)).run Tryz.prog u = .ok (decide (f = g)) u := by
  have h : (Op.equalIn (n + 3) 45 (.agg f.cells) (.agg g.cells)).run Tryz.prog u = .ok (decide (f.th = g.th) && (decide (f.bk = g.bk) && (decide ((f.st : Int) = (g.st : Int)) && decide (f.til = g.til)))) u := by
    rw [show n + 3 = (n + 2) + 1 from rfl, Op.equalIn]
    have s1 : ∀ w : World, (sizeOf 37).run Tryz.prog w = .ok 5 w := fun w => by kernel_rfl
    have s2 : ∀ w : World, (sizeOf 3).run Tryz.prog w = .ok 1 w := fun w => by kernel_rfl
    have s3 : ∀ w : World, (sizeOf 2).run Tryz.prog w = .ok 1 w := fun w => by kernel_rfl
    have i0 := fun w : World => eqTu n f.th g.th w
    have i1 := fun w : World => eqTu n f.bk g.bk w
    have i2 := fun w : World => eqI (n + 1) uIn' (f.st : Int) (g.st : Int) w
    have i3 := fun w : World => eqI (n + 1) uI64' f.til g.til w
    generalize decide (f.th = g.th) = b0 at *
    generalize decide (f.bk = g.bk) = b1 at *
    generalize decide ((f.st : Int) = (g.st : Int)) = b2 at *
    generalize decide (f.til = g.til) = b3 at *
    unfold Tu.cells at i0 i1
    unfold Fw.cells
    cases b0 <;> cases b1 <;> cases b2 <;> cases b3 <;> simp [run_underlying Tryz.underlying45, s1, s2, s3, part, i0, i1, i2, i3, go_sem]
  rw [h]
  congr 1
  cases f with | mk a b c d => cases g with | mk a' b' c' d' =>
  simp only [Int.ofNat_inj, Fw.mk.injEq]
  by_cases h0 : a = a' <;> by_cases h1 : b = b' <;> by_cases h2 : c = c' <;> by_cases h3 : d = d' <;> simp [h0, h1, h2, h3]
theorem ex_eqF {o : Oper} {a : Act} {w : World} (x y : Operand) (T : TypeId) (c d : Fw) (r : Bool) (ho : o.op = .binOp .eql 45 x y T) (hx : a.eval x = .agg c.cells) (hy : a.eval y = .agg d.cells) (hr : decide (c = d) = r) : (execOp a.eval o).run Tryz.prog w = .ok (.value (.bool r)) w := by
  have h : (Op.equal 45 (.agg c.cells) (.agg d.cells)).run Tryz.prog w = .ok (decide (c = d)) w := eqFw 9997 c d w
  rw [← hr]
  unfold execOp
  simp only [ho, hx, hy]
  simp [eqGuard, binOp, go_sem, h]
end Go.Proofs.YtkkfioebpppffaaGreatDoor.Fl
