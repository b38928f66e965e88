import Derived.Test.YthmhiehglcfepaaDoorFlK
namespace Go.Proofs.YthmhiehglcfepaaDoor.Fl
open Go.Proofs.YthmhiehglcfepaaDoor Go.ChangeShapes Go.WideShapes Go.ChangeAt Go.RowKit Go.Maps N
set_option maxHeartbeats 8000000
set_option maxRecDepth 100000

theorem eqI {T : TypeId} {k : IntKind} (n : Nat) (hu : Tryd.prog.underlying T = some (.int k)) (x y : Int) (w : World) : (Op.equalIn (n + 1) T (.int k x) (.int k y)).run Tryd.prog w = .ok (decide (x = y)) w := by
  have h := run_equalIn_int (P := Tryd.prog) w n T k k x y hu
  rw [show decide (x = y) = (x == y) from (by by_cases e : x = y <;> simp [e])]
  simpa using h
theorem uAd : Tryd.prog.underlying 23 = some (.int .u32) := by kernel_rfl
theorem u8' : Tryd.prog.underlying 5 = some (.int .u8) := by kernel_rfl
theorem u16' : Tryd.prog.underlying 24 = some (.int .u16) := by kernel_rfl
theorem uIn' : Tryd.prog.underlying 3 = some (.int .i64) := by kernel_rfl
theorem uI64' : Tryd.prog.underlying 2 = some (.int .i64) := by kernel_rfl

theorem eqTb (n : Nat) (a0 a1 a2 a3 a4 c0 c1 c2 c3 c4 : Int) (u : World) : (Op.equalIn (n + 2) 26 (.agg #[.int .u32 a0, .int .u32 a1, .int .u8 a2, .int .u16 a3, .int .u16 a4]) (.agg #[.int .u32 c0, .int .u32 c1, .int .u8 c2, .int .u16 c3, .int .u16 c4])).run Tryd.prog u = .ok (decide (a0 = c0) && (decide (a1 = c1) && (decide (a2 = c2) && (decide (a3 = c3) && decide (a4 = c4))))) u := by
  rw [show n + 2 = (n + 1) + 1 from rfl, Op.equalIn]
  have s1 : ∀ w : World, (sizeOf 23).run Tryd.prog w = .ok 1 w := fun w => by kernel_rfl
  have s2 : ∀ w : World, (sizeOf 5).run Tryd.prog w = .ok 1 w := fun w => by kernel_rfl
  have s3 : ∀ w : World, (sizeOf 24).run Tryd.prog w = .ok 1 w := fun w => by kernel_rfl
  have i0 := fun w : World => eqI n uAd a0 c0 w
  have i1 := fun w : World => eqI n uAd a1 c1 w
  have i2 := fun w : World => eqI n u8' a2 c2 w
  have i3 := fun w : World => eqI n u16' a3 c3 w
  have i4 := fun w : World => eqI n u16' a4 c4 w
  generalize decide (a0 = c0) = b0 at *
  generalize decide (a1 = c1) = b1 at *
  generalize decide (a2 = c2) = b2 at *
  generalize decide (a3 = c3) = b3 at *
  generalize decide (a4 = c4) = b4 at *
  cases b0 <;> cases b1 <;> cases b2 <;> cases b3 <;> cases b4 <;> simp [run_underlying Tryd.underlying26, s1, s2, s3, part, i0, i1, i2, i3, i4, go_sem]
theorem eqTu (n : Nat) (a c : Tu) (u : World) : (Op.equalIn (n + 2) 26 (.agg a.cells) (.agg c.cells)).run Tryd.prog u = .ok (decide (a = c)) u := by
  refine (eqTb n (a.s : Int) (a.d : Int) (a.p : Int) (a.sp : Int) (a.dp : Int) (c.s : Int) (c.d : Int) (c.p : Int) (c.sp : Int) (c.dp : Int) u).trans ?_
  congr 1
  cases a with | mk a0 a1 a2 a3 a4 => cases c with | mk c0 c1 c2 c3 c4 =>
  simp only [Int.ofNat_inj, Tu.mk.injEq]
  by_cases h0 : a0 = c0 <;> by_cases h1 : a1 = c1 <;> by_cases h2 : a2 = c2 <;> by_cases h3 : a3 = c3 <;> by_cases h4 : a4 = c4 <;> simp [h0, h1, h2, h3, h4]
end Go.Proofs.YthmhiehglcfepaaDoor.Fl
