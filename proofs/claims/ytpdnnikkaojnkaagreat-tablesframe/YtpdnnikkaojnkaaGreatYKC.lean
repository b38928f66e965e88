import Derived.Test.YtpdnnikkaojnkaaGreatZC
import Derived.Test.YtpdnnikkaojnkaaGreatZA
import Derived.Deep.CutRange
import Derived.Deep.RegionWith
import Derived.Deep.MidRow
import Derived.StillTailTactics
import Derived.WalkMore
namespace Go.Proofs.YtpdnnikkaojnkaaGreat.Rt
open Go.Proofs.YtpdnnikkaojnkaaGreat Go.ChangeShapes Go.WideShapes Go.ChangeAt Go.RowKit Go.Maps Tri N
set_option maxHeartbeats 2000000
set_option maxRecDepth 100000
def Tri.Vt.cells (v : Vt) : Array Value := #[.int .u32 (v.x : Int), .int .i64 v.n, .int .u32 (v.via : Int), .bool v.loc]
def Opv.cells (o : Opv) : Array Value := #[.int .i64 o.kind, .int .u32 (o.r.x : Int), .int .i64 o.r.n, .int .u32 (o.r.via : Int), .bool o.r.loc,
 .int .u32 (o.n.ip : Int), .int .u8 (o.n.mac.b0 : Int), .int .u8 (o.n.mac.b1 : Int), .int .u8 (o.n.mac.b2 : Int), .int .u8 (o.n.mac.b3 : Int), .int .u8 (o.n.mac.b4 : Int), .int .u8 (o.n.mac.b5 : Int),
 .int .u8 (o.f.mac.b0 : Int), .int .u8 (o.f.mac.b1 : Int), .int .u8 (o.f.mac.b2 : Int), .int .u8 (o.f.mac.b3 : Int), .int .u8 (o.f.mac.b4 : Int), .int .u8 (o.f.mac.b5 : Int), .int .u32 (o.f.dest : Int)]
class Ones (α : Type) where
 cs : α -> Array Value
 one : ∀ x : α, (cs x).all (·.oneCell') = true
instance : Ones Nb := ⟨Nb.cells, fun x => by simp [Nb.cells, Value.oneCell']⟩
instance : Ones Fd := ⟨Fd.cells, fun x => by simp [Fd.cells, Value.oneCell']⟩
instance : Ones Vt := ⟨Tri.Vt.cells, fun x => by simp [Tri.Vt.cells, Value.oneCell']⟩
theorem one_cells {α : Type} [Ones α] (x : α) : (Ones.cs x).all (·.oneCell') = true := Ones.one x
def OpB (w : World) (b : Nat) (o : Opv) : Prop := w.heap[b]? = some (.cells o.cells 46)
theorem OpB.below {w w' : World} {b : Nat} {o : Opv} (h : OpB w b o) (hb : Below w.heap.size w w') : OpB w' b o := below_keeps hb h (gsl h)
theorem load_at {w : World} {b off : Nat} {row : Array Value} {T ty : TypeId} {cs : List Value} {d : TypeDesc} (h : w.heap[b]? = some (.cells row T)) (hp : (row.toList.drop off).take cs.length = cs) (hu : Tryz.prog.underlying ty = some d) (hd : d.isRow = true) (hi : (Tryz.prog.info? ty).map (·.size) = some cs.length) :
  (Instr.loadAt ty (.pointer (some ⟨b, off, none⟩))).run Tryz.prog w = .ok (.agg cs.toArray) w :=
 run_loadAt_mid w b off ty cs d (fun j v hv => by
  rw [cell_of_row _ _ _ _ _ _ h]
  rw [<- hp, List.getElem?_take] at hv
  split at hv
  ·rw [List.getElem?_drop] at hv
   simpa using hv
  ·cases hv) hu hd hi
theorem OpB.load {w : World} {b : Nat} {o : Opv} (h : OpB w b o) : (Instr.loadAt 46 (.pointer (some ⟨b, 0, none⟩))).run Tryz.prog w = .ok (.agg o.cells) w := load_at (cs := o.cells.toList) h rfl Tryz.underlying46 rfl (by kernel_rfl)
theorem OpB.kind {w : World} {b : Nat} {o : Opv} (h : OpB w b o) : w.cell? ⟨b, 0, none⟩ = some (.int .i64 o.kind) := crw h rfl
theorem OpB.pre {w : World} {b : Nat} {o : Opv} (h : OpB w b o) : w.cell? ⟨b, 1, none⟩ = some (.int .u32 (o.r.x : Int)) /\ w.cell? ⟨b, 2, none⟩ = some (.int .i64 o.r.n) /\ w.cell? ⟨b, 3, none⟩ = some (.int .u32 (o.r.via : Int)) /\ w.cell? ⟨b, 4, none⟩ = some (.bool o.r.loc) := by
 refine ⟨?_, ?_, ?_, ?_⟩ <;> rw [cell_of_row _ _ _ _ _ _ h] <;> rfl
theorem OpB.ngh {w : World} {b : Nat} {o : Opv} (h : OpB w b o) : (Instr.loadAt 42 (.pointer (some ⟨b, 5, none⟩))).run Tryz.prog w = .ok (.agg o.n.cells) w := load_at (cs := o.n.cells.toList) h rfl Tryz.underlying42 rfl (by kernel_rfl)
theorem OpB.fdb {w : World} {b : Nat} {o : Opv} (h : OpB w b o) : (Instr.loadAt 44 (.pointer (some ⟨b, 12, none⟩))).run Tryz.prog w = .ok (.agg o.f.cells) w := load_at (cs := o.f.cells.toList) h rfl Tryz.underlying44 rfl (by kernel_rfl)
theorem OpB.fmac {w : World} {b : Nat} {o : Opv} (h : OpB w b o) : (Instr.loadAt 40 (.pointer (some ⟨b, 12, none⟩))).run Tryz.prog w = .ok (o.f.mac.v) w := load_at (cs := [.int .u8 (o.f.mac.b0 : Int), .int .u8 (o.f.mac.b1 : Int), .int .u8 (o.f.mac.b2 : Int), .int .u8 (o.f.mac.b3 : Int), .int .u8 (o.f.mac.b4 : Int), .int .u8 (o.f.mac.b5 : Int)]) h rfl uM rfl (by kernel_rfl)
theorem OpB.rt {w : World} {b : Nat} {o : Opv} (h : OpB w b o) : (Instr.loadAt 38 (.pointer (some ⟨b, 1, none⟩))).run Tryz.prog w = .ok (.agg o.r.cells) w := load_at (cs := o.r.cells.toList) h rfl Tryz.underlying38 rfl (by kernel_rfl)
theorem fld_op {b : Nat} (u : World) : (Instr.fieldAt 46 (.pointer (some ⟨b, 0, none⟩)) 0).run Tryz.prog u = .ok (.pointer (some ⟨b, 0, none⟩)) u /\ (Instr.fieldAt 46 (.pointer (some ⟨b, 0, none⟩)) 1).run Tryz.prog u = .ok (.pointer (some ⟨b, 1, none⟩)) u /\ (Instr.fieldAt 46 (.pointer (some ⟨b, 0, none⟩)) 2).run Tryz.prog u = .ok (.pointer (some ⟨b, 5, none⟩)) u /\ (Instr.fieldAt 46 (.pointer (some ⟨b, 0, none⟩)) 3).run Tryz.prog u = .ok (.pointer (some ⟨b, 12, none⟩)) u := by
 refine ⟨?_, ?_, ?_, ?_⟩ <;> kernel_rfl
abbrev Nw := Array Value × TypeId
def FA (l : List (Value ⊕ Nw)) (B : Nat) (i : Nat) (v : Value) (w : World) : Prop :=
 match l[i]? with
 | some (.inl x) => v = x
 | some (.inr z) => ∃ b, v = .pointer (some ⟨b, 0, none⟩) /\ B <= b /\ w.heap[b]? = some (.cells z.1 z.2 (0, 0))
 | none => True
theorem FA.keeps (l : List (Value ⊕ Nw)) (B : Nat) : ∀ (i : Nat) (v : Value) (w w' : World), FA l B i v w -> Below w.heap.size w w' -> FA l B i v w' := fun i v w w' h hb => by
 unfold FA at *
 split
 ·rename_i x hx; simpa [hx] using h
 ·rename_i x hx
  rw [hx] at h
  obtain ⟨b, h1, h2, h3⟩ := h
  exact ⟨b, h1, h2, below_keeps hb h3 (gsl h3)⟩
 ·trivial
theorem FA.is {l : List (Value ⊕ Nw)} {B i : Nat} {v y : Value} {w : World} (h : FA l B i v w) (hy : l[i]? = some (.inl y)) : v = y := by
 unfold FA at h
 rw [hy] at h
 exact h
theorem FA.dep {l : List (Value ⊕ Nw)} {B i : Nat} {a : Act} {t : Operand} {x y : Value} {w : World} (h : a.eval t = x /\ FA l B i x w) (hy : l[i]? = some (.inl y)) : a.eval t = y := h.1.trans (h.2.is hy)
theorem fa_mk {l : List (Value ⊕ Nw)} {B i : Nat} {v : Value} {w : World} (hy : l[i]? = some (.inl v)) : FA l B i v w := by
 unfold FA
 rw [hy]
theorem fa_still {P : Program} {o : Oper} {a : Act} {W w : World} {Q : Exit -> Act -> World -> Prop} {l : List (Value ⊕ Nw)} {B i : Nat} {t : Tmp} {v : Value} (hr : (execOp a.eval o).run P w = .ok (.value v) w) (ht : o.dst = some t) (hv : l[i]? = some (.inl v)) (hW : Below W.heap.size W w) :
  o.wp P a w (fun a' w' => ∃ v', a' = a.put (some t) v' /\ FA l B i v' w' /\ Below W.heap.size W w' /\ Below w.heap.size w w') Q :=
 wp_val hr (by rw [ht]; exact ⟨v, rfl, fa_mk hv, hW, bR⟩)
theorem ex_alloc {o : Oper} {a : Act} (u : World) {T : TypeId} {z : Array Value} (ho : o.op = .alloc T) (hr : ∀ u : World, (Instr.alloc T true (.tuple #[])).run Tryz.prog u = .ok (.pointer (some ⟨u.heap.size, 0, none⟩)) (u.alloc (.cells z T))) : (execOp a.eval o).run Tryz.prog u = .ok (.value (.pointer (some ⟨u.heap.size, 0, none⟩))) (u.alloc (.cells z T)) := by
 unfold execOp
 simp [ho, hr]
theorem ex_extract {P : Program} {o : Oper} {a : Act} {w : World} (x : Operand) (k : Nat) (vs : Array Value) (v : Value) (ho : o.op = .extract x k) (hx : a.eval x = .tuple vs) (hv : vs[k]? = some v) : (execOp a.eval o).run P w = .ok (.value v) w := by
 unfold execOp
 simp [ho, hx, Instr.extract, hv]
theorem ex_lookup {P : Program} {o : Oper} {a : Act} {w : World} (T : TypeId) (x y : Operand) (c : Bool) (m k v : Value) (ho : o.op = .lookup T x y c) (hx : a.eval x = m) (hy : a.eval y = k) (hr : (Instr.lookup T m k c).run P w = .ok v w) : (execOp a.eval o).run P w = .ok (.value v) w := by
 unfold execOp
 simp only [ho, hx, hy, Sem.run_bind, hr, Result.andThen_ok, Sem.run_pure]
theorem wp_callV {P : Program} {o : Oper} {a : Act} {w : World} {K : Act -> World -> Prop} {Q : Exit -> Act -> World -> Prop} (f : FuncId) (c : Operand) (xs : Array Operand) (ts : Array TypeId) (ho : o.op = .call { callee := .value c, args := xs, argTypes := ts }) (hc : a.eval c = .func (.func f) #[] #[])
  (hf : ∀ (args : Array Value) (w : World), (callFunc f args).run P w = .ok (.enter f args) w) (vs : Array Value) (hv : xs.map a.eval = vs) (h : Calls P f vs w fun e w' => ∃ v, e = .returned v /\ K (a.put o.dst v) w') : o.wp P a w K Q := by
 unfold Oper.wp execOp
 simp [ho, resolve, invoke, hc, hv, Deferred.ofValue, hf]
 exact h.mono fun e w' ⟨v, he, hk⟩ => by subst he; exact hk
theorem wpList_ld {ops : Array Oper} {Q : Exit -> Act -> World -> Prop} {a : Act} {w : World} {rest : List Oper} {o : Oper} {v : Value} (T : TypeId) (p : Addr) (x : Operand) (ho : o.op = .load T x) (hx : a.eval x = .pointer (some p))
  (hr : (Instr.loadAt T (.pointer (some p))).run Tryz.prog w = .ok v w) (hw : Region.wanted o (yielded ops a.tmps) = true) (h : wpList Tryz.prog ops Q rest (a.put o.dst v) w) : wpList Tryz.prog ops Q (o :: rest) a w := by
 refine wpList_step fun K hK => ?_
 rw [if_pos hw]
 unfold Oper.wp execOp
 simp only [ho, hx, Sem.run_bind, hr, Result.andThen_ok, Sem.run_pure]
 exact hK _ _ h
theorem isPut_any (k : Int) (w : World) : Calls Tryz.prog 49 #[.int .i64 k] w fun e w' => e = .returned (.bool (decide (k = 1 \/ k = 3 \/ k = 5))) /\ w' = w := by
 by_cases h1 : k = 1
 ·subst h1
  go_enter Tryz.func49, Tryz.ntmps49
  go_wp2
  go_ret
  exact ⟨rfl, rfl⟩
 ·by_cases h3 : k = 3
  ·subst h3
   go_enter Tryz.func49, Tryz.ntmps49
   go_wp2
   go_ret
   exact ⟨rfl, rfl⟩
  ·by_cases h5 : k = 5
   ·subst h5
    go_enter Tryz.func49, Tryz.ntmps49
    go_wp2
    go_ret
    exact ⟨rfl, rfl⟩
   ·have q1 : (k == 1) = false := by simpa using h1
    have q3 : (k == 3) = false := by simpa using h3
    have q5 : (k == 5) = false := by simpa using h5
    have HE : Hid (decide (k = 1 \/ k = 3 \/ k = 5) = false) := by unfold Hid; simp [h1, h3, h5]
    clear h1 h3 h5
    go_enter Tryz.func49, Tryz.ntmps49
    go_wp2
    go_ret
    exact ⟨by rw [HE.out]; rfl, rfl⟩
end Go.Proofs.YtpdnnikkaojnkaaGreat.Rt
