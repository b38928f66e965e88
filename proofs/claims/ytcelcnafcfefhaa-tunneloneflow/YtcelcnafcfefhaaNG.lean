import Derived.Test.YtcelcnafcfefhaaNF
import Derived.Deep.MidRow
namespace Go.Proofs.Ytcelcnafcfefhaa.N
open Go.ChangeShapes Go.WideShapes Go.ChangeAt Go.RowKit
set_option maxHeartbeats 400000
set_option maxRecDepth 100000

def pkCells (h : Hd) (vo vb : Value) : Array Value := #[.int .u8 (h.tos : Int), .int .u16 (h.id : Int), .bool h.df, .bool h.mf, .int .i64 h.off, .int .u8 (h.ttl : Int), .int .u8 (h.proto : Int), .int .u32 (h.src : Int), .int .u32 (h.dst : Int), vo, vb]

def refE (h : Hd) (nb : Nat) : Int := if M.area h.opts then (if M.pieceOk h.off nb h.mf then (if 20 + h.opts.length + nb ≤ 65535 then 0 else 37) else 36) else 34

theorem pk_at {u : World} {n : Nat} {h : Hd} {vo vb : Value} {t : TypeId} (hb : u.heap[n]? = some (.cells (pkCells h vo vb) t)) (i : Nat) (hi : i < 11) : u.cell? ⟨n, i, none⟩ = some ((pkCells h vo vb)[i]'hi) := by
  rw [cell_of_row u _ _ _ _ _ hb, Array.getElem?_eq_getElem hi]

theorem und29 : ∃ fs, Try.prog.underlying 52 = some (.struct fs) := ⟨_, Try.underlying52⟩
theorem und27 : ∃ fs, Try.prog.underlying 50 = some (.struct fs) := ⟨_, Try.underlying50⟩

theorem pk_load {u : World} {n : Nat} {h : Hd} {vo vb : Value} {t : TypeId} (hb : u.heap[n]? = some (.cells (pkCells h vo vb) t)) : (Instr.loadAt 52 (.pointer (some ⟨n, 0, none⟩))).run Try.prog u = .ok (.agg (pkCells h vo vb)) u := by
  obtain ⟨fs, hu⟩ := und29
  refine run_loadAt_mid u n 0 52 (pkCells h vo vb).toList (.struct fs) (fun j v hv => ?_) hu rfl (by rw [show (Try.prog.info? 52).map (·.size) = some 11 from by kernel_rfl]; rfl)
  have hj : j < 11 := (List.getElem?_eq_some_iff.1 hv).1
  rw [Nat.zero_add, pk_at hb j hj]
  rw [List.getElem?_eq_getElem hj] at hv
  exact hv

theorem pk_loadH {u : World} {n : Nat} {h : Hd} {vo vb : Value} {t : TypeId} (hb : u.heap[n]? = some (.cells (pkCells h vo vb) t)) : (Instr.loadAt 50 (.pointer (some ⟨n, 0, none⟩))).run Try.prog u = .ok (.agg (hdCells h vo)) u := by
  obtain ⟨fs, hu⟩ := und27
  refine run_loadAt_mid u n 0 50 (hdCells h vo).toList (.struct fs) (fun j v hv => ?_) hu rfl (by rw [show (Try.prog.info? 50).map (·.size) = some 10 from by kernel_rfl]; rfl)
  have hj : j < 10 := (List.getElem?_eq_some_iff.1 hv).1
  rw [Nat.zero_add, pk_at hb j (by omega)]
  have e : ∀ j (hj : j < 10), (hdCells h vo).toList[j]? = some ((pkCells h vo vb)[j]'(Nat.lt_of_lt_of_le hj (show 10 ≤ 11 by decide))) := by
    intro j hj
    match j, hj with
    | 0, _ => rfl
    | 1, _ => rfl
    | 2, _ => rfl
    | 3, _ => rfl
    | 4, _ => rfl
    | 5, _ => rfl
    | 6, _ => rfl
    | 7, _ => rfl
    | 8, _ => rfl
    | 9, _ => rfl
  rw [e j hj] at hv
  exact hv

/-- The step that reads a struct whole, guarded or not. -/
theorem wpList_ld {ops : Array Oper} {Q : Exit → Act → World → Prop} {a : Act} {w : World} {rest : List Oper} {o : Oper} {v : Value} (T : TypeId) (p : Addr) (x : Operand) (ho : o.op = .load T x) (hx : a.eval x = .pointer (some p))
    (hr : (Instr.loadAt T (.pointer (some p))).run Try.prog w = .ok v w) (hw : Region.wanted o (yielded ops a.tmps) = true) (h : wpList Try.prog ops Q rest (a.put o.dst v) w) : wpList Try.prog ops Q (o :: rest) a w := by
  refine wpList_step fun K hK => ?_
  rw [if_pos hw]
  unfold Oper.wp execOp
  simp only [ho, hx, Sem.run_bind, hr, Result.andThen_ok, Sem.run_pure]
  exact hK _ _ h

end Go.Proofs.Ytcelcnafcfefhaa.N
