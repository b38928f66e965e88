import Derived.Test.YtpdnnikkaojnkaaGreatYQA
import Derived.Test.YtpdnnikkaojnkaaGreatYLH
namespace Go.Proofs.YtpdnnikkaojnkaaGreat.Rt
open Go.Proofs.YtpdnnikkaojnkaaGreat Go.ChangeShapes Go.WideShapes Go.ChangeAt Go.RowKit Go.Maps Tri N
set_option maxHeartbeats 4000000
set_option maxRecDepth 100000
@[reducible] def kO : Rk Opv where
 eT := 46
 sT := 24
 z := 19
 bs := 56
 cs := Opv.cells
 zero := .agg opZ
 len x := rfl
 one x := by simp [Opv.cells, Value.oneCell']
 zp := by decide
 bp := by decide
 us := by kernel_rfl
 el := by kernel_rfl
 info := by kernel_rfl
 zs := rfl
 ue := ⟨_, Tryz.underlying46, rfl⟩
theorem build1Q (o : Opv) (u : World) : (Instr.buildSlice 24 1 #[(0, .agg o.cells)]).run Tryz.prog u = .ok (.slice (some ⟨u.heap.size, 0, none⟩) 1 1) (u.alloc (.cells o.cells 46)) := by kernel_rfl
theorem wpList_bsO {ops : Array Oper} {Q : Exit -> Act -> World -> Prop} {a : Act} {w : World} {rest : List Oper} {o : Oper} (hgd : o.guard = none) (x : Opv) (s : Operand) (ho : o.op = .buildSlice 24 1 #[(0, s)]) (hs : a.eval s = .agg x.cells)
  (h : ∀ w', Below w.heap.size w w' -> w'.heap[w.heap.size]? = some (.cells x.cells 46) -> wpList Tryz.prog ops Q rest (a.put o.dst (.slice (some ⟨w.heap.size, 0, none⟩) 1 1)) w') : wpList Tryz.prog ops Q (o :: rest) a w :=
 wpList_plain hgd fun _ hK => wp_val (ex_bsE 24 1 #[(0, s)] #[(0, .agg x.cells)] _ ho (by simp only [List.map_toArray, List.map_cons, List.map_nil, hs]) (build1Q x w)) (hK _ _ (h _ (bR.alloc nL _) (heap_alloc_new w _)))
end Go.Proofs.YtpdnnikkaojnkaaGreat.Rt
