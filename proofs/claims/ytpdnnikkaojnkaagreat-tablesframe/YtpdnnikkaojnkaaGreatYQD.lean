import Derived.Test.YtpdnnikkaojnkaaGreatYQC
import Derived.Test.YtpdnnikkaojnkaaGreatYLZB
import Derived.Test.YtpdnnikkaojnkaaGreatYLS
import Derived.Test.YtpdnnikkaojnkaaGreatYVROG
namespace Go.Proofs.YtpdnnikkaojnkaaGreat.Rt
open Go.Proofs.YtpdnnikkaojnkaaGreat Go.ChangeShapes Go.WideShapes Go.ChangeAt Go.RowKit Go.Maps Tri N
set_option maxHeartbeats 2000000
set_option maxRecDepth 100000
theorem one_caps (s : Ks) (o : Opv) : (oneS s o).cr = s.cr /\ (oneS s o).cn = s.cn /\ (oneS s o).cf = s.cf := by
 unfold oneS
 repeat' split
 all_goals exact ⟨rfl, rfl, rfl⟩
theorem own_kept {α : Type} {K : Rk α} {w w' : World} {B : Nat} {v : Value} {L : List α} (h : Own K w B v L) (hk : ∀ c, c < w.heap.size -> B <= c -> w'.heap[c]? = w.heap[c]?) : Own K w' B v L := by
 refine ⟨h.1, ?_⟩
 rcases h.2 with h0 | ⟨g, cap, cur, rfl, hbb, hg, rest⟩
 ·exact .inl h0
 ·exact .inr ⟨g, cap, cur, rfl, hbb, (hk g (gsl hg) hbb).trans hg, rest⟩
def Gd (A : List Vt) (B : List Nb) (C : List Fd) (v : Value) (w : World) : Prop := ∃ x y z, v = .agg #[x, y, z] /\ Own kR w 0 x A /\ Own kN w 0 y B /\ Own kF w 0 z C
theorem Gd.below {A : List Vt} {B : List Nb} {C : List Fd} {v : Value} {w w' : World} (h : Gd A B C v w) (hb : Below w.heap.size w w') : Gd A B C v w' := by
 obtain ⟨x, y, z, e, h1, h2, h3⟩ := h
 exact ⟨x, y, z, e, h1.below hb, h2.below hb, h3.below hb⟩
structure Ls3 (s : Ks) (A : List Vt) (B : List Nb) (C : List Fd) : Prop where
 r : SrtK Tri.Vt.num A s.R
 n : SrtK (fun e : Nb => e.ip) B s.N
 f : SrtK (fun e : Fd => e.mac.num) C s.F
theorem gd_dumps {A : List Vt} {B : List Nb} {C : List Fd} {v1 v2 : Value} {w : World} (h1 : Gd A B C v1 w) (h2 : Gd A B C v2 w) (hA : A.length <= 256) (hB : B.length <= 256) (hC : C.length <= 256) : Calls Tryz.prog 10 #[v1, v2] w fun e w' => e = .returned (.bool true) /\ Below w.heap.size w w' := by
 obtain ⟨x1, y1, z1, rfl, a1, a2, a3⟩ := h1
 obtain ⟨x2, y2, z2, rfl, b1, b2, b3⟩ := h2
 exact dumps_any w x1 y1 z1 x2 y2 z2 A B C a1 b1 a2 b2 a3 b3 hA hB hC
section
variable {o : Oper} {a : Act} {w : World}
theorem exq_eql0 (x : Operand) (ho : o.op = .binOp .eql 27 x (.const (.int .i64 0)) 27) (hx : a.eval x = .int .i64 0) : (execOp a.eval o).run Tryz.prog w = .ok (.value (.bool true)) w := by
 simp only [execOp, ho, hx]
 simp [go_sem, eqGuard]
theorem exq_pickT (x y : Operand) (z : Value) (ho : o.op = .pick x y (.const (.bool false))) (hx : a.eval x = .bool true) (hy : a.eval y = z) : (execOp a.eval o).run Tryz.prog w = .ok (.value z) w := by
 simp only [execOp, ho, hx, hy]
 simp [go_sem]
end
end Go.Proofs.YtpdnnikkaojnkaaGreat.Rt
