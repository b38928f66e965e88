/-
  Rows of runs: copy, clear, append, cuts.
-/
import Derived.Test.YtahoileampdnkaaOA
import Derived.Test.YtahoileampdnkaaOM
import Derived.Lib.Overlaps
import Derived.Lib.AppendZerosOnto
import Derived.Laws.CopyOwn
import Derived.Laws.OwnMore
import Derived.Laws.Externs
import Derived.Deep.CutRange
import Derived.Deep.RegionWith
import Derived.Deep.RegionHeld3
import Derived.StillTailTactics
namespace Go.Proofs.Ytahoileampdnkaa
open Go.ChangeShapes Go.WideShapes Go.ChangeAt Go.RowKit Ru N
set_option maxHeartbeats 400000
set_option maxRecDepth 100000

theorem run_copyK {P : Program} (w : World) (dT sT ty elem : TypeId) (k g o dLen dCap : Nat) (a : Addr) (sLen sCap : Nat) (cur : Array Value) (t : TypeId) (cs : List Value)
    (hu : P.underlying dT = some (.slice elem)) (hs : ∀ u, (sizeOf elem).run P u = .ok k u)
    (hg : w.heap[g]? = some (.cells cur t (0, 0))) (hn : cs.length = Nat.min sLen dLen * k)
    (hsrc : ∀ j v, cs[j]? = some v → w.cell? (a.add j) = some v) (hfit : o + cs.length ≤ cur.size) (h1 : ∀ v ∈ cs, v.oneCell' = true) :
    (Builtin.copy_ #[dT, sT] ty #[.slice (some ⟨g, o, none⟩) dLen dCap, .slice (some a) sLen sCap]).run P w =
      .ok (goInt (Nat.min sLen dLen)) (w.setRow g (cur.toList.take o ++ cs ++ cur.toList.drop (o + cs.length)).toArray) := by
  have hf := run_firstCells_some (P := P) w k (Nat.min sLen dLen) a sLen sCap cs hn hsrc
  have hst := run_storeCells_at P g o t cs 0 cur w hg (by simpa using hfit) h1
  simp only [Nat.add_zero] at hst
  simp [Builtin.copy_, run_underlying hu, Builtin.lenOf, hs, hf, hst]

theorem run_copy0 {P : Program} (w : World) (dT sT ty elem : TypeId) (k : Nat) (d : Option Addr) (dLen dCap sCap : Nat)
    (hu : P.underlying dT = some (.slice elem)) (hs : ∀ u, (sizeOf elem).run P u = .ok k u) :
    (Builtin.copy_ #[dT, sT] ty #[.slice d dLen dCap, .slice none 0 sCap]).run P w = .ok (goInt 0) w := by
  have hf := run_firstCells_none (P := P) w k 0 0 sCap
  cases d <;> simp [Builtin.copy_, run_underlying hu, Builtin.lenOf, hs, hf, storeCells]

theorem wpList_copy_run {P : Program} (w : World) {ops : Array Oper} {rest : List Oper} {o : Oper} {a : Act} {Q : Exit → Act → World → Prop} (hgd : o.guard = none) (d s : Operand) (t t' : TypeId)
    (ho : o.op = .call { callee := .builtin .copy, args := #[d, s], argTypes := #[t, t'] }) (v u : Value) (hd : a.eval d = v) (hs : a.eval s = u) {v' : Value} {w' : World}
    (hr : (Builtin.copy_ #[t, t'] o.type #[v, u]).run P w = .ok v' w') (h : wpList P ops Q rest (a.put o.dst v') w') : wpList P ops Q (o :: rest) a w :=
  wpList_plain hgd fun _ hK => by
    unfold Oper.wp execOp
    simp only [ho, resolve, invoke, builtin, Sem.run_bind, Sem.run_pure, Result.andThen_ok, List.map_toArray, List.map_cons, List.map_nil, hd, hs, hr]
    exact hK _ _ h

theorem wpList_append_run {P : Program} (w : World) {ops : Array Oper} {rest : List Oper} {o : Oper} {a : Act} {Q : Exit → Act → World → Prop} (hgd : o.guard = none) (d s : Operand) (t t' : TypeId)
    (ho : o.op = .call { callee := .builtin .append, args := #[d, s], argTypes := #[t, t'] }) (v u : Value) (hd : a.eval d = v) (hs : a.eval s = u) {v' : Value} {w' : World}
    (hr : (Builtin.append_ #[t, t'] o.type #[v, u]).run P w = .ok v' w') (h : wpList P ops Q rest (a.put o.dst v') w') : wpList P ops Q (o :: rest) a w :=
  wpList_plain hgd fun _ hK => by
    unfold Oper.wp execOp
    simp only [ho, resolve, invoke, builtin, Sem.run_bind, Sem.run_pure, Result.andThen_ok, List.map_toArray, List.map_cons, List.map_nil, hd, hs, hr]
    exact hK _ _ h

theorem wpList_clear_run {P : Program} (w : World) {ops : Array Oper} {rest : List Oper} {o : Oper} {a : Act} {Q : Exit → Act → World → Prop} (hgd : o.guard = none) (d : Operand) (t : TypeId)
    (ho : o.op = .call { callee := .builtin .clear, args := #[d], argTypes := #[t] }) (v : Value) (hd : a.eval d = v) {v' : Value} {w' : World}
    (hr : (Builtin.clear_ #[t] o.type #[v]).run P w = .ok v' w') (h : wpList P ops Q rest (a.put o.dst v') w') : wpList P ops Q (o :: rest) a w :=
  wpList_plain hgd fun _ hK => by
    unfold Oper.wp execOp
    simp only [ho, resolve, invoke, builtin, Sem.run_bind, Sem.run_pure, Result.andThen_ok, List.map_toArray, List.map_cons, List.map_nil, hd, hr]
    exact hK _ _ h

theorem size64 (u : World) : (sizeOf 64).run Try.prog u = .ok 2 u := by kernel_rfl
theorem info64 : (Try.prog.info? 64).map (fun i => (i.zero, i.size, i.bytes)) = some (some (.agg #[.int .i64 0, .int .i64 0]), 2, 16) := by kernel_rfl
theorem u66 : Try.prog.underlying 66 = some (.slice 64) := by kernel_rfl
theorem u65 : Try.prog.underlying 65 = some (.slice 64) := by kernel_rfl
theorem u3 : Try.prog.underlying 3 = some (.int .i64) := by kernel_rfl

theorem info_at : ∃ i, Try.prog.info? 64 = some i ∧ i.zero = some (.agg #[.int .i64 0, .int .i64 0]) ∧ i.size = 2 ∧ i.bytes = 16 := by
  have h := info64
  cases hq : Try.prog.info? 64 with
  | none => rw [hq] at h; cases h
  | some i =>
    rw [hq] at h
    simp at h
    exact ⟨i, rfl, h.1, h.2.1, h.2.2⟩

theorem append_66 (ty : TypeId) (x y : Value) (w : World) : (Builtin.append_ #[66, 65] ty #[x, y]).run Try.prog w = (Builtin.append_ #[65, 65] ty #[x, y]).run Try.prog w := by
  simp [Builtin.append_, run_underlying u66, run_underlying u65]

/-- k empty runs. -/
def zs (k : Nat) : List Value := List.replicate (2 * k) (.int .i64 0)
theorem zs_len (k : Nat) : (zs k).length = 2 * k := by simp [zs]
theorem zs_one (k : Nat) : ∀ v ∈ zs k, v.oneCell' = true := fun v h => by
  rw [List.eq_of_mem_replicate h]; rfl

theorem zeros_eq (k : Nat) : (Builtin.zeroCells (.agg #[.int .i64 0, .int .i64 0] : Value).cells k).toList = zs k := by
  have e : (Value.agg #[.int .i64 0, .int .i64 0]).cells = #[.int .i64 0, .int .i64 0] := rfl
  rw [e]
  apply List.ext_getElem
  · simp [Builtin.zeroCells, zs]; omega
  · intro i h1 h2
    have hi : i % 2 = 0 ∨ i % 2 = 1 := by omega
    simp [Builtin.zeroCells, zs]
    rcases hi with hi | hi <;> simp [hi]

theorem run_clear64 (w : World) (ty : TypeId) (g o k c : Nat) (cur : Array Value) (hg : w.heap[g]? = some (.cells cur 64 (0, 0))) (hk : 0 < k) (hfit : o + 2 * k ≤ cur.size) :
    (Builtin.clear_ #[66] ty #[.slice (some ⟨g, o, none⟩) k c]).run Try.prog w = .ok (.tuple #[]) (w.setRow g (cur.toList.take o ++ zs k ++ cur.toList.drop (o + 2 * k)).toArray) := by
  have hst := run_storeCells_at Try.prog g o 64 (zs k) 0 cur w hg (by simpa [zs_len] using hfit) (zs_one k)
  simp only [Nat.add_zero, zs_len] at hst
  obtain ⟨k, rfl⟩ : ∃ m, k = m + 1 := ⟨k - 1, by omega⟩
  simp [Builtin.clear_, run_underlying u66, zeros_eq, hst]

theorem run_clear0 (w : World) (ty : TypeId) (a : Option Addr) (c : Nat) :
    (Builtin.clear_ #[66] ty #[.slice a 0 c]).run Try.prog w = .ok (.tuple #[]) w := by
  cases a <;> simp [Builtin.clear_, run_underlying u66]

/-- Cuts. -/
theorem ue : Try.prog.underlying 66 = some (.slice (Try.prog.elem 66)) := by kernel_rfl
theorem sze (u : World) : (sizeOf (Try.prog.elem 66)).run Try.prog u = .ok 2 u := by kernel_rfl

theorem cut_lo (g n cap m : Nat) (i : Int) (hi : i = m) (hm : m ≤ n) (hmc : m < cap) (u : World) : (Instr.sliceAt 66 (.slice (some ⟨g, 0, none⟩) n cap) (some (.int .i64 i)) none none).run Try.prog u = .ok (.slice (some ⟨g, m * 2, none⟩) (n - m) (cap - m)) u := by
  subst hi
  rw [run_sliceAt_slice (h := ue), run_slice_l (ht := ue) (h0 := by omega) (h1 := by omega), sze]
  have hne : ¬ cap = m := by omega
  simp [Result.andThen, sliced, hne, Addr.add]
  omega

theorem cut_lo' (g n cap m : Nat) (i : Int) (hi : i = m) (hm : m ≤ n) : ∃ A : Addr, ∀ u : World, (Instr.sliceAt 66 (.slice (some ⟨g, 0, none⟩) n cap) (some (.int .i64 i)) none none).run Try.prog u = .ok (.slice (some A) (n - m) (cap - m)) u := by
  subst hi
  refine ⟨if cap = m then ⟨g, 0, none⟩ else (⟨g, 0, none⟩ : Addr).add (m * 2), fun u => ?_⟩
  rw [run_sliceAt_slice (h := ue), run_slice_l (ht := ue) (h0 := by omega) (h1 := by omega), sze]
  by_cases hne : cap = m <;> simp [Result.andThen, sliced, hne]

theorem cut_hi (g n cap m : Nat) (i : Int) (hi : i = m) (hm : m ≤ cap) (u : World) : (Instr.sliceAt 66 (.slice (some ⟨g, 0, none⟩) n cap) none (some (.int .i64 i)) none).run Try.prog u = .ok (.slice (some ⟨g, 0, none⟩) m cap) u := by
  subst hi
  rw [run_sliceAt_slice (h := ue), run_slice_h (ht := ue) (h0 := by omega) (h2 := by omega), sze]
  simp [Result.andThen, sliced, Addr.add]

theorem cut_both (g n cap a b : Nat) (hab : a ≤ b) (hb : b ≤ cap) : ∃ A : Addr, ∀ u : World, (Instr.sliceAt 66 (.slice (some ⟨g, 0, none⟩) n cap) (some (.int .i64 (a : Int))) (some (.int .i64 (b : Int))) none).run Try.prog u = .ok (.slice (some A) (b - a) (cap - a)) u := by
  refine ⟨if cap = a then ⟨g, 0, none⟩ else (⟨g, 0, none⟩ : Addr).add (a * 2), fun u => ?_⟩
  rw [run_sliceAt_slice (h := ue), run_slice_lh (ht := ue) (h0 := by omega) (h1 := by omega) (h2 := by omega), sze]
  by_cases hne : cap = a <;> simp [Result.andThen, sliced, hne]

/-- What is written over. -/
theorem put_back (C V T : List Value) (p : Nat) (hp : p + V.length + T.length ≤ C.length) :
    (C.take (p + V.length) ++ T ++ C.drop (p + V.length + T.length)).take p ++ V ++ (C.take (p + V.length) ++ T ++ C.drop (p + V.length + T.length)).drop (p + V.length) = C.take p ++ V ++ T ++ C.drop (p + V.length + T.length) := by
  have e1 : (C.take (p + V.length)).length = p + V.length := by rw [List.length_take]; omega
  rw [List.append_assoc (C.take (p + V.length)), List.drop_append_of_le_length (by omega), List.take_append_of_le_length (by omega), List.drop_of_length_le (by omega), List.take_take, Nat.min_eq_left (by omega)]
  simp

theorem put_fore (C V T : List Value) (p : Nat) (hp : p + V.length + T.length ≤ C.length) :
    (C.take p ++ V ++ C.drop (p + V.length)).take (p + V.length) ++ T ++ (C.take p ++ V ++ C.drop (p + V.length)).drop (p + V.length + T.length) = C.take p ++ V ++ T ++ C.drop (p + V.length + T.length) := by
  have e1 : (C.take p ++ V).length = p + V.length := by rw [List.length_append, List.length_take]; omega
  rw [List.take_append_of_le_length (by omega), List.take_of_length_le (by omega), List.drop_append, List.drop_of_length_le (by omega), e1, List.drop_drop]
  simp

theorem seg_fore (C V : List Value) (p q : Nat) (hq : p + V.length ≤ q) (hp : p ≤ C.length) : (C.take p ++ V ++ C.drop (p + V.length)).drop q = C.drop q := by
  have e1 : (C.take p ++ V).length = p + V.length := by rw [List.length_append, List.length_take]; omega
  rw [List.drop_append, List.drop_of_length_le (by omega), e1, List.drop_drop]
  simp
  congr 1
  omega

/-- A value's block is another's or a new one. -/
def NewBlk (v v' : Value) (n : Nat) : Prop := v'.ownBlock = v.ownBlock ∨ ∃ g, v'.ownBlock = some g ∧ n ≤ g

theorem grown_refl (w : World) (r : Option Nat) : w.grownBy w r := ⟨rfl, rfl, rfl, Nat.le_refl _, fun _ _ _ => rfl⟩
theorem grown_drew {w w' : World} {r : Option Nat} (h : w.grownBy w' r) : w.grownBy w'.drew r := ⟨h.os, h.tape, h.output, h.size, h.block⟩
theorem grown_row {w w' : World} {g : Nat} (h : w.grownBy w' (some g)) (cs : Array Value) : w.grownBy (w'.setRow g cs) (some g) :=
  ⟨h.os, h.tape, h.output, by simpa using h.size, fun k hk hne => by rw [setRow_other w' g k cs (fun e => hne (by rw [e]))]; exact h.block k hk hne⟩

abbrev Row (w : World) (B : Nat) (v : Value) (n : Nat) (xs : List Value) : Prop := w.ownsRow B 64 2 v n xs
end Go.Proofs.Ytahoileampdnkaa
