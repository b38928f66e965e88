import Derived.Test.YthpokoiclfbddaaDoorYFlA
import Derived.Test.YthpokoiclfbddaaDoorED
import Derived.Test.YthpokoiclfbddaaDoorEE
import Derived.Deep.MidRow
import Derived.Deep.RegionWith
import Derived.StillTailTactics
import Derived.WalkMore
import Derived.Laws.Tables
import Derived.Great.BuildSlice
namespace Go.Proofs.YthpokoiclfbddaaDoor.Fl
open Go.Proofs.YthpokoiclfbddaaDoor Go.ChangeShapes Go.WideShapes Go.ChangeAt Go.RowKit Go.Maps N
set_option maxHeartbeats 2000000
set_option maxRecDepth 100000

theorem below_keeps {B k : Nat} {w w' : World} {o : Obj} (h : Below B w w') (hk : w.heap[k]? = some o) (hlt : k < B) : w'.heap[k]? = some o := (h.block k hlt).trans hk

/-- All but one block are as they were. -/
structure But (g : Nat) (w w' : World) : Prop where
  os : w'.os = w.os
  tape : w'.tape = w.tape
  output : w'.output = w.output
  size : w.heap.size ≤ w'.heap.size
  block : ∀ j, j < w.heap.size → j ≠ g → w'.heap[j]? = w.heap[j]?

theorem But.set (g i : Nat) (w : World) (v : Value) : But g w (w.setCell ⟨g, i, none⟩ v) := ⟨rfl, rfl, rfl, by simp [World.setCell], fun j _ hn => by simp [World.setCell, Array.getElem?_modify, Ne.symm hn]⟩

/-- What is outside X stays. -/
structure Chg (X : Nat → Prop) (w w' : World) : Prop where
  os : w'.os = w.os
  tape : w'.tape = w.tape
  output : w'.output = w.output
  size : w.heap.size ≤ w'.heap.size
  block : ∀ j, j < w.heap.size → ¬ X j → w'.heap[j]? = w.heap[j]?

theorem Chg.of_below {X : Nat → Prop} {w w' : World} (h : Below w.heap.size w w') : Chg X w w' := ⟨h.os, h.tape, h.output, h.size, fun j hj _ => h.block j hj⟩
theorem Chg.refl (X : Nat → Prop) (w : World) : Chg X w w := Chg.of_below (Below.refl _ _)
theorem Chg.trans {X : Nat → Prop} {a b c : World} (h1 : Chg X a b) (h2 : Chg X b c) : Chg X a c :=
  ⟨h2.os.trans h1.os, h2.tape.trans h1.tape, h2.output.trans h1.output, Nat.le_trans h1.size h2.size, fun j hj hn => (h2.block j (Nat.lt_of_lt_of_le hj h1.size) hn).trans (h1.block j hj hn)⟩
theorem Chg.mono {X Y : Nat → Prop} {a b : World} (h : Chg X a b) (hs : ∀ j, X j → Y j) : Chg Y a b := ⟨h.os, h.tape, h.output, h.size, fun j hj hn => h.block j hj (fun hx => hn (hs j hx))⟩
theorem Chg.of_but {g : Nat} {X : Nat → Prop} {w w' : World} (h : But g w w') (hg : X g) : Chg X w w' := ⟨h.os, h.tape, h.output, h.size, fun j hj hn => h.block j hj (fun e => hn (e ▸ hg))⟩

theorem But.trans {g : Nat} {a b c : World} (h1 : But g a b) (h2 : But g b c) : But g a c :=
  ⟨h2.os.trans h1.os, h2.tape.trans h1.tape, h2.output.trans h1.output, Nat.le_trans h1.size h2.size, fun i hi hn => (h2.block i (Nat.lt_of_lt_of_le hi h1.size) hn).trans (h1.block i hi hn)⟩
theorem But.below {g : Nat} {w w' w0 : World} {B : Nat} (h : But g w w') (hb : Below B w0 w) (hB : B ≤ w.heap.size) (hg : B ≤ g) : Below B w0 w' :=
  ⟨h.os.trans hb.os, h.tape.trans hb.tape, h.output.trans hb.output, Nat.le_trans hb.size h.size, fun i hi => (h.block i (by omega) (by omega)).trans (hb.block i hi)⟩

theorem But.setRow (g : Nat) (w : World) (cs : Array Value) : But g w (w.setRow g cs) := ⟨rfl, rfl, rfl, by simp [World.setRow], fun j _ hn => by simp [World.setRow, Array.getElem?_modify, Ne.symm hn]⟩

/-- A struct goes whole into its block. -/
theorem wpList_st {ops : Array Oper} {rest : List Oper} {o : Oper} {a : Act} {w : World} {Q : Exit → Act → World → Prop} (hgd : o.guard = none) (T : TypeId) (x y : Operand) (ho : o.op = .store T x y)
    (g : Nat) (cells : Array Value) (hx : a.eval x = .pointer (some ⟨g, 0, none⟩)) (hy : a.eval y = .agg cells)
    (t : TypeId) (old : Array Value) (hg : w.heap[g]? = some (.cells old t (0, 0))) (hi : (Tryd.prog.info? T).map (·.size) = some cells.size)
    (hold : old.size = cells.size) (h1 : cells.all (·.oneCell') = true)
    (h : ∀ w', w'.heap[g]? = some (.cells cells t (0, 0)) → But g w w' → wpList Tryd.prog ops Q rest (a.put o.dst undef) w') : wpList Tryd.prog ops Q (o :: rest) a w :=
  wpList_store_row hgd T x y ho g cells hx hy t old hg hi hold h1 (h _ (setRow_heap w g _ _ t _ hg) (But.setRow g w cells))

abbrev Nw := Array Value × TypeId
theorem ex_alloc {o : Oper} {a : Act} (u : World) {T : TypeId} {z : Array Value} (ho : o.op = .alloc T) (hr : ∀ u : World, (Instr.alloc T true (.tuple #[])).run Tryd.prog u = .ok (.pointer (some ⟨u.heap.size, 0, none⟩)) (u.alloc (.cells z T))) : (execOp a.eval o).run Tryd.prog u = .ok (.value (.pointer (some ⟨u.heap.size, 0, none⟩))) (u.alloc (.cells z T)) := by
  unfold execOp
  simp [ho, hr]
theorem ex_extract {P : Program} {o : Oper} {a : Act} {w : World} (x : Operand) (k : Nat) (vs : Array Value) (v : Value) (ho : o.op = .extract x k) (hx : a.eval x = .tuple vs) (hv : vs[k]? = some v) : (execOp a.eval o).run P w = .ok (.value v) w := by
  unfold execOp
  simp [ho, hx, Instr.extract, hv]
theorem ex_lookup {P : Program} {o : Oper} {a : Act} {w : World} (T : TypeId) (x y : Operand) (c : Bool) (m k v : Value) (ho : o.op = .lookup T x y c) (hx : a.eval x = m) (hy : a.eval y = k) (hr : (Instr.lookup T m k c).run P w = .ok v w) : (execOp a.eval o).run P w = .ok (.value v) w := by
  unfold execOp
  simp only [ho, hx, hy, Sem.run_bind, hr, Result.andThen_ok, Sem.run_pure]
theorem wp_callV {P : Program} {o : Oper} {a : Act} {w : World} {K : Act → World → Prop} {Q : Exit → Act → World → Prop} (f : FuncId) (c : Operand) (xs : Array Operand) (ts : Array TypeId) (ho : o.op = .call { callee := .value c, args := xs, argTypes := ts }) (hc : a.eval c = .func (.func f) #[] #[])
    (hf : ∀ (args : Array Value) (w : World), (callFunc f args).run P w = .ok (.enter f args) w) (vs : Array Value) (hv : xs.map a.eval = vs) (h : Calls P f vs w fun e w' => ∃ v, e = .returned v ∧ K (a.put o.dst v) w') : o.wp P a w K Q := by
  unfold Oper.wp execOp
  simp [ho, resolve, invoke, hc, hv, Deferred.ofValue, hf]
  exact h.mono fun e w' ⟨v, he, hk⟩ => by subst he; exact hk
theorem wpList_ld {ops : Array Oper} {Q : Exit → Act → World → Prop} {a : Act} {w : World} {rest : List Oper} {o : Oper} {v : Value} (T : TypeId) (p : Addr) (x : Operand) (ho : o.op = .load T x) (hx : a.eval x = .pointer (some p))
    (hr : (Instr.loadAt T (.pointer (some p))).run Tryd.prog w = .ok v w) (hw : Region.wanted o (yielded ops a.tmps) = true) (h : wpList Tryd.prog ops Q rest (a.put o.dst v) w) : wpList Tryd.prog ops Q (o :: rest) a w := by
  refine wpList_step fun K hK => ?_
  rw [if_pos hw]
  unfold Oper.wp execOp
  simp only [ho, hx, Sem.run_bind, hr, Result.andThen_ok, Sem.run_pure]
  exact hK _ _ h
theorem ex_nil {P : Program} {o : Oper} {a : Act} {w : World} (p : Addr) (x : Operand) (ho : o.op = .nilCheck x) (hx : a.eval x = .pointer (some p)) : (execOp a.eval o).run P w = .ok (.value (.pointer (some p))) w := by
  unfold execOp
  simp only [ho, hx]
  rfl
theorem ex_assign {P : Program} {o : Oper} {a : Act} {w : World} (x : Operand) (v : Value) (ho : o.op = .assign x) (hx : a.eval x = v) : (execOp a.eval o).run P w = .ok (.value v) w := by
  unfold execOp
  simp only [ho, hx, Sem.run_pure]
theorem wpStill_ld {P : Program} {ops : Array Oper} {Q : Act → Prop} {a : Act} {w : World} {rest : List Oper} {o : Oper} {v : Value} (T : TypeId) (p : Addr) (x : Operand) (ho : o.op = .load T x) (hw : Region.wanted o (yielded ops a.tmps) = true) (hx : a.eval x = .pointer (some p))
    (hr : (Instr.loadAt T (.pointer (some p))).run P w = .ok v w) (h : wpStill P ops w Q rest (a.put o.dst v)) : wpStill P ops w Q (o :: rest) a := by
  refine wpStill_step fun K hK => ?_
  rw [if_pos hw]
  unfold Oper.still execOp
  simp only [ho, hx, Sem.run_bind, hr, Result.andThen_ok, Sem.run_pure, Oper.stillUpon_value]
  exact hK _ h
/-- A store: by which operation; into which old block, or into the new one that an operation made; what lies there then. -/
structure Sto where
  op : Nat
  old : Bool
  blk : Nat
  row : Array Value
  ty : TypeId

def Tgt (q : Sto) (vs : Nat → Value) (b : Nat) : Prop := if q.old then b = q.blk else vs q.blk = .pointer (some ⟨b, 0, none⟩)
def FV (l : List (Value ⊕ Nw)) (B : Nat) (i : Nat) (v : Value) (w : World) : Prop :=
  match l[i]? with
  | some (.inl x) => v = x
  | some (.inr z) => ∃ b old, v = .pointer (some ⟨b, 0, none⟩) ∧ B ≤ b ∧ old.size = z.1.size ∧ w.heap[b]? = some (.cells old z.2 (0, 0))
  | none => True
def FT (l : List (Value ⊕ Nw)) (B : Nat) (st : List Sto) (i : Nat) (vs : Nat → Value) (w : World) : Prop :=
  FV l B i (vs i) w ∧ ∀ q ∈ st, q.op = i → ∃ b, Tgt q vs b ∧ w.heap[b]? = some (.cells q.row q.ty (0, 0))
def IT (W : World) (B : Nat) (st : List Sto) (u : World) : Prop :=
  Chg (fun b => B ≤ b ∨ ∃ q ∈ st, q.old = true ∧ b = q.blk) W u ∧ ∀ q ∈ st, q.old = true → ∃ old, old.size = q.row.size ∧ u.heap[q.blk]? = some (.cells old q.ty (0, 0))
def RT (st : List Sto) (j : Nat) (w w' : World) : Prop :=
  (∃ q ∈ st, q.op = j ∧ ∃ b old, w.heap[b]? = some (.cells old q.ty (0, 0)) ∧ old.size = q.row.size ∧ But b w w' ∧ w'.heap[b]? = some (.cells q.row q.ty (0, 0))) ∨ Below w.heap.size w w'

/-- No two stores have one type; a store into a new block waits for the block. -/
def stOk (st : List Sto) (ops : List Oper) : Bool :=
  st.all fun q => (st.all fun p => decide (p.op = q.op) || decide (p.ty ≠ q.ty)) && (q.old || (ops[q.op]?.map fun o => o.after.any fun e => Region.binds .any e && decide (e.on = q.blk)).getD true)

theorem FV.under {l : List (Value ⊕ Nw)} {B i : Nat} {v : Value} {w w' : World} {st : List Sto} {j : Nat} (h : FV l B i v w) (hr : RT st j w w') : FV l B i v w' := by
  unfold FV at *
  split
  · rename_i x hx; simpa [hx] using h
  · rename_i z hx
    rw [hx] at h
    obtain ⟨b, old, h1, h2, h3, h4⟩ := h
    have hlt := (Array.getElem?_eq_some_iff.1 h4).1
    rcases hr with ⟨q, hq, _, b', old', r1, r2, r3, r4⟩ | hb
    · by_cases e : b = b'
      · subst e
        rw [h4] at r1
        injection r1 with r1
        injection r1 with e1 e2
        subst e1
        exact ⟨b, q.row, h1, h2, by rw [← r2]; exact h3, by rw [r4, ← e2]⟩
      · exact ⟨b, old, h1, h2, h3, (r3.block b hlt e).trans h4⟩
    · exact ⟨b, old, h1, h2, h3, below_keeps hb h4 hlt⟩
  · trivial

theorem FT.keeps (l : List (Value ⊕ Nw)) (B : Nat) (st : List Sto) (ops : List Oper) (I : World → Prop) (hok : stOk st ops = true) : ∀ (i j : Nat) (o : Oper) (vs : Nat → Value) (v : Value) (w w' : World), i ≠ j → ops[i]? = some o → (∀ e ∈ o.after, Region.binds .any e = true → e.on ≠ j) → FT l B st i vs w → I w → RT st j w w' → FT l B st i (upd vs j v) w' := fun i j o vs v w w' hij ho he h _ hr => by
  refine ⟨?_, fun q hq hqi => ?_⟩
  · rw [upd_ne _ hij]; exact h.1.under hr
  · obtain ⟨b, h1, h2⟩ := h.2 q hq hqi
    have hlt := (Array.getElem?_eq_some_iff.1 h2).1
    have hk := List.all_eq_true.1 hok q hq
    rw [Bool.and_eq_true] at hk
    refine ⟨b, ?_, ?_⟩
    · unfold Tgt at *
      cases hold : q.old with
      | true => rw [hold] at h1; simpa using h1
      | false =>
        rw [hold] at h1
        have h3 := hk.2
        rw [hold, Bool.false_or, hqi, ho] at h3
        simp only [Option.map_some, Option.getD_some, Array.any_eq_true', Bool.and_eq_true, decide_eq_true_eq] at h3
        obtain ⟨e, he1, he2, he3⟩ := h3
        have := he e he1 he2
        rw [he3] at this
        simp only [Bool.false_eq_true, if_false] at h1 ⊢
        rw [upd_ne _ this]; exact h1
    · rcases hr with ⟨p, hp, hpj, b', old', r1, r2, r3, r4⟩ | hb
      · by_cases e : b = b'
        · subst e
          rw [h2] at r1
          injection r1 with r1
          injection r1 with e1 e2
          have := List.all_eq_true.1 hk.1 p hp
          simp only [Bool.or_eq_true, decide_eq_true_eq] at this
          rcases this with t | t
          · exact absurd (t.symm.trans hpj) (by rw [hqi]; exact hij)
          · exact absurd e2.symm t
        · exact (r3.block b hlt e).trans h2
      · exact below_keeps hb h2 hlt

theorem IT.below {W w w' : World} {B : Nat} {st : List Sto} (h : IT W B st w) (hb : Below w.heap.size w w') : IT W B st w' :=
  ⟨h.1.trans (Chg.of_below hb), fun q hq hold => by
    obtain ⟨old, h1, h2⟩ := h.2 q hq hold
    exact ⟨old, h1, below_keeps hb h2 (Array.getElem?_eq_some_iff.1 h2).1⟩⟩
theorem IT.at {W u : World} {B b : Nat} {st : List Sto} {o : Obj} (h : IT W B st u) (hr : W.heap[b]? = some o) (hB : b < B) (hn : ∀ q ∈ st, q.old = true → q.blk ≠ b) : u.heap[b]? = some o :=
  (h.1.block b (Array.getElem?_eq_some_iff.1 hr).1 (fun hx => by
    rcases hx with hx | ⟨q, hq, h1, h2⟩
    · omega
    · exact hn q hq h1 h2.symm)).trans hr
theorem IT.same {W u : World} {B b : Nat} {st : List Sto} (h : IT W B st u) (hB : b < B) (hW : b < W.heap.size) (hn : (st.all fun q => !q.old) = true) : u.heap[b]? = W.heap[b]? :=
  h.1.block b hW fun hx => by
    rcases hx with hx | ⟨q, hq, h1, _⟩
    · omega
    · have := List.all_eq_true.1 hn q hq
      rw [h1] at this
      cases this
theorem IT.below' {W u : World} {B : Nat} {st : List Sto} (h : IT W B st u) (hB : B ≤ W.heap.size) (hn : (st.all fun q => !q.old) = true) : Below B W u :=
  ⟨h.1.os, h.1.tape, h.1.output, h.1.size, fun b hb => h.same hb (by omega) hn⟩
/-- Of a block of another type. -/
theorem IT.kind {W u : World} {B b : Nat} {st : List Sto} {cs : Array Value} {t : TypeId} (h : IT W B st u) (hr : W.heap[b]? = some (.cells cs t (0, 0))) (hB : b < B) (hI : IT W B st W) (hn : (st.all fun q => decide (q.ty ≠ t)) = true) : u.heap[b]? = some (.cells cs t (0, 0)) :=
  h.at hr hB fun q hq hold e => by
    obtain ⟨old, _, h2⟩ := hI.2 q hq hold
    rw [e, hr] at h2
    injection h2 with h2
    injection h2 with _ e2
    have := List.all_eq_true.1 hn q hq
    simp only [decide_eq_true_eq] at this
    exact this e2.symm
theorem IT.map {W u : World} {B b : Nat} {st : List Sto} {es : Array MapEntry} {c : Nat} (h : IT W B st u) (hr : W.heap[b]? = some (.map es c)) (hB : b < B) (hI : IT W B st W) : u.heap[b]? = some (.map es c) :=
  h.at hr hB fun q hq hold e => by
    obtain ⟨old, _, h2⟩ := hI.2 q hq hold
    rw [e, hr] at h2
    cases h2

def noSt (st : List Sto) (i : Nat) : Bool := st.all fun q => decide (q.op ≠ i)
theorem noSt_at {st : List Sto} {i : Nat} (h : noSt st i = true) : ∀ q ∈ st, q.op ≠ i := fun q hq => by simpa using List.all_eq_true.1 h q hq

variable {l : List (Value ⊕ Nw)} {B : Nat} {st : List Sto} {i : Nat} {o : Oper} {a : Act} {W w : World} {Q : Exit → Act → World → Prop} {vs : Nat → Value} {d : Option Tmp}

theorem ft_mk {v : Value} {w' : World} (hv : l[i]? = some (.inl v)) (hn : noSt st i = true) : FT l B st i (upd vs i v) w' :=
  ⟨by unfold FV; rw [hv, upd_eq], fun q hq e => absurd e (noSt_at hn q hq)⟩
theorem ft_still {P : Program} {v : Value} (hr : (execOp a.eval o).run P w = .ok (.value v) w) (ht : o.dst = d) (hv : l[i]? = some (.inl v)) (hn : noSt st i = true) (hI : IT W B st w) :
    o.wp P a w (fun a' w' => ∃ v', a' = a.put d v' ∧ FT l B st i (upd vs i v') w' ∧ IT W B st w' ∧ RT st i w w') Q :=
  wp_val hr (by rw [ht]; exact ⟨v, rfl, ft_mk hv hn, hI, .inr (Below.refl _ _)⟩)
theorem ft_alloc {z : Array Value} {T : TypeId} (hr : (execOp a.eval o).run Tryd.prog w = .ok (.value (.pointer (some ⟨w.heap.size, 0, none⟩))) (w.alloc (.cells z T))) (ht : o.dst = d) (hv : l[i]? = some (.inr (z, T))) (hn : noSt st i = true) (hI : IT W B st w) (hB : B ≤ W.heap.size) :
    o.wp Tryd.prog a w (fun a' w' => ∃ v', a' = a.put d v' ∧ FT l B st i (upd vs i v') w' ∧ IT W B st w' ∧ RT st i w w') Q :=
  wp_val hr (by
    rw [ht]
    have hb : Below w.heap.size w (w.alloc (.cells z T)) := (Below.refl _ _).alloc (Nat.le_refl _) _
    refine ⟨_, rfl, ⟨?_, fun q hq e => absurd e (noSt_at hn q hq)⟩, hI.below hb, .inr hb⟩
    unfold FV
    rw [hv, upd_eq]
    exact ⟨_, z, rfl, Nat.le_trans hB hI.1.size, rfl, heap_alloc_new w _⟩)
theorem ft_ret {P : Program} {f : FuncId} {args : Array Value} {v : Value} (hd : o.dst = d) (hv : l[i]? = some (.inl v)) (hn : noSt st i = true) (hI : IT W B st w) (h : Calls P f args w fun e w' => e = .returned v ∧ Below w.heap.size w w') :
    Calls P f args w fun e w' => ∃ v', e = .returned v' ∧ ∃ v'', a.put o.dst v' = a.put d v'' ∧ FT l B st i (upd vs i v'') w' ∧ IT W B st w' ∧ RT st i w w' :=
  h.mono fun e w' ⟨he, hb⟩ => ⟨v, he, v, by rw [hd], ft_mk hv hn, hI.below hb, .inr hb⟩

/-- A store into an old block. -/
theorem ft_old {x y : Operand} {g : Nat} {row : Array Value} {T : TypeId} (ho : o.op = .store T x y) (hd : o.dst = none) (hx : a.eval x = .pointer (some ⟨g, 0, none⟩)) (hy : a.eval y = .agg row) (hq : ⟨i, true, g, row, T⟩ ∈ st)
    (hsame : ∀ q ∈ st, q.op = i → q = ⟨i, true, g, row, T⟩) (hi : (Tryd.prog.info? T).map (·.size) = some row.size) (h1 : row.all (·.oneCell') = true) (hv : l[i]? = some (.inl undef)) (hdist : stOk st [] = true) (hI : IT W B st w) :
    o.wp Tryd.prog a w (fun a' w' => ∃ v', a' = a.put none v' ∧ FT l B st i (upd vs i v') w' ∧ IT W B st w' ∧ RT st i w w') Q := by
  obtain ⟨old, hs, hg⟩ := hI.2 _ hq rfl
  refine wp_store_row T x y ho g row hx hy T old hg hi hs h1 ?_
  have hbt := But.setRow g w row
  have hr := setRow_heap w g old row T (0, 0) hg
  rw [hd]
  refine ⟨undef, rfl, ⟨by unfold FV; rw [hv, upd_eq], fun q hq' e => ?_⟩, ⟨hI.1.trans (Chg.of_but hbt (.inr ⟨_, hq, rfl, rfl⟩)), fun q hq' hold => ?_⟩, .inl ⟨_, hq, rfl, g, old, hg, hs, hbt, hr⟩⟩
  · rw [hsame q hq' e]
    exact ⟨g, by unfold Tgt; simp, hr⟩
  · obtain ⟨old', s1, s2⟩ := hI.2 q hq' hold
    by_cases e : q.op = i
    · rw [hsame q hq' e]
      exact ⟨row, rfl, hr⟩
    · by_cases e2 : q.blk = g
      · have hk := List.all_eq_true.1 hdist q hq'
        rw [Bool.and_eq_true] at hk
        have := List.all_eq_true.1 hk.1 _ hq
        simp only [Bool.or_eq_true, decide_eq_true_eq] at this
        rw [e2, hg] at s2
        injection s2 with s2
        injection s2 with _ t2
        rcases this with t | t
        · exact absurd t.symm e
        · exact absurd t2 t
      · exact ⟨old', s1, (hbt.block _ (Array.getElem?_eq_some_iff.1 s2).1 e2).trans s2⟩

/-- A store into a block that an operation of the region made. -/
theorem ft_new {x y : Operand} {k g : Nat} {row old : Array Value} {T : TypeId} (ho : o.op = .store T x y) (hd : o.dst = none) (hki : k ≠ i) (hx : a.eval x = .pointer (some ⟨g, 0, none⟩)) (hvk : vs k = .pointer (some ⟨g, 0, none⟩)) (hBg : B ≤ g) (hs : old.size = row.size) (hg : w.heap[g]? = some (.cells old T (0, 0))) (hy : a.eval y = .agg row) (hq : ⟨i, false, k, row, T⟩ ∈ st)
    (hsame : ∀ q ∈ st, q.op = i → q = ⟨i, false, k, row, T⟩) (hi : (Tryd.prog.info? T).map (·.size) = some row.size) (h1 : row.all (·.oneCell') = true) (hv : l[i]? = some (.inl undef)) (hdist : stOk st [] = true) (hI : IT W B st w) :
    o.wp Tryd.prog a w (fun a' w' => ∃ v', a' = a.put none v' ∧ FT l B st i (upd vs i v') w' ∧ IT W B st w' ∧ RT st i w w') Q := by
  refine wp_store_row T x y ho g row hx hy T old hg hi hs h1 ?_
  have hbt := But.setRow g w row
  have hr := setRow_heap w g old row T (0, 0) hg
  rw [hd]
  refine ⟨undef, rfl, ⟨by unfold FV; rw [hv, upd_eq], fun q hq' e => ?_⟩, ⟨hI.1.trans (Chg.of_but hbt (.inl hBg)), fun q hq' hold => ?_⟩, .inl ⟨_, hq, rfl, g, old, hg, hs, hbt, hr⟩⟩
  · rw [hsame q hq' e]
    exact ⟨g, by unfold Tgt; simp [upd_ne _ hki, hvk], hr⟩
  · obtain ⟨old', s1, s2⟩ := hI.2 q hq' hold
    by_cases e : q.op = i
    · rw [hsame q hq' e] at hold
      cases hold
    · by_cases e2 : q.blk = g
      · have hk := List.all_eq_true.1 hdist q hq'
        rw [Bool.and_eq_true] at hk
        have := List.all_eq_true.1 hk.1 _ hq
        simp only [Bool.or_eq_true, decide_eq_true_eq] at this
        rw [e2, hg] at s2
        injection s2 with s2
        injection s2 with _ t2
        rcases this with t | t
        · exact absurd t.symm e
        · exact absurd t2 t
      · exact ⟨old', s1, (hbt.block _ (Array.getElem?_eq_some_iff.1 s2).1 e2).trans s2⟩

theorem ft_dep {j s : Nat} {y : Value} (h : FT l B st j vs w) (hs : a.eval (.tmp s) = vs j) (hy : l[j]? = some (.inl y)) : a.eval (.tmp s) = y := by
  refine hs.trans ?_
  have := h.1
  unfold FV at this
  rw [hy] at this
  exact this
theorem ft_depN {j s : Nat} {z : Nw} (h : FT l B st j vs w) (hs : a.eval (.tmp s) = vs j) (hy : l[j]? = some (.inr z)) : ∃ b old, a.eval (.tmp s) = .pointer (some ⟨b, 0, none⟩) ∧ vs j = .pointer (some ⟨b, 0, none⟩) ∧ B ≤ b ∧ old.size = z.1.size ∧ w.heap[b]? = some (.cells old z.2 (0, 0)) := by
  have := h.1
  unfold FV at this
  rw [hy] at this
  obtain ⟨b, old, h1, h2, h3, h4⟩ := this
  exact ⟨b, old, hs.trans h1, h1, h2, h3, h4⟩
theorem FT.is {y : Value} (h : FT l B st i vs w) (hy : l[i]? = some (.inl y)) : vs i = y := by
  have := h.1
  unfold FV at this
  rw [hy] at this
  exact this
theorem FT.stored {k : Nat} {row : Array Value} {T : TypeId} (h : FT l B st i vs w) (hq : ⟨i, true, k, row, T⟩ ∈ st) : w.heap[k]? = some (.cells row T (0, 0)) := by
  obtain ⟨b, h1, h2⟩ := h.2 _ hq rfl
  unfold Tgt at h1
  simp only [if_true] at h1
  rw [← h1]; exact h2
theorem FT.storedN {k : Nat} {row : Array Value} {T : TypeId} (h : FT l B st i vs w) (hq : ⟨i, false, k, row, T⟩ ∈ st) : ∃ b, vs k = .pointer (some ⟨b, 0, none⟩) ∧ w.heap[b]? = some (.cells row T (0, 0)) := by
  obtain ⟨b, h1, h2⟩ := h.2 _ hq rfl
  unfold Tgt at h1
  simp only [Bool.false_eq_true, if_false] at h1
  exact ⟨b, h1, h2⟩
theorem FT.newB {z : Nw} (h : FT l B st i vs w) (hy : l[i]? = some (.inr z)) : ∃ b, vs i = .pointer (some ⟨b, 0, none⟩) ∧ B ≤ b := by
  have := h.1
  unfold FV at this
  rw [hy] at this
  obtain ⟨b, old, h1, h2, _⟩ := this
  exact ⟨b, h1, h2⟩
theorem dlM {L : List Tmp} {s : Nat} (h : s ∉ L) : ∀ j, j < L.length → L.getD j 0 ≠ s := fun j hj e => h (by
  rw [← e, List.getD_eq_getElem?_getD, List.getElem?_eq_getElem hj]
  exact List.getElem_mem _)
theorem dl_of {L : List (Option Tmp)} {s : Nat} (h : some s ∉ L) : ∀ j, j < L.length → L.getD j none ≠ some s := fun j hj e => h (by
  rw [← e, List.getD_eq_getElem?_getD, List.getElem?_eq_getElem hj]
  exact List.getElem_mem _)
theorem it_start {W : World} {B : Nat} {st : List Sto} (h : ∀ q ∈ st, q.old = true → ∃ old, old.size = q.row.size ∧ W.heap[q.blk]? = some (.cells old q.ty (0, 0))) : IT W B st { W with drawn := W.drawn + 1 } :=
  ⟨⟨rfl, rfl, rfl, Nat.le_refl _, fun _ _ _ => rfl⟩, h⟩
end Go.Proofs.YthpokoiclfbddaaDoor.Fl
