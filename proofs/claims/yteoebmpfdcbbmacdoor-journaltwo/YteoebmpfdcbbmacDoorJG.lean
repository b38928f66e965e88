/-
  readFrames.
-/
import Derived.Test.YteoebmpfdcbbmacDoorJF
namespace Go.Proofs.YteoebmpfdcbbmacDoor
open Go.ChangeShapes Go.WideShapes Go.ChangeAt Go.RowKit Jn
set_option maxHeartbeats 4000000
set_option maxRecDepth 100000

theorem uBB : Tryd.prog.underlying 38 = some (.slice 22) := by kernel_rfl
theorem infoS : (Tryd.prog.info? 22).map (fun i => (i.zero, i.size, i.bytes)) = some (some (.slice none 0 0), 1, 24) := by kernel_rfl

/-- An own list of lists. -/
def OwnS (w : World) (B : Nat) (v : Value) (Vs : List Value) : Prop := w.ownsRow B 22 1 v Vs.length Vs
def AllS (Vs : List Value) : Prop := ∀ u ∈ Vs, ∃ a n c, u = .slice a n c
theorem AllS.one {Vs : List Value} (h : AllS Vs) : ∀ u ∈ Vs, u.oneCell' = true := fun u hu => by
  obtain ⟨a, n, c, rfl⟩ := h u hu
  rfl
theorem ownS_nil (w : World) (B : Nat) : OwnS w B (.slice none 0 0) [] := World.ownsRow_nil _ _ _ _
theorem OwnS.below {w w' : World} {B : Nat} {v : Value} {Vs : List Value} (h : OwnS w B v Vs) (hb : Below w.heap.size w w') : OwnS w' B v Vs :=
  World.ownsRow.kept (row := none) h ⟨hb.os, hb.tape, hb.output, hb.size, fun k hk _ => hb.block k hk⟩ (by cases hv : v.ownBlock <;> simp)
theorem OwnS.keeps {S : Nat → Prop} {w w' : World} {B : Nat} {v : Value} {Vs : List Value} (h : OwnS w B v Vs) (hb : Keeps S w w') (hn : ∀ k, v.ownBlock = some k → ¬ S k) : OwnS w' B v Vs := by
  refine ⟨h.1, ?_⟩
  rcases h.2 with hn | ⟨g, cap, cur, rfl, hbb, hg, rest⟩
  · exact .inl hn
  · exact .inr ⟨g, cap, cur, rfl, hbb, (hb.block g (Array.getElem?_eq_some_iff.1 hg).1 (hn g rfl)).trans hg, rest⟩
theorem OwnS.shape {w : World} {B : Nat} {v : Value} {Vs : List Value} (h : OwnS w B v Vs) : ∃ a n cap, v = .slice a n cap ∧ Hid (n = Vs.length) ∧ n ≤ cap ∧ cap ≤ 9223372036854775807 := by
  rcases h.2 with ⟨rfl, h0⟩ | ⟨g, cap, cur, rfl, -, -, h1, h2, -⟩
  · exact ⟨none, 0, 0, rfl, h0.symm, Nat.le_refl _, by omega⟩
  · unfold maxLen at h2
    exact ⟨_, Vs.length, cap, rfl, rfl, h1, by omega⟩
theorem OwnS.at {w : World} {B n cap : Nat} {a : Option Addr} {Vs : List Value} (h : OwnS w B (.slice a n cap) Vs) {i : Nat} {x : Value} (hi : Vs[i]? = some x) : ∃ g, a = some ⟨g, 0, none⟩ ∧ B ≤ g ∧ g < w.heap.size ∧ ∀ u : World, u.heap[g]? = w.heap[g]? → u.cell? ⟨g, i, none⟩ = some x := by
  have hl := (List.getElem?_eq_some_iff.1 hi).1
  rcases h.2 with ⟨_, h0⟩ | ⟨g, cap', cur, h0, hb, hg, h1, h2, h3, h4⟩
  · omega
  · simp only [Value.slice.injEq] at h0
    obtain ⟨rfl, -, -⟩ := h0
    refine ⟨g, rfl, hb, (Array.getElem?_eq_some_iff.1 hg).1, fun u hu => ?_⟩
    rw [hg] at hu
    rw [cell_of_row _ _ _ _ _ _ hu, ← Array.getElem?_toList]
    rw [← h4, List.getElem?_take] at hi
    rw [if_pos (by omega)] at hi
    exact hi
/-- Lists are laid behind an own list of lists. -/
theorem append_sl (w : World) (ty : TypeId) (B b m c : Nat) (v : Value) (Vs Us : List Value) (hv : OwnS w B v Vs) (hm : Us.length = m) (hu : ∀ j u, Us[j]? = some u → w.cell? ⟨b, j, none⟩ = some u) (hU : AllS Us) (hB : B ≤ w.heap.size) (hbig : Vs.length + m ≤ 4294967296) :
    ∃ v' w', (Builtin.append_ #[38, 38] ty #[v, .slice (some ⟨b, 0, none⟩) m c]).run Tryd.prog w = .ok v' w' ∧ OwnS w' B v' (Vs ++ Us) ∧ w.grownBy w' v.ownBlock := by
  obtain ⟨i0, hi0, hz0, hz1, hz2⟩ := info_parts infoS
  obtain ⟨v', w', hr, h5, h6, -⟩ := run_append_own (P := Tryd.prog) w B 38 ty 22 i0 _ 1 24 uBB hi0 hz0 hz1 hz2 rfl (by decide) v Vs.length Vs hv ⟨b, 0, none⟩ m c Us (by rw [hm]; omega) (fun j u hj => by rw [Addr.add_mid, Nat.zero_add]; exact hu j u hj) hU.one (by unfold maxLen; omega) (by omega) hB
  refine ⟨v', w', hr, ?_, h6⟩
  unfold OwnS
  rw [List.length_append, hm]
  exact h5

theorem wpList_append_run {P : Program} (w : World) {ops : Array Oper} {rest : List Oper} {o : Oper} {a : Act} {Q : Exit → Act → World → Prop} (hgd : o.guard = none) (d s : Operand) (t t' : TypeId)
    (ho : o.op = .call { callee := .builtin .append, args := #[d, s], argTypes := #[t, t'] }) (v u : Value) (hd : a.eval d = v) (hs : a.eval s = u) {v' : Value} {w' : World}
    (hr : (Builtin.append_ #[t, t'] o.type #[v, u]).run P w = .ok v' w') (h : wpList P ops Q rest (a.put o.dst v') w') : wpList P ops Q (o :: rest) a w :=
  wpList_plain hgd fun _ hK => by
    unfold Oper.wp execOp
    simp only [ho, resolve, invoke, builtin, Sem.run_bind, Sem.run_pure, Result.andThen_ok, List.map_toArray, List.map_cons, List.map_nil, hd, hs, hr]
    exact hK _ _ h

/-- Records that are seen through an own list: what they hold lies where w0 ends. -/
def RecsAt (w0 : World) (B : Nat) (u : World) (vr : Value) (recs : List (List Nat)) : Prop := ∃ Vs, OwnS u B vr Vs ∧ Vs.length = recs.length ∧ ∀ (i : Nat) x r, Vs[i]? = some x → recs[i]? = some r → SeesB w0 x r
theorem RecsAt.nil (w0 : World) (B : Nat) (u : World) : RecsAt w0 B u (.slice none 0 0) [] := ⟨[], ownS_nil _ _, rfl, fun i x r hx => by simp at hx⟩
theorem RecsAt.below {w0 u u' : World} {B : Nat} {vr : Value} {recs : List (List Nat)} (h : RecsAt w0 B u vr recs) (hb : Below u.heap.size u u') : RecsAt w0 B u' vr recs := by
  obtain ⟨Vs, h1, h2, h3⟩ := h
  exact ⟨Vs, h1.below hb, h2, h3⟩
theorem RecsAt.keeps {S : Nat → Prop} {w0 u u' : World} {B : Nat} {vr : Value} {recs : List (List Nat)} (h : RecsAt w0 B u vr recs) (hb : Keeps S u u') (hS : ∀ k, S k → k < B) : RecsAt w0 B u' vr recs := by
  obtain ⟨Vs, h1, h2, h3⟩ := h
  exact ⟨Vs, h1.keeps hb (fun k hk hs => by have := (World.ownsRow.lt h1 k hk).1; have := hS k hs; omega), h2, h3⟩
theorem RecsAt.shape {w0 u : World} {B : Nat} {vr : Value} {recs : List (List Nat)} (h : RecsAt w0 B u vr recs) : ∃ a n cap, vr = .slice a n cap ∧ Hid (n = recs.length) := by
  obtain ⟨Vs, h1, h2, h3⟩ := h
  obtain ⟨a, n, cap, rfl, HN, -⟩ := h1.shape
  exact ⟨a, n, cap, rfl, HN.out.trans h2⟩
theorem RecsAt.sees {w0 u : World} {B : Nat} {vr : Value} {recs : List (List Nat)} (h : RecsAt w0 B u vr recs) (hb : Below w0.heap.size w0 u) : SeesBB u vr recs := by
  obtain ⟨Vs, h1, h2, h3⟩ := h
  obtain ⟨a, n, cap, rfl, HN, k1, k2⟩ := h1.shape
  refine ⟨a, cap, by rw [HN.out, h2], by rw [← h2, ← HN.out]; exact k1, by unfold maxLen; omega, fun j hj => ?_⟩
  have hx : Vs[j]? = some Vs[j] := List.getElem?_eq_getElem (by omega)
  obtain ⟨g', rfl, -, hg, hc⟩ := h1.at hx
  exact ⟨g', 0, _, rfl, hg, by rw [Nat.zero_add]; exact hc u rfl, (h3 j _ _ hx (List.getElem?_eq_getElem hj)).below hb⟩

/-- The row of a content. -/
abbrev ctRow (st gen : Nat) (vr : Value) (fin : Nat) : Obj := .cells #[.int .i64 (st : Int), .int .u32 (gen : Int), vr, .int .i64 (fin : Int)] 69 (0, 0)

/-- The frames that are being read: rb the answer's block, cb the content's. -/
structure Rf (w0 w : World) (rb cb g fin : Nat) (vr : Value) (recs : List (List Nat)) (u : World) : Prop where
  be : Below w.heap.size w u
  rbl : w.heap.size ≤ rb
  cbl : w.heap.size ≤ cb
  ne : rb ≠ cb
  res : u.heap[rb]? = some (ctRow 0 0 (.slice none 0 0) 0)
  row : u.heap[cb]? = some (ctRow 3 g vr fin)
  own : RecsAt w0 w.heap.size u vr recs

theorem Rf.below {w0 w u u' : World} {rb cb g fin : Nat} {vr : Value} {recs : List (List Nat)} (h : Rf w0 w rb cb g fin vr recs u) (hb : Below u.heap.size u u') : Rf w0 w rb cb g fin vr recs u' :=
  ⟨h.be.trans (hb.mono h.be.size), h.rbl, h.cbl, h.ne, below_keeps hb h.res (Array.getElem?_eq_some_iff.1 h.res).1, below_keeps hb h.row (Array.getElem?_eq_some_iff.1 h.row).1, h.own.below hb⟩

theorem ct_cells {u : World} {b st gen fin : Nat} {vr : Value} (h : u.heap[b]? = some (ctRow st gen vr fin)) : u.cell? ⟨b, 0, none⟩ = some (.int .i64 (st : Int)) ∧ u.cell? ⟨b, 1, none⟩ = some (.int .u32 (gen : Int)) ∧ u.cell? ⟨b, 2, none⟩ = some vr ∧ u.cell? ⟨b, 3, none⟩ = some (.int .i64 (fin : Int)) ∧ ∀ i, u.frozen? ⟨b, i, none⟩ = false :=
  ⟨by rw [cell_of_row _ _ _ _ _ _ h]; rfl, by rw [cell_of_row _ _ _ _ _ _ h]; rfl, by rw [cell_of_row _ _ _ _ _ _ h]; rfl, by rw [cell_of_row _ _ _ _ _ _ h]; rfl, fun i => frozen_of_row _ _ _ _ _ h⟩

theorem OwnS.ne_row {w : World} {B b : Nat} {v : Value} {Vs : List Value} {cs : Array Value} (h : OwnS w B v Vs) (hp : w.heap[b]? = some (.cells cs 69 (0, 0))) {k : Nat} (hk : v.ownBlock = some k) : k ≠ b := by
  intro e
  rcases h.2 with ⟨rfl, _⟩ | ⟨g', cap', cur', rfl, _, hgg, _⟩
  · cases hk
  · simp [Value.ownBlock] at hk
    rw [hk, e, hp] at hgg
    simp at hgg

theorem seesBB_nil (w : World) : SeesBB w (.slice none 0 0) [] := ⟨none, 0, rfl, Nat.le_refl _, by unfold maxLen; omega, fun j h => absurd h (by simp)⟩

/-- A content is laid into a block. -/
theorem ct_put {u : World} {b : Nat} {C : Array Value} (hC : C.size = 4) (h : u.heap[b]? = some (.cells C 69 (0, 0))) (x y z t : Value) :
    ((((u.setCell ⟨b, 0, none⟩ x).setCell ⟨b, 1, none⟩ y).setCell ⟨b, 2, none⟩ z).setCell ⟨b, 3, none⟩ t).heap[b]? = some (.cells #[x, y, z, t] 69 (0, 0)) ∧ Keeps (At1 b) u ((((u.setCell ⟨b, 0, none⟩ x).setCell ⟨b, 1, none⟩ y).setCell ⟨b, 2, none⟩ z).setCell ⟨b, 3, none⟩ t) := by
  refine ⟨?_, (((((Keeps.refl (At1 b) u).set ⟨b, 0, none⟩ rfl x).set ⟨b, 1, none⟩ rfl y).set ⟨b, 2, none⟩ rfl z).set ⟨b, 3, none⟩ rfl t)⟩
  rw [set_cells (set_cells (set_cells (set_cells h)))]
  congr 2
  obtain ⟨l⟩ := C
  match l, hC with
  | [c0, c1, c2, c3], _ => rfl

/-- The answer's block, written: what was read is still seen. -/
theorem Rf.done {w0 w u U : World} {rb cb g fin : Nat} {vr : Value} {recs : List (List Nat)} (h : Rf w0 w rb cb g fin vr recs u) (hk : Keeps (At1 rb) u U) : RecsAt w0 w.heap.size U vr recs ∧ Below w.heap.size w U := by
  have hb : Below w.heap.size w U := hk.below h.be h.be.size (fun k hk e => by unfold At1 at e; have := h.rbl; omega)
  refine ⟨?_, hb⟩
  obtain ⟨Vs, h1, h2, h3⟩ := h.own
  exact ⟨Vs, h1.keeps hk (fun k hk e => h1.ne_row h.res hk e), h2, h3⟩

/-- A record more is laid behind those that were read. -/
theorem Rf.append {w0 w u : World} {rb cb g fin : Nat} {vr x : Value} {recs : List (List Nat)} {r : List Nat} (h : Rf w0 w rb cb g fin vr recs u) (hx : SeesB w0 x r) (hl : recs.length + 1 ≤ 4294967296) :
    ∃ v' u', (Builtin.append_ #[38, 38] 38 #[vr, .slice (some ⟨u.heap.size, 0, none⟩) 1 1]).run Tryd.prog (u.alloc (.cells #[x] 22)) = .ok v' u' ∧ u'.heap[cb]? = some (ctRow 3 g vr fin) ∧
      ∀ (fin' : Nat), Rf w0 w rb cb g fin' v' (recs ++ [r]) ((u'.setCell ⟨cb, 2, none⟩ v').setCell ⟨cb, 3, none⟩ (.int .i64 (fin' : Int))) := by
  obtain ⟨u1, hu1⟩ : ∃ u1, u1 = u.alloc (.cells #[x] 22) := ⟨_, rfl⟩
  have hb1 : Below u.heap.size u u1 := by rw [hu1]; exact (Below.refl _ _).alloc (Nat.le_refl _) _
  have h1 := h.below hb1
  obtain ⟨Vs, o1, o2, o3⟩ := h1.own
  rw [← hu1]
  have hn : u1.heap[u.heap.size]? = some (.cells #[x] 22) := by rw [hu1]; exact heap_alloc_new u _
  obtain ⟨ax, nx, cx, rfl, -⟩ := hx.shape
  obtain ⟨v', u', hr, p1, p2⟩ := append_sl u1 38 w.heap.size u.heap.size 1 1 vr Vs [.slice ax nx cx] o1 rfl (by
    intro j y hj
    rw [cell_of_row _ _ _ _ _ _ hn]
    rcases j with _ | j
    · simpa using hj
    · simp at hj) (by intro y hy; simp at hy; exact ⟨_, _, _, hy⟩) h1.be.size (by omega)
  have q1 : ∀ k, k < u1.heap.size → (∀ j, vr.ownBlock = some j → k ≠ j) → u'.heap[k]? = u1.heap[k]? := fun k hk hne => p2.block k hk fun e => hne k e.symm rfl
  have ncb : ∀ j, vr.ownBlock = some j → cb ≠ j := fun j hj e => o1.ne_row h1.row hj e.symm
  have nrb : ∀ j, vr.ownBlock = some j → rb ≠ j := fun j hj e => o1.ne_row h1.res hj e.symm
  have hcb := (q1 cb (Array.getElem?_eq_some_iff.1 h1.row).1 ncb).trans h1.row
  have hrb := (q1 rb (Array.getElem?_eq_some_iff.1 h1.res).1 nrb).trans h1.res
  have hbe : Below w.heap.size w u' := ⟨p2.os.trans h1.be.os, p2.tape.trans h1.be.tape, p2.output.trans h1.be.output, Nat.le_trans h1.be.size p2.size, fun k hk => (q1 k (Nat.lt_of_lt_of_le hk h1.be.size) (fun j hj e => by have := (World.ownsRow.lt o1 j hj).1; omega)).trans (h1.be.block k hk)⟩
  refine ⟨v', u', hr, hcb, fun fin' => ?_⟩
  have s1 : (u'.setCell ⟨cb, 2, none⟩ v').heap[cb]? = some (ctRow 3 g v' fin) := set_cells hcb
  have s2 : ((u'.setCell ⟨cb, 2, none⟩ v').setCell ⟨cb, 3, none⟩ (.int .i64 (fin' : Int))).heap[cb]? = some (ctRow 3 g v' fin') := set_cells s1
  have hk : Keeps (At1 cb) u' ((u'.setCell ⟨cb, 2, none⟩ v').setCell ⟨cb, 3, none⟩ (.int .i64 (fin' : Int))) := ((Keeps.refl (At1 cb) u').set ⟨cb, 2, none⟩ rfl v').set ⟨cb, 3, none⟩ rfl _
  refine ⟨hk.below hbe hbe.size (fun k hk e => by unfold At1 at e; have := h.cbl; omega), h.rbl, h.cbl, h.ne, (hk.block rb (Array.getElem?_eq_some_iff.1 hrb).1 h.ne).trans hrb, s2, Vs ++ [.slice ax nx cx], p1.keeps hk (fun k hk e => ?_), by simp [o2], ?_⟩
  · exact p1.ne_row hcb hk e
  · intro i y q hy hq
    rcases Nat.lt_or_ge i Vs.length with hi | hi
    · rw [List.getElem?_append_left hi] at hy
      rw [List.getElem?_append_left (by omega)] at hq
      exact o3 i y q hy hq
    · rw [List.getElem?_append_right hi] at hy
      rw [List.getElem?_append_right (by omega)] at hq
      have hz : i = Vs.length := by
        have := (List.getElem?_eq_some_iff.1 hy).1
        simp at this; omega
      rw [hz] at hy hq
      simp [o2] at hy hq
      subst hy hq
      exact hx
end Go.Proofs.YteoebmpfdcbbmacDoor
