/-
  trie.join.
-/
import Derived.Test.YtmnafocmbcgdiabVF
import Derived.Laws.Tables
namespace Go.Proofs.Ytmnafocmbcgdiab
open Go.ChangeShapes Go.WideShapes Go.ChangeAt Go.RowKit Tri N
set_option maxHeartbeats 400000
set_option maxRecDepth 100000

theorem load_nd {u : World} {p : Addr} {x : Option Addr} (h : u.cell? p = some (.pointer x)) : (Instr.loadAt 48 (.pointer (some p))).run Try.prog u = .ok (.pointer x) u := by
  simp [go_sem, h]
theorem idx_two {g o : Nat} {i : Nat} (hi : i < 2) (u : World) : (Instr.indexAt 60 (.pointer (some ⟨g, o, none⟩)) (.int .i64 (i : Int))).run Try.prog u = .ok (.pointer (some ⟨g, o + i, none⟩)) u := by
  simp [go_sem]
  omega
theorem load_pre {u : World} {b o : Nat} {x y : Value} (h0 : u.cell? ⟨b, o, none⟩ = some x) (h1 : u.cell? ⟨b, o + 1, none⟩ = some y) : (Instr.loadAt 31 (.pointer (some ⟨b, o, none⟩))).run Try.prog u = .ok (.agg #[x, y]) u := by
  simp [go_sem, h0, h1]
theorem load_hs {u : World} {b o : Nat} {x y : Value} (h0 : u.cell? ⟨b, o, none⟩ = some x) (h1 : u.cell? ⟨b, o + 1, none⟩ = some y) : (Instr.loadAt 60 (.pointer (some ⟨b, o, none⟩))).run Try.prog u = .ok (.agg #[x, y]) u := by
  simp [go_sem, h0, h1]
theorem load_vp {u : World} {p : Addr} {x : Option Addr} (h : u.cell? p = some (.pointer x)) : (Instr.loadAt 53 (.pointer (some p))).run Try.prog u = .ok (.pointer x) u := by
  simp [go_sem, h]
theorem load_ad {u : World} {p : Addr} {x : Int} (h : u.cell? p = some (.int .u32 x)) : (Instr.loadAt 29 (.pointer (some p))).run Try.prog u = .ok (.int .u32 x) u := by
  simp [go_sem, h]
theorem load_in {u : World} {p : Addr} {x : Int} (h : u.cell? p = some (.int .i64 x)) : (Instr.loadAt 3 (.pointer (some p))).run Try.prog u = .ok (.int .i64 x) u := by
  simp [go_sem, h]
theorem fld_nd {b : Nat} (u : World) : (Instr.fieldAt 64 (.pointer (some ⟨b, 0, none⟩)) 0).run Try.prog u = .ok (.pointer (some ⟨b, 0, none⟩)) u ∧ (Instr.fieldAt 64 (.pointer (some ⟨b, 0, none⟩)) 1).run Try.prog u = .ok (.pointer (some ⟨b, 2, none⟩)) u ∧ (Instr.fieldAt 64 (.pointer (some ⟨b, 0, none⟩)) 2).run Try.prog u = .ok (.pointer (some ⟨b, 3, none⟩)) u := by
  simp [go_sem]
theorem fld_pr {b o : Nat} (u : World) : (Instr.fieldAt 31 (.pointer (some ⟨b, o, none⟩)) 0).run Try.prog u = .ok (.pointer (some ⟨b, o, none⟩)) u ∧ (Instr.fieldAt 31 (.pointer (some ⟨b, o, none⟩)) 1).run Try.prog u = .ok (.pointer (some ⟨b, o + 1, none⟩)) u := by
  simp [go_sem]

theorem But.trans {g : Nat} {a b c : World} (h1 : But g a b) (h2 : But g b c) : But g a c :=
  ⟨h2.os.trans h1.os, h2.tape.trans h1.tape, h2.output.trans h1.output, Nat.le_trans h1.size h2.size, fun i hi hn => (h2.block i (Nat.lt_of_lt_of_le hi h1.size) hn).trans (h1.block i hi hn)⟩
theorem But.below {g : Nat} {w w' w0 : World} {B : Nat} (h : But g w w') (hb : Below B w0 w) (hB : B ≤ w.heap.size) (hg : B ≤ g) : Below B w0 w' :=
  ⟨h.os.trans hb.os, h.tape.trans hb.tape, h.output.trans hb.output, Nat.le_trans hb.size h.size, fun i hi => (h.block i (by omega) (by omega)).trans (hb.block i hi)⟩

theorem But.setRow (g : Nat) (w : World) (cs : Array Value) : But g w (w.setRow g cs) := ⟨rfl, rfl, rfl, by simp [World.setRow], fun j _ hn => by simp [World.setRow, Array.getElem?_modify, Ne.symm hn]⟩

/-- A struct goes whole into its block. -/
theorem wpList_st {ops : Array Oper} {rest : List Oper} {o : Oper} {a : Act} {w : World} {Q : Exit → Act → World → Prop} (hgd : o.guard = none) (T : TypeId) (x y : Operand) (ho : o.op = .store T x y)
    (g : Nat) (cells : Array Value) (hx : a.eval x = .pointer (some ⟨g, 0, none⟩)) (hy : a.eval y = .agg cells)
    (t : TypeId) (old : Array Value) (hg : w.heap[g]? = some (.cells old t (0, 0))) (hi : (Try.prog.info? T).map (·.size) = some cells.size)
    (hold : old.size = cells.size) (h1 : cells.all (·.oneCell') = true)
    (h : ∀ w', w'.heap[g]? = some (.cells cells t (0, 0)) → But g w w' → wpList Try.prog ops Q rest (a.put o.dst undef) w') : wpList Try.prog ops Q (o :: rest) a w :=
  wpList_store_row hgd T x y ho g cells hx hy t old hg hi hold h1 (h _ (setRow_heap w g _ _ t _ hg) (But.setRow g w cells))

/-- One cell of a struct is written. -/
theorem run_storeVar_cell (w : World) (b o : Nat) (ty : TypeId) (v : Value) (cs : Array Value) (t : TypeId) (hb : w.heap[b]? = some (.cells cs t (0, 0))) (ho : o < cs.size) (hi : (Try.prog.info? ty).map (·.size) = some 1) (h1 : v.oneCell' = true) :
    (storeVar ty ⟨b, o, none⟩ v).run Try.prog w = .ok () (w.setCell ⟨b, o, none⟩ v) := by
  have := run_storeCells_cells (P := Try.prog) b o [v] 0 w (fun j hj => by
      have : j = 0 := by simpa using hj
      subst this
      rw [cell_of_row w _ _ _ _ _ hb]; simp [ho]) (fun j hj => frozen_of_row _ _ _ _ _ hb) (fun x hx => by simp at hx; subst hx; exact h1)
  have hc : v.cells = #[v] := by cases v <;> first | rfl | cases h1
  cases hq : Try.prog.info? ty with
  | none => simp [hq] at hi
  | some i =>
    have hs : i.size = 1 := by simpa [hq] using hi
    simp only [Nat.add_zero] at this
    simp [storeVar, sizeOf, typeInfo, hq, hc, hs, this, World.setCells]

theorem wpList_st1 {ops : Array Oper} {rest : List Oper} {o : Oper} {a : Act} {w : World} {Q : Exit → Act → World → Prop} (hgd : o.guard = none) (T : TypeId) (x y : Operand) (ho : o.op = .store T x y)
    (g i : Nat) (v : Value) (hx : a.eval x = .pointer (some ⟨g, i, none⟩)) (hy : a.eval y = v) (h1 : v.oneCell' = true)
    (t : TypeId) (cs cs' : Array Value) (hg : w.heap[g]? = some (.cells cs t (0, 0))) (hi : (Try.prog.info? T).map (·.size) = some 1)
    (hlt : i < cs.size) (hcs : cs.setIfInBounds i v = cs')
    (h : ∀ w', w'.heap[g]? = some (.cells cs' t (0, 0)) → But g w w' → wpList Try.prog ops Q rest (a.put o.dst undef) w') : wpList Try.prog ops Q (o :: rest) a w :=
  wpList_plain hgd fun _ hK => by
    unfold Oper.wp execOp
    simp only [ho, hx, hy, Instr.storeAt, Instr.sureAddr, Sem.run_bind, Sem.run_pure, Result.andThen_ok, run_storeVar_cell w g i T v cs t hg hlt hi h1]
    exact hK _ _ (h _ (by rw [set_row hg, hcs]) (But.set g i w v))

theorem ptr_is (m : MT) : ∃ p, m.ptr = .pointer p := by cases m <;> exact ⟨_, rfl⟩
theorem vptr_is (c : Nat) (u : Option Int) : ∃ p, vptr c u = .pointer p := by cases u <;> exact ⟨_, rfl⟩

/-- The two boxes that join begins with. -/
theorem two_boxes (w : World) (x n lp rp : Value) : ∃ wa, wa = (w.alloc (.cells #[x, n] 31)).alloc (.cells #[lp, rp] 60) ∧ Below w.heap.size w wa ∧ wa.heap.size = w.heap.size + 2 ∧ wa.heap[w.heap.size]? = some (.cells #[x, n] 31) ∧ wa.heap[w.heap.size + 1]? = some (.cells #[lp, rp] 60) := by
  obtain ⟨w1, hw1⟩ : ∃ w1, w1 = w.alloc (.cells #[x, n] 31) := ⟨_, rfl⟩
  have hs1 : w1.heap.size = w.heap.size + 1 := by rw [hw1]; simp
  have hb1 : Below w.heap.size w w1 := by rw [hw1]; exact (Below.refl _ _).alloc (Nat.le_refl _) _
  have h1 : Below w1.heap.size w1 (w1.alloc (.cells #[lp, rp] 60)) := (Below.refl _ _).alloc (Nat.le_refl _) _
  refine ⟨w1.alloc (.cells #[lp, rp] 60), by rw [hw1], hb1.trans (h1.mono (by omega)), by simp; omega, ?_, ?_⟩
  · rw [h1.block _ (by omega), hw1]; exact heap_alloc_new w _
  · rw [← hs1]; exact heap_alloc_new w1 _

def dstJ (i : Nat) : Tmp := [28, 29, 30, 31, 32, 33, 7, 8].getD i 0
theorem dlJ {s : Nat} (h : s ∉ [28, 29, 30, 31, 32, 33, 7, 8]) : ∀ j, j < 8 → dstJ j ≠ s := fun j hj e => h (by
  unfold dstJ at e
  rw [← e, List.getD_eq_getElem?_getD, List.getElem?_eq_getElem (by exact hj)]
  exact List.getElem_mem _)

/-- The values of the region in which the counts are read. -/
def FJ (s B : Nat) (lp rp : Value) (vl nl vr nr : Nat) (i : Nat) (v : Value) (u : World) : Prop :=
  match i with
  | 0 => v = .pointer (some ⟨s, 0, none⟩)
  | 1 => v = lp
  | 2 => v = .agg #[.int .i64 (vl : Int), .int .i64 (nl : Int)]
  | 3 => v = .pointer (some ⟨s, 1, none⟩)
  | 4 => v = rp
  | 5 => v = .agg #[.int .i64 (vr : Int), .int .i64 (nr : Int)]
  | _ => ∃ b, v = .pointer (some ⟨b, 0, none⟩) ∧ B ≤ b ∧ u.heap[b]? = some (.cells #[.int .i64 0, .int .i64 0] 62)

theorem FJ.keeps (s B : Nat) (lp rp : Value) (vl nl vr nr : Nat) : ∀ (i : Nat) (v : Value) (w w' : World), FJ s B lp rp vl nl vr nr i v w → Below w.heap.size w w' → FJ s B lp rp vl nl vr nr i v w' := fun i v w w' h hb => by
  match i with
  | 0 => exact h
  | 1 => exact h
  | 2 => exact h
  | 3 => exact h
  | 4 => exact h
  | 5 => exact h
  | n + 6 =>
    obtain ⟨b, h1, h2, h3⟩ := h
    exact ⟨b, h1, h2, below_keeps hb h3 (Array.getElem?_eq_some_iff.1 h3).1⟩

def PJ (i j : Nat) (v v' : Value) : Prop := (i = 6 ∧ j = 7 ∨ i = 7 ∧ j = 6) → v ≠ v'

theorem ex_allocJ {o : Oper} {a : Act} (u : World) (ho : o.op = .alloc 62) : (execOp a.eval o).run Try.prog u = .ok (.value (.pointer (some ⟨u.heap.size, 0, none⟩))) (u.alloc (.cells #[.int .i64 0, .int .i64 0] 62)) := by
  unfold execOp
  simp [ho, go_sem]

theorem join_some {X : Nat → Prop} (k : K) (c : Nat) (a : Int) (l r : MT) (w : World) (hX : ∀ b, X b → b < w.heap.size) (hc : BoxAt w X c (some a)) (hl : Lies w X l) (hr : Lies w X r) (hn : nodes l.tr + nodes r.tr < 1152921504606846976) (hv : vals l.tr + vals r.tr < 1152921504606846976) :
    Calls Try.prog 36 #[pv k, (.pointer (some ⟨c, 0, none⟩)), .agg #[l.ptr, r.ptr]] w fun e w' => ∃ b, e = .returned (.pointer (some ⟨b, 0, none⟩)) ∧ Lies w' X (.node b c k (some a) l r) ∧ Below w.heap.size w w' := by
  obtain ⟨lp, hlp⟩ := ptr_is l
  obtain ⟨rp, hrp⟩ := ptr_is r
  obtain ⟨wa, hwa, hb0, hs0, r1, r2⟩ := two_boxes w (.int .u32 (k.x : Int)) (.int .i64 (k.n : Int)) l.ptr r.ptr
  have HCL : Hid (∀ u, Below wa.heap.size wa u → Calls Try.prog 26 #[l.ptr] u fun e w' => e = .returned (.agg #[.int .i64 (vals l.tr : Int), .int .i64 (nodes l.tr : Int)]) ∧ Below u.heap.size u w') := fun u hu => counted_any l u ((hl.below hb0).below hu)
  have HCR : Hid (∀ u, Below wa.heap.size wa u → Calls Try.prog 26 #[r.ptr] u fun e w' => e = .returned (.agg #[.int .i64 (vals r.tr : Int), .int .i64 (nodes r.tr : Int)]) ∧ Below u.heap.size u w') := fun u hu => counted_any r u ((hr.below hb0).below hu)
  have HFIN : Hid (∀ (W : World) (b : Nat), Below w.heap.size w W → w.heap.size ≤ b → W.heap[b]? = some (.cells (ndCells k (.pointer (some ⟨c, 0, none⟩)) l.ptr r.ptr (vals l.tr + vals r.tr + 1) (nodes l.tr + nodes r.tr + 1)) 64) → Lies W X (.node b c k (some a) l r)) := fun W b hW hb hrow =>
    ⟨fun hx => by have := hX b hx; omega, hrow, hc.below hW, hl.below hW, hr.below hW⟩
  unfold pv
  rw [hlp, hrp] at hwa r2 HFIN
  rw [hlp] at HCL ⊢
  rw [hrp] at HCR ⊢
  generalize vals l.tr = vl at *
  generalize nodes l.tr = nl at *
  generalize vals r.tr = vr at *
  generalize nodes r.tr = nr at *
  have x0 : wa.cell? ⟨w.heap.size, 0, none⟩ = some (.int .u32 (k.x : Int)) := by rw [cell_of_row _ _ _ _ _ _ r1]; rfl
  have x1 : wa.cell? ⟨w.heap.size, 1, none⟩ = some (.int .i64 (k.n : Int)) := by rw [cell_of_row _ _ _ _ _ _ r1]; rfl
  have y0 : wa.cell? ⟨w.heap.size + 1, 0, none⟩ = some (.pointer lp) := by rw [cell_of_row _ _ _ _ _ _ r2]; rfl
  have y1 : wa.cell? ⟨w.heap.size + 1, 1, none⟩ = some (.pointer rp) := by rw [cell_of_row _ _ _ _ _ _ r2]; rfl
  have R1 := hid r1
  have R2 := hid r2
  have HS0 := hid hs0
  have HB0 := hid hb0
  have HWA := hid hwa
  clear hwa r1 r2 hs0 hb0 hlp hrp hl hr hX hc
  go_enter Try.func36, Try.ntmps36
  go_upto_region 1 with fail
  rw [← HWA.out]
  go_upto_region 3 with fail
  clear y0 y1 x0 x1
  refine wp_region_pairs' 8 dstJ (FJ (w.heap.size + 1) wa.heap.size (.pointer lp) (.pointer rp) vl nl vr nr) PJ (by kernel_rfl) (by kernel_rfl) (FJ.keeps _ _ _ _ _ _ _ _) ?_ ?_
  · simp only [List.take_succ_cons, List.take_zero, N.stepsP]
    refine ⟨?_, ?_, ?_, ?_, ?_, ?_, ?_, ?_, trivial⟩
    · intro a u vs hb hold hdep hpr
      exact wp_val (ex_index _ (.tmp 5) _ _ _ _ rfl (hold 5 (dlJ (by decide))) rfl (idx_two (i := 0) (by decide) u)) ⟨_, rfl, rfl, hb, Below.refl _ _, fun j v' _ _ h => by omega⟩
    · intro a u vs hb hold hdep hpr
      have h0 := hdep ⟨0, .data⟩ (by simp) rfl (by decide)
      refine wp_val (ex_load _ ⟨w.heap.size + 1, 0, none⟩ (.tmp 28) _ rfl (h0.1.trans h0.2) (load_nd ?_)) ⟨_, rfl, rfl, hb, Below.refl _ _, fun j v' _ _ h => by omega⟩
      rw [cell_of_row _ _ _ _ _ _ (below_keeps hb R2.out (by have := HS0.out; omega))]; rfl
    · intro a u vs hb hold hdep hpr
      have h0 := hdep ⟨1, .data⟩ (by simp) rfl (by decide)
      have e0 : a.eval (.tmp 29) = .pointer lp := h0.1.trans h0.2
      refine wp_call 26 _ _ rfl (enters_of Try.func26 (by kernel_rfl) rfl) #[.pointer lp] (by simp only [List.map_toArray, List.map_cons, List.map_nil, e0]) ?_
      refine (HCL.out u hb).mono ?_
      rintro _ u' ⟨rfl, hb'⟩
      exact ⟨_, rfl, _, rfl, rfl, hb.trans (hb'.mono hb.size), hb', fun j v' _ _ h => by omega⟩
    · intro a u vs hb hold hdep hpr
      exact wp_val (ex_index _ (.tmp 5) _ _ _ _ rfl (hold 5 (dlJ (by decide))) rfl (idx_two (i := 1) (by decide) u)) ⟨_, rfl, rfl, hb, Below.refl _ _, fun j v' _ _ h => by omega⟩
    · intro a u vs hb hold hdep hpr
      have h0 := hdep ⟨3, .data⟩ (by simp) rfl (by decide)
      refine wp_val (ex_load _ ⟨w.heap.size + 1, 1, none⟩ (.tmp 31) _ rfl (h0.1.trans h0.2) (load_nd ?_)) ⟨_, rfl, rfl, hb, Below.refl _ _, fun j v' _ _ h => by omega⟩
      rw [cell_of_row _ _ _ _ _ _ (below_keeps hb R2.out (by have := HS0.out; omega))]; rfl
    · intro a u vs hb hold hdep hpr
      have h0 := hdep ⟨4, .data⟩ (by simp) rfl (by decide)
      have e0 : a.eval (.tmp 32) = .pointer rp := h0.1.trans h0.2
      refine wp_call 26 _ _ rfl (enters_of Try.func26 (by kernel_rfl) rfl) #[.pointer rp] (by simp only [List.map_toArray, List.map_cons, List.map_nil, e0]) ?_
      refine (HCR.out u hb).mono ?_
      rintro _ u' ⟨rfl, hb'⟩
      exact ⟨_, rfl, _, rfl, rfl, hb.trans (hb'.mono hb.size), hb', fun j v' _ _ h => by omega⟩
    · intro a u vs hb hold hdep hpr
      refine wp_val (ex_allocJ u rfl) ?_
      have hb' : Below u.heap.size u (u.alloc (.cells #[.int .i64 0, .int .i64 0] 62)) := (Below.refl _ _).alloc (Nat.le_refl _) _
      refine ⟨_, rfl, ⟨_, rfl, hb.size, heap_alloc_new u _⟩, hb.trans (hb'.mono hb.size), hb', fun j v' _ hF h => ?_⟩
      obtain rfl : j = 7 := by omega
      obtain ⟨b', q1, _, q3⟩ := hF
      have := (Array.getElem?_eq_some_iff.1 q3).1
      rw [q1]
      intro e
      have e2 : u.heap.size = b' := by injection e with e; injection e with e; injection e
      omega
    · intro a u vs hb hold hdep hpr
      refine wp_val (ex_allocJ u rfl) ?_
      have hb' : Below u.heap.size u (u.alloc (.cells #[.int .i64 0, .int .i64 0] 62)) := (Below.refl _ _).alloc (Nat.le_refl _) _
      refine ⟨_, rfl, ⟨_, rfl, hb.size, heap_alloc_new u _⟩, hb.trans (hb'.mono hb.size), hb', fun j v' _ hF h => ?_⟩
      obtain rfl : j = 6 := by omega
      obtain ⟨b', q1, _, q3⟩ := hF
      have := (Array.getElem?_eq_some_iff.1 q3).1
      rw [q1]
      intro e
      have e2 : u.heap.size = b' := by injection e with e; injection e with e; injection e
      omega
  intro vs u hb hF hP
  have e2 : vs 2 = .agg #[.int .i64 (vl : Int), .int .i64 (nl : Int)] := hF 2 (by decide)
  have e5 : vs 5 = .agg #[.int .i64 (vr : Int), .int .i64 (nr : Int)] := hF 5 (by decide)
  obtain ⟨b6, e6, g6, k6⟩ := hF 6 (by decide)
  obtain ⟨b7, e7, g7, k7⟩ := hF 7 (by decide)
  have hne : b6 ≠ b7 := by
    intro e
    rcases hP 6 7 (by decide) (by decide) (by decide) with h | h
    · exact h (.inl ⟨rfl, rfl⟩) (by rw [e6, e7, e])
    · exact h (.inr ⟨rfl, rfl⟩) (by rw [e6, e7, e])
  clear hP hF
  have HB := hid hb
  have HNE := hid hne
  simp only [List.drop_succ_cons, List.drop_zero, puts, List.range, List.range.loop, List.foldr, dstJ, List.getD_cons_zero, List.getD_cons_succ, if_true, e2, e5, e6, e7, Act.put, List.setIfInBounds_toArray, List.set_cons_zero, List.set_cons_succ]
  clear e2 e5 e6 e7
  generalize vs 0 = y0
  generalize vs 1 = y1
  generalize vs 3 = y3
  generalize vs 4 = y4
  refine wpList_st rfl 62 _ _ rfl b6 #[.int .i64 (vl : Int), .int .i64 (nl : Int)] rfl rfl _ _ k6 (by kernel_rfl) rfl (by simp [Value.oneCell']) ?_
  intro u1 hu1 hbt
  have k7' : u1.heap[b7]? = some (.cells #[.int .i64 0, .int .i64 0] 62) := (hbt.block b7 (Array.getElem?_eq_some_iff.1 k7).1 (Ne.symm hne)).trans k7
  refine wpList_st rfl 62 _ _ rfl b7 #[.int .i64 (vr : Int), .int .i64 (nr : Int)] rfl rfl _ _ k7' (by kernel_rfl) rfl (by simp [Value.oneCell']) ?_
  intro u2 hu2 hbt2
  have k6' : u2.heap[b6]? = some (.cells #[.int .i64 (vl : Int), .int .i64 (nl : Int)] 62) := (hbt2.block b6 (Array.getElem?_eq_some_iff.1 hu1).1 hne).trans hu1
  have p0 : u2.cell? ⟨b6, 0, none⟩ = some (.int .i64 (vl : Int)) := by rw [cell_of_row _ _ _ _ _ _ k6']; rfl
  have p1 : u2.cell? ⟨b6, 1, none⟩ = some (.int .i64 (nl : Int)) := by rw [cell_of_row _ _ _ _ _ _ k6']; rfl
  have q0 : u2.cell? ⟨b7, 0, none⟩ = some (.int .i64 (vr : Int)) := by rw [cell_of_row _ _ _ _ _ _ hu2]; rfl
  have q1 : u2.cell? ⟨b7, 1, none⟩ = some (.int .i64 (nr : Int)) := by rw [cell_of_row _ _ _ _ _ _ hu2]; rfl
  have hB2 : Below wa.heap.size wa u2 := hbt2.below (hbt.below hb hb.size g6) (Nat.le_trans hb.size hbt.size) g7
  have RX : Hid (u2.heap[w.heap.size]? = some (.cells #[.int .u32 (k.x : Int), .int .i64 (k.n : Int)] 31)) := below_keeps hB2 R1.out (by have := HS0.out; omega)
  have RY : Hid (u2.heap[w.heap.size + 1]? = some (.cells #[.pointer lp, .pointer rp] 60)) := below_keeps hB2 R2.out (by have := HS0.out; omega)
  have HW2 : Hid (Below w.heap.size w u2) := HB0.out.trans (hB2.mono (by have := HS0.out; omega))
  have HSZ : Hid (w.heap.size + 2 ≤ u2.heap.size) := by have := hB2.size; have := HS0.out; unfold Hid; omega
  clear hbt hbt2 hu1 hu2 k6 k7 k7' k6' hb hne hB2 g6 g7
  go_upto_region 5 with fail
  obtain ⟨u3, hu3⟩ : ∃ u3, u3 = u2.alloc (.cells #[.int .i64 ((vl : Int) + (vr : Int)), .int .i64 ((nl : Int) + (nr : Int) + 1)] 62) := ⟨_, rfl⟩
  rw [← hu3]
  have hb3 : Below u2.heap.size u2 u3 := by rw [hu3]; exact (Below.refl _ _).alloc (Nat.le_refl _) _
  have hs3 : u3.heap.size = u2.heap.size + 1 := by rw [hu3]; simp
  have k9 : u3.heap[u2.heap.size]? = some (.cells #[.int .i64 ((vl : Int) + (vr : Int)), .int .i64 ((nl : Int) + (nr : Int) + 1)] 62) := by rw [hu3]; exact heap_alloc_new u2 _
  have z0 : u3.cell? ⟨u2.heap.size, 0, none⟩ = some (.int .i64 ((vl : Int) + (vr : Int))) := by rw [cell_of_row _ _ _ _ _ _ k9]; rfl
  have z0f : u3.frozen? ⟨u2.heap.size, 0, none⟩ = false := frozen_of_row _ _ _ _ _ k9
  have K9 := hid k9
  have HB3 := hid hb3
  have HS3 := hid hs3
  clear hu3 hb3 hs3 k9 p0 p1 q0 q1
  go_upto_region 7 with fail
  obtain ⟨u4, hu4⟩ : ∃ u4, u4 = u3.setCell ⟨u2.heap.size, 0, none⟩ (.int .i64 ((vl : Int) + (vr : Int) + 1)) := ⟨_, rfl⟩
  rw [← hu4]
  have hbt4 : But u2.heap.size u3 u4 := by rw [hu4]; exact But.set _ _ _ _
  have K94 : Hid (u4.heap[u2.heap.size]? = some (.cells #[.int .i64 ((vl + vr + 1 : Nat) : Int), .int .i64 ((nl + nr + 1 : Nat) : Int)] 62)) := by unfold Hid; rw [hu4]; exact set_row K9.out
  have HK4 : Hid (∀ (j : Nat) {o : Obj}, j < u2.heap.size → u2.heap[j]? = some o → u4.heap[j]? = some o) := fun j o hj ho => (hbt4.block j (by have := HS3.out; omega) (by omega)).trans (below_keeps HB3.out ho hj)
  have HW4 : Hid (Below w.heap.size w u4) := hbt4.below (HW2.out.trans (HB3.out.mono HW2.out.size)) (by have := HW2.out.size; have := HS3.out; omega) HW2.out.size
  clear hu4 hbt4 z0 z0f
  have hlt := HSZ.out
  have x0 : u4.cell? ⟨w.heap.size, 0, none⟩ = some (.int .u32 (k.x : Int)) := by rw [cell_of_row _ _ _ _ _ _ (HK4.out _ (by omega) RX.out)]; rfl
  have x1 : u4.cell? ⟨w.heap.size, 1, none⟩ = some (.int .i64 (k.n : Int)) := by rw [cell_of_row _ _ _ _ _ _ (HK4.out _ (by omega) RX.out)]; rfl
  have y0' : u4.cell? ⟨w.heap.size + 1, 0, none⟩ = some (.pointer lp) := by rw [cell_of_row _ _ _ _ _ _ (HK4.out _ (by omega) RY.out)]; rfl
  have y1' : u4.cell? ⟨w.heap.size + 1, 1, none⟩ = some (.pointer rp) := by rw [cell_of_row _ _ _ _ _ _ (HK4.out _ (by omega) RY.out)]; rfl
  have z0 : u4.cell? ⟨u2.heap.size, 0, none⟩ = some (.int .i64 ((vl + vr + 1 : Nat) : Int)) := by rw [cell_of_row _ _ _ _ _ _ K94.out]; rfl
  have z1 : u4.cell? ⟨u2.heap.size, 1, none⟩ = some (.int .i64 ((nl + nr + 1 : Nat) : Int)) := by rw [cell_of_row _ _ _ _ _ _ K94.out]; rfl
  generalize vl + vr + 1 = cv at *
  generalize nl + nr + 1 = cn at *
  clear hlt
  go_wp2_with fail
  go_ret
  have hb5 : Below u4.heap.size u4 (u4.alloc (.cells (ndCells k (.pointer (some ⟨c, 0, none⟩)) (.pointer lp) (.pointer rp) cv cn) 64)) := (Below.refl _ _).alloc (Nat.le_refl _) _
  have hb6 := HW4.out.trans (hb5.mono HW4.out.size)
  exact ⟨_, rfl, HFIN.out _ _ hb6 HW4.out.size (heap_alloc_new u4 _), hb6⟩
end Go.Proofs.Ytmnafocmbcgdiab
