/-
  trie.hang where there is a tree.
-/
import Derived.Test.YtmnafocmbcgdiabVI
namespace Go.Proofs.Ytmnafocmbcgdiab
open Go.ChangeShapes Go.WideShapes Go.ChangeAt Go.RowKit Tri N
set_option maxHeartbeats 1000000
set_option maxRecDepth 100000

/-- What hang is to give. -/
def HangPost (X : Nat → Prop) (w : World) (t : Tr) (e : Ending) (w' : World) : Prop := ∃ m : MT, e = .returned m.ptr ∧ m.tr = t ∧ Lies w' X m ∧ Below w.heap.size w w'

/-- hang's own blocks: p at s, the halves behind it; and the node. -/
structure HS (w W : World) (b : Nat) (p k : K) (vv lp rp h0 h1 : Value) (cv cn : Nat) : Prop where
  be : Below w.heap.size w W
  sz : w.heap.size + 2 ≤ W.heap.size
  pb : W.heap[w.heap.size]? = some (.cells #[.int .u32 (p.x : Int), .int .i64 (p.n : Int)] 31)
  hb : W.heap[w.heap.size + 1]? = some (.cells #[h0, h1] 60)
  nd : W.heap[b]? = some (.cells (ndCells k vv lp rp cv cn) 64)
  lt : b < w.heap.size

theorem HS.drew {w W : World} {b : Nat} {p k : K} {vv lp rp h0 h1 : Value} {cv cn : Nat} (h : HS w W b p k vv lp rp h0 h1 cv cn) : HS w W.drew b p k vv lp rp h0 h1 cv cn := ⟨⟨h.be.os, h.be.tape, h.be.output, h.be.size, h.be.block⟩, h.sz, h.pb, h.hb, h.nd, h.lt⟩

theorem HS.grow {w W W' : World} {b : Nat} {p k : K} {vv lp rp h0 h1 : Value} {cv cn : Nat} (h : HS w W b p k vv lp rp h0 h1 cv cn) (hb : Below W.heap.size W W') : HS w W' b p k vv lp rp h0 h1 cv cn :=
  ⟨h.be.trans (hb.mono h.be.size), Nat.le_trans h.sz hb.size, below_keeps hb h.pb (by have := h.sz; omega), below_keeps hb h.hb (by have := h.sz; omega), below_keeps hb h.nd (Nat.lt_of_lt_of_le h.lt h.be.size), h.lt⟩

/-- A new block is written. -/
theorem HS.but {w W W' : World} {b g : Nat} {p k : K} {vv lp rp h0 h1 : Value} {cv cn : Nat} (h : HS w W b p k vv lp rp h0 h1 cv cn) (hb : But g W W') (hg : w.heap.size + 2 ≤ g) : HS w W' b p k vv lp rp h0 h1 cv cn :=
  ⟨hb.below h.be h.be.size (by omega), Nat.le_trans h.sz hb.size, (hb.block _ (by have := h.sz; omega) (by omega)).trans h.pb, (hb.block _ (by have := h.sz; omega) (by omega)).trans h.hb, (hb.block _ (Nat.lt_of_lt_of_le h.lt h.be.size) (by have := h.lt; omega)).trans h.nd, h.lt⟩

/-- The halves are written. -/
theorem HS.put {w W W' : World} {b : Nat} {p k : K} {vv lp rp h0 h1 g0 g1 : Value} {cv cn : Nat} (h : HS w W b p k vv lp rp h0 h1 cv cn) (hb : But (w.heap.size + 1) W W') (hr : W'.heap[w.heap.size + 1]? = some (.cells #[g0, g1] 60)) : HS w W' b p k vv lp rp g0 g1 cv cn :=
  ⟨hb.below h.be h.be.size (by omega), Nat.le_trans h.sz hb.size, (hb.block _ (by have := h.sz; omega) (by omega)).trans h.pb, hr, (hb.block _ (Nat.lt_of_lt_of_le h.lt h.be.size) (by have := h.lt; omega)).trans h.nd, h.lt⟩

theorem HS.begin {w : World} {b : Nat} {p k : K} {vv lp rp : Value} {cv cn : Nat} (h : w.heap[b]? = some (.cells (ndCells k vv lp rp cv cn) 64)) : ∃ wa, wa = (w.alloc (.cells #[.int .u32 (p.x : Int), .int .i64 (p.n : Int)] 31)).alloc (.cells #[.pointer none, .pointer none] 60) ∧ HS w wa b p k vv lp rp (.pointer none) (.pointer none) cv cn := by
  obtain ⟨wa, hwa, hb0, hs0, r1, r2⟩ := two_boxes w (.int .u32 (p.x : Int)) (.int .i64 (p.n : Int)) (.pointer none) (.pointer none)
  have hlt := (Array.getElem?_eq_some_iff.1 h).1
  exact ⟨wa, hwa, ⟨hb0, by omega, r1, r2, below_keeps hb0 h hlt, hlt⟩⟩

theorem eqP (a b c d : Int) (u : World) : (Op.equalIn 10000 31 (.agg #[.int .u32 a, .int .i64 b]) (.agg #[.int .u32 c, .int .i64 d])).run Try.prog u = .ok (decide (a = c ∧ b = d)) u := by
  by_cases h1 : a = c <;> by_cases h2 : b = d <;> simp [go_sem, h1, h2]

theorem eqK (k p : K) (u : World) : (Op.equalIn 10000 31 (.agg #[.int .u32 (k.x : Int), .int .i64 (k.n : Int)]) (.agg #[.int .u32 (p.x : Int), .int .i64 (p.n : Int)])).run Try.prog u = .ok (decide (k = p)) u := by
  rw [eqP]
  congr 1
  rw [decide_eq_decide]
  constructor
  · intro h; exact K.ext' (by omega) (by omega)
  · intro h; subst h; exact ⟨rfl, rfl⟩

/-- A block of another kind is written. -/
theorem Lies.but {w w' : World} {X : Nat → Prop} {m : MT} {g : Nat} {cs : Array Value} {t : TypeId} (h : Lies w X m) (hg : w.heap[g]? = some (.cells cs t)) (h1 : t ≠ 64) (h2 : t ≠ 3) (hb : But g w w') : Lies w' X m := by
  induction m with
  | nil => trivial
  | node b c k u l r il ir =>
    obtain ⟨q1, q2, q3, q4, q5⟩ := h
    refine ⟨q1, (hb.block b (Array.getElem?_eq_some_iff.1 q2).1 (fun e => ?_)).trans q2, fun a ha => ⟨(q3 a ha).1, (hb.block c (Array.getElem?_eq_some_iff.1 (q3 a ha).2).1 (fun e => ?_)).trans (q3 a ha).2⟩, il q4, ir q5⟩
    · rw [e, hg] at q2
      injection q2 with q2
      injection q2 with _ q2
      exact h1 q2
    · have q := (q3 a ha).2
      rw [e, hg] at q
      injection q with q
      injection q with _ q
      exact h2 q

def dst10 (i : Nat) : Tmp := [50, 51, 52, 53, 54, 55, 56, 57].getD i 0
theorem dl10 {s : Nat} (h : s ∉ [50, 51, 52, 53, 54, 55, 56, 57]) : ∀ j, j < 8 → dst10 j ≠ s := fun j hj e => h (by
  unfold dst10 at e
  rw [← e, List.getD_eq_getElem?_getD, List.getElem?_eq_getElem (by exact hj)]
  exact List.getElem_mem _)
/-- The region in which the tree below is hung anew. -/
def FD (X : Nat → Prop) (s : Nat) (sd : Nat) (cp : Value) (p : K) (vp : Value) (t : Tr) (i : Nat) (v : Value) (u : World) : Prop :=
  match i with
  | 0 => v = .int .i64 (sd : Int)
  | 1 => v = .int .i64 (sd : Int)
  | 2 => v = .pointer (some ⟨s, 0 + sd, none⟩)
  | 3 => v = cp
  | 4 => v = pv p
  | 5 => v = vp
  | 6 => ∃ m : MT, v = m.ptr ∧ m.tr = t ∧ Lies u X m
  | _ => v = .pointer (some ⟨s, 0 + sd, none⟩)

theorem FD.keeps (X : Nat → Prop) (s : Nat) (sd : Nat) (cp : Value) (p : K) (vp : Value) (t : Tr) : ∀ (i : Nat) (v : Value) (w w' : World), FD X s sd cp p vp t i v w → Below w.heap.size w w' → FD X s sd cp p vp t i v w' := fun i v w w' h hb => by
  match i with
  | 0 => exact h
  | 1 => exact h
  | 2 => exact h
  | 3 => exact h
  | 4 => exact h
  | 5 => exact h
  | 6 =>
    obtain ⟨m, h1, h2, h3⟩ := h
    exact ⟨m, h1, h2, h3.below hb⟩
  | n + 7 => exact h

def dst6 (i : Nat) : Tmp := [29, 30, 31, 32, 33, 34, 8].getD i 0
theorem dl6 {s : Nat} (h : s ∉ [29, 30, 31, 32, 33, 34, 8]) : ∀ j, j < 7 → dst6 j ≠ s := fun j hj e => h (by
  unfold dst6 at e
  rw [← e, List.getD_eq_getElem?_getD, List.getElem?_eq_getElem (by exact hj)]
  exact List.getElem_mem _)
/-- The region in which the fork is found. -/
def FG (b B : Nat) (p k f : K) (i : Nat) (v : Value) (u : World) : Prop :=
  match i with
  | 0 => v = pv p
  | 1 => v = .pointer (some ⟨b, 0, none⟩)
  | 2 => v = .pointer (some ⟨b, 0, none⟩)
  | 3 => v = .pointer (some ⟨b, 0, none⟩)
  | 4 => v = pv k
  | 5 => v = pv f
  | _ => ∃ g, v = .pointer (some ⟨g, 0, none⟩) ∧ B ≤ g ∧ u.heap[g]? = some (.cells #[.int .u32 0, .int .i64 0] 31)

theorem FG.keeps (b B : Nat) (p k f : K) : ∀ (i : Nat) (v : Value) (w w' : World), FG b B p k f i v w → Below w.heap.size w w' → FG b B p k f i v w' := fun i v w w' h hb => by
  match i with
  | 0 => exact h
  | 1 => exact h
  | 2 => exact h
  | 3 => exact h
  | 4 => exact h
  | 5 => exact h
  | n + 6 =>
    obtain ⟨g, h1, h2, h3⟩ := h
    exact ⟨g, h1, h2, below_keeps hb h3 (Array.getElem?_eq_some_iff.1 h3).1⟩

theorem ex_nil {P : Program} {o : Oper} {a : Act} {w : World} (p : Addr) (x : Operand) (ho : o.op = .nilCheck x) (hx : a.eval x = .pointer (some p)) : (execOp a.eval o).run P w = .ok (.value (.pointer (some p))) w := by
  unfold execOp
  simp only [ho, hx]
  rfl

theorem ex_allocP {o : Oper} {a : Act} (u : World) (ho : o.op = .alloc 31) : (execOp a.eval o).run Try.prog u = .ok (.value (.pointer (some ⟨u.heap.size, 0, none⟩))) (u.alloc (.cells #[.int .u32 0, .int .i64 0] 31)) := by
  unfold execOp
  simp [ho, go_sem]

theorem hang_same {X : Nat → Prop} (b c1 : Nat) (k : K) (u : Option Int) (l r : MT) (c : Nat) (v : Option Int) (w : World) (hX : ∀ b, X b → b < w.heap.size) (hc : BoxAt w X c v) (hm : Lies w X (.node b c1 k u l r)) (hn : nodes l.tr + nodes r.tr < 1152921504606846976) :
    Calls Try.prog 22 #[.pointer (some ⟨b, 0, none⟩), pv k, vptr c v] w (HangPost X w (join k v l.tr r.tr)) := by
  obtain ⟨_, hrow, _, hl, hr⟩ := hm
  obtain ⟨wa, hwa, hs⟩ := HS.begin (p := k) hrow
  have hb0 := hs.be
  have HJ : Hid (∀ u, Below w.heap.size w u → Calls Try.prog 36 #[pv k, vptr c v, .agg #[l.ptr, r.ptr]] u (HangPost X u (join k v l.tr r.tr))) := fun u hu =>
    join_any k c v l r u (fun b hb => by have := hX b hb; have := hu.size; omega) (hc.below hu) (hl.below hu) (hr.below hu) hn (by have := vals_le l.tr; have := vals_le r.tr; omega)
  have HWA := hid hwa
  obtain ⟨vp, hvp⟩ := vptr_is c v
  obtain ⟨vq, hvq⟩ := vptr_is c1 u
  obtain ⟨lp, hlp⟩ := ptr_is l
  obtain ⟨rp, hrp⟩ := ptr_is r
  rw [hvp] at HJ ⊢
  rw [hvq, hlp, hrp] at hs
  rw [hlp, hrp] at HJ
  unfold pv at HJ ⊢
  generalize join k v l.tr r.tr = T at *
  generalize vals (.node k u l.tr r.tr) = cv at *
  generalize nodes (.node k u l.tr r.tr) = cn at *
  have HS1 := hid hs
  clear hwa hb0 hc hX hrow hl hr hvp hvq hlp hrp hn hs
  have x0 : wa.cell? ⟨w.heap.size, 0, none⟩ = some (.int .u32 (k.x : Int)) := by rw [cell_of_row _ _ _ _ _ _ HS1.out.pb]; rfl
  have x1 : wa.cell? ⟨w.heap.size, 1, none⟩ = some (.int .i64 (k.n : Int)) := by rw [cell_of_row _ _ _ _ _ _ HS1.out.pb]; rfl
  have n0 : wa.cell? ⟨b, 0, none⟩ = some (.int .u32 (k.x : Int)) := by rw [cell_of_row _ _ _ _ _ _ HS1.out.nd]; rfl
  have n1 : wa.cell? ⟨b, 1, none⟩ = some (.int .i64 (k.n : Int)) := by rw [cell_of_row _ _ _ _ _ _ HS1.out.nd]; rfl
  go_enter Try.func22, Try.ntmps22
  go_upto_region 2 with fail
  rw [← HWA.out]
  go_upto_region 4 with fail
  refine wp_region_still_tail 5 (by kernel_rfl) (by kernel_rfl) ?_
  simp only [List.take_succ_cons, List.take_zero, List.drop_succ_cons, List.drop_zero]
  iterate 5 still_step
  refine wpStill_nil ?_
  go_upto_region 5 with fail
  obtain ⟨wd, hwd⟩ : ∃ W, W = wa.drew := ⟨_, rfl⟩
  rw [← hwd]
  have HS2 : Hid (HS w wd b k k (.pointer vq) (.pointer lp) (.pointer rp) (.pointer none) (.pointer none) cv cn) := by unfold Hid; rw [hwd]; exact HS1.out.drew
  clear hwd x0 x1 n0 n1
  have x0 : wd.cell? ⟨w.heap.size, 0, none⟩ = some (.int .u32 (k.x : Int)) := by rw [cell_of_row _ _ _ _ _ _ HS2.out.pb]; rfl
  have x1 : wd.cell? ⟨w.heap.size, 1, none⟩ = some (.int .i64 (k.n : Int)) := by rw [cell_of_row _ _ _ _ _ _ HS2.out.pb]; rfl
  have n3 : wd.cell? ⟨b, 3, none⟩ = some (.pointer lp) := by rw [cell_of_row _ _ _ _ _ _ HS2.out.nd]; rfl
  have n4 : wd.cell? ⟨b, 4, none⟩ = some (.pointer rp) := by rw [cell_of_row _ _ _ _ _ _ HS2.out.nd]; rfl
  refine wp_region_still_tail 6 (by kernel_rfl) (by kernel_rfl) ?_
  simp only [List.take_succ_cons, List.take_zero, List.drop_succ_cons, List.drop_zero]
  iterate 6 still_step
  refine wpStill_nil ?_
  go_wp2_with fail
  have HS3 : Hid (HS w wd.drew b k k (.pointer vq) (.pointer lp) (.pointer rp) (.pointer none) (.pointer none) cv cn) := HS2.out.drew
  refine (HJ.out _ HS3.out.be).mono ?_
  rintro _ w' ⟨m, rfl, h1, h2, h3⟩
  have HF : Hid (m.tr = T ∧ Lies w' X m ∧ Below w.heap.size w w') := ⟨h1, h2, HS3.out.be.trans (h3.mono HS3.out.be.size)⟩
  obtain ⟨mp, hmp⟩ := ptr_is m
  rw [hmp]
  have HMP := hid hmp
  clear h1 h2 h3 hmp
  go_wp2_with fail
  go_ret
  exact ⟨m, by rw [HMP.out]; rfl, HF.out⟩
end Go.Proofs.Ytmnafocmbcgdiab
