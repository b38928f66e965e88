/-
  The tree in memory; counted; cmp.Or of two nodes.
-/
import Derived.Test.YtmnafocmbcgdiabVE
import Derived.Test.YtmnafocmbcgdiabVP
namespace Go.Proofs.Ytmnafocmbcgdiab
open Go.ChangeShapes Go.WideShapes Go.ChangeAt Go.RowKit Tri N
set_option maxHeartbeats 400000
set_option maxRecDepth 100000

/-- A tree with its places: of each node its block, and the block of its value. -/
inductive MT where
  | nil : MT
  | node (b c : Nat) (k : K) (u : Option Int) (l r : MT) : MT

def MT.tr : MT → Tr
  | .nil => .nil
  | .node _ _ k u l r => .node k u l.tr r.tr

def MT.ptr : MT → Value
  | .nil => .pointer none
  | .node b _ _ _ _ _ => .pointer (some ⟨b, 0, none⟩)

def vptr (c : Nat) : Option Int → Value
  | none => .pointer none
  | some _ => .pointer (some ⟨c, 0, none⟩)

def ndCells (k : K) (vv lp rp : Value) (cv cn : Nat) : Array Value := #[.int .u32 (k.x : Int), .int .i64 (k.n : Int), vv, lp, rp, .int .i64 (cv : Int), .int .i64 (cn : Int)]

/-- A value in its box, outside the blocks X. -/
def BoxAt (w : World) (X : Nat → Prop) (c : Nat) (u : Option Int) : Prop := ∀ a, u = some a → ¬ X c ∧ w.heap[c]? = some (.cells #[.int .i64 a] 3)

/-- The tree lies in memory, outside the blocks X. -/
def Lies (w : World) (X : Nat → Prop) : MT → Prop
  | .nil => True
  | .node b c k u l r => ¬ X b ∧ w.heap[b]? = some (.cells (ndCells k (vptr c u) l.ptr r.ptr (vals (.node k u l.tr r.tr)) (nodes (.node k u l.tr r.tr))) 64) ∧ BoxAt w X c u ∧ Lies w X l ∧ Lies w X r

/-- What is outside X stays. -/
structure Chg (X : Nat → Prop) (w w' : World) : Prop where
  os : w'.os = w.os
  tape : w'.tape = w.tape
  output : w'.output = w.output
  size : w.heap.size ≤ w'.heap.size
  block : ∀ j, j < w.heap.size → ¬ X j → w'.heap[j]? = w.heap[j]?

theorem Chg.of_below {X : Nat → Prop} {w w' : World} (h : Below w.heap.size w w') : Chg X w w' := ⟨h.os, h.tape, h.output, h.size, fun j hj _ => h.block j hj⟩
theorem Chg.refl (X : Nat → Prop) (w : World) : Chg X w w := Chg.of_below (Below.refl _ _)
theorem Chg.trans {X : Nat → Prop} {a b c : World} (h1 : Chg X a b) (h2 : Chg X b c) : Chg X a c :=
  ⟨h2.os.trans h1.os, h2.tape.trans h1.tape, h2.output.trans h1.output, Nat.le_trans h1.size h2.size, fun j hj hn => (h2.block j (Nat.lt_of_lt_of_le hj h1.size) hn).trans (h1.block j hj hn)⟩
theorem Chg.mono {X Y : Nat → Prop} {a b : World} (h : Chg X a b) (hs : ∀ j, X j → Y j) : Chg Y a b := ⟨h.os, h.tape, h.output, h.size, fun j hj hn => h.block j hj (fun hx => hn (hs j hx))⟩
theorem Chg.of_but {g : Nat} {X : Nat → Prop} {w w' : World} (h : But g w w') (hg : X g) : Chg X w w' := ⟨h.os, h.tape, h.output, h.size, fun j hj hn => h.block j hj (fun e => hn (e ▸ hg))⟩

theorem BoxAt.chg {w w' : World} {X : Nat → Prop} {c : Nat} {u : Option Int} (h : BoxAt w X c u) (hc : Chg X w w') : BoxAt w' X c u := fun a ha => by
  obtain ⟨h1, h2⟩ := h a ha
  exact ⟨h1, (hc.block c (Array.getElem?_eq_some_iff.1 h2).1 h1).trans h2⟩

theorem Lies.chg {w w' : World} {X : Nat → Prop} {m : MT} (h : Lies w X m) (hc : Chg X w w') : Lies w' X m := by
  induction m with
  | nil => trivial
  | node b c k u l r il ir =>
    obtain ⟨h1, h2, h3, h4, h5⟩ := h
    exact ⟨h1, (hc.block b (Array.getElem?_eq_some_iff.1 h2).1 h1).trans h2, h3.chg hc, il h4, ir h5⟩

theorem Lies.below {w w' : World} {X : Nat → Prop} {m : MT} (h : Lies w X m) (hb : Below w.heap.size w w') : Lies w' X m := h.chg (Chg.of_below hb)
theorem BoxAt.below {w w' : World} {X : Nat → Prop} {c : Nat} {u : Option Int} (h : BoxAt w X c u) (hb : Below w.heap.size w w') : BoxAt w' X c u := h.chg (Chg.of_below hb)

/-- Other blocks may be written, if they are not the tree's. -/
theorem Lies.more {w : World} {X Y : Nat → Prop} {m : MT} (h : Lies w X m) (hY : ∀ j, Y j → X j ∨ w.heap.size ≤ j) : Lies w Y m := by
  induction m with
  | nil => trivial
  | node b c k u l r il ir =>
    obtain ⟨h1, h2, h3, h4, h5⟩ := h
    refine ⟨fun hy => ?_, h2, fun a ha => ⟨fun hy => ?_, (h3 a ha).2⟩, il h4, ir h5⟩
    · have := (Array.getElem?_eq_some_iff.1 h2).1
      rcases hY b hy with h | h
      · exact h1 h
      · omega
    · have := (Array.getElem?_eq_some_iff.1 (h3 a ha).2).1
      rcases hY c hy with h | h
      · exact (h3 a ha).1 h
      · omega

theorem set_two' {w : World} {b : Nat} {x y a c : Value} {t : TypeId} (h : w.heap[b]? = some (.cells #[x, y] t (0, 0))) : ((w.setCell ⟨b, 0, none⟩ a).setCell ⟨b, 1, none⟩ c).heap[b]? = some (.cells #[a, c] t (0, 0)) :=
  set_row (i := 1) (v := c) (set_row (i := 0) (v := a) h)

theorem counted_any {X : Nat → Prop} (m : MT) (w : World) (h : Lies w X m) :
    Calls Try.prog 26 #[m.ptr] w fun e w' => e = .returned (.agg #[.int .i64 (vals m.tr : Int), .int .i64 (nodes m.tr : Int)]) ∧ Below w.heap.size w w' := by
  have hb0 : Below w.heap.size w (w.alloc (.cells #[.int .i64 0, .int .i64 0] 62)) := (Below.refl _ _).alloc (Nat.le_refl _) _
  cases m with
  | nil =>
    show Calls Try.prog 26 #[.pointer none] w fun e w' => e = .returned (.agg #[.int .i64 0, .int .i64 0]) ∧ Below w.heap.size w w'
    go_enter Try.func26, Try.ntmps26
    go_wp2_with fail
    refine bodyPost_ret (v := .agg #[.int .i64 0, .int .i64 0]) (by simp [results, Try.results26, go_sem]) rfl ⟨rfl, hb0⟩
  | node b c k u l r =>
    obtain ⟨h1, h2, h3, h4, h5⟩ := h
    show Calls Try.prog 26 #[.pointer (some ⟨b, 0, none⟩)] w fun e w' => e = .returned (.agg #[.int .i64 (vals (.node k u l.tr r.tr) : Int), .int .i64 (nodes (.node k u l.tr r.tr) : Int)]) ∧ Below w.heap.size w w'
    generalize vals (.node k u l.tr r.tr) = cv at *
    generalize nodes (.node k u l.tr r.tr) = cn at *
    have hlt := (Array.getElem?_eq_some_iff.1 h2).1
    obtain ⟨wa, hwa⟩ : ∃ wa, wa = w.alloc (.cells #[.int .i64 0, .int .i64 0] 62) := ⟨_, rfl⟩
    rw [← hwa] at hb0
    have r0 : wa.heap[b]? = some (.cells (ndCells k (vptr c u) l.ptr r.ptr cv cn) 64) := below_keeps hb0 h2 hlt
    have r3 : wa.heap[w.heap.size]? = some (.cells #[.int .i64 0, .int .i64 0] 62) := by rw [hwa]; exact heap_alloc_new w _
    have c5 : wa.cell? ⟨b, 5, none⟩ = some (.int .i64 (cv : Int)) := by rw [cell_of_row _ _ _ _ _ _ r0]; rfl
    have c6 : wa.cell? ⟨b, 6, none⟩ = some (.int .i64 (cn : Int)) := by rw [cell_of_row _ _ _ _ _ _ r0]; rfl
    have d0 : wa.cell? ⟨w.heap.size, 0, none⟩ = some (.int .i64 0) := by rw [cell_of_row _ _ _ _ _ _ r3]; rfl
    have d1 : wa.cell? ⟨w.heap.size, 1, none⟩ = some (.int .i64 0) := by rw [cell_of_row _ _ _ _ _ _ r3]; rfl
    have f0 : wa.frozen? ⟨w.heap.size, 0, none⟩ = false := frozen_of_row _ _ _ _ _ r3
    have f1 : wa.frozen? ⟨w.heap.size, 1, none⟩ = false := frozen_of_row _ _ _ _ _ r3
    have HWA := hid hwa
    clear hwa
    go_enter Try.func26, Try.ntmps26
    go_upto_region 1 with fail
    rw [← HWA.out]
    go_wp2_with fail
    have r4 := set_two' (a := .int .i64 (cv : Int)) (c := .int .i64 (cn : Int)) r3
    have HB4 : Hid (Below w.heap.size w ((wa.setCell ⟨w.heap.size, 0, none⟩ (.int .i64 (cv : Int))).setCell ⟨w.heap.size, 1, none⟩ (.int .i64 (cn : Int)))) :=
      (hb0.setCell (p := ⟨w.heap.size, 0, none⟩) (Nat.le_refl _) (.int .i64 (cv : Int))).setCell (p := ⟨w.heap.size, 1, none⟩) (Nat.le_refl _) (.int .i64 (cn : Int))
    generalize ((wa.setCell ⟨w.heap.size, 0, none⟩ (.int .i64 (cv : Int))).setCell ⟨w.heap.size, 1, none⟩ (.int .i64 (cn : Int))) = W at *
    have g0 : W.cell? ⟨w.heap.size, 0, none⟩ = some (.int .i64 (cv : Int)) := by rw [cell_of_row _ _ _ _ _ _ r4]; rfl
    have g1 : W.cell? ⟨w.heap.size, 1, none⟩ = some (.int .i64 (cn : Int)) := by rw [cell_of_row _ _ _ _ _ _ r4]; rfl
    refine bodyPost_ret (v := .agg #[.int .i64 (cv : Int), .int .i64 (cn : Int)]) (by simp [results, Try.results26, go_sem, g0, g1]) rfl ⟨rfl, HB4.out⟩

theorem or_any {g : Nat} {t : TypeId} (a0 a1 : Option Addr) (w : World) (h : w.heap[g]? = some (.cells #[.pointer a0, .pointer a1] t)) :
    Calls Try.prog 54 #[.slice (some ⟨g, 0, none⟩) 2 2] w fun e w' => e = .returned (.pointer (a0.or a1)) ∧ w' = w := by
  have c0 : w.cell? ⟨g, 0, none⟩ = some (.pointer a0) := by rw [cell_of_row _ _ _ _ _ _ h]; rfl
  have c1 : w.cell? ⟨g, 1, none⟩ = some (.pointer a1) := by rw [cell_of_row _ _ _ _ _ _ h]; rfl
  clear h
  cases a0 with
  | some p =>
    go_enter Try.func54, Try.ntmps54
    go_wp2_with fail
    refine wp_loop_rounds 6 ?_
    rw [rounds_succ]
    go_wp2_with fail
    go_ret
    exact ⟨rfl, rfl⟩
  | none =>
    cases a1 with
    | some p =>
      go_enter Try.func54, Try.ntmps54
      go_wp2_with fail
      refine wp_loop_rounds 6 ?_
      rw [rounds_succ]
      go_wp2_with fail
      rw [rounds_succ]
      go_wp2_with fail
      go_ret
      exact ⟨rfl, rfl⟩
    | none =>
      go_enter Try.func54, Try.ntmps54
      go_wp2_with fail
      refine wp_loop_rounds 6 ?_
      rw [rounds_succ]
      go_wp2_with fail
      rw [rounds_succ]
      go_wp2_with fail
      rw [rounds_succ]
      go_wp2_with fail
      go_ret
      exact ⟨rfl, rfl⟩
end Go.Proofs.Ytmnafocmbcgdiab
