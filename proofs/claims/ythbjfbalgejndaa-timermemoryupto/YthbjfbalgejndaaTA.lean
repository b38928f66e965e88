import Derived.Test.YthbjfbalgejndaaA
import Derived.Test.YthbjfbalgejndaaMathS
import Derived.Maps.OwnSet
import Derived.Maps.OwnOps
namespace Go.Proofs.Ythbjfbalgejndaa
open Go.ChangeShapes Go.WideShapes Go.ChangeAt Go.RowKit Go.Maps H
set_option maxHeartbeats 400000
set_option maxRecDepth 100000

/-! ### the map of places -/
theorem law3 : Keyed Try.prog 3 := int_keyed Try.underlying3
theorem u60 : Try.prog.underlying 60 = some (.map 3 3) := Try.underlying60

theorem key64 {x : Int} (hx : In64 x) : keyOf Try.prog 3 (.int .i64 x) = some (.int .i64 x) := keyOf_int_mk Try.underlying3 (WalkArith.wf_i64 ⟨hx.lo, hx.hi⟩)

/-- The map at block bm: which ids it has, and their places; it has c entries. -/
def MapF (w : World) (bm : Nat) (f : Int → Option Nat) (c : Nat) : Prop :=
  ∃ D : DataW Unit, w.ownsMap Try.prog 3 (plainElem Try.prog 3) bm c D ∧ Maps.size D = c ∧
    ∀ x, In64 x → Maps.has D (.int .i64 x) = (f x).isSome ∧ D.atKey (.int .i64 x) (.lit (.int .i64 0)) = .lit (.int .i64 (((f x).getD 0 : Nat) : Int))

theorem own_tight {w : World} {bm n : Nat} {D : DataW Unit} (h : w.ownsMap Try.prog 3 (plainElem Try.prog 3) bm n D) : w.ownsMap Try.prog 3 (plainElem Try.prog 3) bm (Maps.size D) D := by
  obtain ⟨es, clock, hb, F, hs, hD⟩ := h
  refine ⟨es, clock, hb, F, ?_, hD⟩
  rw [hD]
  show es.size ≤ (List.foldr DataW.insert [] _).length
  rw [length_sorted]
  simp

theorem MapF.made (w : World) : MapF (w.alloc (.map #[] 0)) w.heap.size (fun _ => none) 0 :=
  ⟨.map [], World.ownsMap_made w _ _ _, rfl, fun _ _ => ⟨rfl, rfl⟩⟩

theorem MapF.lt {w : World} {bm c : Nat} {f : Int → Option Nat} (h : MapF w bm f c) : bm < w.heap.size := by
  obtain ⟨D, h1, _⟩ := h
  exact h1.lt

theorem MapF.kept {w w' : World} {bm c : Nat} {f : Int → Option Nat} (h : MapF w bm f c) (hb : w'.heap[bm]? = w.heap[bm]?) : MapF w' bm f c := by
  obtain ⟨D, ⟨es, clock, h0, F, hs, hD⟩, h2, h3⟩ := h
  exact ⟨D, ⟨es, clock, hb.trans h0, F, hs, hD⟩, h2, h3⟩

theorem MapF.store {w : World} {bm c : Nat} {f : Int → Option Nat} (h : MapF w bm f c) (hc : c < 1000000) {x : Int} (hx : In64 x) (p : Nat) (hp : p < 1000000) :
    ∃ w', (Instr.mapUpdate 60 (.map (some bm)) (.int .i64 x) (.int .i64 (p : Int))).run Try.prog w = .ok () w' ∧ MapF w' bm (put f x p) (if (f x).isSome then c else c + 1) ∧ w.mapTurned w' bm := by
  obtain ⟨D, h1, h2, h3⟩ := h
  have hw : (Lit.int .i64 (p : Int)).wf = true := WalkArith.wf_i64 (by omega)
  obtain ⟨w', hr, ho, ht⟩ := h1.store law3 u60 (by unfold maxLen; omega) (key64 hx) (plainElem_int Try.underlying3 hw)
  have htd := h1.tidy law3
  have hsz : Maps.size (D.put (.int .i64 x) (.lit (.int .i64 (p : Int)))) = if (f x).isSome then c else c + 1 := by
    rw [size_put htd, (h3 x hx).1, h2]
  refine ⟨w', hr, ⟨_, by rw [← hsz]; exact own_tight ho, hsz, fun y hy => ?_⟩, ht⟩
  by_cases hxy : y = x
  · subst hxy
    exact ⟨by rw [has_put_same (k := .int .i64 y) h1.isMap trivial]; simp [put], by rw [atKey_put_same (k := .int .i64 y) h1.isMap trivial]; simp [put]⟩
  · have hne : (Lit.int .i64 y) ≠ Lit.int .i64 x := fun e => hxy (by cases e; rfl)
    refine ⟨by rw [has_put_other hne, (h3 y hy).1]; simp [put, hxy], by rw [atKey_put_other hne, (h3 y hy).2]; simp [put, hxy]⟩

theorem MapF.drop {w : World} {bm c : Nat} {f : Int → Option Nat} (h : MapF w bm f c) {x : Int} (hx : In64 x) (hf : (f x).isSome = true) (ty : TypeId) :
    ∃ w', (Builtin.delete_ #[60, 3] ty #[.map (some bm), .int .i64 x]).run Try.prog w = .ok (.tuple #[]) w' ∧ MapF w' bm (del f x) (c - 1) ∧ w.mapTurned w' bm := by
  obtain ⟨D, h1, h2, h3⟩ := h
  obtain ⟨w', hr, ho, ht⟩ := h1.drop law3 u60 (key64 hx) ty
  have hsz : Maps.size (D.del (.int .i64 x)) = c - 1 := by
    have := size_del (k := .int .i64 x) (h1.tidy law3)
    rw [(h3 x hx).1, hf, h2] at this
    simp at this
    omega
  refine ⟨w', hr, ⟨_, by rw [← hsz]; exact own_tight ho, hsz, fun y hy => ?_⟩, ht⟩
  by_cases hxy : y = x
  · subst hxy
    exact ⟨by rw [has_del_same]; simp [del], by rw [atKey_del_same]; simp [del]⟩
  · have hne : (Lit.int .i64 y) ≠ Lit.int .i64 x := fun e => hxy (by cases e; rfl)
    refine ⟨by rw [has_del_other hne, (h3 y hy).1]; simp [del, hxy], by rw [atKey_del_other hne, (h3 y hy).2]; simp [del, hxy]⟩

theorem zero3 (w : World) : (zeroValue 3).run Try.prog w = .ok (.int .i64 0) w := by kernel_rfl

theorem MapF.look {w : World} {bm c : Nat} {f : Int → Option Nat} (h : MapF w bm f c) {x : Int} (hx : In64 x) :
    (Instr.lookup 60 (.map (some bm)) (.int .i64 x) true).run Try.prog w = .ok (.tuple #[.int .i64 (((f x).getD 0 : Nat) : Int), .bool (f x).isSome]) w := by
  obtain ⟨D, h1, _, h3⟩ := h
  obtain ⟨v, ps, hr, hv⟩ := h1.look_ok law3 u60 (zero3 w) (plainElem_int (a := 0) Try.underlying3 (by decide)) (key64 hx)
  rw [(h3 x hx).1] at hr
  rw [(h3 x hx).2] at hv
  obtain ⟨c', rfl, hc, _⟩ := plainElem_int_inv Try.underlying3 hv
  have : c' = (((f x).getD 0 : Nat) : Int) := by
    have := congrArg Prod.fst hc
    simpa using this.symm
  rw [hr, this]
end Go.Proofs.Ythbjfbalgejndaa
