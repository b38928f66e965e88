/-
  The base: what a call leaves; the two maps of an Ipam.
-/
import Derived.Test.YtjilahbkolcekabOA
import Derived.Test.YtjilahbkolcekabEM
import Derived.Maps.OwnSet
import Derived.Maps.OwnOps
import Derived.Maps.RangeWalk
import Derived.Maps.StringElems
import Derived.Deep.CutRange
import Derived.Deep.RegionWith
import Derived.Deep.RegionHeld3
import Derived.StillTailTactics
import Derived.WalkMore
namespace Go.Proofs.Ytjilahbkolcekab
open Go.ChangeShapes Go.WideShapes Go.ChangeAt Go.RowKit Go.Maps Tri
set_option maxHeartbeats 400000
set_option maxRecDepth 100000

theorem wp_region_beh {P : Program} {id : Nat} {Q : Exit → Act → World → Prop} {a : Act} {w : World} {l : List Oper} (hm : P.follows .mixedOrders = true) (hB : Region.lexB .any l.toArray = true)
    (h : wpQuiet P l.toArray (fun w' => ∃ u : Beh w, w' = u.wd) (fun a' => ∀ w', (∃ u : Beh w, w' = u.wd) → Q .normal a' w') l a) : (Code.region id l.toArray true).wp P Q a w :=
  wp_region_quiet (C := fun w' => ∃ u : Beh w, w' = u.wd) hm hB ⟨⟨_, below_drewN (Below.refl _ _) 1⟩, rfl⟩ (by simpa using h)

/-- All but the blocks of S are as they were. -/
structure Keeps (S : Nat → Prop) (w w' : World) : Prop where
  os : w'.os = w.os
  tape : w'.tape = w.tape
  output : w'.output = w.output
  size : w.heap.size ≤ w'.heap.size
  block : ∀ k, k < w.heap.size → ¬ S k → w'.heap[k]? = w.heap[k]?

theorem Keeps.refl (S : Nat → Prop) (w : World) : Keeps S w w := ⟨rfl, rfl, rfl, Nat.le_refl _, fun _ _ _ => rfl⟩
theorem Keeps.trans {S : Nat → Prop} {a b c : World} (h : Keeps S a b) (h' : Keeps S b c) : Keeps S a c := ⟨h'.os.trans h.os, h'.tape.trans h.tape, h'.output.trans h.output, Nat.le_trans h.size h'.size, fun k hk hn => (h'.block k (Nat.lt_of_lt_of_le hk h.size) hn).trans (h.block k hk hn)⟩
theorem Keeps.mono {S S' : Nat → Prop} {a b : World} (h : Keeps S a b) (hs : ∀ k, k < a.heap.size → S k → S' k) : Keeps S' a b := ⟨h.os, h.tape, h.output, h.size, fun k hk hn => h.block k hk fun hk' => hn (hs k hk hk')⟩
theorem Keeps.of {S : Nat → Prop} {a b : World} (h : Below a.heap.size a b) : Keeps S a b := ⟨h.os, h.tape, h.output, h.size, fun k hk _ => h.block k hk⟩
theorem Keeps.grown {S : Nat → Prop} {a b : World} {r : Option Nat} (h : a.grownBy b r) (hr : ∀ k, r = some k → S k) : Keeps S a b := ⟨h.os, h.tape, h.output, h.size, fun k hk hn => h.block k hk fun e => hn (hr k e.symm)⟩
theorem Keeps.set {S : Nat → Prop} {a b : World} (h : Keeps S a b) (p : Addr) (hp : S p.block) (v : Value) : Keeps S a (b.setCell p v) :=
  ⟨h.os, h.tape, h.output, by simpa [World.setCell] using h.size, fun k hk hn => by
    have : p.block ≠ k := fun e => hn (e ▸ hp)
    rw [show (b.setCell p v).heap[k]? = b.heap[k]? by simp [World.setCell, Array.getElem?_modify, this]]
    exact h.block k hk hn⟩
theorem Keeps.below {S : Nat → Prop} {a b : World} (h : Keeps S a b) {B : Nat} (hB : B ≤ a.heap.size) (hs : ∀ k, S k → B ≤ k) : Below B a b := ⟨h.os, h.tape, h.output, h.size, fun k hk => h.block k (by omega) fun hk' => by have := hs k hk'; omega⟩

theorem set_cells {w : World} {b i : Nat} {cs : Array Value} {v : Value} {t : TypeId} (h : w.heap[b]? = some (.cells cs t (0, 0))) : (w.setCell ⟨b, i, none⟩ v).heap[b]? = some (.cells (cs.setIfInBounds i v) t (0, 0)) := by
  simp only [World.setCell, Array.getElem?_modify, if_true, h, Option.map_some]
  rfl

theorem wpList_append_run {P : Program} (w : World) {ops : Array Oper} {rest : List Oper} {o : Oper} {a : Act} {Q : Exit → Act → World → Prop} (hgd : o.guard = none) (d s : Operand) (t t' : TypeId)
    (ho : o.op = .call { callee := .builtin .append, args := #[d, s], argTypes := #[t, t'] }) (v u : Value) (hd : a.eval d = v) (hs : a.eval s = u) {v' : Value} {w' : World}
    (hr : (Builtin.append_ #[t, t'] o.type #[v, u]).run P w = .ok v' w') (h : wpList P ops Q rest (a.put o.dst v') w') : wpList P ops Q (o :: rest) a w :=
  wpList_plain hgd fun _ hK => by
    unfold Oper.wp execOp
    simp only [ho, resolve, invoke, builtin, Sem.run_bind, Sem.run_pure, Result.andThen_ok, List.map_toArray, List.map_cons, List.map_nil, hd, hs, hr]
    exact hK _ _ h

theorem int_lt {a b : Nat} (h : a < b) : (a : Int) < (b : Int) := by omega
theorem int_nlt {a b : Nat} (h : ¬ a < b) : ¬ (a : Int) < (b : Int) := by omega
theorem take_snoc {α : Type} {L : List α} {j : Nat} {x : α} (h : L[j]? = some x) : L.take (j + 1) = L.take j ++ [x] := by
  rw [List.take_add_one, h]; rfl

theorem turned_keeps {w w' : World} {bm : Nat} (h : w.mapTurned w' bm) : Keeps (fun k => k = bm) w w' := Keeps.grown h.grown fun k e => by cases e; rfl

theorem tight {k : TypeId} {R : Value → Option (DataW Unit × List MemPlace)} {w : World} {bm n : Nat} {D : DataW Unit} (h : w.ownsMap Try.prog k R bm n D) : w.ownsMap Try.prog k R bm (Maps.size D) D := by
  obtain ⟨es, clock, hb, F, hs, hD⟩ := h
  refine ⟨es, clock, hb, F, ?_, hD⟩
  rw [hD]
  show es.size ≤ (List.foldr DataW.insert [] _).length
  rw [length_sorted]
  simp

/-! ### names to addresses -/
theorem lawN : Keyed Try.prog 9 := string_keyed Try.underlying9
theorem uN : Try.prog.underlying 72 = some (.map 9 23) := Try.underlying72
theorem uAd : Try.prog.underlying 23 = some (.int .u32) := by kernel_rfl
theorem zeroAd (w : World) : (zeroValue 23).run Try.prog w = .ok (.int .u32 0) w := by kernel_rfl

def nl (s : ByteArray) : Lit := .string s.data.toList
theorem nl_inj {s t : ByteArray} (h : nl s = nl t) : s = t := by
  unfold nl at h
  injection h with h
  have : s.data = t.data := Array.toList_inj.1 h
  cases s; cases t
  simp at this
  rw [this]
theorem keyN {s : ByteArray} (hs : s.size ≤ maxLen) : keyOf Try.prog 9 (.string s) = some (nl s) := WideMaps.keyOf_string_mk Try.underlying9 hs
theorem isKeyN (s : ByteArray) : WideAt.IsKeyLit (nl s) := trivial

def MapN (w : World) (bm : Nat) (f : ByteArray → Option Nat) (c : Nat) : Prop :=
  ∃ D : DataW Unit, w.ownsMap Try.prog 9 (plainElem Try.prog 23) bm c D ∧ Maps.size D = c ∧
    ∀ x : ByteArray, x.size ≤ maxLen → Maps.has D (nl x) = (f x).isSome ∧ D.atKey (nl x) (.lit (.int .u32 0)) = .lit (.int .u32 (((f x).getD 0 : Nat) : Int))

theorem MapN.made (w : World) : MapN (w.alloc (.map #[] 0)) w.heap.size (fun _ => none) 0 :=
  ⟨.map [], World.ownsMap_made w _ _ _, rfl, fun _ _ => ⟨rfl, rfl⟩⟩
theorem MapN.lt {w : World} {bm c : Nat} {f : ByteArray → Option Nat} (h : MapN w bm f c) : bm < w.heap.size := by
  obtain ⟨D, h1, _⟩ := h
  exact h1.lt
theorem MapN.kept {w w' : World} {bm c : Nat} {f : ByteArray → Option Nat} (h : MapN w bm f c) (hb : w'.heap[bm]? = w.heap[bm]?) : MapN w' bm f c := by
  obtain ⟨D, ⟨es, clock, h0, F, hs, hD⟩, h2, h3⟩ := h
  exact ⟨D, ⟨es, clock, hb.trans h0, F, hs, hD⟩, h2, h3⟩
theorem MapN.congr {w : World} {bm c c' : Nat} {f g : ByteArray → Option Nat} (h : MapN w bm f c) (hc : c = c') (hg : ∀ x, f x = g x) : MapN w bm g c' := by
  have : f = g := funext hg
  rw [← hc, ← this]; exact h

theorem MapN.store {w : World} {bm c : Nat} {f : ByteArray → Option Nat} (h : MapN w bm f c) (hc : c < 1000000) {x : ByteArray} (hx : x.size ≤ maxLen) (p : Nat) (hp : p < 4294967296) :
    ∃ w', (Instr.mapUpdate 72 (.map (some bm)) (.string x) (.int .u32 (p : Int))).run Try.prog w = .ok () w' ∧ MapN w' bm (fun y => if y = x then some p else f y) (if (f x).isSome then c else c + 1) ∧ w.mapTurned w' bm := by
  obtain ⟨D, h1, h2, h3⟩ := h
  have hw : (Lit.int .u32 (p : Int)).wf = true := WalkArith.wf_u32 (by omega)
  obtain ⟨w', hr, ho, ht⟩ := h1.store lawN uN (by unfold maxLen; omega) (keyN hx) (plainElem_int uAd hw)
  have htd := h1.tidy lawN
  have hsz : Maps.size (D.put (nl x) (.lit (.int .u32 (p : Int)))) = if (f x).isSome then c else c + 1 := by
    rw [size_put htd, (h3 x hx).1, h2]
  refine ⟨w', hr, ⟨_, by rw [← hsz]; exact tight ho, hsz, fun y hy => ?_⟩, ht⟩
  by_cases hxy : y = x
  · subst hxy
    exact ⟨by rw [has_put_same (k := nl y) h1.isMap trivial]; simp, by rw [atKey_put_same (k := nl y) h1.isMap trivial]; simp⟩
  · have hne : nl y ≠ nl x := fun e => hxy (nl_inj e)
    refine ⟨by rw [has_put_other hne, (h3 y hy).1]; simp [hxy], by rw [atKey_put_other hne, (h3 y hy).2]; simp [hxy]⟩

theorem MapN.drop {w : World} {bm c : Nat} {f : ByteArray → Option Nat} (h : MapN w bm f c) {x : ByteArray} (hx : x.size ≤ maxLen) (hf : (f x).isSome = true) (ty : TypeId) :
    ∃ w', (Builtin.delete_ #[72, 9] ty #[.map (some bm), .string x]).run Try.prog w = .ok (.tuple #[]) w' ∧ MapN w' bm (fun y => if y = x then none else f y) (c - 1) ∧ w.mapTurned w' bm := by
  obtain ⟨D, h1, h2, h3⟩ := h
  obtain ⟨w', hr, ho, ht⟩ := h1.drop lawN uN (keyN hx) ty
  have hsz : Maps.size (D.del (nl x)) = c - 1 := by
    have := size_del (k := nl x) (h1.tidy lawN)
    rw [(h3 x hx).1, hf, h2] at this
    simp at this
    omega
  refine ⟨w', hr, ⟨_, by rw [← hsz]; exact tight ho, hsz, fun y hy => ?_⟩, ht⟩
  by_cases hxy : y = x
  · subst hxy
    exact ⟨by rw [has_del_same]; simp, by rw [atKey_del_same]; simp⟩
  · have hne : nl y ≠ nl x := fun e => hxy (nl_inj e)
    refine ⟨by rw [has_del_other hne, (h3 y hy).1]; simp [hxy], by rw [atKey_del_other hne, (h3 y hy).2]; simp [hxy]⟩

theorem MapN.look {w : World} {bm c : Nat} {f : ByteArray → Option Nat} (h : MapN w bm f c) {x : ByteArray} (hx : x.size ≤ maxLen) :
    (Instr.lookup 72 (.map (some bm)) (.string x) true).run Try.prog w = .ok (.tuple #[.int .u32 (((f x).getD 0 : Nat) : Int), .bool (f x).isSome]) w := by
  obtain ⟨D, h1, _, h3⟩ := h
  obtain ⟨v, ps, hr, hv⟩ := h1.look_ok lawN uN (zeroAd w) (plainElem_int (a := 0) uAd (by decide)) (keyN hx)
  rw [(h3 x hx).1] at hr
  rw [(h3 x hx).2] at hv
  obtain ⟨c', rfl, hc, _⟩ := plainElem_int_inv uAd hv
  have : c' = (((f x).getD 0 : Nat) : Int) := by
    have := congrArg Prod.fst hc
    simpa using this.symm
  rw [hr, this]
theorem MapN.len {w : World} {bm c : Nat} {f : ByteArray → Option Nat} (h : MapN w bm f c) (ty : TypeId) : (Builtin.len_ #[72] ty #[.map (some bm)]).run Try.prog w = .ok (.int .i64 (c : Int)) w := by
  obtain ⟨D, h1, h2, _⟩ := h
  rw [h1.len uN ty, h2]

/-! ### addresses to pods -/
theorem lawA : Keyed Try.prog 23 := int_keyed uAd
theorem uA : Try.prog.underlying 73 = some (.map 23 80) := Try.underlying73
theorem zeroPd (w : World) : (zeroValue 80).run Try.prog w = .ok (.agg #[.string ⟨#[]⟩, .int .u32 0]) w := by kernel_rfl

/-- A pod as a value, as a datum. -/
def podV (p : Pod) : Value := .agg #[.string p.nm, .int .u32 (p.ad : Int)]
def podD (p : Pod) : DataW Unit := .agg [.lit (nl p.nm), .lit (.int .u32 (p.ad : Int))]
def podR (v : Value) : Option (DataW Unit × List MemPlace) :=
  match v with
  | .agg cs => match cs.toList with
    | [.string s, .int .u32 a] => some (.agg [.lit (nl s), .lit (.int .u32 a)], [])
    | _ => none
  | _ => none
theorem podR_mk (p : Pod) : podR (podV p) = some (podD p, []) := rfl
theorem podR_shape {v : Value} {y : DataW Unit × List MemPlace} (h : podR v = some y) : ∃ c : ByteArray × Int, v = .agg #[.string c.1, .int .u32 c.2] ∧ y = (.agg [.lit (nl c.1), .lit (.int .u32 c.2)], []) := by
  unfold podR at h
  split at h
  · split at h
    · rename_i cs s a hc
      refine ⟨(s, a), ?_, by simpa using h.symm⟩
      congr 1
      exact Array.toList_inj.1 hc
    · cases h
  · cases h
theorem podR_held {v : Value} {p : Pod} {ps : List MemPlace} (h : podR v = some (podD p, ps)) : v = podV p := by
  obtain ⟨c, rfl, hy⟩ := podR_shape h
  have h1 := congrArg Prod.fst hy
  simp only [podD, DataW.agg.injEq, List.cons.injEq, DataW.lit.injEq, and_true] at h1
  obtain ⟨h2, h3⟩ := h1
  have h4 := nl_inj h2
  injection h3 with h5 h6
  unfold podV
  rw [h4, h6]

theorem key32 {x : Nat} (hx : x < 4294967296) : keyOf Try.prog 23 (.int .u32 (x : Int)) = some (.int .u32 (x : Int)) := keyOf_int_mk uAd (WalkArith.wf_u32 (by omega))

def zPod : Pod := ⟨⟨#[]⟩, 0⟩
def MapA (w : World) (bm : Nat) (f : Nat → Option Pod) (c : Nat) : Prop :=
  ∃ D : DataW Unit, w.ownsMap Try.prog 23 podR bm c D ∧ Maps.size D = c ∧
    ∀ x : Nat, x < 4294967296 → Maps.has D (.int .u32 (x : Int)) = (f x).isSome ∧ D.atKey (.int .u32 (x : Int)) (podD zPod) = podD ((f x).getD zPod)

theorem MapA.made (w : World) : MapA (w.alloc (.map #[] 0)) w.heap.size (fun _ => none) 0 :=
  ⟨.map [], World.ownsMap_made w _ _ _, rfl, fun _ _ => ⟨rfl, rfl⟩⟩
theorem MapA.lt {w : World} {bm c : Nat} {f : Nat → Option Pod} (h : MapA w bm f c) : bm < w.heap.size := by
  obtain ⟨D, h1, _⟩ := h
  exact h1.lt
theorem MapA.kept {w w' : World} {bm c : Nat} {f : Nat → Option Pod} (h : MapA w bm f c) (hb : w'.heap[bm]? = w.heap[bm]?) : MapA w' bm f c := by
  obtain ⟨D, ⟨es, clock, h0, F, hs, hD⟩, h2, h3⟩ := h
  exact ⟨D, ⟨es, clock, hb.trans h0, F, hs, hD⟩, h2, h3⟩
theorem MapA.congr {w : World} {bm c c' : Nat} {f g : Nat → Option Pod} (h : MapA w bm f c) (hc : c = c') (hg : ∀ x, f x = g x) : MapA w bm g c' := by
  have : f = g := funext hg
  rw [← hc, ← this]; exact h

theorem u32_ne {x y : Nat} (h : y ≠ x) : (Lit.int .u32 (y : Int)) ≠ Lit.int .u32 (x : Int) := fun e => h (by injection e with _ e; omega)

theorem MapA.store {w : World} {bm c : Nat} {f : Nat → Option Pod} (h : MapA w bm f c) (hc : c < 1000000) {x : Nat} (hx : x < 4294967296) (p : Pod) :
    ∃ w', (Instr.mapUpdate 73 (.map (some bm)) (.int .u32 (x : Int)) (podV p)).run Try.prog w = .ok () w' ∧ MapA w' bm (fun y => if y = x then some p else f y) (if (f x).isSome then c else c + 1) ∧ w.mapTurned w' bm := by
  obtain ⟨D, h1, h2, h3⟩ := h
  obtain ⟨w', hr, ho, ht⟩ := h1.store lawA uA (by unfold maxLen; omega) (key32 hx) (podR_mk p)
  have htd := h1.tidy lawA
  have hsz : Maps.size (D.put (.int .u32 (x : Int)) (podD p)) = if (f x).isSome then c else c + 1 := by
    rw [size_put htd, (h3 x hx).1, h2]
  refine ⟨w', hr, ⟨_, by rw [← hsz]; exact tight ho, hsz, fun y hy => ?_⟩, ht⟩
  by_cases hxy : y = x
  · subst hxy
    exact ⟨by rw [has_put_same (k := .int .u32 (y : Int)) h1.isMap trivial]; simp, by rw [atKey_put_same (k := .int .u32 (y : Int)) h1.isMap trivial]; simp⟩
  · have hne := u32_ne hxy
    refine ⟨by rw [has_put_other hne, (h3 y hy).1]; simp [hxy], by rw [atKey_put_other hne, (h3 y hy).2]; simp [hxy]⟩

theorem MapA.drop {w : World} {bm c : Nat} {f : Nat → Option Pod} (h : MapA w bm f c) {x : Nat} (hx : x < 4294967296) (hf : (f x).isSome = true) (ty : TypeId) :
    ∃ w', (Builtin.delete_ #[73, 23] ty #[.map (some bm), .int .u32 (x : Int)]).run Try.prog w = .ok (.tuple #[]) w' ∧ MapA w' bm (fun y => if y = x then none else f y) (c - 1) ∧ w.mapTurned w' bm := by
  obtain ⟨D, h1, h2, h3⟩ := h
  obtain ⟨w', hr, ho, ht⟩ := h1.drop lawA uA (key32 hx) ty
  have hsz : Maps.size (D.del (.int .u32 (x : Int))) = c - 1 := by
    have := size_del (k := .int .u32 (x : Int)) (h1.tidy lawA)
    rw [(h3 x hx).1, hf, h2] at this
    simp at this
    omega
  refine ⟨w', hr, ⟨_, by rw [← hsz]; exact tight ho, hsz, fun y hy => ?_⟩, ht⟩
  by_cases hxy : y = x
  · subst hxy
    exact ⟨by rw [has_del_same]; simp, by rw [atKey_del_same]; simp⟩
  · have hne := u32_ne hxy
    refine ⟨by rw [has_del_other hne, (h3 y hy).1]; simp [hxy], by rw [atKey_del_other hne, (h3 y hy).2]; simp [hxy]⟩

theorem MapA.look {w : World} {bm c : Nat} {f : Nat → Option Pod} (h : MapA w bm f c) {x : Nat} (hx : x < 4294967296) :
    (Instr.lookup 73 (.map (some bm)) (.int .u32 (x : Int)) true).run Try.prog w = .ok (.tuple #[podV ((f x).getD zPod), .bool (f x).isSome]) w := by
  obtain ⟨D, h1, _, h3⟩ := h
  obtain ⟨v, ps, hr, hv⟩ := h1.look_ok lawA uA (zeroPd w) (podR_mk zPod) (key32 hx)
  rw [(h3 x hx).1] at hr
  rw [(h3 x hx).2] at hv
  rw [hr, podR_held hv]
theorem MapA.len {w : World} {bm c : Nat} {f : Nat → Option Pod} (h : MapA w bm f c) (ty : TypeId) : (Builtin.len_ #[73] ty #[.map (some bm)]).run Try.prog w = .ok (.int .i64 (c : Int)) w := by
  obtain ⟨D, h1, h2, _⟩ := h
  rw [h1.len uA ty, h2]
end Go.Proofs.Ytjilahbkolcekab
