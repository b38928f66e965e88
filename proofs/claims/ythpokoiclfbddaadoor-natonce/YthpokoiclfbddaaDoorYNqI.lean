import Derived.Test.YthpokoiclfbddaaDoorYNqH
import Derived.Test.YthpokoiclfbddaaDoorYFlM
namespace Go.Proofs.YthpokoiclfbddaaDoor.Nq
open Go.Proofs.YthpokoiclfbddaaDoor Go.ChangeShapes Go.WideShapes Go.ChangeAt Go.RowKit Go.Maps Fl
open Go.Proofs.YthpokoiclfbddaaDoor.N hiding But But.set But.of_below But.refl But.trans But.below But.drew wpList_ld
open Go.Shelf
set_option maxHeartbeats 2000000
set_option maxRecDepth 100000

/-! ### the map of sets -/
def ptV : Option Nat → Value
  | none => .pointer none
  | some b => .pointer (some ⟨b, 0, none⟩)
def ptD : Option Nat → DataW Unit
  | none => .lit (.int .i64 (-1))
  | some b => .lit (.int .i64 b)
theorem ptD_inj {m n : Option Nat} (h : ptD m = ptD n) : m = n := by
  cases m <;> cases n <;> simp [ptD] at h ⊢ <;> omega
def ptR : Value → Option (DataW Unit × List MemPlace)
  | .pointer none => some (ptD none, [])
  | .pointer (some ⟨b, 0, none⟩) => some (ptD (some b), [])
  | _ => none
theorem ptR_mk (e : Option Nat) : ptR (ptV e) = some (ptD e, []) := by cases e <;> rfl
theorem ptR_inv {v : Value} {y : DataW Unit × List MemPlace} (h : ptR v = some y) : ∃ e, v = ptV e ∧ y = (ptD e, []) := by
  unfold ptR at h
  split at h
  · exact ⟨none, rfl, (Option.some.inj h).symm⟩
  · rename_i b
    exact ⟨some b, rfl, (Option.some.inj h).symm⟩
  · cases h
theorem uU8 : Tryd.prog.underlying 5 = some (.int .u8) := by kernel_rfl
theorem wf_u8 {x : Nat} (h : x < 256) : (Lit.int .u8 (x : Int)).wf = true := by
  have h1 : IntKind.u8.min = 0 := by decide
  have h2 : IntKind.u8.max = 255 := by decide
  show (decide (IntKind.u8.min ≤ (x : Int)) && decide ((x : Int) ≤ IntKind.u8.max)) = true
  rw [h1, h2]
  simp
  omega
def gP : Mq.Sg Nat (Option Nat) where
  kT := 5
  eT := 68
  mT := 60
  kV x := .int .u8 (x : Int)
  kL x := .int .u8 (x : Int)
  kOk x := x < 256
  eV := ptV
  eD := ptD
  R := ptR
  z := none
  law := int_keyed uU8
  um := Tryd.underlying60
  zero w := by kernel_rfl
  key k hk := keyOf_int_mk uU8 (wf_u8 hk)
  linj a b _ _ h := by
    simp only [Lit.int.injEq, true_and, Int.ofNat_inj] at h
    exact h
  read := ptR_mk
  held v e ps h := by
    obtain ⟨n, rfl, hy⟩ := ptR_inv h
    rw [ptD_inj (congrArg Prod.fst hy)]
  einv v y h := by
    obtain ⟨n, rfl, _⟩ := ptR_inv h
    exact ⟨n, rfl⟩

/-! ### how many sets there are -/
def cnt (f : Nat → Option (Option Nat)) : Nat := (List.range 256).countP fun k => (f k).isSome
theorem countP_upd (f : Nat → Bool) (k : Nat) (b : Bool) (n : Nat) : (List.range n).countP (fun y => if y = k then b else f y) + (if k < n ∧ f k = true then 1 else 0) = (List.range n).countP f + (if k < n ∧ b = true then 1 else 0) := by
  induction n with
  | zero => simp
  | succ n ih =>
    rw [List.range_succ, List.countP_append, List.countP_append, List.countP_singleton, List.countP_singleton]
    by_cases h : n = k
    · subst h
      simp only [Nat.lt_irrefl, false_and, if_false, Nat.lt_succ_self, true_and, if_true] at ih ⊢
      generalize List.countP (fun y => if y = n then b else f y) (List.range n) = A at *
      generalize List.countP f (List.range n) = B at *
      cases b <;> cases hf : f n <;> simp <;> omega
    · have e1 : (k < n + 1) = (k < n) := by apply propext; omega
      simp only [h, if_false, e1]
      omega
theorem cnt_le (f : Nat → Option (Option Nat)) : cnt f ≤ 256 := by
  have := List.countP_le_length (p := fun k => (f k).isSome) (l := List.range 256)
  rw [List.length_range] at this
  exact this
theorem cnt_put (f : Nat → Option (Option Nat)) {k : Nat} (hk : k < 256) (e : Option Nat) : (if (f k).isSome then cnt f else cnt f + 1) = cnt (fun y => if y = k then some e else f y) := by
  have := countP_upd (fun k => (f k).isSome) k true 256
  have e2 : (fun y => (if y = k then some e else f y).isSome) = fun y => if y = k then true else (f y).isSome := by funext y; by_cases h : y = k <;> simp [h]
  unfold cnt
  rw [e2]
  simp only [hk, true_and, if_true] at this
  split
  · rename_i h
    rw [if_pos h] at this
    omega
  · rename_i h
    rw [if_neg h] at this
    omega
theorem cnt_del (f : Nat → Option (Option Nat)) {k : Nat} (hk : k < 256) : (if (f k).isSome then cnt f - 1 else cnt f) = cnt (fun y => if y = k then none else f y) := by
  have := countP_upd (fun k => (f k).isSome) k false 256
  have e2 : (fun y => (if y = k then none else f y).isSome) = fun y => if y = k then false else (f y).isSome := by funext y; by_cases h : y = k <;> simp [h]
  unfold cnt
  rw [e2]
  generalize List.countP (fun y => if y = k then false else (f y).isSome) (List.range 256) = A at *
  generalize List.countP (fun k => (f k).isSome) (List.range 256) = B at *
  simp only [hk, true_and] at this
  split
  · rename_i h
    rw [if_pos h] at this
    simp at this
    omega
  · rename_i h
    rw [if_neg h] at this
    simp at this
    omega

/-! ### the ports -/
/-- The list of what a set holds. -/
def Own (L W : List Nat) : Prop := L.Nodup ∧ (∀ p ∈ L, p < 65536) ∧ ∀ p, p < 65536 → (p ∈ L ↔ tk W p = true)
def poC (lo hi : Nat) (mo : Option Nat) : Array Value := #[.int .i64 (lo : Int), .int .i64 (hi : Int), .map mo]
structure PAt (w : World) (pb lo hi : Nat) (T : Nat → List Nat) (mo : Option Nat) (f : Nat → Option (Option Nat)) : Prop where
  row : w.heap[pb]? = some (.cells (poC lo hi mo) 62 (0, 0))
  nomap : mo = none → ∀ k, f k = none
  map : ∀ mb, mo = some mb → Mq.MapG gP w mb f (cnt f)
  no : ∀ k, k < 256 → f k = none → T k = []
  yes : ∀ k e, k < 256 → f k = some e → ∃ b W, e = some b ∧ PsAt w b W ((T k).length : Nat) ∧ PsW W ∧ Own (T k) W
  apart : ∀ k k' b, k < 256 → k' < 256 → f k = some (some b) → f k' = some (some b) → k = k'
  rng : ∀ k, ∀ p ∈ T k, lo ≤ p ∧ p ≤ hi
  lim : 1 ≤ lo ∧ lo ≤ hi ∧ hi < 65536
def fpP (pb : Nat) (mo : Option Nat) (f : Nat → Option (Option Nat)) (k : Nat) : Prop := k = pb ∨ mo = some k ∨ ∃ j, j < 256 ∧ f j = some (some k)
section
variable {w w' : World} {pb lo hi : Nat} {T : Nat → List Nat} {mo : Option Nat} {f : Nat → Option (Option Nat)}
theorem PAt.lt (h : PAt w pb lo hi T mo f) {k : Nat} (hk : fpP pb mo f k) : k < w.heap.size := by
  rcases hk with rfl | e | ⟨j, hj, e⟩
  · exact (Array.getElem?_eq_some_iff.1 h.row).1
  · exact (h.map k e).lt
  · obtain ⟨b, W, e1, h1, -⟩ := h.yes j _ hj e
    cases e1
    exact h1.lt
theorem map_ne {a b c : Nat} {f : Nat → Option (Option Nat)} {r : Array Value} {ty : TypeId} {ff : Nat × Nat} (h : Mq.MapG gP w a f c) (h2 : w.heap[b]? = some (.cells r ty ff)) : a ≠ b := by
  rintro rfl
  obtain ⟨D, ⟨es, clock, hb, -⟩, -⟩ := h
  rw [h2] at hb
  cases hb
theorem PAt.keeps (h : PAt w pb lo hi T mo f) (hb : ∀ k, fpP pb mo f k → w'.heap[k]? = w.heap[k]?) : PAt w' pb lo hi T mo f := by
  refine ⟨(hb _ (.inl rfl)).trans h.row, h.nomap, fun mb e => (h.map mb e).kept (hb _ (.inr (.inl e))), h.no, fun k e hk hf => ?_, h.apart, h.rng, h.lim⟩
  obtain ⟨b, W, e1, h1, h2, h3⟩ := h.yes k e hk hf
  exact ⟨b, W, e1, h1.at (hb _ (.inr (.inr ⟨k, hk, by rw [hf, e1]⟩))), h2, h3⟩
theorem PAt.below (h : PAt w pb lo hi T mo f) (hb : Below w.heap.size w w') : PAt w' pb lo hi T mo f := h.keeps fun k hk => hb.block k (h.lt hk)
theorem PAt.cell0 (h : PAt w pb lo hi T mo f) : w.cell? ⟨pb, 0, none⟩ = some (.int .i64 (lo : Int)) := by rw [cell_of_row _ _ _ _ _ _ h.row]; rfl
theorem PAt.cell1 (h : PAt w pb lo hi T mo f) : w.cell? ⟨pb, 1, none⟩ = some (.int .i64 (hi : Int)) := by rw [cell_of_row _ _ _ _ _ _ h.row]; rfl
theorem PAt.cell2 (h : PAt w pb lo hi T mo f) : w.cell? ⟨pb, 2, none⟩ = some (.map mo) := by rw [cell_of_row _ _ _ _ _ _ h.row]; rfl
theorem PAt.free (h : PAt w pb lo hi T mo f) (i : Nat) : w.frozen? ⟨pb, i, none⟩ = false := frozen_of_row _ _ _ _ _ h.row
/-- What a lookup answers. -/
theorem PAt.look (h : PAt w pb lo hi T mo f) {mb k : Nat} (hm : mo = some mb) (hk : k < 256) : (Instr.lookup 60 (.map (some mb)) (.int .u8 (k : Int)) false).run Tryd.prog w = .ok (ptV ((f k).getD none)) w := (h.map mb hm).look1 hk
theorem look_nil (k : Nat) (w : World) : (Instr.lookup 60 (.map none) (.int .u8 (k : Int)) false).run Tryd.prog w = .ok (ptV none) w := by kernel_rfl
/-- The pointer at a key. -/
theorem PAt.get (h : PAt w pb lo hi T mo f) {k : Nat} (hk : k < 256) : ((f k).getD none = none ∧ f k = none ∧ T k = []) ∨ ∃ b W, (f k).getD none = some b ∧ f k = some (some b) ∧ PsAt w b W ((T k).length : Nat) ∧ PsW W ∧ Own (T k) W := by
  cases hf : f k with
  | none => exact .inl ⟨rfl, rfl, h.no k hk hf⟩
  | some e =>
    obtain ⟨b, W, rfl, h1, h2, h3⟩ := h.yes k e hk hf
    exact .inr ⟨b, W, rfl, rfl, h1, h2, h3⟩
end
def updT (T : Nat → List Nat) (k : Nat) (L : List Nat) : Nat → List Nat := fun y => if y = k then L else T y
section
variable {w w' : World} {pb lo hi : Nat} {T : Nat → List Nat} {mo : Option Nat} {f : Nat → Option (Option Nat)}
theorem But.keeps {b : Nat} (h : But b w w') {k : Nat} (hk : k < w.heap.size) (hne : k ≠ b) : w'.heap[k]? = w.heap[k]? := h.block k hk hne
/-- A set is written. -/
theorem PAt.set (h : PAt w pb lo hi T mo f) {k b : Nat} {W : List Nat} {L : List Nat} (hk : k < 256) (hf : f k = some (some b)) (hb : But b w w') (hp : PsAt w' b W (L.length : Nat)) (hW : PsW W) (hL : Own L W) (hr : ∀ p ∈ L, lo ≤ p ∧ p ≤ hi) : PAt w' pb lo hi (updT T k L) mo f := by
  obtain ⟨b0, W0, e0, h0, -⟩ := h.yes k _ hk hf
  cases e0
  refine ⟨?_, h.nomap, fun mb e => (h.map mb e).kept (hb.block _ (h.map mb e).lt (map_ne (h.map mb e) h0)), fun j hj e => ?_, fun j e hj hfj => ?_, h.apart, fun j p hp2 => ?_, h.lim⟩
  · refine (hb.block pb (h.lt (.inl rfl)) ?_).trans h.row
    rintro rfl
    have := h.row
    rw [show w.heap[pb]? = _ from h0] at this
    simp at this
  · unfold updT
    rw [if_neg (by rintro rfl; rw [hf] at e; cases e)]
    exact h.no j hj e
  · unfold updT
    by_cases hjk : j = k
    · subst hjk
      rw [hf] at hfj
      cases hfj
      rw [if_pos rfl]
      exact ⟨b, W, rfl, hp, hW, hL⟩
    · rw [if_neg hjk]
      obtain ⟨b1, W1, e1, h1, h2, h3⟩ := h.yes j e hj hfj
      subst e1
      exact ⟨b1, W1, rfl, h1.at (hb.block _ h1.lt fun e => hjk (h.apart j k b1 hj hk hfj (by rw [hf, e]))), h2, h3⟩
  · unfold updT at hp2
    split at hp2
    · exact hr p hp2
    · exact h.rng j p hp2
end
end Go.Proofs.YthpokoiclfbddaaDoor.Nq
