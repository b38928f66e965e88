/-
  Len, Nodes, New; what stays.
-/
import Derived.Test.YtmnafocmbcgdiaaWD
namespace Go.Proofs.Ytmnafocmbcgdiaa
open Go.ChangeShapes Go.WideShapes Go.ChangeAt Go.RowKit Go.Shelf Tri N
set_option maxHeartbeats 4000000
set_option maxRecDepth 100000

theorem len_any {X : Nat → Prop} {tb : Nat} {t : Tr} (w : World) (hT : TrieAt w X tb t) :
    Calls Try.prog 24 #[.pointer (some ⟨tb, 0, none⟩)] w fun e w' => e = .returned (.int .i64 (vals t : Int)) ∧ Below w.heap.size w w' := by
  obtain ⟨_, _, ⟨m, hrow, hmt, hL⟩, _⟩ := hT
  subst hmt
  have t0 : w.cell? ⟨tb, 0, none⟩ = some m.ptr := by rw [cell_of_row _ _ _ _ _ _ hrow]; rfl
  have HC := hid (counted_any m w hL)
  clear hrow hL
  have hfl : ∀ u : World, (Instr.field 87 (.agg #[.int .i64 (vals m.tr : Int), .int .i64 (nodes m.tr : Int)]) 0).run Try.prog u = .ok (.int .i64 (vals m.tr : Int)) u := fun u => by kernel_rfl
  go_enter Try.func24, Try.ntmps24
  cases m <;> (
    unfold MT.ptr at t0 HC
    go_wp2_with fail
    refine HC.out.mono ?_
    rintro _ w1 ⟨rfl, hb⟩
    have HB := hid hb
    clear hb
    go_wp2_with fail
    go_ret
    exact ⟨rfl, HB.out⟩)

theorem nodes_any {X : Nat → Prop} {tb : Nat} {t : Tr} (w : World) (hT : TrieAt w X tb t) :
    Calls Try.prog 32 #[.pointer (some ⟨tb, 0, none⟩)] w fun e w' => e = .returned (.int .i64 (nodes t : Int)) ∧ Below w.heap.size w w' := by
  obtain ⟨_, _, ⟨m, hrow, hmt, hL⟩, _⟩ := hT
  subst hmt
  have t0 : w.cell? ⟨tb, 0, none⟩ = some m.ptr := by rw [cell_of_row _ _ _ _ _ _ hrow]; rfl
  have HC := hid (counted_any m w hL)
  clear hrow hL
  have hfl : ∀ u : World, (Instr.field 87 (.agg #[.int .i64 (vals m.tr : Int), .int .i64 (nodes m.tr : Int)]) 1).run Try.prog u = .ok (.int .i64 (nodes m.tr : Int)) u := fun u => by kernel_rfl
  go_enter Try.func32, Try.ntmps32
  cases m <;> (
    unfold MT.ptr at t0 HC
    go_wp2_with fail
    refine HC.out.mono ?_
    rintro _ w1 ⟨rfl, hb⟩
    have HB := hid hb
    clear hb
    go_wp2_with fail
    go_ret
    exact ⟨rfl, HB.out⟩)

theorem new_any (w : World) :
    Calls Try.prog 10 #[] w fun e w' => e = .returned (.pointer (some ⟨w.heap.size, 0, none⟩)) ∧ w' = w.alloc (.cells #[.pointer none] 77) := by
  go_enter Try.func10, Try.ntmps10
  go_wp2_with fail
  go_ret
  exact ⟨rfl, rfl⟩

theorem trie_new (w : World) : TrieAt (w.alloc (.cells #[.pointer none] 77)) (fun b => b = w.heap.size) w.heap.size .nil :=
  ⟨rfl, fun b hb => by subst hb; simp, ⟨.nil, heap_alloc_new w _, rfl, trivial⟩, trivial⟩

/-- The blocks Z hold no nodes and no values. -/
def NoTree (w : World) (Z : Nat → Prop) : Prop := ∀ b, Z b → ∀ cs t, w.heap[b]? = some (.cells cs t) → t ≠ 89 ∧ t ≠ 3

theorem Lies.chgT {w w' : World} {X Z : Nat → Prop} {m : MT} (h : Lies w X m) (hZ : NoTree w Z) (hc : Chg Z w w') : Lies w' X m := by
  induction m with
  | nil => trivial
  | node b c k u l r il ir =>
    obtain ⟨q1, q2, q3, q4, q5⟩ := h
    exact ⟨q1, (hc.block b (Array.getElem?_eq_some_iff.1 q2).1 (fun hz => (hZ b hz _ _ q2).1 rfl)).trans q2, fun a ha => ⟨(q3 a ha).1, (hc.block c (Array.getElem?_eq_some_iff.1 (q3 a ha).2).1 (fun hz => (hZ c hz _ _ (q3 a ha).2).2 rfl)).trans (q3 a ha).2⟩, il q4, ir q5⟩

theorem TrieAt.chgT {w w' : World} {X Z : Nat → Prop} {tb : Nat} {t : Tr} (h : TrieAt w X tb t) (hZ : NoTree w Z) (htb : ¬ Z tb) (hc : Chg Z w w') : TrieAt w' X tb t := by
  obtain ⟨h1, h2, ⟨m, h3, h4, h5⟩, h6⟩ := h
  exact ⟨h1, fun b hx => Nat.lt_of_lt_of_le (h2 b hx) hc.size, ⟨m, (hc.block tb (Array.getElem?_eq_some_iff.1 h3).1 htb).trans h3, h4, h5.chgT hZ hc⟩, h6⟩

theorem kinds_ne {w : World} {a b : Nat} {cs ds : Array Value} {s t : TypeId} (h1 : w.heap[a]? = some (.cells cs s)) (h2 : w.heap[b]? = some (.cells ds t)) (h : s ≠ t) : a ≠ b := fun e => by
  rw [e, h2] at h1
  injection h1 with h1
  injection h1 with _ h1
  exact h h1.symm

theorem kind_no {w : World} {b : Nat} {cs : Array Value} {s : TypeId} (h1 : w.heap[b]? = some (.cells cs s)) (n1 : s ≠ 89) (n2 : s ≠ 3) : ∀ ds t, w.heap[b]? = some (.cells ds t) → t ≠ 89 ∧ t ≠ 3 := fun ds t h => by
  rw [h1] at h
  injection h with h
  injection h with _ h
  subst h
  exact ⟨n1, n2⟩

theorem TrieAt.noTree {w : World} {X : Nat → Prop} {tb : Nat} {t : Tr} (h : TrieAt w X tb t) : NoTree w (fun b => b = tb) := fun b hb => by
  obtain ⟨m, h3, _⟩ := h.tree
  subst hb
  exact kind_no h3 (by decide) (by decide)

end Go.Proofs.Ytmnafocmbcgdiaa
