/-
  For TrieInside: what is inside, one after the other; a call inside a round.
-/
import Derived.Test.YtmnafocmbcgdiaaYX
namespace Go.Proofs.Ytmnafocmbcgdiaa
open Go.ChangeShapes Go.WideShapes Go.ChangeAt Go.RowKit Go.Shelf Tri N
set_option maxHeartbeats 4000000
set_option maxRecDepth 100000

section
variable {α : Type} {p : α → Bool} {E : List α} {k i : Nat} {e : α}

/-- The first k of E hold the first i of those that p picks. -/
def Upto (p : α → Bool) (E : List α) (k i : Nat) : Prop := (E.take k).filter p = (E.filter p).take i ∧ i ≤ (E.filter p).length

theorem Upto.zero : Upto p E 0 0 := ⟨by simp, Nat.zero_le _⟩

theorem Upto.pass (h : Upto p E k i) (hk : E[k]? = some e) (hp : p e = false) : Upto p E (k + 1) i :=
  ⟨by rw [filter_snoc hk, hp, h.1]; simp, h.2⟩

theorem Upto.is (h : Upto p E k i) (hk : E[k]? = some e) (hp : p e = true) : (E.filter p)[i]? = some e := by
  have e1 : E.filter p = (E.take k).filter p ++ e :: (E.drop (k + 1)).filter p := by
    conv => lhs; rw [← List.take_append_drop k E]
    rw [List.filter_append, List.drop_eq_getElem_cons (List.getElem?_eq_some_iff.1 hk).1, (List.getElem?_eq_some_iff.1 hk).2, List.filter_cons_of_pos hp]
  have hl : ((E.take k).filter p).length = i := by rw [h.1, List.length_take]; have := h.2; omega
  rw [e1, List.getElem?_append_right (by omega), hl]
  simp

theorem Upto.next (h : Upto p E k i) (hk : E[k]? = some e) (hp : p e = true) : Upto p E (k + 1) (i + 1) := by
  have h1 := h.is hk hp
  refine ⟨?_, (List.getElem?_eq_some_iff.1 h1).1⟩
  rw [filter_snoc hk, hp, h.1, take_snoc h1]
  simp

/-- Where all is passed by, all that p picks is told. -/
theorem Upto.all (h : Upto p E k i) (hk : E.length ≤ k) : (E.filter p).length = i := by
  have h1 := h.1
  rw [List.take_of_length_le hk] at h1
  have h2 := congrArg List.length h1
  rw [List.length_take] at h2
  have := h.2
  omega

/-- Behind the last one that p picks it picks none. -/
theorem Upto.none (h : Upto p E k (E.filter p).length) (hk : E[k]? = some e) : p e = false := by
  cases hp : p e with
  | false => rfl
  | true =>
    have := (List.getElem?_eq_some_iff.1 (h.is hk hp)).1
    omega
end

theorem wpIn_callR {l m : Nat} {P : Program} {o : Oper} {a : Act} {w : World} {K : Act → World → Prop} {Q : Exit → Act → World → Prop} (f : FuncId) (xs : Array Operand) (ts : Array TypeId) (ho : o.op = .call { callee := .value (.func f), args := xs, argTypes := ts })
    (hf : ∀ (args : Array Value) (w : World), (callFunc f args).run P w = .ok (.enter f args) w) (vs : Array Value) (hv : xs.map a.eval = vs) (h : Calls P f vs w fun e w' => ∃ v, e = .returned v ∧ K (a.put o.dst v) w') : o.wpIn (Fence.wide.inRound l) m P a w K Q := by
  have hr : (execOp a.eval o).run P w = .ok (.enter f vs) w := by
    unfold execOp
    simp [ho, resolve, invoke, Act.eval, hv, Deferred.ofValue, hf]
  refine ⟨fun _ _ => trivial, ?_⟩
  rw [Fence.inRound_round, Oper.semAt_some _ _ _ (by rw [ho]; intro c hc; cases hc), hr, Oper.uponIn_enter]
  refine ⟨fun h => (by cases h), ?_⟩
  have h2 : CallsIn (Fence.wide.inRound l) (m - 1) P f vs w fun e w' => ∃ v, e = .returned v ∧ K (a.put o.dst v) w' := (callsIn_wide (n := m - 1)).2 h
  refine h2.mono ?_
  rintro _ w' ⟨v, rfl, hk⟩
  exact hk
end Go.Proofs.Ytmnafocmbcgdiaa
