/-
  What joins, what is taken first.
-/
import Derived.Test.YtaelfhjhinfikabDS
namespace Go.Proofs.Ytaelfhjhinfikab
open Go.ChangeShapes Go.WideShapes Go.ChangeAt Go.RowKit Me
set_option maxHeartbeats 1000000
set_option maxRecDepth 100000

/-- All of them join. -/
theorem pu_all {m : Nat} : ∀ {S L : List Pk}, (∀ p ∈ L, p.bs.length ≤ 65535) → S.length + L.length ≤ m → puN m S L = L.length ∧ puE m S L = 0 ∧ puS m S L = S ++ L
  | S, [], _, _ => ⟨rfl, rfl, by unfold puS puN; simp⟩
  | S, p :: L, h, hl => by
    have hj : joE m S p = 0 := by
      unfold joE
      rw [if_neg (by have := h p (List.mem_cons_self ..); omega), if_neg (by rw [List.length_cons] at hl; omega)]
    obtain ⟨h1, h2, h3⟩ := pu_all (m := m) (S := S ++ [p]) (L := L) (fun q hq => h q (List.mem_cons_of_mem _ hq)) (by rw [List.length_append]; simp; rw [List.length_cons] at hl; omega)
    rw [puN_step hj, puE_step hj, puS_step hj, h1, h2, h3]
    simp
theorem take_cut {α : Type} (L : List α) (a c : Nat) (_h : a + c ≤ L.length) : L.take a ++ (L.take (a + c)).drop a = L.take (a + c) := by
  rw [List.drop_take, show a + c - a = c by omega, ← List.take_add]
theorem take_cut_len {α : Type} (L : List α) (a c : Nat) (_h : a + c ≤ L.length) : (L.take a).length + ((L.take (a + c)).drop a).length = a + c := by
  rw [List.length_drop, List.length_take, List.length_take]; omega
theorem take_cut_len2 {α : Type} (L : List α) (a c : Nat) (_h : a + c ≤ L.length) : ((L.take (a + c)).drop a).length = c := by
  rw [List.length_drop, List.length_take]; omega
theorem take_all {α : Type} (L : List α) (a : Nat) : L.take a ++ L.drop a = L := List.take_append_drop ..

/-- The first one is taken. -/
theorem tk_head {L : List Pk} {i : Nat} {p : Pk} (h : L[i]? = some p) : tkE (L.drop i) 0 = 0 ∧ tkP (L.drop i) 0 = p ∧ tkS (L.drop i) 0 = L.drop (i + 1) := by
  have hd := drop_cons h
  have hin : inR 0 (L.drop i).length = true := by
    rw [show ((0 : Int)) = ((0 : Nat) : Int) from rfl, inR_nat, hd]
    simp
  refine ⟨by unfold tkE; rw [hin]; rfl, ?_, ?_⟩
  · unfold tkP; rw [hin, hd]; rfl
  · unfold tkS; rw [hin, hd]; rfl

end Go.Proofs.Ytaelfhjhinfikab
