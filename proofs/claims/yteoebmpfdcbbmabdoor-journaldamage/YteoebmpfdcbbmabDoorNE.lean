/-
  The tale's at.
-/
import Derived.Test.YteoebmpfdcbbmabDoorNB
namespace Jn
/-- Where the walk over the points stands. -/
theorem atP_drop : ∀ (P : Pts) (i k : Nat) (p q : Nat × List (List Nat)), P[i]? = some p → P[i + 1]? = some q → atP (P.drop i) k = if q.1 ≤ k then atP (P.drop (i + 1)) k else p.2
  | P, i, k, p, q, hp, hq => by
    have e1 : P.drop i = p :: P.drop (i + 1) := by rw [← List.getElem_cons_drop (List.getElem?_eq_some_iff.1 hp).1, (List.getElem?_eq_some_iff.1 hp).2]
    have e2 : P.drop (i + 1) = q :: P.drop (i + 2) := by rw [← List.getElem_cons_drop (List.getElem?_eq_some_iff.1 hq).1, (List.getElem?_eq_some_iff.1 hq).2]
    rw [e1, e2, atP]
theorem atP_end (P : Pts) (i k : Nat) (p : Nat × List (List Nat)) (hp : P[i]? = some p) (hl : P.length = i + 1) : atP (P.drop i) k = p.2 := by
  have e1 : P.drop i = p :: P.drop (i + 1) := by rw [← List.getElem_cons_drop (List.getElem?_eq_some_iff.1 hp).1, (List.getElem?_eq_some_iff.1 hp).2]
  rw [e1, List.drop_eq_nil_of_le (by omega), atP]
end Jn
namespace Go.Proofs.YteoebmpfdcbbmabDoor
open Go.ChangeShapes Go.WideShapes Go.ChangeAt Go.RowKit Jn N
set_option maxHeartbeats 4000000
set_option maxRecDepth 100000

theorem ptc_at : ∀ (X : List Pt3) (i : Nat) (x : Pt3), X[i]? = some x → (X.flatMap ptc)[i * 3]? = some (.int .i64 (x.g : Int)) ∧ (X.flatMap ptc)[i * 3 + 1]? = some (.int .i64 (x.n : Int)) ∧ (X.flatMap ptc)[i * 3 + 2]? = some (.int .i64 (x.a : Int))
  | [], i, x, h => by simp at h
  | y :: X, 0, x, h => by simp at h; subst h; simp [ptc]
  | y :: X, i + 1, x, h => by
    obtain ⟨h1, h2, h3⟩ := ptc_at X i x (by simpa using h)
    have e : (i + 1) * 3 = i * 3 + 3 := by omega
    rw [e]
    simp only [List.flatMap_cons, ptc, List.cons_append, List.nil_append, List.getElem?_cons_succ]
    exact ⟨h1, h2, h3⟩
section
variable {w u : World} {S : Nat → Prop} {p : Nat} {l : Lg} {q : Nat} {C : Nat → Prop} {vG vP vR : Value} {Gs : List Value} {X : List Pt3} {Gc : List (List (List Nat))} {R : List (List Nat)} {P : Pts} {sz wr : Nat}
theorem TaX.pt {a : Option Addr} {m c : Nat} (h : TaX w u S p l q C vG (.slice a m c) vR Gs X Gc R P sz wr) {i : Nat} (hi : i < m) : ∃ g x pp, a = some ⟨g, 0, none⟩ ∧ g < u.heap.size ∧ u.cell? ⟨g, i * 3, none⟩ = some (.int .i64 (x.g : Int)) ∧ u.cell? ⟨g, i * 3 + 1, none⟩ = some (.int .i64 (x.n : Int)) ∧ u.cell? ⟨g, i * 3 + 2, none⟩ = some (.int .i64 (x.a : Int)) ∧ X[i]? = some x ∧ P[i]? = some pp ∧ x.a = pp.1 ∧ ∃ L, (Gc ++ [R])[x.g]? = some L ∧ x.n ≤ L.length ∧ pp.2 = L.take x.n := by
  obtain ⟨a', c', e, -, -⟩ := row_shape h.fp
  simp at e
  obtain ⟨rfl, rfl, rfl⟩ := e
  have hx : X[i]? = some X[i] := List.getElem?_eq_getElem hi
  have hp : P[i]? = some (P[i]'(by rw [← h.pk.1]; exact hi)) := List.getElem?_eq_getElem _
  obtain ⟨q1, q2, q3⟩ := ptc_at X i _ hx
  obtain ⟨g, rfl, -, hg, -, r1⟩ := row_cell h.fp q1
  obtain ⟨g2, e2, -, -, -, r2⟩ := row_cell h.fp q2
  obtain ⟨g3, e3, -, -, -, r3⟩ := row_cell h.fp q3
  simp at e2 e3
  subst e2 e3
  obtain ⟨s1, s2⟩ := h.pk.2 i _ _ hx hp
  exact ⟨g, _, _, rfl, hg, r1, r2, r3, hx, hp, s1, s2⟩
/-- A generation, read. -/
theorem TaX.gen {a : Option Addr} {n c : Nat} (h : TaX w u S p l q C (.slice a n c) vP vR Gs X Gc R P sz wr) (hs : Gs[Gc.length]? = some vR) {i : Nat} {L : List (List Nat)} (hL : (Gc ++ [R])[i]? = some L) : ∃ g v, a = some ⟨g, 0, none⟩ ∧ g < u.heap.size ∧ i < n ∧ u.cell? ⟨g, i, none⟩ = some v ∧ SeesBB u v L := by
  obtain ⟨a', c', e, -, -⟩ := row_shape h.fg
  simp at e
  obtain ⟨rfl, rfl, rfl⟩ := e
  have hgl := (List.getElem?_eq_some_iff.1 hs).1
  by_cases hi : i < Gc.length
  · rw [List.getElem?_append_left hi] at hL
    have hv : Gs[i]? = some Gs[i] := List.getElem?_eq_getElem (by omega)
    obtain ⟨g, rfl, -, hg, -, hc⟩ := row_cell h.fg hv
    exact ⟨g, _, rfl, hg, by omega, hc, (h.cl i _ L hv hL).sees⟩
  · rw [List.getElem?_append_right (by omega)] at hL
    rcases hj : i - Gc.length with _ | j
    · rw [hj] at hL
      simp at hL
      subst hL
      obtain rfl : i = Gc.length := by omega
      obtain ⟨g, rfl, -, hg, -, hc⟩ := row_cell h.fg hs
      exact ⟨g, _, rfl, hg, by omega, hc, h.fr.sees⟩
    · rw [hj] at hL; simp at hL
end
end Go.Proofs.YteoebmpfdcbbmabDoor
