import Derived.Test.YthmhiehglcfepaaDoorTmTH
namespace Go.Proofs.YthmhiehglcfepaaDoor.Tm
open Go.ChangeShapes Go.WideShapes Go.ChangeAt Go.RowKit Go.Maps H
set_option maxHeartbeats 1000000
set_option maxRecDepth 100000

def is' (L : List Int) : List Value := L.map fun (x : Int) => Value.int .i64 x
/-- A list of numbers of the call's own. -/
def OwnI (w : World) (base : Nat) (v : Value) (L : List Int) : Prop := w.ownsRow base 3 1 v L.length (is' L)

theorem info3 : (Tryd.prog.info? 3).map (fun i => (i.zero, i.size, i.bytes)) = some (some (.int .i64 0), 1, 8) := by kernel_rfl

theorem ownI_nil (w : World) (base : Nat) : OwnI w base (.slice none 0 0) [] := World.ownsRow_nil _ _ _ _

theorem OwnI.sees {w : World} {base : Nat} {v : Value} {L : List Int} (h : OwnI w base v L) (hb : ∀ x ∈ L, In64 x) : SeesI w v L := by
  rcases h.2 with ⟨rfl, hn⟩ | ⟨g, cap, cur, rfl, _, hg, hnc, hcm, hcs, ht⟩
  · have : L = [] := List.eq_nil_of_length_eq_zero hn
    subst this
    exact ⟨none, 0, rfl, by simp, by unfold maxLen; omega, fun j h => absurd h (by simp)⟩
  · refine ⟨some ⟨g, 0, none⟩, cap, rfl, hnc, hcm, fun j hj => ⟨g, 0, rfl, (Array.getElem?_eq_some_iff.1 hg).1, ?_, hb _ (List.getElem_mem hj)⟩⟩
    rw [Nat.zero_add, cell_of_row _ _ _ _ _ _ hg]
    have h1 : (is' L)[j]? = some (.int .i64 L[j]) := by unfold is'; rw [List.getElem?_map, List.getElem?_eq_getElem hj]; rfl
    rw [← ht, Nat.mul_one, List.getElem?_take_of_lt hj, Array.getElem?_toList] at h1
    exact h1

theorem OwnI.fr {w w' : World} {F : List Nat} {base : Nat} {v : Value} {L : List Int} (h : OwnI w base v L) (hf : Fr F w w') (hF : ∀ x ∈ F, x < base) : OwnI w' base v L := by
  refine ⟨h.1, ?_⟩
  rcases h.2 with hn | ⟨g, cap, cur, rfl, hb, hg, rest⟩
  · exact .inl hn
  · exact .inr ⟨g, cap, cur, rfl, hb, (hf.block g (Array.getElem?_eq_some_iff.1 hg).1 (fun hm => by have := hF g hm; omega)).trans hg, rest⟩

/-- What is due, and what is left. -/
def dueT (S : List Dl) (now : Int) : List Dl := S.takeWhile (fun x => decide (x.2 ≤ now))
def dueR (S : List Dl) (now : Int) : List Dl := S.dropWhile (fun x => decide (x.2 ≤ now))

theorem due_at {S : List Dl} {now : Int} {k : Nat} (h1 : ∀ x ∈ S.take k, x.2 ≤ now) (h2 : ∀ x, (S.drop k).head? = some x → ¬ x.2 ≤ now) : dueT S now = S.take k ∧ dueR S now = S.drop k := by
  unfold dueT dueR
  have e : S = S.take k ++ S.drop k := (List.take_append_drop k S).symm
  generalize S.take k = A at *
  generalize S.drop k = B at *
  subst e
  have hB : B.takeWhile (fun x => decide (x.2 ≤ now)) = [] ∧ B.dropWhile (fun x => decide (x.2 ≤ now)) = B := by
    cases B with
    | nil => simp
    | cons y B =>
      have := h2 y rfl
      simp [this]
  constructor
  · rw [List.takeWhile_append_of_pos (fun x hx => by simpa using h1 x hx), hB.1, List.append_nil]
  · rw [List.dropWhile_append_of_pos (fun x hx => by simpa using h1 x hx), hB.2]

def lenOf : Value → Nat
  | .slice _ n _ => n
  | _ => 0

end Go.Proofs.YthmhiehglcfepaaDoor.Tm
