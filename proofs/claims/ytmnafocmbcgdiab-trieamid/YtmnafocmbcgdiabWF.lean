/-
  The reference's list beside the tree.
-/
import Derived.Test.YtmnafocmbcgdiabWE
namespace Go.Proofs.Ytmnafocmbcgdiab
open Go.ChangeShapes Go.WideShapes Go.ChangeAt Go.RowKit Tri N
set_option maxHeartbeats 1000000
set_option maxRecDepth 100000

namespace Tri
/-- Where p stands in the list. -/
def posL (L : List (K × Int)) (p : K) : Nat → Option Nat
  | 0 => none
  | n + 1 => match posL L p n with
    | some i => some i
    | none => if (L[n]?.map (·.1)) = some p then some n else none

theorem posL_none {L : List (K × Int)} {p : K} {n : Nat} (h : posL L p n = none) : ∀ i e, i < n → L[i]? = some e → e.1 ≠ p := by
  induction n with
  | zero => intro i e hi; omega
  | succ n ih =>
    intro i e hi he hp
    unfold posL at h
    cases hq : posL L p n with
    | some j => rw [hq] at h; cases h
    | none =>
      rw [hq] at h
      rcases Nat.lt_or_ge i n with h1 | h1
      · exact ih hq i e h1 he hp
      · obtain rfl : i = n := by omega
        rw [he] at h
        simp [hp] at h

theorem posL_some {L : List (K × Int)} {p : K} {n i : Nat} (h : posL L p n = some i) : i < n ∧ ∃ v, L[i]? = some (p, v) := by
  induction n with
  | zero => cases h
  | succ n ih =>
    unfold posL at h
    cases hq : posL L p n with
    | some j =>
      rw [hq] at h
      obtain rfl : j = i := Option.some.inj h
      obtain ⟨h1, h2⟩ := ih hq
      exact ⟨by omega, h2⟩
    | none =>
      rw [hq] at h
      simp only at h
      split at h
      · obtain rfl : n = i := Option.some.inj h
        rename_i hh
        cases hL : L[n]? with
        | none => rw [hL] at hh; cases hh
        | some e =>
          rw [hL] at hh
          obtain ⟨a, b⟩ := e
          have : a = p := Option.some.inj hh
          exact ⟨by omega, b, by rw [this]⟩
      · cases h

/-- The list and the tree hold the same; no key stands twice. -/
structure Same (t : Tr) (L : List (K × Int)) : Prop where
  mem : ∀ e, e ∈ L ↔ e ∈ ents t
  nd : (L.map Prod.fst).Nodup

theorem Same.one {t : Tr} {L : List (K × Int)} (h : Same t L) (i j : Nat) (a b : K × Int) (ha : L[i]? = some a) (hb : L[j]? = some b) (e : a.1 = b.1) : i = j := by
  have h1 : (L.map Prod.fst)[i]? = some a.1 := by rw [List.getElem?_map, ha]; rfl
  have h2 : (L.map Prod.fst)[j]? = some b.1 := by rw [List.getElem?_map, hb]; rfl
  rw [← e] at h2
  obtain ⟨l1, e1⟩ := List.getElem?_eq_some_iff.1 h1
  obtain ⟨l2, e2⟩ := List.getElem?_eq_some_iff.1 h2
  exact (List.getElem_inj h.nd).1 (e1.trans e2.symm)

theorem Same.look {lo hi : Nat} {t : Tr} {L : List (K × Int)} (h : Same t L) (hW : WF lo hi t) (p : K) :
    (posL L p L.length = none ∧ lookT t p = none) ∨ ∃ i v, posL L p L.length = some i ∧ i < L.length ∧ L[i]? = some (p, v) ∧ lookT t p = some v := by
  cases hq : posL L p L.length with
  | none =>
    left
    refine ⟨rfl, ?_⟩
    cases hl : lookT t p with
    | none => rfl
    | some v =>
      have hm := (h.mem _).2 (lookT_mem hl)
      obtain ⟨i, hi⟩ := List.getElem?_of_mem hm
      exact absurd rfl (posL_none hq i _ (List.getElem?_eq_some_iff.1 hi).1 hi)
  | some i =>
    right
    obtain ⟨h1, v, h2⟩ := posL_some hq
    exact ⟨i, v, rfl, h1, h2, lookT_of hW ((h.mem _).1 (List.mem_of_getElem? h2))⟩

theorem Same.nil : Same .nil [] := ⟨fun e => by simp [ents], List.nodup_nil⟩

/-- A value is replaced in place. -/
theorem Same.set {H : K} {t : Tr} {L : List (K × Int)} (h : Same t L) (hH : H.Ok) (hW : WF H.x (H.x + H.s) t) {p : K} (hp : p.Ok) (hin : Ins p H) {i : Nat} {v0 : Int} (hi : L[i]? = some (p, v0)) (v : Int) : Same (hang t p (some v)) (L.set i (p, v)) := by
  obtain ⟨_, f2⟩ := hang_facts (v := some v) hH hW hp hin
  have hlt := (List.getElem?_eq_some_iff.1 hi).1
  have at' : ∀ j b, (L.set i (p, v))[j]? = some b → (j = i ∧ b = (p, v)) ∨ (j ≠ i ∧ L[j]? = some b) := fun j b hb => by
    rw [List.getElem?_set] at hb
    by_cases e : i = j
    · rw [if_pos e] at hb
      subst e
      rw [if_pos hlt] at hb
      exact .inl ⟨rfl, (Option.some.inj hb).symm⟩
    · rw [if_neg e] at hb
      exact .inr ⟨fun q => e q.symm, hb⟩
  refine ⟨fun e => ?_, ?_⟩
  · rw [f2 e]
    constructor
    · intro he
      obtain ⟨j, hj⟩ := List.getElem?_of_mem he
      rcases at' j e hj with ⟨_, rfl⟩ | ⟨hne, hL⟩
      · exact .inl ⟨rfl, rfl⟩
      · refine .inr ⟨fun ep => hne (h.one j i e (p, v0) hL hi ep), (h.mem e).1 (List.mem_of_getElem? hL)⟩
    · rintro (⟨h1, h2⟩ | ⟨h1, h2⟩)
      · obtain ⟨a, b⟩ := e
        simp only at h1 h2
        obtain rfl : v = b := Option.some.inj h2
        subst h1
        exact List.mem_of_getElem? (i := i) (by rw [List.getElem?_set, if_pos rfl, if_pos hlt])
      · obtain ⟨j, hj⟩ := List.getElem?_of_mem ((h.mem e).2 h2)
        refine List.mem_of_getElem? (i := j) ?_
        rw [List.getElem?_set, if_neg (fun q => ?_)]
        · exact hj
        · subst q; rw [hi] at hj; exact h1 (by rw [← Option.some.inj hj])
  · rw [List.map_set]
    have e1 : (L.map Prod.fst).set i p = L.map Prod.fst := by
      apply List.ext_getElem?
      intro j
      rw [List.getElem?_set]
      split
      · rename_i q
        subst q
        rw [List.length_map, if_pos hlt, List.getElem?_map, hi]; rfl
      · rfl
    rw [e1]
    exact h.nd

/-- A new key is laid in somewhere. -/
theorem Same.ins {H : K} {t : Tr} {A B : List (K × Int)} (h : Same t (A ++ B)) (hH : H.Ok) (hW : WF H.x (H.x + H.s) t) {p : K} (hp : p.Ok) (hin : Ins p H) (hno : ∀ e ∈ A ++ B, e.1 ≠ p) (v : Int) : Same (hang t p (some v)) (A ++ (p, v) :: B) := by
  obtain ⟨_, f2⟩ := hang_facts (v := some v) hH hW hp hin
  refine ⟨fun e => ?_, ?_⟩
  · rw [f2 e, ← h.mem e]
    simp only [List.mem_append, List.mem_cons]
    constructor
    · rintro (h1 | rfl | h1)
      · exact .inr ⟨hno e (by simp [h1]), .inl h1⟩
      · exact .inl ⟨rfl, rfl⟩
      · exact .inr ⟨hno e (by simp [h1]), .inr h1⟩
    · rintro (⟨h1, h2⟩ | ⟨_, h1 | h1⟩)
      · obtain ⟨a, b⟩ := e
        simp only at h1 h2
        obtain rfl : v = b := Option.some.inj h2
        exact .inr (.inl (by rw [h1]))
      · exact .inl h1
      · exact .inr (.inr h1)
  · have hn := h.nd
    rw [List.map_append] at hn ⊢
    rw [List.map_cons]
    have hp' : p ∉ A.map Prod.fst ++ B.map Prod.fst := by
      rw [← List.map_append]
      intro hm
      obtain ⟨e, he, hk⟩ := List.mem_map.1 hm
      exact hno e he hk
    rw [List.nodup_append] at hn ⊢
    obtain ⟨n1, n2, n3⟩ := hn
    refine ⟨n1, List.nodup_cons.2 ⟨fun h => hp' (List.mem_append.2 (.inr h)), n2⟩, fun a ha b hb => ?_⟩
    rcases List.mem_cons.1 hb with rfl | hb
    · intro e; exact hp' (List.mem_append.2 (.inl (e ▸ ha)))
    · exact n3 a ha b hb

/-- A key is taken out. -/
theorem Same.del {H : K} {t : Tr} {L : List (K × Int)} (h : Same t L) (hH : H.Ok) (hW : WF H.x (H.x + H.s) t) {p : K} (hp : p.Ok) (hin : Ins p H) : Same (hang t p none) (L.filter fun e => decide (e.1 ≠ p)) := by
  obtain ⟨_, f2⟩ := hang_facts (v := none) hH hW hp hin
  refine ⟨fun e => ?_, ?_⟩
  · rw [f2 e, List.mem_filter, ← h.mem e]
    simp
    exact And.comm
  · exact h.nd.sublist (List.filter_sublist.map _)
end Tri
end Go.Proofs.Ytmnafocmbcgdiab
