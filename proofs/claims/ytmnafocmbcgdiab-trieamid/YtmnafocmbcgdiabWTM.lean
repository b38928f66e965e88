/-
  The longest by a search through the list.
-/
import Derived.Test.YtmnafocmbcgdiabWF
namespace Go.Proofs.Ytmnafocmbcgdiab
open Tri

theorem has_one {p q : K} {a : Nat} (hp : p.Ok) (hq : q.Ok) (h1 : hasK p a = true) (h2 : hasK q a = true) (e : p.n = q.n) : p = q := by
  unfold hasK at h1 h2
  simp at h1 h2
  rcases nest hp hq (by omega) with h | h | h
  · exact ins_eq h e
  · omega
  · omega

/-- Of the first j the longest that holds a: none, or the i-th. -/
def BestE (L : List (K × Int)) (a j : Nat) : Option Nat → Prop
  | none => ∀ i e, i < j → L[i]? = some e → hasK e.1 a = false
  | some m => m < j ∧ ∃ e, L[m]? = some e ∧ hasK e.1 a = true ∧ ∀ i f, i < j → L[i]? = some f → hasK f.1 a = true → f.1.n ≤ e.1.n

theorem BestE.zero (L : List (K × Int)) (a : Nat) : BestE L a 0 none := fun _ _ h => absurd h (Nat.not_lt_zero _)

theorem BestE.skip {L : List (K × Int)} {a j : Nat} {o : Option Nat} (h : BestE L a j o) {e : K × Int} (he : L[j]? = some e) (hn : hasK e.1 a = false) : BestE L a (j + 1) o := by
  cases o with
  | none =>
    intro i f hi hf
    rcases Nat.lt_or_ge i j with h1 | h1
    · exact h i f h1 hf
    · obtain rfl : i = j := by omega
      rw [he] at hf; cases hf; exact hn
  | some m =>
    obtain ⟨h1, g, h2, h3, h4⟩ := h
    refine ⟨by omega, g, h2, h3, fun i f hi hf hh => ?_⟩
    rcases Nat.lt_or_ge i j with h5 | h5
    · exact h4 i f h5 hf hh
    · obtain rfl : i = j := by omega
      rw [he] at hf; cases hf; rw [hn] at hh; cases hh

theorem BestE.keep {L : List (K × Int)} {a j m : Nat} (h : BestE L a j (some m)) {e g : K × Int} (he : L[j]? = some e) (hg : L[m]? = some g) (hn : e.1.n ≤ g.1.n) : BestE L a (j + 1) (some m) := by
  obtain ⟨h1, g', h2, h3, h4⟩ := h
  rw [hg] at h2; cases h2
  refine ⟨by omega, g, hg, h3, fun i f hi hf hh => ?_⟩
  rcases Nat.lt_or_ge i j with h5 | h5
  · exact h4 i f h5 hf hh
  · obtain rfl : i = j := by omega
    rw [he] at hf; cases hf; exact hn

theorem BestE.first {L : List (K × Int)} {a j : Nat} (h : BestE L a j none) {e : K × Int} (he : L[j]? = some e) (hh : hasK e.1 a = true) : BestE L a (j + 1) (some j) := by
  refine ⟨by omega, e, he, hh, fun i f hi hf hf2 => ?_⟩
  rcases Nat.lt_or_ge i j with h5 | h5
  · have h6 := h i f h5 hf; rw [hf2] at h6; cases h6
  · obtain rfl : i = j := by omega
    rw [he] at hf; cases hf; exact Nat.le_refl _

theorem BestE.better {L : List (K × Int)} {a j m : Nat} (h : BestE L a j (some m)) {e g : K × Int} (he : L[j]? = some e) (hh : hasK e.1 a = true) (hg : L[m]? = some g) (hn : g.1.n < e.1.n) : BestE L a (j + 1) (some j) := by
  obtain ⟨h1, g', h2, h3, h4⟩ := h
  rw [hg] at h2; cases h2
  refine ⟨by omega, e, he, hh, fun i f hi hf hf2 => ?_⟩
  rcases Nat.lt_or_ge i j with h5 | h5
  · have := h4 i f h5 hf hf2; omega
  · obtain rfl : i = j := by omega
    rw [he] at hf; cases hf; exact Nat.le_refl _

theorem best_same {lo hi : Nat} {t : Tr} {L : List (K × Int)} (hS : Same t L) (hW : WF lo hi t) {a : Nat} {o : Option Nat} (h : BestE L a L.length o) :
    (o = none ∧ find t a = none) ∨ ∃ m e, o = some m ∧ m < L.length ∧ L[m]? = some e ∧ find t a = some e := by
  cases o with
  | none =>
    left
    refine ⟨rfl, ?_⟩
    cases hf : find t a with
    | none => rfl
    | some e =>
      obtain ⟨h1, h2⟩ := find_mem hf
      obtain ⟨i, hi⟩ := List.getElem?_of_mem ((hS.mem e).2 h1)
      rw [h i e (List.getElem?_eq_some_iff.1 hi).1 hi] at h2
      cases h2
  | some m =>
    right
    obtain ⟨h1, e, h2, h3, h4⟩ := h
    refine ⟨m, e, rfl, h1, h2, ?_⟩
    have hm := (hS.mem e).1 (List.mem_of_getElem? h2)
    obtain ⟨f, hf, hle⟩ := find_best hW hm h3
    obtain ⟨f1, f2⟩ := find_mem hf
    obtain ⟨i, hi⟩ := List.getElem?_of_mem ((hS.mem f).2 f1)
    have hge := h4 i f (List.getElem?_eq_some_iff.1 hi).1 hi f2
    have hk := has_one (ents_in hW f f1).1 (ents_in hW e hm).1 f2 h3 (by omega)
    have := hS.one i m f e hi h2 hk
    subst this
    rw [hi] at h2
    rw [hf, h2]
end Go.Proofs.Ytmnafocmbcgdiab
