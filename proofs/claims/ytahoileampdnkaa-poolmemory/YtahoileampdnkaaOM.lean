/-
  Runs of numbers: sets as rising lists of runs.
-/
import Derived.Test.YtahoileampdnkaaVLX
namespace Go.Proofs.Ytahoileampdnkaa
namespace Ru

abbrev R := Nat × Nat

/-- Rising, with a number missing between two. -/
def Apart (r s : R) : Prop := r.2 + 1 < s.1
structure Runs (rs : List R) : Prop where
  up : rs.Pairwise Apart
  ok : ∀ r ∈ rs, r.1 ≤ r.2 ∧ r.2 < 4294967296

def Mem (rs : List R) (n : Nat) : Prop := ∃ r ∈ rs, r.1 ≤ n ∧ n ≤ r.2

theorem mem_append {A B : List R} {n : Nat} : Mem (A ++ B) n ↔ Mem A n ∨ Mem B n := by
  unfold Mem
  constructor
  · rintro ⟨r, h, h1⟩
    rcases List.mem_append.1 h with h | h
    · exact .inl ⟨r, h, h1⟩
    · exact .inr ⟨r, h, h1⟩
  · rintro (⟨r, h, h1⟩ | ⟨r, h, h1⟩)
    · exact ⟨r, List.mem_append.2 (.inl h), h1⟩
    · exact ⟨r, List.mem_append.2 (.inr h), h1⟩

theorem mem_cons {r : R} {B : List R} {n : Nat} : Mem (r :: B) n ↔ (r.1 ≤ n ∧ n ≤ r.2) ∨ Mem B n := by
  unfold Mem
  simp

theorem mem_nil {n : Nat} : ¬ Mem [] n := by unfold Mem; simp

theorem runs_nil : Runs [] := ⟨List.Pairwise.nil, by simp⟩

theorem Runs.split {A B : List R} (h : Runs (A ++ B)) : Runs A ∧ Runs B ∧ ∀ r ∈ A, ∀ s ∈ B, Apart r s := by
  obtain ⟨h1, h2, h3⟩ := List.pairwise_append.1 h.up
  exact ⟨⟨h1, fun r hr => h.ok r (List.mem_append.2 (.inl hr))⟩, ⟨h2, fun r hr => h.ok r (List.mem_append.2 (.inr hr))⟩, h3⟩

theorem Runs.join {A B : List R} (h1 : Runs A) (h2 : Runs B) (h3 : ∀ r ∈ A, ∀ s ∈ B, Apart r s) : Runs (A ++ B) :=
  ⟨List.pairwise_append.2 ⟨h1.up, h2.up, h3⟩, fun r hr => by rcases List.mem_append.1 hr with h | h; exact h1.ok r h; exact h2.ok r h⟩

theorem runs_one {a b : Nat} (h : a ≤ b) (hb : b < 4294967296) : Runs [(a, b)] := ⟨List.pairwise_singleton _ _, by simp; exact ⟨h, hb⟩⟩

/-- The place of the first run that does not end below n. -/
structure At (rs : List R) (n i : Nat) : Prop where
  le : i ≤ rs.length
  lo : ∀ r ∈ rs.take i, r.2 < n
  hi : ∀ r ∈ rs.drop i, n ≤ r.2

theorem At.of {rs : List R} {n i : Nat} (h : i ≤ rs.length) (h1 : ∀ t (ht : t < rs.length), t < i → rs[t].2 < n) (h2 : ∀ t (ht : t < rs.length), i ≤ t → n ≤ rs[t].2) : At rs n i := by
  refine ⟨h, fun r hr => ?_, fun r hr => ?_⟩
  · obtain ⟨t, ht, rfl⟩ := List.getElem_of_mem hr
    rw [List.getElem_take]
    simp at ht
    exact h1 t (by omega) (by omega)
  · obtain ⟨t, ht, rfl⟩ := List.getElem_of_mem hr
    rw [List.getElem_drop]
    simp at ht
    exact h2 (i + t) (by omega) (by omega)

theorem Runs.rise {rs : List R} (h : Runs rs) {i j : Nat} (hi : i < j) (hj : j < rs.length) : rs[i].2 < rs[j].2 := by
  have h1 := List.pairwise_iff_getElem.1 h.up i j (by omega) hj hi
  have h2 := (h.ok rs[j] (List.getElem_mem hj)).1
  unfold Apart at h1
  omega

theorem At.mem {rs : List R} {n i : Nat} (hr : Runs rs) (h : At rs n i) : Mem rs n ↔ ∃ r, rs[i]? = some r ∧ r.1 ≤ n := by
  constructor
  · rintro ⟨r, hm, h1, h2⟩
    rw [← List.take_append_drop i rs] at hm
    rcases List.mem_append.1 hm with hm | hm
    · have := h.lo r hm; omega
    · obtain ⟨t, ht, rfl⟩ := List.getElem_of_mem hm
      rw [List.getElem_drop] at h1 h2
      simp at ht
      have hi : i < rs.length := by omega
      refine ⟨rs[i], List.getElem?_eq_getElem hi, ?_⟩
      by_cases h0 : t = 0
      · subst h0; exact h1
      · have h3 := List.pairwise_iff_getElem.1 hr.up i (i + t) hi (by omega) (by omega)
        have h4 := (hr.ok rs[i] (List.getElem_mem hi)).1
        unfold Apart at h3
        omega
  · rintro ⟨r, hm, h1⟩
    obtain ⟨hi, rfl⟩ := List.getElem?_eq_some_iff.1 hm
    refine ⟨rs[i], List.getElem_mem hi, h1, h.hi _ ?_⟩
    rw [List.mem_iff_getElem]
    exact ⟨0, by simp; omega, by simp⟩

/-- Behind n's place nothing of the set lies below the run there. -/
theorem At.gap {rs : List R} {n i m : Nat} {r : R} (hr : Runs rs) (h : At rs n i) (hi : rs[i]? = some r) (h1 : n ≤ m) (h2 : m < r.1) : ¬ Mem rs m := by
  rintro ⟨s, hs, h3, h4⟩
  obtain ⟨hl, rfl⟩ := List.getElem?_eq_some_iff.1 hi
  rw [← List.take_append_drop i rs] at hs
  rcases List.mem_append.1 hs with hs | hs
  · have := h.lo s hs; omega
  · obtain ⟨t, ht, rfl⟩ := List.getElem_of_mem hs
    rw [List.getElem_drop] at h3 h4
    simp at ht
    by_cases h0 : t = 0
    · subst h0
      simp at h3
      omega
    · have h5 := List.pairwise_iff_getElem.1 hr.up i (i + t) hl (by omega) (by omega)
      have h6 := (hr.ok rs[i] (List.getElem_mem hl)).1
      unfold Apart at h5
      omega

theorem At.none {rs : List R} {n i m : Nat} (h : At rs n i) (hi : i = rs.length) (h1 : n ≤ m) : ¬ Mem rs m := by
  rintro ⟨s, hs, h3, h4⟩
  have := h.lo s (by rw [hi, List.take_length]; exact hs)
  omega

/-- n is laid to the numbers between la and lb, which it touches. -/
theorem add_runs {A B la lb : List R} {n p q : Nat} (h : Runs (A ++ la ++ (lb ++ B))) (hn : n < 4294967296) (h1 : ∀ r ∈ A ++ la, r.2 < n) (h2 : ∀ r ∈ lb ++ B, n < r.1)
    (ha : (la = [] ∧ p = n ∧ ∀ r ∈ A, r.2 + 1 ≠ n) ∨ ∃ l : R, la = [l] ∧ p = l.1 ∧ l.2 + 1 = n) (hb : (lb = [] ∧ q = n ∧ ∀ r ∈ B, r.1 ≠ n + 1) ∨ ∃ l : R, lb = [l] ∧ q = l.2 ∧ l.1 = n + 1) :
    Runs (A ++ (p, q) :: B) ∧ ∀ m, Mem (A ++ (p, q) :: B) m ↔ m = n ∨ Mem (A ++ la ++ (lb ++ B)) m := by
  obtain ⟨hAl, hlB, hx⟩ := h.split
  obtain ⟨hA, hla, hy⟩ := hAl.split
  obtain ⟨hlb, hB, hz⟩ := hlB.split
  have e1 : p ≤ n ∧ (∀ r ∈ A, r.2 + 1 < p) ∧ ∀ m, (p ≤ m ∧ m < n) ↔ Mem la m := by
    rcases ha with ⟨rfl, rfl, h3⟩ | ⟨l, rfl, rfl, h3⟩
    · refine ⟨Nat.le_refl _, fun r hr => ?_, fun m => ?_⟩
      · have := h1 r (List.mem_append.2 (.inl hr)); have := h3 r hr; omega
      · constructor
        · intro h; omega
        · intro h; exact absurd h mem_nil
    · have := (hla.ok l (by simp)).1
      refine ⟨by omega, fun r hr => hy r hr l (by simp), fun m => ?_⟩
      rw [mem_cons]
      constructor
      · intro h; exact .inl ⟨h.1, by omega⟩
      · rintro (h | h)
        · omega
        · exact absurd h mem_nil
  have e2 : n ≤ q ∧ q < 4294967296 ∧ (∀ r ∈ B, q + 1 < r.1) ∧ ∀ m, (n < m ∧ m ≤ q) ↔ Mem lb m := by
    rcases hb with ⟨rfl, rfl, h3⟩ | ⟨l, rfl, rfl, h3⟩
    · refine ⟨Nat.le_refl _, hn, fun r hr => ?_, fun m => ?_⟩
      · have := h2 r (List.mem_append.2 (.inr hr)); have := h3 r hr; omega
      · constructor
        · intro h; omega
        · intro h; exact absurd h mem_nil
    · have := hlb.ok l (by simp)
      refine ⟨by omega, this.2, fun r hr => hz l (by simp) r hr, fun m => ?_⟩
      rw [mem_cons]
      constructor
      · intro h; exact .inl ⟨by omega, h.2⟩
      · rintro (h | h)
        · omega
        · exact absurd h mem_nil
  obtain ⟨a1, a2, a3⟩ := e1
  obtain ⟨b1, b2, b3, b4⟩ := e2
  constructor
  · have hJ : Runs ((p, q) :: B) := Runs.join (A := [(p, q)]) (runs_one (by omega) b2) hB (fun r hr s hs => by
      simp at hr; subst hr; exact b3 s hs)
    refine hA.join hJ fun r hr s hs => ?_
    rcases List.mem_cons.1 hs with rfl | hs
    · exact a2 r hr
    · exact hx r (List.mem_append.2 (.inl hr)) s (List.mem_append.2 (.inr hs))
  · intro m
    rw [mem_append, mem_cons, mem_append, mem_append, mem_append, ← a3, ← b4]
    simp only
    by_cases hA : Mem A m
    · simp [hA]
    · by_cases hB : Mem B m
      · simp [hB]
      · simp only [hA, hB, false_or, or_false]
        omega

/-- n is taken out of its run. -/
theorem remove_runs {A B : List R} {r : R} {n : Nat} {ps : List R} (h : Runs (A ++ r :: B)) (h1 : r.1 ≤ n) (h2 : n ≤ r.2)
    (hp : ps = (if r.1 < n then [(r.1, n - 1)] else []) ++ (if n < r.2 then [(n + 1, r.2)] else [])) :
    Runs (A ++ ps ++ B) ∧ ∀ m, Mem (A ++ ps ++ B) m ↔ m ≠ n ∧ Mem (A ++ r :: B) m := by
  obtain ⟨hA, hrB, hx⟩ := h.split
  have hrB' : Runs ([r] ++ B) := hrB
  obtain ⟨hr, hB, hy⟩ := hrB'.split
  have hro := hr.ok r (by simp)
  have hps : ∀ s ∈ ps, r.1 ≤ s.1 ∧ s.2 ≤ r.2 ∧ s.1 ≤ s.2 := by
    intro s hs
    rw [hp] at hs
    rcases List.mem_append.1 hs with hs | hs
    · split at hs
      · simp at hs; subst hs; simp; omega
      · simp at hs
    · split at hs
      · simp at hs; subst hs; simp; omega
      · simp at hs
  have hpr : Runs ps := by
    rw [hp]
    refine Runs.join ?_ ?_ ?_
    · split
      · exact runs_one (by omega) (by omega)
      · exact runs_nil
    · split
      · exact runs_one (by omega) (by omega)
      · exact runs_nil
    · intro a ha b hb
      split at ha
      · split at hb
        · simp at ha hb; subst ha hb; unfold Apart; simp; omega
        · simp at hb
      · simp at ha
  have hpm : ∀ m, Mem ps m ↔ m ≠ n ∧ r.1 ≤ m ∧ m ≤ r.2 := by
    intro m
    rw [hp, mem_append]
    have e0 : ∀ m, Mem [] m ↔ False := fun m => ⟨mem_nil, False.elim⟩
    split <;> split <;> simp only [mem_cons, e0, or_false, false_or, false_iff, not_and] <;> omega
  constructor
  · refine (hA.join hpr fun a ha s hs => ?_).join hB fun a ha s hs => ?_
    · have := hx a ha r (by simp); have := hps s hs; unfold Apart at *; omega
    · rcases List.mem_append.1 ha with ha | ha
      · exact hx a ha s (List.mem_cons_of_mem _ hs)
      · have := hy r (by simp) s hs; have := hps a ha; unfold Apart at *; omega
  · intro m
    rw [mem_append, mem_append, mem_append, mem_cons, hpm]
    have n1 : Mem A m → m ≠ n := fun ⟨a, ha, h3, h4⟩ => by have := hx a ha r (by simp); unfold Apart at this; omega
    have n2 : Mem B m → m ≠ n := fun ⟨b, hb, h3, h4⟩ => by have := hy r (by simp) b hb; unfold Apart at this; omega
    constructor
    · rintro ((h | h) | h)
      · exact ⟨n1 h, .inl h⟩
      · exact ⟨h.1, .inr (.inl h.2)⟩
      · exact ⟨n2 h, .inr (.inr h)⟩
    · rintro ⟨h, h3 | h3 | h3⟩
      · exact .inl (.inl h3)
      · exact .inl (.inr ⟨h, h3⟩)
      · exact .inr h3
end Ru
end Go.Proofs.Ytahoileampdnkaa
