/-
  Rising lists of entries.
-/
import Derived.Test.YtmnafocmbcgdiabWL
namespace Go.Proofs.Ytmnafocmbcgdiab
open Tri

def Ris (L : List (K × Int)) : Prop := (L.map Prod.fst).Pairwise fun a b => gtK b a

theorem gtK.trans {a b c : K} (h1 : gtK b a) (h2 : gtK c b) : gtK c a := by
  unfold gtK at *
  omega

theorem gtK.irr {a : K} (h : gtK a a) : False := by
  unfold gtK at h
  omega

theorem gtK_or {a b : K} (h1 : ¬ gtK a b) (h2 : a ≠ b) : gtK b a := by
  unfold gtK at *
  by_cases h3 : b.x = a.x
  · by_cases h4 : a.n = b.n
    · exact absurd (K.ext' h3.symm h4) h2
    · omega
  · omega

theorem Ris.nil : Ris [] := List.Pairwise.nil

theorem Ris.cons {e : K × Int} {L : List (K × Int)} : Ris (e :: L) ↔ (∀ f ∈ L, gtK f.1 e.1) ∧ Ris L := by
  unfold Ris
  rw [List.map_cons, List.pairwise_cons]
  constructor
  · rintro ⟨h1, h2⟩; exact ⟨fun f hf => h1 _ (List.mem_map_of_mem hf), h2⟩
  · rintro ⟨h1, h2⟩
    refine ⟨fun x hx => ?_, h2⟩
    obtain ⟨f, hf, rfl⟩ := List.mem_map.1 hx
    exact h1 f hf

theorem Ris.app {A B : List (K × Int)} : Ris (A ++ B) ↔ Ris A ∧ Ris B ∧ ∀ a ∈ A, ∀ b ∈ B, gtK b.1 a.1 := by
  unfold Ris
  rw [List.map_append, List.pairwise_append]
  constructor
  · rintro ⟨h1, h2, h3⟩; exact ⟨h1, h2, fun a ha b hb => h3 _ (List.mem_map_of_mem ha) _ (List.mem_map_of_mem hb)⟩
  · rintro ⟨h1, h2, h3⟩
    refine ⟨h1, h2, fun x hx y hy => ?_⟩
    obtain ⟨a, ha, rfl⟩ := List.mem_map.1 hx
    obtain ⟨b, hb, rfl⟩ := List.mem_map.1 hy
    exact h3 a ha b hb

theorem ris_ext : ∀ {A B : List (K × Int)}, Ris A → Ris B → (∀ e, e ∈ A ↔ e ∈ B) → A = B := by
  intro A
  induction A with
  | nil =>
    intro B _ _ h
    cases B with
    | nil => rfl
    | cons b B => have := (h b).2 (by simp); cases this
  | cons a A ih =>
    intro B hA hB h
    cases B with
    | nil => have := (h a).1 (by simp); cases this
    | cons b B =>
      obtain ⟨a1, a2⟩ := Ris.cons.1 hA
      obtain ⟨b1, b2⟩ := Ris.cons.1 hB
      have hab : a = b := by
        rcases List.mem_cons.1 ((h a).1 (by simp)) with h1 | h1
        · exact h1
        · rcases List.mem_cons.1 ((h b).2 (by simp)) with h2 | h2
          · exact h2.symm
          · exact ((b1 a h1).trans (a1 b h2)).irr.elim
      subst hab
      rw [ih a2 b2 fun e => ?_]
      constructor
      · intro he
        rcases List.mem_cons.1 ((h e).1 (List.mem_cons_of_mem _ he)) with h1 | h1
        · subst h1; exact (a1 _ he).irr.elim
        · exact h1
      · intro he
        rcases List.mem_cons.1 ((h e).2 (List.mem_cons_of_mem _ he)) with h1 | h1
        · subst h1; exact (b1 _ he).irr.elim
        · exact h1

theorem ents_ris {lo hi : Nat} {t : Tr} (h : WF lo hi t) : Ris (ents t) := by
  induction t generalizing lo hi with
  | nil => exact Ris.nil
  | node k u l r il ir =>
    obtain ⟨a, b, c, d, e, f⟩ := h
    have h2 := h2_le k
    have below : ∀ x : K × Int, x.1.Ok → k.x ≤ x.1.x → x.1.x + x.1.s ≤ k.x + k.s → x.1 ≠ k → gtK x.1 k := fun x h1 h3 h4 h5 => by
      have := (halves h1 a ⟨h3, h4⟩ h5).1
      unfold gtK
      omega
    rw [ents]
    refine Ris.app.2 ⟨?_, Ris.app.2 ⟨il d, ir e, fun x hx y hy => ?_⟩, fun x hx y hy => ?_⟩
    · cases u with
      | none => exact Ris.nil
      | some v => exact Ris.cons.2 ⟨fun f hf => by (simp at hf), Ris.nil⟩
    · have h3 := ents_in d x hx
      have h4 := ents_in e y hy
      have := x.1.s_pos
      unfold gtK
      omega
    · rw [mem_own] at hx
      rw [hx.1]
      rcases List.mem_append.1 hy with hy | hy
      · have h3 := ents_in d y hy
        exact below y h3.1 (by omega) (by omega) (kid_ne h3 (.inl (Nat.le_refl _)))
      · have h3 := ents_in e y hy
        exact below y h3.1 (by omega) (by omega) (kid_ne h3 (.inr ⟨Nat.le_refl _, Nat.le_refl _⟩))

theorem Same.eq {lo hi : Nat} {t : Tr} {L : List (K × Int)} (h : Same t L) (hr : Ris L) (hW : WF lo hi t) : L = ents t := ris_ext hr (ents_ris hW) h.mem

theorem Ris.set {L : List (K × Int)} (h : Ris L) {i : Nat} {p : K} {v0 : Int} (hi : L[i]? = some (p, v0)) (v : Int) : Ris (L.set i (p, v)) := by
  unfold Ris at *
  rw [List.map_set]
  have : (L.map Prod.fst)[i]? = some p := by rw [List.getElem?_map, hi]; rfl
  obtain ⟨h1, h2⟩ := List.getElem?_eq_some_iff.1 this
  rw [← h2, List.set_getElem_self]
  exact h

theorem Ris.but {L : List (K × Int)} (h : Ris L) (f : K × Int → Bool) : Ris (L.filter f) := List.Pairwise.sublist (List.Sublist.map _ List.filter_sublist) h

theorem Ris.ins {A B : List (K × Int)} (h : Ris (A ++ B)) {p : K} {v : Int} (hA : ∀ e ∈ A, ¬ gtK e.1 p) (hB : B = [] ∨ ∃ e B', B = e :: B' ∧ gtK e.1 p) (hno : ∀ e ∈ A ++ B, e.1 ≠ p) : Ris (A ++ (p, v) :: B) := by
  obtain ⟨h1, h2, h3⟩ := Ris.app.1 h
  have hp : ∀ e ∈ B, gtK e.1 p := by
    rcases hB with rfl | ⟨e, B', rfl, hg⟩
    · intro e he; cases he
    · intro f hf
      rcases List.mem_cons.1 hf with rfl | hf
      · exact hg
      · exact hg.trans ((Ris.cons.1 h2).1 f hf)
  refine Ris.app.2 ⟨h1, Ris.cons.2 ⟨hp, h2⟩, fun a ha b hb => ?_⟩
  rcases List.mem_cons.1 hb with rfl | hb
  · exact gtK_or (hA a ha) (hno a (List.mem_append_left _ ha))
  · exact h3 a ha b hb
end Go.Proofs.Ytmnafocmbcgdiab
