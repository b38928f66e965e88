/-
  A heap of deadlines, as a function of the place, with a hole that moves.
-/
namespace Go.Proofs.Ythbjfbalgejndaa.H

/-- An id and a time. -/
abbrev Dl := Int × Int

def Lt (a b : Dl) : Prop := a.2 < b.2 ∨ (a.2 = b.2 ∧ a.1 < b.1)
def Le (a b : Dl) : Prop := ¬ Lt b a

theorem Le.iff {a b : Dl} : Le a b ↔ a.2 < b.2 ∨ (a.2 = b.2 ∧ a.1 ≤ b.1) := by unfold Le Lt; omega
theorem Le.trans {a b c : Dl} (h1 : Le a b) (h2 : Le b c) : Le a c := by rw [Le.iff] at *; omega
theorem Le.refl (a : Dl) : Le a a := by rw [Le.iff]; omega
theorem Lt.le {a b : Dl} (h : Lt a b) : Le a b := by rw [Le.iff]; unfold Lt at h; omega
theorem Le.antisymm {a b : Dl} (h1 : Le a b) (h2 : Le b a) : a = b := by
  rw [Le.iff] at *
  apply Prod.ext <;> omega
theorem Lt.or (a b : Dl) : Lt a b ∨ Le b a := by unfold Le; exact Classical.em _

def upd {α : Type} (h : Nat → α) (p : Nat) (x : α) : Nat → α := fun i => if i = p then x else h i
theorem upd_same {α : Type} (h : Nat → α) (p : Nat) (x : α) : upd h p x p = x := by simp [upd]
theorem upd_ne {α : Type} (h : Nat → α) {p i : Nat} (x : α) (hi : i ≠ p) : upd h p x i = h i := by simp [upd, hi]

def put (f : Int → Option Nat) (x : Int) (p : Nat) : Int → Option Nat := fun y => if y = x then some p else f y
def del (f : Int → Option Nat) (x : Int) : Int → Option Nat := fun y => if y = x then none else f y

/-- j lies right below i. -/
def E (i j : Nat) : Prop := j = 2 * i + 1 ∨ j = 2 * i + 2

theorem E.up {p : Nat} (hp : 0 < p) : E ((p - 1) / 2) p := by unfold E; omega
theorem E.uniq {i k j : Nat} (h1 : E i j) (h2 : E k j) : i = k := by unfold E at *; omega
theorem E.ne {i j : Nat} (h : E i j) : i ≠ j := by unfold E at h; omega

def Inj (n : Nat) (h : Nat → Dl) : Prop := ∀ i j, i < n → j < n → (h i).1 = (h j).1 → i = j
def Mem (n : Nat) (h : Nat → Dl) (x : Dl) : Prop := ∃ i, i < n ∧ h i = x

structure Heap (n : Nat) (h : Nat → Dl) (f : Int → Option Nat) : Prop where
  inj : Inj n h
  place : ∀ i, i < n → f (h i).1 = some i
  dom : ∀ x k, f x = some k → k < n ∧ (h k).1 = x
  edge : ∀ i j, E i j → j < n → Le (h i) (h j)

/-- All but the place p stands as in a heap; d is to come in. -/
structure Hole (n : Nat) (h : Nat → Dl) (f : Int → Option Nat) (p : Nat) (d : Dl) : Prop where
  lt : p < n
  inj : Inj n (upd h p d)
  place : ∀ i, i < n → i ≠ p → f (h i).1 = some i
  dom : ∀ x k, f x = some k → ∃ i, i < n ∧ (upd h p d i).1 = x
  edge : ∀ i j, E i j → j < n → i ≠ p → j ≠ p → Le (h i) (h j)
  byp : ∀ i c, E i p → E p c → c < n → Le (h i) (h c)

/-- The hole moves from p to q: what stood at q stands at p then. -/
theorem Hole.move_inj {n : Nat} {h : Nat → Dl} {f : Int → Option Nat} {p q : Nat} {d : Dl} (H : Hole n h f p d) (hq : q < n) (hne : q ≠ p) :
    Inj n (upd (upd h p (h q)) q d) ∧ (∀ x, Mem n (upd (upd h p (h q)) q d) x ↔ Mem n (upd h p d) x) := by
  have key : ∀ i, ∃ j, (i < n → j < n) ∧ upd (upd h p (h q)) q d i = upd h p d j ∧ (j = if i = p then q else if i = q then p else i) := by
    intro i
    by_cases h1 : i = p
    · exact ⟨q, fun _ => hq, by rw [h1, upd_ne _ _ (Ne.symm hne), upd_same, upd_ne _ _ hne], by simp [h1]⟩
    · by_cases h2 : i = q
      · exact ⟨p, fun _ => H.lt, by rw [h2, upd_same, upd_same], by simp [h2, hne]⟩
      · exact ⟨i, fun h => h, by rw [upd_ne _ _ h2, upd_ne _ _ h1, upd_ne _ _ h1], by simp [h1, h2]⟩
  refine ⟨fun i j hi hj e => ?_, fun x => ⟨?_, ?_⟩⟩
  · obtain ⟨i', a1, a2, a3⟩ := key i
    obtain ⟨j', b1, b2, b3⟩ := key j
    rw [a2, b2] at e
    have := H.inj i' j' (a1 hi) (b1 hj) e
    subst this
    rw [a3] at b3
    by_cases i1 : i = p <;> by_cases i2 : i = q <;> by_cases j1 : j = p <;> by_cases j2 : j = q <;> simp [i1, i2, j1, j2, hne] at b3 <;> omega
  · rintro ⟨i, hi, e⟩
    obtain ⟨i', a1, a2, a3⟩ := key i
    exact ⟨i', a1 hi, by rw [← a2]; exact e⟩
  · rintro ⟨i, hi, e⟩
    by_cases h1 : i = p
    · exact ⟨q, hq, by rw [upd_same, ← e, h1, upd_same]⟩
    · by_cases h2 : i = q
      · exact ⟨p, H.lt, by rw [upd_ne _ _ (Ne.symm hne), upd_same, ← e, h2, upd_ne _ _ hne]⟩
      · exact ⟨i, hi, by rw [upd_ne _ _ h2, upd_ne _ _ h1, ← e, upd_ne _ _ h1]⟩

theorem Hole.id_ne {n : Nat} {h : Nat → Dl} {f : Int → Option Nat} {p q : Nat} {d : Dl} (H : Hole n h f p d) (hq : q < n) (hne : q ≠ p) {i : Nat} (hi : i < n) (hip : i ≠ p) (hiq : i ≠ q) : (h i).1 ≠ (h q).1 := fun e => hiq (H.inj i q hi hq (by rw [upd_ne _ _ hip, upd_ne _ _ hne]; exact e))

theorem Hole.up {n : Nat} {h : Nat → Dl} {f : Int → Option Nat} {p : Nat} {d : Dl} (H : Hole n h f p d) (hp : 0 < p) :
    Hole n (upd h p (h ((p - 1) / 2))) (put f (h ((p - 1) / 2)).1 p) ((p - 1) / 2) d ∧ (∀ x, Mem n (upd (upd h p (h ((p - 1) / 2))) ((p - 1) / 2) d) x ↔ Mem n (upd h p d) x) := by
  have hE := E.up hp
  have hlt := H.lt
  obtain ⟨q, hq⟩ : ∃ q, q = (p - 1) / 2 := ⟨_, rfl⟩
  rw [← hq] at hE ⊢
  have hqp : q ≠ p := hE.ne
  have hqn : q < n := by omega
  obtain ⟨hinj, hmem⟩ := H.move_inj hqn hqp
  refine ⟨⟨hqn, hinj, fun i hi hne => ?_, fun x k hx => ?_, fun i j hij hj hi1 hj1 => ?_, fun i c h1 h2 hc => ?_⟩, hmem⟩
  · by_cases h1 : i = p
    · rw [h1, upd_same]; simp [put]
    · rw [upd_ne _ _ h1]
      unfold put
      rw [if_neg (H.id_ne hqn hqp hi h1 hne)]
      exact H.place i hi h1
  · unfold put at hx
    by_cases h1 : x = (h q).1
    · exact ⟨p, hlt, by rw [upd_ne _ _ (Ne.symm hqp), upd_same, h1]⟩
    · rw [if_neg h1] at hx
      obtain ⟨i, hi, e⟩ := H.dom x k hx
      obtain ⟨j, hj, e2⟩ := (hmem (upd h p d i)).2 ⟨i, hi, rfl⟩
      exact ⟨j, hj, by rw [e2]; exact e⟩
  · by_cases h1 : i = p
    · subst h1
      have : j ≠ i := (E.ne hij).symm
      rw [upd_same, upd_ne _ _ this]
      exact H.byp q j hE hij hj
    · by_cases h2 : j = p
      · subst h2
        exact absurd (E.uniq hij hE) hi1
      · rw [upd_ne _ _ h1, upd_ne _ _ h2]
        exact H.edge i j hij hj h1 h2
  · have hip : i ≠ p := by unfold E at *; omega
    have hiq : i ≠ q := h1.ne
    rw [upd_ne _ _ hip]
    have hle : Le (h i) (h q) := H.edge i q h1 hqn hip hqp
    by_cases h3 : c = p
    · rw [h3, upd_same]; exact hle
    · rw [upd_ne _ _ h3]
      exact hle.trans (H.edge q c h2 hc hqp h3)

theorem Hole.down {n : Nat} {h : Nat → Dl} {f : Int → Option Nat} {p q : Nat} {d : Dl} (H : Hole n h f p d) (hE : E p q) (hqn : q < n) (hmin : ∀ c, E p c → c < n → Le (h q) (h c)) :
    Hole n (upd h p (h q)) (put f (h q).1 p) q d ∧ (∀ x, Mem n (upd (upd h p (h q)) q d) x ↔ Mem n (upd h p d) x) := by
  have hlt := H.lt
  have hqp : q ≠ p := hE.ne.symm
  obtain ⟨hinj, hmem⟩ := H.move_inj hqn hqp
  refine ⟨⟨hqn, hinj, fun i hi hne => ?_, fun x k hx => ?_, fun i j hij hj hi1 hj1 => ?_, fun i c h1 h2 hc => ?_⟩, hmem⟩
  · by_cases h1 : i = p
    · rw [h1, upd_same]; simp [put]
    · rw [upd_ne _ _ h1]
      unfold put
      rw [if_neg (H.id_ne hqn hqp hi h1 hne)]
      exact H.place i hi h1
  · unfold put at hx
    by_cases h1 : x = (h q).1
    · exact ⟨p, hlt, by rw [upd_ne _ _ (Ne.symm hqp), upd_same, h1]⟩
    · rw [if_neg h1] at hx
      obtain ⟨i, hi, e⟩ := H.dom x k hx
      obtain ⟨j, hj, e2⟩ := (hmem (upd h p d i)).2 ⟨i, hi, rfl⟩
      exact ⟨j, hj, by rw [e2]; exact e⟩
  · by_cases h1 : i = p
    · subst h1
      have : j ≠ i := (E.ne hij).symm
      rw [upd_same, upd_ne _ _ this]
      exact hmin j hij hj
    · by_cases h2 : j = p
      · subst h2
        rw [upd_same, upd_ne _ _ h1]
        exact H.byp i q hij hE hqn
      · rw [upd_ne _ _ h1, upd_ne _ _ h2]
        exact H.edge i j hij hj h1 h2
  · obtain rfl := E.uniq h1 hE
    have hcp : c ≠ i := by unfold E at *; omega
    rw [upd_same, upd_ne _ _ hcp]
    exact H.edge q c h2 hc hqp hcp

theorem Hole.fill {n : Nat} {h : Nat → Dl} {f : Int → Option Nat} {p : Nat} {d : Dl} (H : Hole n h f p d) (hup : ∀ i, E i p → Le (h i) d) (hdn : ∀ c, E p c → c < n → Le d (h c)) :
    Heap n (upd h p d) (put f d.1 p) := by
  refine ⟨H.inj, fun i hi => ?_, fun x k hx => ?_, fun i j hij hj => ?_⟩
  · by_cases h1 : i = p
    · rw [h1, upd_same]; simp [put]
    · have hne : (h i).1 ≠ d.1 := fun e => h1 (H.inj i p hi H.lt (by rw [upd_ne _ _ h1, upd_same]; exact e))
      rw [upd_ne _ _ h1]
      unfold put
      rw [if_neg hne]
      exact H.place i hi h1
  · unfold put at hx
    by_cases h1 : x = d.1
    · rw [if_pos h1] at hx
      cases hx
      exact ⟨H.lt, by rw [upd_same, h1]⟩
    · rw [if_neg h1] at hx
      obtain ⟨i, hi, e⟩ := H.dom x k hx
      have hip : i ≠ p := fun e2 => h1 (by rw [← e, e2, upd_same])
      rw [upd_ne _ _ hip] at e
      have := H.place i hi hip
      rw [e, hx] at this
      cases this
      exact ⟨hi, by rw [upd_ne _ _ hip]; exact e⟩
  · by_cases h1 : i = p
    · subst h1
      rw [upd_same, upd_ne _ _ (E.ne hij).symm]
      exact hdn j hij hj
    · by_cases h2 : j = p
      · subst h2
        rw [upd_same, upd_ne _ _ h1]
        exact hup i hij
      · rw [upd_ne _ _ h1, upd_ne _ _ h2]
        exact H.edge i j hij hj h1 h2

theorem Heap.least {n : Nat} {h : Nat → Dl} {f : Int → Option Nat} (H : Heap n h f) : ∀ i, i < n → Le (h 0) (h i) := by
  intro i
  induction i using Nat.strongRecOn with
  | _ i ih =>
    intro hi
    rcases Nat.eq_zero_or_pos i with rfl | h0
    · exact Le.refl _
    · exact (ih ((i - 1) / 2) (by omega) (by omega)).trans (H.edge _ _ (E.up h0) hi)

/-- An id that is held gets another time. -/
theorem Heap.hole_at {n : Nat} {h : Nat → Dl} {f : Int → Option Nat} (H : Heap n h f) {p : Nat} (hp : p < n) (d : Dl) (hd : d.1 = (h p).1) : Hole n h f p d := by
  have e : ∀ i, (upd h p d i).1 = (h i).1 := fun i => by
    by_cases h1 : i = p
    · rw [h1, upd_same, hd]
    · rw [upd_ne _ _ h1]
  refine ⟨hp, fun i j hi hj hij => H.inj i j hi hj (by rw [← e i, ← e j]; exact hij), fun i hi _ => H.place i hi, fun x k hx => ?_, fun i j hij hj _ _ => H.edge i j hij hj, fun i c h1 h2 hc => ?_⟩
  · obtain ⟨hk, ek⟩ := H.dom x k hx
    exact ⟨k, hk, by rw [e]; exact ek⟩
  · have hpn : p < n := hp
    exact (H.edge i p h1 hpn).trans (H.edge p c h2 hc)

/-- A new id comes to the end. -/
theorem Heap.hole_end {n : Nat} {h : Nat → Dl} {f : Int → Option Nat} (H : Heap n h f) (d : Dl) (hd : f d.1 = none) : Hole (n + 1) h f n d := by
  have hne : ∀ i, i < n → (h i).1 ≠ d.1 := fun i hi e => by
    have := H.place i hi
    rw [e, hd] at this; cases this
  refine ⟨by omega, fun i j hi hj hij => ?_, fun i hi hne => H.place i (by omega), fun x k hx => ?_, fun i j hij hj h1 h2 => H.edge i j hij (by omega), fun i c h1 h2 hc => ?_⟩
  · by_cases h1 : i = n
    · by_cases h2 : j = n
      · omega
      · rw [h1, upd_same, upd_ne _ _ h2] at hij
        exact absurd hij.symm (hne j (by omega))
    · by_cases h2 : j = n
      · rw [h2, upd_same, upd_ne _ _ h1] at hij
        exact absurd hij (hne i (by omega))
      · rw [upd_ne _ _ h1, upd_ne _ _ h2] at hij
        exact H.inj i j (by omega) (by omega) hij
  · obtain ⟨hk, ek⟩ := H.dom x k hx
    exact ⟨k, by omega, by rw [upd_ne _ _ (by omega)]; exact ek⟩
  · unfold E at h2; omega

/-- The last one goes. -/
theorem Heap.pop {n : Nat} {h : Nat → Dl} {f : Int → Option Nat} (H : Heap (n + 1) h f) : Heap n h (del f (h n).1) := by
  have hne : ∀ i, i < n → (h i).1 ≠ (h n).1 := fun i hi e => by have := H.inj i n (by omega) (by omega) e; omega
  refine ⟨fun i j hi hj => H.inj i j (by omega) (by omega), fun i hi => ?_, fun x k hx => ?_, fun i j hij hj => H.edge i j hij (by omega)⟩
  · unfold del; rw [if_neg (hne i hi)]; exact H.place i (by omega)
  · unfold del at hx
    split at hx
    · cases hx
    · rename_i h1
      obtain ⟨hk, ek⟩ := H.dom x k hx
      refine ⟨?_, ek⟩
      rcases Nat.lt_or_ge k n with h2 | h2
      · exact h2
      · exact absurd (by rw [← ek, show k = n by omega]) h1

/-- One in the midst goes: the last one is to come to its place. -/
theorem Heap.hole_take {n : Nat} {h : Nat → Dl} {f : Int → Option Nat} (H : Heap (n + 1) h f) {p : Nat} (hp : p < n) : Hole n h (del f (h p).1) p (h n) := by
  have hne : ∀ i, i < n + 1 → i ≠ p → (h i).1 ≠ (h p).1 := fun i hi h1 e => h1 (H.inj i p hi (by omega) e)
  refine ⟨hp, fun i j hi hj hij => ?_, fun i hi h1 => ?_, fun x k hx => ?_, fun i j hij hj _ _ => H.edge i j hij (by omega), fun i c h1 h2 hc => (H.edge i p h1 (by omega)).trans (H.edge p c h2 (by omega))⟩
  · by_cases h1 : i = p
    · by_cases h2 : j = p
      · omega
      · rw [h1, upd_same, upd_ne _ _ h2] at hij
        have := H.inj n j (by omega) (by omega) hij; omega
    · by_cases h2 : j = p
      · rw [h2, upd_same, upd_ne _ _ h1] at hij
        have := H.inj i n (by omega) (by omega) hij; omega
      · rw [upd_ne _ _ h1, upd_ne _ _ h2] at hij
        exact H.inj i j (by omega) (by omega) hij
  · unfold del; rw [if_neg (hne i (by omega) h1)]; exact H.place i (by omega)
  · unfold del at hx
    split at hx
    · cases hx
    · rename_i h1
      obtain ⟨hk, ek⟩ := H.dom x k hx
      by_cases h2 : k = n
      · exact ⟨p, hp, by rw [upd_same, ← ek, h2]⟩
      · have h3 : k ≠ p := fun e => h1 (by rw [← ek, e])
        exact ⟨k, by omega, by rw [upd_ne _ _ h3]; exact ek⟩
end Go.Proofs.Ythbjfbalgejndaa.H
