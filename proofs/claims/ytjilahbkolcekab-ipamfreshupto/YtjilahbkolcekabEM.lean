/-
  Pods, places, the search for a free one: what needs no memory.
-/
import Derived.Test.YtjilahbkolcekabRows
namespace Go.Proofs.Ytjilahbkolcekab
set_option maxHeartbeats 400000

/-- A pod: its name and its address. -/
structure Pod where
  nm : ByteArray
  ad : Nat
  deriving DecidableEq

/-- The place behind a place. -/
def nx (z p : Nat) : Nat := if z - 2 < p + 1 then 2 else p + 1

/-- The first place behind p that is not taken, n places far at most. -/
def srch (z : Nat) (T : Nat → Bool) : Nat → Nat → Option Nat
  | 0, _ => none
  | n + 1, p => if T (nx z p) then srch z T n (nx z p) else some (nx z p)

/-- What an Ipam holds. -/
structure Ist where
  b : Nat
  z : Nat
  l : Nat
  S : List Pod

/-- Is the place taken? -/
def Ist.tk (s : Ist) (p : Nat) : Bool := decide (s.b + p ∈ s.S.map Pod.ad)
/-- The place that Add gives. -/
def Ist.fr (s : Ist) : Option Nat := srch s.z s.tk 1025 s.l
/-- The pod of a name, the pod of an address. -/
def Ist.byN (s : Ist) (n : ByteArray) : Option Pod := s.S.find? fun p => decide (p.nm = n)
def Ist.byA (s : Ist) (a : Nat) : Option Pod := s.S.find? fun p => decide (p.ad = a)

structure Ist.Ok (s : Ist) : Prop where
  z4 : 4 ≤ s.z
  z31 : s.z ≤ 2147483648
  be : s.b + s.z ≤ 4294967296
  l1 : 1 ≤ s.l
  l2 : s.l + 2 ≤ s.z
  le : s.S.length ≤ 1024
  nn : (s.S.map Pod.nm).Nodup
  an : (s.S.map Pod.ad).Nodup
  ar : ∀ p ∈ s.S, s.b + 2 ≤ p.ad ∧ p.ad + 2 ≤ s.b + s.z
  sm : ∀ p ∈ s.S, p.nm.size ≤ 63

theorem nx_low {z p : Nat} : 2 ≤ nx z p ∨ nx z p = p + 1 := by unfold nx; split <;> omega
theorem nx_in {z p : Nat} (hz : 4 ≤ z) (h1 : 1 ≤ p) : 2 ≤ nx z p ∧ nx z p + 2 ≤ z := by unfold nx; split <;> omega

theorem nx_mod {z p : Nat} (hz : 4 ≤ z) (h1 : 1 ≤ p) (h2 : p + 2 ≤ z) : nx z p = 2 + (p - 1) % (z - 3) := by
  unfold nx
  split
  · have : p - 1 = z - 3 := by omega
    rw [this, Nat.mod_self]
  · rw [Nat.mod_eq_of_lt (by omega)]; omega

theorem srch_in {z : Nat} {T : Nat → Bool} (hz : 4 ≤ z) : ∀ {n p r : Nat}, 1 ≤ p → srch z T n p = some r → T r = false ∧ 2 ≤ r ∧ r + 2 ≤ z
  | 0, _, _, _, h => by cases h
  | n + 1, p, r, h1, h => by
    have hi := nx_in (p := p) hz h1
    unfold srch at h
    split at h
    · exact srch_in hz (by omega) h
    · rename_i ht
      cases h
      exact ⟨by simpa using ht, hi⟩

theorem srch_none {z : Nat} {T : Nat → Bool} (hz : 4 ≤ z) : ∀ {n p : Nat}, 1 ≤ p → p + 2 ≤ z → srch z T n p = none → ∀ k, k < n → T (2 + (p - 1 + k) % (z - 3)) = true
  | 0, _, _, _, _, k, hk => by omega
  | n + 1, p, h1, h2, h, k, hk => by
    have hi := nx_in (p := p) hz h1
    have hm := nx_mod hz h1 h2
    unfold srch at h
    split at h
    · rename_i ht
      cases k with
      | zero => rw [Nat.add_zero, ← hm]; exact ht
      | succ k =>
        have := srch_none hz (by omega) hi.2 h k (by omega)
        rw [hm] at this
        rw [show 2 + (p - 1) % (z - 3) - 1 + k = (p - 1) % (z - 3) + (1 + k) by omega, Nat.mod_add_mod] at this
        rw [show p - 1 + (k + 1) = p - 1 + (1 + k) by omega]
        exact this
    · cases h

theorem nod_le : ∀ {A B : List Nat}, A.Nodup → (∀ x ∈ A, x ∈ B) → A.length ≤ B.length
  | [], _, _, _ => Nat.zero_le _
  | a :: A, B, h, hs => by
    rw [List.nodup_cons] at h
    have ha := hs a List.mem_cons_self
    have h1 := nod_le (A := A) (B := B.erase a) h.2 fun x hx => (List.mem_erase_of_ne (fun e => h.1 (by rw [← e]; exact hx))).2 (hs x (List.mem_cons_of_mem _ hx))
    rw [List.length_erase_of_mem ha] at h1
    have := List.length_pos_of_mem ha
    rw [List.length_cons]
    omega

theorem mod_apart {M a i j : Nat} (hi : i < M) (hj : j < M) (h : (a + i) % M = (a + j) % M) : i = j := by
  have key : ∀ i j, i ≤ j → j < M → (a + i) % M = (a + j) % M → i = j := fun i j hij hj h => by
    have h1 : (a + j - (a + i)) % M = 0 := Nat.sub_mod_eq_zero_of_mod_eq h.symm
    rw [show a + j - (a + i) = j - i by omega, Nat.mod_eq_of_lt (by omega)] at h1
    omega
  rcases Nat.le_total i j with h1 | h1
  · exact key i j h1 hj h
  · exact (key j i h1 hi h.symm).symm

/-- There is a free place just if there are fewer pods than places. -/
theorem Ist.Ok.fr_none {s : Ist} (h : s.Ok) (hl : s.S.length < 1024) : s.fr = none ↔ s.z - 3 ≤ s.S.length := by
  have hz := h.z4
  constructor
  · intro hf
    have h1 := srch_none hz h.l1 h.l2 hf
    rcases Nat.lt_or_ge s.S.length (s.z - 3) with hc | hc
    · exfalso
      have h2 := nod_le (A := (List.range (s.S.length + 1)).map fun k => s.b + (2 + (s.l - 1 + k) % (s.z - 3))) (B := s.S.map Pod.ad) ?_ ?_
      · rw [List.length_map, List.length_range, List.length_map] at h2
        omega
      · rw [List.Nodup, List.pairwise_map]
        refine List.Pairwise.imp_of_mem (fun {i j} hi hj hne e => hne ?_) List.nodup_range
        rw [List.mem_range] at hi hj
        exact mod_apart (M := s.z - 3) (a := s.l - 1) (by omega) (by omega) (by omega)
      · intro x hx
        obtain ⟨k, hk, rfl⟩ := List.mem_map.1 hx
        rw [List.mem_range] at hk
        have := h1 k (by omega)
        unfold Ist.tk at this
        exact of_decide_eq_true this
    · exact hc
  · intro hc
    have hall : ∀ p, 2 ≤ p → p + 2 ≤ s.z → s.tk p = true := fun p h1 h2 => by
      unfold Ist.tk
      rw [decide_eq_true_eq]
      apply Classical.byContradiction
      intro hn
      have h3 := nod_le (A := (s.b + p) :: s.S.map Pod.ad) (B := (List.range (s.z - 3)).map fun k => s.b + 2 + k) (List.nodup_cons.2 ⟨hn, h.an⟩) fun x hx => ?_
      · rw [List.length_cons, List.length_map, List.length_map, List.length_range] at h3
        omega
      · rw [List.mem_map]
        have : s.b + 2 ≤ x ∧ x + 2 ≤ s.b + s.z := by
          rcases List.mem_cons.1 hx with rfl | hx
          · omega
          · obtain ⟨q, hq, rfl⟩ := List.mem_map.1 hx
            exact h.ar q hq
        exact ⟨x - s.b - 2, by rw [List.mem_range]; omega, by omega⟩
    cases hf : s.fr with
    | none => rfl
    | some r =>
      have h1 := srch_in hz h.l1 hf
      rw [hall r h1.2.1 h1.2.2] at h1
      exact absurd h1.1 (by simp)

/-- A free place is found with less searching too. -/
theorem srch_more {z : Nat} {T : Nat → Bool} : ∀ {n p r : Nat}, srch z T n p = some r → ∀ m, n ≤ m → srch z T m p = some r
  | 0, _, _, h, _, _ => by cases h
  | n + 1, p, r, h, 0, hm => by omega
  | n + 1, p, r, h, m + 1, hm => by
    unfold srch at h ⊢
    split at h
    · rename_i ht
      rw [if_pos ht]
      exact srch_more h m (by omega)
    · rename_i ht
      rw [if_neg ht]; exact h

theorem byN_some {s : Ist} {n : ByteArray} {p : Pod} (h : s.byN n = some p) : p ∈ s.S ∧ p.nm = n := by
  unfold Ist.byN at h
  exact ⟨List.mem_of_find?_eq_some h, by simpa using List.find?_some h⟩
theorem byA_some {s : Ist} {a : Nat} {p : Pod} (h : s.byA a = some p) : p ∈ s.S ∧ p.ad = a := by
  unfold Ist.byA at h
  exact ⟨List.mem_of_find?_eq_some h, by simpa using List.find?_some h⟩
theorem byN_none {s : Ist} {n : ByteArray} (h : s.byN n = none) : ∀ p ∈ s.S, p.nm ≠ n := fun p hp => by
  have := List.find?_eq_none.1 h p hp
  simpa using this
theorem byA_none {s : Ist} {a : Nat} (h : s.byA a = none) : ∀ p ∈ s.S, p.ad ≠ a := fun p hp => by
  have := List.find?_eq_none.1 h p hp
  simpa using this

theorem nod_inj {α β : Type} {f : α → β} : ∀ {L : List α}, (L.map f).Nodup → ∀ {p q}, p ∈ L → q ∈ L → f p = f q → p = q
  | [], _, p, _, hp, _, _ => by cases hp
  | x :: L, h, p, q, hp, hq, e => by
    rw [List.map_cons, List.nodup_cons] at h
    rcases List.mem_cons.1 hp with h1 | h1
    · rcases List.mem_cons.1 hq with h2 | h2
      · rw [h1, h2]
      · exact absurd (by rw [← h1, e]; exact List.mem_map_of_mem h2) h.1
    · rcases List.mem_cons.1 hq with h2 | h2
      · exact absurd (by rw [← h2, ← e]; exact List.mem_map_of_mem h1) h.1
      · exact nod_inj h.2 h1 h2 e

theorem Ist.Ok.byN_mem {s : Ist} (h : s.Ok) {p : Pod} (hp : p ∈ s.S) : s.byN p.nm = some p := by
  cases hf : s.byN p.nm with
  | none => exact absurd rfl (byN_none hf p hp)
  | some q => have := byN_some hf; rw [nod_inj h.nn this.1 hp this.2]
theorem Ist.Ok.byA_mem {s : Ist} (h : s.Ok) {p : Pod} (hp : p ∈ s.S) : s.byA p.ad = some p := by
  cases hf : s.byA p.ad with
  | none => exact absurd rfl (byA_none hf p hp)
  | some q => have := byA_some hf; rw [nod_inj h.an this.1 hp this.2]

/-- A pod more. -/
def Ist.add (s : Ist) (n : ByteArray) (r : Nat) : Ist := { s with l := r, S := s.S ++ [⟨n, s.b + r⟩] }
/-- A pod less. -/
def Ist.del (s : Ist) (n : ByteArray) : Ist := { s with S := s.S.filter fun p => !decide (p.nm = n) }

theorem Ist.Ok.add {s : Ist} (h : s.Ok) {n : ByteArray} {r : Nat} (hn : s.byN n = none) (hl : s.S.length < 1024) (hs : n.size ≤ 63) (hr : s.fr = some r) : (s.add n r).Ok := by
  have h1 := srch_in h.z4 h.l1 hr
  refine ⟨h.z4, h.z31, h.be, by show 1 ≤ r; omega, h1.2.2, ?_, ?_, ?_, ?_, ?_⟩
  · show (s.S ++ _).length ≤ 1024
    rw [List.length_append]; simp; omega
  · show ((s.S ++ _).map Pod.nm).Nodup
    rw [List.map_append, List.nodup_append]
    refine ⟨h.nn, by simp, fun a ha b hb e => ?_⟩
    obtain ⟨p, hp, rfl⟩ := List.mem_map.1 ha
    simp only [List.map_cons, List.map_nil, List.mem_singleton] at hb
    exact byN_none hn p hp (e.trans hb)
  · show ((s.S ++ _).map Pod.ad).Nodup
    rw [List.map_append, List.nodup_append]
    refine ⟨h.an, by simp, fun a ha b hb e => ?_⟩
    simp only [List.map_cons, List.map_nil, List.mem_singleton] at hb
    have := h1.1
    unfold Ist.tk at this
    rw [decide_eq_false_iff_not] at this
    exact this (by rw [← hb, ← e]; exact ha)
  · intro p hp
    rcases List.mem_append.1 hp with hp | hp
    · exact h.ar p hp
    · rw [List.mem_singleton] at hp; subst hp
      show s.b + 2 ≤ s.b + r ∧ s.b + r + 2 ≤ s.b + s.z
      omega
  · intro p hp
    rcases List.mem_append.1 hp with hp | hp
    · exact h.sm p hp
    · rw [List.mem_singleton] at hp; subst hp; exact hs

theorem Ist.Ok.del {s : Ist} (h : s.Ok) (n : ByteArray) : (s.del n).Ok := by
  have hsub : (s.del n).S.Sublist s.S := List.filter_sublist
  exact ⟨h.z4, h.z31, h.be, h.l1, h.l2, Nat.le_trans hsub.length_le h.le, (hsub.map _).nodup h.nn, (hsub.map _).nodup h.an, fun p hp => h.ar p (hsub.mem hp), fun p hp => h.sm p (hsub.mem hp)⟩

theorem byN_add {s : Ist} {n : ByteArray} {r : Nat} (hn : s.byN n = none) (m : ByteArray) : (s.add n r).byN m = if m = n then some ⟨n, s.b + r⟩ else s.byN m := by
  unfold Ist.byN Ist.add at *
  rw [List.find?_append]
  by_cases e : m = n
  · subst e; rw [hn, if_pos rfl]; simp
  · rw [if_neg e]
    cases s.S.find? fun p => decide (p.nm = m) with
    | some q => rfl
    | none => simp [Ne.symm e]
theorem byA_add {s : Ist} {n : ByteArray} {r : Nat} (hr : s.tk r = false) (a : Nat) : (s.add n r).byA a = if a = s.b + r then some ⟨n, s.b + r⟩ else s.byA a := by
  have hn : s.byA (s.b + r) = none := List.find?_eq_none.2 fun p hp => by
    unfold Ist.tk at hr
    rw [decide_eq_false_iff_not] at hr
    simp only [decide_eq_true_eq]
    exact fun e => hr (e ▸ List.mem_map_of_mem hp)
  unfold Ist.byA Ist.add at *
  rw [List.find?_append]
  by_cases e : a = s.b + r
  · subst e; rw [hn, if_pos rfl]; simp
  · rw [if_neg e]
    cases s.S.find? fun p => decide (p.ad = a) with
    | some q => rfl
    | none => simp; omega
theorem byN_del {s : Ist} {n : ByteArray} (m : ByteArray) : (s.del n).byN m = if m = n then none else s.byN m := by
  unfold Ist.byN Ist.del
  by_cases e : m = n
  · subst e
    rw [if_pos rfl, List.find?_eq_none]
    intro p hp
    simpa using (List.mem_filter.1 hp).2
  · rw [if_neg e, List.find?_filter]
    congr 1
    funext p
    by_cases e2 : p.nm = m
    · simp [e2, e]
    · simp [e2]
theorem Ist.Ok.byA_del {s : Ist} (h : s.Ok) {n : ByteArray} {p : Pod} (hp : s.byN n = some p) (a : Nat) : (s.del n).byA a = if a = p.ad then none else s.byA a := by
  obtain ⟨h1, h2⟩ := byN_some hp
  by_cases e : a = p.ad
  · subst e
    rw [if_pos rfl]
    refine List.find?_eq_none.2 fun q hq => ?_
    obtain ⟨h3, h4⟩ := List.mem_filter.1 hq
    simp only [decide_eq_true_eq]
    intro e
    have := nod_inj h.an h3 h1 e
    subst this
    simp [h2] at h4
  · rw [if_neg e]
    cases hf : s.byA a with
    | none =>
      refine List.find?_eq_none.2 fun q hq => ?_
      have := byA_none hf q (List.mem_filter.1 hq).1
      simpa using this
    | some q =>
      obtain ⟨h3, h4⟩ := byA_some hf
      have h5 : q ∈ (s.del n).S := by
        refine List.mem_filter.2 ⟨h3, ?_⟩
        have : q.nm ≠ n := fun e2 => e (by rw [← h4, nod_inj h.nn h3 h1 (e2.trans h2.symm)])
        simpa using this
      rw [← h4]
      exact (h.del n).byA_mem h5

/-- All pods, rising by address. -/
def Srt (L S : List Pod) : Prop := L.Perm S ∧ L.Pairwise fun p q => p.ad < q.ad

theorem srt_one : ∀ {L M : List Pod}, L.Perm M → L.Pairwise (fun p q => p.ad < q.ad) → M.Pairwise (fun p q => p.ad < q.ad) → L = M
  | [], M, hp, _, _ => by rw [List.nil_perm] at hp; exact hp.symm
  | p :: L, [], hp, _, _ => by have := hp.length_eq; simp at this
  | p :: L, q :: M, hp, h1, h2 => by
    rw [List.pairwise_cons] at h1 h2
    have e : p = q := by
      rcases List.mem_cons.1 (hp.mem_iff.1 (List.mem_cons_self (a := p))) with e | hpm
      · exact e
      · rcases List.mem_cons.1 (hp.mem_iff.2 (List.mem_cons_self (a := q))) with e | hql
        · exact e.symm
        · have a1 := h1.1 q hql
          have a2 := h2.1 p hpm
          omega
    subst e
    rw [srt_one ((List.perm_cons p).1 hp) h1.2 h2.2]

theorem Srt.eq {L M S : List Pod} (h1 : Srt L S) (h2 : Srt M S) : L = M := srt_one (h1.1.trans h2.1.symm) h1.2 h2.2
end Go.Proofs.Ytjilahbkolcekab
