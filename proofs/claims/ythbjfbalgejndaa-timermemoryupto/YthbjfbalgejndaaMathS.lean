/-
  What a heap holds, as a sorted list.
-/
import Derived.Test.YthbjfbalgejndaaMathH
namespace Go.Proofs.Ythbjfbalgejndaa.H

instance (a b : Dl) : Decidable (Lt a b) := inferInstanceAs (Decidable (_ ∨ _))

theorem Lt.trans {a b c : Dl} (h1 : Lt a b) (h2 : Lt b c) : Lt a c := by unfold Lt at *; omega
theorem Lt.irrefl (a : Dl) : ¬ Lt a a := by unfold Lt; omega
theorem Lt.ne {a b : Dl} (h : Lt a b) : a ≠ b := fun e => Lt.irrefl b (e ▸ h)
theorem lt_of_not {a b : Dl} (h : ¬ Lt a b) (hne : a.1 ≠ b.1) : Lt b a := by unfold Lt at *; omega

/-- Laid ahead of those that it is ahead of. -/
def ins (d : Dl) : List Dl → List Dl
  | [] => [d]
  | x :: r => if Lt d x then d :: x :: r else x :: ins d r

/-- Without an id. -/
def drp (i : Int) (S : List Dl) : List Dl := S.filter fun x => x.1 != i

def setS (S : List Dl) (d : Dl) : List Dl := ins d (drp d.1 S)

theorem mem_ins {d x : Dl} {S : List Dl} : x ∈ ins d S ↔ x = d ∨ x ∈ S := by
  induction S with
  | nil => simp [ins]
  | cons y r ih =>
    unfold ins
    split
    · simp
    · simp only [List.mem_cons, ih]
      constructor
      · rintro (h | h | h)
        · exact .inr (.inl h)
        · exact .inl h
        · exact .inr (.inr h)
      · rintro (h | h | h)
        · exact .inr (.inl h)
        · exact .inl h
        · exact .inr (.inr h)

theorem mem_drp {i : Int} {x : Dl} {S : List Dl} : x ∈ drp i S ↔ x ∈ S ∧ x.1 ≠ i := by
  unfold drp; simp

theorem mem_setS {d x : Dl} {S : List Dl} : x ∈ setS S d ↔ x = d ∨ (x ∈ S ∧ x.1 ≠ d.1) := by
  unfold setS; rw [mem_ins, mem_drp]

theorem length_ins (d : Dl) (S : List Dl) : (ins d S).length = S.length + 1 := by
  induction S with
  | nil => rfl
  | cons y r ih => unfold ins; split <;> simp [ih]

theorem ins_sorted {d : Dl} {S : List Dl} (hS : S.Pairwise Lt) (hd : ∀ x ∈ S, x.1 ≠ d.1) : (ins d S).Pairwise Lt := by
  induction S with
  | nil => simp [ins]
  | cons y r ih =>
    obtain ⟨h1, h2⟩ := List.pairwise_cons.1 hS
    unfold ins
    split
    · rename_i hlt
      refine List.pairwise_cons.2 ⟨fun x hx => ?_, hS⟩
      rcases List.mem_cons.1 hx with rfl | hx
      · exact hlt
      · exact hlt.trans (h1 x hx)
    · rename_i hlt
      refine List.pairwise_cons.2 ⟨fun x hx => ?_, ih h2 (fun x hx => hd x (List.mem_cons_of_mem _ hx))⟩
      rcases mem_ins.1 hx with rfl | hx
      · exact lt_of_not hlt (hd y List.mem_cons_self).symm
      · exact h1 x hx

theorem drp_sorted {i : Int} {S : List Dl} (hS : S.Pairwise Lt) : (drp i S).Pairwise Lt := hS.filter _

theorem setS_sorted {d : Dl} {S : List Dl} (hS : S.Pairwise Lt) : (setS S d).Pairwise Lt :=
  ins_sorted (drp_sorted hS) (fun _ hx => (mem_drp.1 hx).2)

theorem drp_self {i : Int} {S : List Dl} (h : ∀ x ∈ S, x.1 ≠ i) : drp i S = S := by
  unfold drp
  rw [List.filter_eq_self]
  intro x hx
  simpa using h x hx

theorem nodup_len {α : Type} [BEq α] [LawfulBEq α] : ∀ (A B : List α), A.Nodup → (∀ x ∈ A, x ∈ B) → A.length ≤ B.length
  | [], _, _, _ => by simp
  | a :: A, B, hA, h => by
    obtain ⟨h1, h2⟩ := List.nodup_cons.1 hA
    have ha : a ∈ B := h a List.mem_cons_self
    have := nodup_len A (B.erase a) h2 (fun x hx => by
      have hne : x ≠ a := fun e => h1 (e ▸ hx)
      exact (List.mem_erase_of_ne hne).2 (h x (List.mem_cons_of_mem _ hx)))
    rw [List.length_erase_of_mem ha] at this
    have hl := List.length_pos_of_mem ha
    rw [List.length_cons]
    omega

theorem sorted_nodup {S : List Dl} (hS : S.Pairwise Lt) : S.Nodup := hS.imp fun h => h.ne

/-- Sorted lists with the same members are one. -/
theorem sorted_ext : ∀ {S T : List Dl}, S.Pairwise Lt → T.Pairwise Lt → (∀ x, x ∈ S ↔ x ∈ T) → S = T
  | [], [], _, _, _ => rfl
  | [], y :: T, _, _, h => absurd ((h y).2 List.mem_cons_self) (by simp)
  | x :: S, [], _, _, h => absurd ((h x).1 List.mem_cons_self) (by simp)
  | x :: S, y :: T, hS, hT, h => by
    obtain ⟨s1, s2⟩ := List.pairwise_cons.1 hS
    obtain ⟨t1, t2⟩ := List.pairwise_cons.1 hT
    have hxy : x = y := by
      rcases List.mem_cons.1 ((h x).1 List.mem_cons_self) with e | hx
      · exact e
      · rcases List.mem_cons.1 ((h y).2 List.mem_cons_self) with e | hy
        · exact e.symm
        · exact absurd ((s1 y hy).trans (t1 x hx)) (Lt.irrefl _)
    subst hxy
    congr 1
    refine sorted_ext s2 t2 fun z => ⟨fun hz => ?_, fun hz => ?_⟩
    · rcases List.mem_cons.1 ((h z).1 (List.mem_cons_of_mem _ hz)) with e | hz'
      · exact absurd (e ▸ s1 z hz) (Lt.irrefl _)
      · exact hz'
    · rcases List.mem_cons.1 ((h z).2 (List.mem_cons_of_mem _ hz)) with e | hz'
      · exact absurd (e ▸ t1 z hz) (Lt.irrefl _)
      · exact hz'

/-- The heap holds what stands in the sorted list. -/
structure Rep (n : Nat) (h : Nat → Dl) (S : List Dl) : Prop where
  sorted : S.Pairwise Lt
  mem : ∀ x, Mem n h x ↔ x ∈ S

theorem Rep.len {n : Nat} {h : Nat → Dl} {S : List Dl} (R : Rep n h S) (hi : Inj n h) : S.length = n := by
  have hnd : ((List.range n).map h).Nodup := by
    refine List.pairwise_map.2 ?_
    refine List.Pairwise.imp_of_mem ?_ (List.nodup_range (n := n))
    intro a b ha hb hab e
    exact hab (hi a b (List.mem_range.1 ha) (List.mem_range.1 hb) (by rw [e]))
  have h1 := nodup_len S ((List.range n).map h) (sorted_nodup R.sorted) (fun x hx => by
    obtain ⟨i, hi, e⟩ := (R.mem x).2 hx
    exact List.mem_map.2 ⟨i, List.mem_range.2 hi, e⟩)
  have h2 := nodup_len ((List.range n).map h) S hnd (fun x hx => by
    obtain ⟨i, hi, e⟩ := List.mem_map.1 hx
    exact (R.mem x).1 ⟨i, List.mem_range.1 hi, e⟩)
  simp at h1 h2
  omega

theorem Rep.ids {n : Nat} {h : Nat → Dl} {S : List Dl} (R : Rep n h S) (hi : Inj n h) : ∀ x ∈ S, ∀ y ∈ S, x.1 = y.1 → x = y := by
  intro x hx y hy e
  obtain ⟨i, hi1, rfl⟩ := (R.mem x).2 hx
  obtain ⟨j, hj1, rfl⟩ := (R.mem y).2 hy
  rw [hi i j hi1 hj1 e]

theorem Rep.empty : Rep 0 (fun _ => (0, 0)) [] := ⟨List.Pairwise.nil, fun x => by simp [Mem]⟩

/-- The first one. -/
theorem Rep.head {n : Nat} {h : Nat → Dl} {f : Int → Option Nat} {S : List Dl} (R : Rep n h S) (H : Heap n h f) (hn : 0 < n) : ∃ T, S = h 0 :: T := by
  have h0 : h 0 ∈ S := (R.mem _).1 ⟨0, hn, rfl⟩
  match S, R, h0 with
  | s :: T, R, h0 =>
    obtain ⟨i, hi, e⟩ := (R.mem s).2 List.mem_cons_self
    have hle : Le (h 0) s := by rw [← e]; exact H.least i hi
    obtain ⟨s1, _⟩ := List.pairwise_cons.1 R.sorted
    have hle2 : Le s (h 0) := by
      rcases List.mem_cons.1 h0 with e2 | h2
      · rw [e2]; exact Le.refl _
      · exact (s1 _ h2).le
    exact ⟨T, by rw [hle.antisymm hle2]⟩

/-- An id that is held. -/
theorem Rep.held {n : Nat} {h : Nat → Dl} {f : Int → Option Nat} {S : List Dl} (R : Rep n h S) (H : Heap n h f) {x : Int} {k : Nat} (hk : f x = some k) : k < n ∧ (h k).1 = x ∧ h k ∈ S := by
  obtain ⟨h1, h2⟩ := H.dom x k hk
  exact ⟨h1, h2, (R.mem _).1 ⟨k, h1, rfl⟩⟩

theorem Rep.free {n : Nat} {h : Nat → Dl} {f : Int → Option Nat} {S : List Dl} (R : Rep n h S) (H : Heap n h f) {x : Int} (hk : f x = none) : ∀ y ∈ S, y.1 ≠ x := by
  intro y hy e
  obtain ⟨i, hi, rfl⟩ := (R.mem y).2 hy
  have := H.place i hi
  rw [e, hk] at this
  cases this

/-- Behind Set, of an id that was held at p. -/
theorem Rep.moved {n : Nat} {h h' : Nat → Dl} {S : List Dl} (R : Rep n h S) (hi : Inj n h) {p : Nat} (hp : p < n) {d : Dl} (hd : d.1 = (h p).1) (hm : ∀ x, Mem n h' x ↔ Mem n (upd h p d) x) : Rep n h' (setS S d) := by
  refine ⟨setS_sorted R.sorted, fun x => ?_⟩
  rw [hm, mem_setS]
  constructor
  · rintro ⟨i, hi1, e⟩
    by_cases h1 : i = p
    · exact .inl (by rw [← e, h1, upd_same])
    · rw [upd_ne _ _ h1] at e
      refine .inr ⟨(R.mem x).1 ⟨i, hi1, e⟩, fun e2 => h1 (hi i p hi1 hp ?_)⟩
      rw [e, e2, hd]
  · rintro (rfl | ⟨hx, hne⟩)
    · exact ⟨p, hp, upd_same _ _ _⟩
    · obtain ⟨i, hi1, e⟩ := (R.mem x).2 hx
      have h1 : i ≠ p := fun e2 => hne (by rw [← e, e2, hd])
      exact ⟨i, hi1, by rw [upd_ne _ _ h1]; exact e⟩

/-- Behind Set, of a new id. -/
theorem Rep.came {n : Nat} {h h' : Nat → Dl} {f : Int → Option Nat} {S : List Dl} (R : Rep n h S) (H : Heap n h f) {d : Dl} (hd : f d.1 = none) (hm : ∀ x, Mem (n + 1) h' x ↔ Mem (n + 1) (upd h n d) x) : Rep (n + 1) h' (setS S d) := by
  have hfr := R.free H hd
  refine ⟨setS_sorted R.sorted, fun x => ?_⟩
  rw [hm, mem_setS]
  constructor
  · rintro ⟨i, hi1, e⟩
    by_cases h1 : i = n
    · exact .inl (by rw [← e, h1, upd_same])
    · rw [upd_ne _ _ h1] at e
      have hx := (R.mem x).1 ⟨i, by omega, e⟩
      exact .inr ⟨hx, hfr x hx⟩
  · rintro (rfl | ⟨hx, _⟩)
    · exact ⟨n, by omega, upd_same _ _ _⟩
    · obtain ⟨i, hi1, e⟩ := (R.mem x).2 hx
      exact ⟨i, by omega, by rw [upd_ne _ _ (by omega)]; exact e⟩

/-- One is taken out: at p, the last one comes to its place. -/
theorem Rep.took {n : Nat} {h h' : Nat → Dl} {S : List Dl} (R : Rep (n + 1) h S) (hi : Inj (n + 1) h) {p : Nat} (hp : p < n) (hm : ∀ x, Mem n h' x ↔ Mem n (upd h p (h n)) x) : Rep n h' (drp (h p).1 S) := by
  refine ⟨drp_sorted R.sorted, fun x => ?_⟩
  rw [hm, mem_drp]
  constructor
  · rintro ⟨i, hi1, e⟩
    by_cases h1 : i = p
    · rw [h1, upd_same] at e
      refine ⟨(R.mem x).1 ⟨n, by omega, e⟩, fun e2 => ?_⟩
      have := hi n p (by omega) (by omega) (by rw [e, e2])
      omega
    · rw [upd_ne _ _ h1] at e
      refine ⟨(R.mem x).1 ⟨i, by omega, e⟩, fun e2 => h1 (hi i p (by omega) (by omega) ?_)⟩
      rw [e, e2]
  · rintro ⟨hx, hne⟩
    obtain ⟨i, hi1, e⟩ := (R.mem x).2 hx
    by_cases h1 : i = n
    · exact ⟨p, hp, by rw [upd_same, ← e, h1]⟩
    · have h2 : i ≠ p := fun e2 => hne (by rw [← e, e2])
      exact ⟨i, by omega, by rw [upd_ne _ _ h2]; exact e⟩

/-- The last one is taken out. -/
theorem Rep.popped {n : Nat} {h : Nat → Dl} {S : List Dl} (R : Rep (n + 1) h S) (hi : Inj (n + 1) h) : Rep n h (drp (h n).1 S) := by
  refine ⟨drp_sorted R.sorted, fun x => ?_⟩
  rw [mem_drp]
  constructor
  · rintro ⟨i, hi1, e⟩
    refine ⟨(R.mem x).1 ⟨i, by omega, e⟩, fun e2 => ?_⟩
    have := hi i n (by omega) (by omega) (by rw [e, e2])
    omega
  · rintro ⟨hx, hne⟩
    obtain ⟨i, hi1, e⟩ := (R.mem x).2 hx
    have h2 : i ≠ n := fun e2 => hne (by rw [← e, e2])
    exact ⟨i, by omega, e⟩

theorem drp_head {d : Dl} {T : List Dl} (hS : (d :: T).Pairwise Lt) (hids : ∀ x ∈ d :: T, ∀ y ∈ d :: T, x.1 = y.1 → x = y) : drp d.1 (d :: T) = T := by
  obtain ⟨h1, _⟩ := List.pairwise_cons.1 hS
  unfold drp
  rw [List.filter_cons_of_neg (by simp)]
  exact drp_self (fun x hx e => Lt.irrefl d (by
    have := hids x (List.mem_cons_of_mem _ hx) d List.mem_cons_self e
    rw [this] at hx
    exact h1 d hx))

/-- The list's places as a function. -/
def at' (L : List Dl) : Nat → Dl := fun i => L.getD i (0, 0)

theorem at_set {L : List Dl} {p : Nat} (hp : p < L.length) (d : Dl) : at' (L.set p d) = upd (at' L) p d := by
  funext i
  show (L.set p d).getD i (0, 0) = if i = p then d else L.getD i (0, 0)
  rw [List.getD_eq_getElem?_getD, List.getD_eq_getElem?_getD]
  by_cases h : i = p
  · subst h; rw [if_pos rfl, List.getElem?_set_self hp]; rfl
  · rw [if_neg h, List.getElem?_set_ne (Ne.symm h)]

theorem at_get {L : List Dl} {i : Nat} (hi : i < L.length) : L[i]? = some (at' L i) := by
  unfold at'
  rw [List.getD_eq_getElem?_getD, List.getElem?_eq_getElem hi]
  rfl
end Go.Proofs.Ythbjfbalgejndaa.H
