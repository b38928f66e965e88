import Derived.Test.YthbjfbalgejndaaTL
namespace Go.Proofs.Ythbjfbalgejndaa.H

def setF (items : List Dl) : List Dl := items.foldl setS []

def IdsM (S : List Dl) : Prop := ∀ x ∈ S, ∀ y ∈ S, x.1 = y.1 → x = y

theorem IdsM.ids {S : List Dl} (h : IdsM S) (hs : S.Pairwise Lt) : Ids S := by
  refine List.Pairwise.imp_of_mem ?_ hs
  intro x y hx hy hlt e
  exact hlt.ne (h x hx y hy e)

theorem setS_idsM {S : List Dl} (h : IdsM S) (d : Dl) : IdsM (setS S d) := by
  intro x hx y hy e
  rcases mem_setS.1 hx with rfl | ⟨hx, hxd⟩ <;> rcases mem_setS.1 hy with rfl | ⟨hy, hyd⟩
  · rfl
  · exact absurd e.symm hyd
  · exact absurd e hxd
  · exact h x hx y hy e

theorem drp_len {S : List Dl} (h : Ids S) (i : Int) : S.length ≤ (drp i S).length + 1 := by
  induction S with
  | nil => simp [drp]
  | cons x r ih =>
    obtain ⟨h1, h2⟩ := List.pairwise_cons.1 h
    by_cases hx : x.1 = i
    · have : drp i (x :: r) = r := by
        unfold drp
        rw [List.filter_cons_of_neg (by simp [hx])]
        exact drp_self (fun y hy e => h1 y hy (by rw [hx, e]))
      rw [this]; simp
    · have : drp i (x :: r) = x :: drp i r := by
        unfold drp
        rw [List.filter_cons_of_pos (by simpa using hx)]
      rw [this]
      have := ih h2
      simp only [List.length_cons]
      omega

theorem setS_len {S : List Dl} (h : Ids S) (d : Dl) : S.length ≤ (setS S d).length ∧ (has' S d.1 = false → (setS S d).length = S.length + 1) := by
  unfold setS
  rw [length_ins]
  refine ⟨by have := drp_len h d.1; omega, fun hh => ?_⟩
  rw [drp_self]
  intro x hx e
  have := has'_iff.2 ⟨x, hx, e⟩
  rw [hh] at this; cases this

theorem foldS_facts (items : List Dl) : ∀ S, S.Pairwise Lt → IdsM S → (items.foldl setS S).Pairwise Lt ∧ IdsM (items.foldl setS S) ∧ S.length ≤ (items.foldl setS S).length := by
  induction items with
  | nil => intro S h1 h2; exact ⟨h1, h2, Nat.le_refl _⟩
  | cons d r ih =>
    intro S h1 h2
    obtain ⟨a, b, c⟩ := ih _ (setS_sorted h1) (setS_idsM h2 d)
    exact ⟨a, b, Nat.le_trans (setS_len (h2.ids h1) d).1 c⟩

theorem setF_sorted (items : List Dl) : (setF items).Pairwise Lt := (foldS_facts items [] List.Pairwise.nil (by intro x hx; cases hx)).1
theorem setF_idsM (items : List Dl) : IdsM (setF items) := (foldS_facts items [] List.Pairwise.nil (by intro x hx; cases hx)).2.1

theorem setF_snoc {items : List Dl} {k : Nat} {d : Dl} (h : items[k]? = some d) : setF (items.take (k + 1)) = setS (setF (items.take k)) d := by
  unfold setF
  rw [List.take_add_one, h, List.foldl_append]
  rfl

theorem setF_mono (items : List Dl) (k : Nat) : (setF (items.take k)).length ≤ (setF items).length := by
  have e : setF items = (items.drop k).foldl setS (setF (items.take k)) := by
    unfold setF
    rw [← List.foldl_append, List.take_append_drop]
  rw [e]
  exact (foldS_facts _ _ (setF_sorted _) (setF_idsM _)).2.2

theorem setF_mem (items : List Dl) : ∀ x, x ∈ setF items ↔ x ∈ lastL items := by
  have key : ∀ (r S l : List Dl), (∀ x, x ∈ S ↔ x ∈ l) → ∀ x, x ∈ r.foldl setS S ↔ x ∈ r.foldl upL l := by
    intro r
    induction r with
    | nil => intro S l h x; exact h x
    | cons d r ih =>
      intro S l h
      refine ih _ _ fun x => ?_
      rw [mem_setS, mem_upL, h x]
  exact key items [] [] (fun x => Iff.rfl)

theorem setF_eq (items : List Dl) : setF items = insL (lastL items) :=
  sorted_ext (setF_sorted items) (insL_sorted (lastL_ids items)) (fun x => by rw [setF_mem, mem_insL])

/-- There is room for the next one. -/
theorem setF_room {items : List Dl} {k : Nat} {d : Dl} (h : items[k]? = some d) : has' (setF (items.take k)) d.1 = true ∨ (setF (items.take k)).length < (setF items).length := by
  cases hh : has' (setF (items.take k)) d.1 with
  | true => exact .inl rfl
  | false =>
    right
    have h1 := (setS_len ((setF_idsM (items.take k)).ids (setF_sorted _)) d).2 hh
    have h2 := setF_mono items (k + 1)
    rw [setF_snoc h] at h2
    omega
end Go.Proofs.Ythbjfbalgejndaa.H
namespace Go.Proofs.Ythbjfbalgejndaa
open Go.ChangeShapes Go.WideShapes Go.ChangeAt Go.RowKit Go.Maps H
set_option maxHeartbeats 1000000
set_option maxRecDepth 100000

/-- Two Timers beside one another, made since B. -/
structure Two (B : Nat) (w : World) (b1 m1 : Nat) (g1 : Option Nat) (l1 : Int) (S1 : List Dl) (b2 m2 : Nat) (g2 : Option Nat) (l2 : Int) (S2 : List Dl) : Prop where
  one : Tm w b1 m1 g1 l1 S1
  two : Tm w b2 m2 g2 l2 S2
  dis : ∀ x ∈ fp b1 m1 g1, x ∉ fp b2 m2 g2
  n1 : ∀ x ∈ fp b1 m1 g1, B ≤ x
  n2 : ∀ x ∈ fp b2 m2 g2, B ≤ x

theorem Two.swap {B : Nat} {w : World} {b1 m1 : Nat} {g1 : Option Nat} {l1 : Int} {S1 : List Dl} {b2 m2 : Nat} {g2 : Option Nat} {l2 : Int} {S2 : List Dl} (h : Two B w b1 m1 g1 l1 S1 b2 m2 g2 l2 S2) : Two B w b2 m2 g2 l2 S2 b1 m1 g1 l1 S1 :=
  ⟨h.two, h.one, fun x hx hy => h.dis x hy hx, h.n2, h.n1⟩

theorem Two.below {B : Nat} {w w' : World} {b1 m1 : Nat} {g1 : Option Nat} {l1 : Int} {S1 : List Dl} {b2 m2 : Nat} {g2 : Option Nat} {l2 : Int} {S2 : List Dl} (h : Two B w b1 m1 g1 l1 S1 b2 m2 g2 l2 S2) (hb : Below w.heap.size w w') : Two B w' b1 m1 g1 l1 S1 b2 m2 g2 l2 S2 :=
  ⟨h.one.below hb, h.two.below hb, h.dis, h.n1, h.n2⟩

theorem Two.step {B : Nat} {w w' : World} {b1 m1 : Nat} {g1 g1' : Option Nat} {l1 : Int} {S1 S1' : List Dl} {b2 m2 : Nat} {g2 : Option Nat} {l2 : Int} {S2 : List Dl} (h : Two B w b1 m1 g1 l1 S1 b2 m2 g2 l2 S2) (hB : B ≤ w.heap.size) (hT : Tm w' b1 m1 g1' l1 S1') (hg : ∀ x ∈ g1'.toList, x ∈ g1.toList ∨ w.heap.size ≤ x) (hf : Fr (fp b1 m1 g1) w w') :
    Two B w' b1 m1 g1' l1 S1' b2 m2 g2 l2 S2 ∧ Below B w w' := by
  refine ⟨⟨hT, h.two.fr hf (fun x hx hy => h.dis x hy hx), fun x hx hy => ?_, fp_go h.n1 hB hg, h.n2⟩, hf.below h.n1 hB⟩
  simp only [fp, List.mem_cons] at hx
  rcases hx with rfl | rfl | hx
  · exact h.dis _ (by simp [fp]) hy
  · exact h.dis _ (by simp [fp]) hy
  · rcases hg x hx with h1 | h1
    · exact h.dis x (by simp only [fp, List.mem_cons]; exact .inr (.inr h1)) hy
    · have := h.two.lt x hy; omega

theorem Two.set1 {B : Nat} {w : World} {b1 m1 : Nat} {g1 : Option Nat} {l1 : Int} {S1 : List Dl} {b2 m2 : Nat} {g2 : Option Nat} {l2 : Int} {S2 : List Dl} (h : Two B w b1 m1 g1 l1 S1 b2 m2 g2 l2 S2) (hB : B ≤ w.heap.size) (i a : Int) (hi : In64 i) (ha : In64 a) :
    Calls Try.prog 13 #[.pointer (some ⟨b1, 0, none⟩), .int .i64 i, .int .i64 a] w fun e w' => ∃ g, e = .returned (.int .i64 (setE S1 l1 i)) ∧ Two B w' b1 m1 g l1 (setR S1 l1 (i, a)) b2 m2 g2 l2 S2 ∧ Below B w w' := by
  refine (set_any b1 m1 g1 l1 S1 i a w h.one hi ha).mono ?_
  rintro e w' ⟨g, he, hT, hg, hf⟩
  obtain ⟨h1, h2⟩ := h.step hB hT hg hf
  exact ⟨g, he, h1, h2⟩

theorem Two.drop1 {B : Nat} {w : World} {b1 m1 : Nat} {g1 : Option Nat} {l1 : Int} {S1 : List Dl} {b2 m2 : Nat} {g2 : Option Nat} {l2 : Int} {S2 : List Dl} (h : Two B w b1 m1 g1 l1 S1 b2 m2 g2 l2 S2) (hB : B ≤ w.heap.size) (i : Int) (hi : In64 i) :
    Calls Try.prog 21 #[.pointer (some ⟨b1, 0, none⟩), .int .i64 i] w fun e w' => e = .returned (.int .i64 (if hasS S1 i then 0 else 3)) ∧ Two B w' b1 m1 g1 l1 (drp i S1) b2 m2 g2 l2 S2 ∧ Below B w w' ∧ Fr (fp b1 m1 g1) w w' := by
  refine (drop_any b1 m1 g1 l1 S1 i w h.one hi).mono ?_
  rintro e w' ⟨he, hT, hf⟩
  obtain ⟨h1, h2⟩ := h.step hB hT (fun x hx => .inl hx) hf
  exact ⟨he, h1, h2, hf⟩

theorem Two.due1 {B : Nat} {w : World} {b1 m1 : Nat} {g1 : Option Nat} {l1 : Int} {S1 : List Dl} {b2 m2 : Nat} {g2 : Option Nat} {l2 : Int} {S2 : List Dl} (h : Two B w b1 m1 g1 l1 S1 b2 m2 g2 l2 S2) (hB : B ≤ w.heap.size) (now : Int) (hn : In64 now) :
    Calls Try.prog 15 #[.pointer (some ⟨b1, 0, none⟩), .int .i64 now] w fun e w' => ∃ v, e = .returned v ∧ OwnI w' w.heap.size v ((dueT S1 now).map (·.1)) ∧ Two B w' b1 m1 g1 l1 (dueR S1 now) b2 m2 g2 l2 S2 ∧ Below B w w' ∧ Fr (fp b1 m1 g1) w w' := by
  refine (due_any b1 m1 g1 l1 S1 now w h.one hn).mono ?_
  rintro e w' ⟨v, he, ho, hT, hf⟩
  obtain ⟨h1, h2⟩ := h.step hB hT (fun x hx => .inl hx) hf
  exact ⟨v, he, ho, h1, h2, hf⟩

/-- The second one made beside the first. -/
theorem Two.made {B : Nat} {w w' : World} {b1 m1 : Nat} {g1 : Option Nat} {l1 : Int} {S1 : List Dl} {b2 m2 : Nat} {l2 : Int} (h1 : Tm w b1 m1 g1 l1 S1) (hn1 : ∀ x ∈ fp b1 m1 g1, B ≤ x) (h2 : Tm w' b2 m2 none l2 []) (hb : w.heap.size ≤ b2) (hm : w.heap.size ≤ m2) (hB : B ≤ w.heap.size) (hbw : Below w.heap.size w w') : Two B w' b1 m1 g1 l1 S1 b2 m2 none l2 [] := by
  refine ⟨h1.below hbw, h2, fun x hx hy => ?_, hn1, fun x hx => ?_⟩
  · have := h1.lt x hx
    simp [fp] at hy
    rcases hy with rfl | rfl <;> omega
  · simp [fp] at hx
    rcases hx with rfl | rfl <;> omega

theorem dueT_take (S : List Dl) (now : Int) : dueT S now = S.take (dueT S now).length ∧ dueR S now = S.drop (dueT S now).length := by
  unfold dueT dueR
  have h := List.takeWhile_append_dropWhile (p := fun x : Dl => decide (x.2 ≤ now)) (l := S)
  constructor
  · conv => rhs; rw [← h]
    rw [List.take_left' (by rw [h])]
  · conv => rhs; rw [← h]
    rw [List.drop_left' (by rw [h])]

theorem due_all {S : List Dl} {now : Int} (h : ∀ x ∈ S, x.2 ≤ now) : dueT S now = S ∧ dueR S now = [] := by
  have := due_at (S := S) (now := now) (k := S.length) (by rw [List.take_length]; exact h) (by rw [List.drop_length]; intro x hx; cases hx)
  rwa [List.take_length, List.drop_length] at this

theorem dueT_mem {now : Int} {x : Dl} : ∀ {S : List Dl}, x ∈ dueT S now → x.2 ≤ now
  | [], h => by cases h
  | y :: S, h => by
    unfold dueT at h
    rw [List.takeWhile_cons] at h
    split at h
    · rename_i hy
      rcases List.mem_cons.1 h with rfl | h
      · simpa using hy
      · exact dueT_mem (S := S) h
    · cases h

/-- Which of a sorted list are due. -/
theorem due_lt {S : List Dl} (hS : S.Pairwise Lt) {now : Int} {i : Nat} {d : Dl} (h : S[i]? = some d) : i < (dueT S now).length ↔ d.2 ≤ now := by
  obtain ⟨e1, e2⟩ := dueT_take S now
  have hi := (List.getElem?_eq_some_iff.1 h).1
  constructor
  · intro hlt
    have hm : d ∈ dueT S now := by
      rw [e1]
      exact List.mem_iff_getElem?.2 ⟨i, by rw [List.getElem?_take_of_lt hlt]; exact h⟩
    exact dueT_mem hm
  · intro hle
    rcases Nat.lt_or_ge i (dueT S now).length with hlt | hge
    · exact hlt
    · exfalso
      obtain ⟨k, hk⟩ : ∃ k, k = (dueT S now).length := ⟨_, rfl⟩
      rw [← hk] at hge e2
      have hkS : k < S.length := by omega
      have hhead : (dueR S now).head? = some S[k] := by rw [e2, List.head?_drop, List.getElem?_eq_getElem hkS]
      have hno : ¬ S[k].2 ≤ now := by
        unfold dueR at hhead
        have := List.head?_dropWhile_not (fun x : Dl => decide (x.2 ≤ now)) S
        rw [hhead] at this
        simpa using this
      rcases Nat.eq_or_lt_of_le hge with he | hlt
      · subst he
        have : S[k] = d := by rw [List.getElem?_eq_getElem hkS] at h; exact Option.some.inj h
        rw [this] at hno
        exact hno hle
      · have h1 := List.pairwise_iff_getElem.1 hS k i hkS hi hlt
        have h2 : S[i] = d := by rw [List.getElem?_eq_getElem hi] at h; exact Option.some.inj h
        rw [h2] at h1
        unfold Lt at h1
        omega
end Go.Proofs.Ythbjfbalgejndaa
