import Derived.Test.YtkkfioebpppffaaGreatDoorYFlV
namespace Go.Proofs.YtkkfioebpppffaaGreatDoor.Fl
open Go.Proofs.YtkkfioebpppffaaGreatDoor Go.ChangeShapes Go.WideShapes Go.ChangeAt Go.RowKit Go.Maps N
set_option maxHeartbeats 2000000
set_option maxRecDepth 100000

/-- What the maps hold: the flows by their numbers, rising. -/
structure InvM (q : Raw) (L : List (Int × Fw)) : Prop where
  srt : L.Pairwise (fun a b => a.1 < b.1)
  pos : ∀ p ∈ L, 1 ≤ p.1 ∧ p.1 ≤ q.last
  gk : ∀ k f, q.g k = some f ↔ (k, f) ∈ L
  fk : ∀ t k, q.f t = some k ↔ ∃ f, (k, f) ∈ L ∧ (t = f.th ∨ t = f.bk)
  cg : q.cg = L.length
  cf : q.cf = 2 * L.length
  ok : ∀ p ∈ L, p.2.th.Ok ∧ p.2.bk.Ok ∧ 1 ≤ p.2.st ∧ p.2.st < 10 ∧ Tm.In64 p.2.til ∧ p.2.bk.p = p.2.th.p ∧ p.2.bk ≠ p.2.th
/-- What the timers hold. -/
structure InvS (S : List Tm.H.Dl) (L : List (Int × Fw)) : Prop where
  sm : ∀ d, d ∈ S ↔ ∃ p ∈ L, d = (p.1, p.2.til)
  so : S.Pairwise Tm.H.Lt
structure Inv (lim : Int) (q : Raw) (L : List (Int × Fw)) : Prop where
  m : InvM q L
  s : InvS q.S L
  lm : (L.length : Int) ≤ lim
  l0 : 0 ≤ q.last

section
variable {q : Raw} {L : List (Int × Fw)} {lim : Int}
theorem InvM.uniq (h : InvM q L) {k : Int} {f g : Fw} (h1 : (k, f) ∈ L) (h2 : (k, g) ∈ L) : f = g := by
  have e1 := (h.gk k f).2 h1
  rw [(h.gk k g).2 h2] at e1
  injection e1 with e
  exact e.symm
theorem InvM.apart (h : InvM q L) {k j : Int} {f g : Fw} {t : Tu} (h1 : (k, f) ∈ L) (h2 : (j, g) ∈ L) (e1 : t = f.th ∨ t = f.bk) (e2 : t = g.th ∨ t = g.bk) : k = j ∧ f = g := by
  have a1 := (h.fk t k).2 ⟨f, h1, e1⟩
  have a2 := (h.fk t j).2 ⟨g, h2, e2⟩
  rw [a1] at a2
  injection a2 with e
  subst e
  exact ⟨rfl, h.uniq h1 h2⟩
theorem nodup_of (h : L.Pairwise (fun a b => a.1 < b.1)) : (L.map fun p => (p.1, p.2.til)).Nodup := by
  refine List.pairwise_map.2 (h.imp fun {a b} hab e => ?_)
  have := congrArg Prod.fst e
  simp only at this
  omega
theorem InvS.len {S : List Tm.H.Dl} (h : InvS S L) (hs : L.Pairwise (fun a b => a.1 < b.1)) : S.length = L.length := by
  have h1 := Tm.H.nodup_len S (L.map fun p => (p.1, p.2.til)) (Tm.H.sorted_nodup h.so) fun x hx => by
    obtain ⟨p, hp, rfl⟩ := (h.sm x).1 hx
    exact List.mem_map.2 ⟨p, hp, rfl⟩
  have h2 := Tm.H.nodup_len (L.map fun p => (p.1, p.2.til)) S (nodup_of hs) fun x hx => by
    obtain ⟨p, hp, rfl⟩ := List.mem_map.1 hx
    exact (h.sm _).2 ⟨p, hp, rfl⟩
  rw [List.length_map] at h1 h2
  omega
theorem inv_nil (h : 1 ≤ lim) : Inv lim q0 [] :=
  ⟨⟨List.Pairwise.nil, fun p hp => by simp at hp, fun k f => by simp [q0], fun t k => by simp [q0], rfl, rfl, fun p hp => by simp at hp⟩, ⟨fun d => by simp [q0], List.Pairwise.nil⟩, by simp; omega, by simp [q0]⟩

/-- The flow as it is entered. -/
def opF (th bk : Tu) (c : Ct) (now : Int) : Fw := kpF ⟨th, bk, (fst0 c).1, 0⟩ now
theorem fst0_pos (c : Ct) : 1 ≤ (fst0 c).1 := by cases c <;> simp [fst0]

theorem opnE_zero {th bk : Tu} {h : Hd} {B : List Nat} (e : opnE lim q th bk h B = 0) : ∃ c, rdC h B = some c ∧ tupC h c = th ∧ (fst0 c).2 = true ∧ bk.p = th.p ∧ bk ≠ th ∧ q.f th = none ∧ q.f bk = none ∧ (q.cg : Int) ≠ lim := by
  unfold opnE at e
  cases hc : rdC h B with
  | none => rw [hc] at e; simp at e
  | some c =>
    rw [hc] at e
    simp only at e
    by_cases h1 : tupC h c ≠ th
    · rw [if_pos h1] at e; simp at e
    rw [if_neg h1] at e
    by_cases h2 : (fst0 c).2 = false ∨ bk.p ≠ th.p ∨ bk = th
    · rw [if_pos h2] at e; simp at e
    rw [if_neg h2] at e
    by_cases h3 : (q.f th).isSome ∨ (q.f bk).isSome
    · rw [if_pos h3] at e; simp at e
    rw [if_neg h3] at e
    by_cases h4 : (q.cg : Int) = lim
    · rw [if_pos h4] at e; simp at e
    refine ⟨c, rfl, by simpa using h1, ?_, ?_, ?_, ?_, ?_, h4⟩
    · cases hb : (fst0 c).2 with
      | true => rfl
      | false => exact absurd (.inl hb) h2
    · exact Decidable.byContradiction fun e => h2 (.inr (.inl e))
    · exact fun e => h2 (.inr (.inr e))
    · cases hf : q.f th with
      | none => rfl
      | some x => exact absurd (.inl (by rw [hf]; rfl)) h3
    · cases hf : q.f bk with
      | none => rfl
      | some x => exact absurd (.inr (by rw [hf]; rfl)) h3

theorem opn_eq {th bk : Tu} {h : Hd} {B : List Nat} {now : Int} {c : Ct} (e : opnE lim q th bk h B = 0) (hc : rdC h B = some c) : opnR lim q th bk h B now = keepQ lim (numQ (numQ { q with last := q.last + 1 } th) bk) (q.last + 1) (opF th bk c now) := by
  unfold opnR opnQ
  rw [if_pos e, hc]
  rfl

theorem inv_open {th bk : Tu} {h : Hd} {B : List Nat} {now : Int} {c : Ct} (I : Inv lim q L) (e : opnE lim q th bk h B = 0) (hc : rdC h B = some c) (hth : th.Ok) (hbk : bk.Ok) (hnow : Tm.In64 now) :
    Inv lim (opnR lim q th bk h B now) (L ++ [(q.last + 1, opF th bk c now)]) ∧ (opnR lim q th bk h B now).last = q.last + 1 := by
  obtain ⟨c', hc', h1, h2, h3, h4, h5, h6, h7⟩ := opnE_zero e
  rw [hc] at hc'
  injection hc' with hcc
  subst hcc
  rw [opn_eq e hc]
  have hfresh : ∀ f, (q.last + 1, f) ∉ L := fun f hf => by have := (I.m.pos _ hf).2; simp only at this; omega
  have hg : q.g (q.last + 1) = none := by
    cases hx : q.g (q.last + 1) with
    | none => rfl
    | some f => exact absurd ((I.m.gk _ _).1 hx) (hfresh f)
  have hcg := I.m.cg
  have hlt : (L.length : Int) < lim := by have := I.lm; omega
  have hsl := I.s.len I.m.srt
  refine ⟨⟨⟨?_, ?_, ?_, ?_, ?_, ?_, ?_⟩, ⟨?_, ?_⟩, ?_, ?_⟩, rfl⟩
  · rw [List.pairwise_append]
    refine ⟨I.m.srt, List.pairwise_singleton _ _, fun a ha b hb => ?_⟩
    rw [List.mem_singleton] at hb
    subst hb
    have := (I.m.pos a ha).2
    simp only
    omega
  · intro p hp
    have hl0 := I.l0
    show 1 ≤ p.1 ∧ p.1 ≤ q.last + 1
    rcases List.mem_append.1 hp with hp | hp
    · have := I.m.pos p hp; omega
    · rw [List.mem_singleton] at hp
      subst hp
      simp only
      omega
  · intro k f
    show upG q.g (q.last + 1) (opF th bk c now) k = some f ↔ _
    unfold upG
    by_cases hk : k = q.last + 1
    · subst hk
      rw [if_pos rfl, List.mem_append, List.mem_singleton]
      constructor
      · intro e2; injection e2 with e2; exact .inr (by rw [e2])
      · rintro (hf | hf)
        · exact absurd hf (hfresh f)
        · injection hf with _ e3; rw [e3]
    · rw [if_neg hk, I.m.gk, List.mem_append, List.mem_singleton]
      constructor
      · exact .inl
      · rintro (hf | hf)
        · exact hf
        · injection hf with e2 _; exact absurd e2 hk
  · intro t k
    show upN (upN q.f th (q.last + 1)) bk (q.last + 1) t = some k ↔ _
    unfold upN
    have hiff : (∃ f, (k, f) ∈ L ++ [(q.last + 1, opF th bk c now)] ∧ (t = f.th ∨ t = f.bk)) ↔ ((∃ f, (k, f) ∈ L ∧ (t = f.th ∨ t = f.bk)) ∨ (k = q.last + 1 ∧ (t = th ∨ t = bk))) := by
      constructor
      · rintro ⟨f, hf, ht⟩
        rcases List.mem_append.1 hf with hf | hf
        · exact .inl ⟨f, hf, ht⟩
        · rw [List.mem_singleton] at hf
          injection hf with e2 e3
          subst e3
          exact .inr ⟨e2, ht⟩
      · rintro (⟨f, hf, ht⟩ | ⟨rfl, ht⟩)
        · exact ⟨f, List.mem_append_left _ hf, ht⟩
        · exact ⟨_, List.mem_append_right _ (List.mem_singleton.2 rfl), ht⟩
    rw [hiff, ← I.m.fk]
    by_cases ht : t = bk
    · subst ht
      rw [if_pos rfl, h6]
      simp [eq_comm]
    · rw [if_neg ht]
      by_cases ht2 : t = th
      · subst ht2
        rw [if_pos rfl, h5]
        simp [eq_comm]
      · rw [if_neg ht2]
        simp [ht, ht2]
  · show (if (q.g (q.last + 1)).isSome then _ else q.cg + 1) = _
    rw [hg, List.length_append]
    simp [hcg]
  · have e1 : (upN q.f th (q.last + 1) bk).isSome = false := by unfold upN; rw [if_neg h4, h6]; rfl
    show (if (upN q.f th (q.last + 1) bk).isSome then _ else (if (q.f th).isSome then q.cf else q.cf + 1) + 1) = _
    rw [e1, h5, List.length_append]
    have := I.m.cf
    simp
    omega
  · intro p hp
    rcases List.mem_append.1 hp with hp | hp
    · exact I.m.ok p hp
    · rw [List.mem_singleton] at hp
      subst hp
      obtain ⟨s1, s2⟩ := spanF_in (fst0 c).1 th.p
      have hs64 : Tm.In64 (spanF (fst0 c).1 th.p) := ⟨by omega, by omega⟩
      exact ⟨hth, hbk, fst0_pos c, fst0_lt c, aft_in hnow hs64, h3, h4⟩
  · intro d
    show d ∈ Tm.setR q.S lim (q.last + 1, (opF th bk c now).til) ↔ _
    unfold Tm.setR
    rw [if_pos (.inr (by rw [hsl]; exact hlt)), Tm.H.mem_setS, I.s.sm]
    constructor
    · rintro (rfl | ⟨⟨p, hp, rfl⟩, _⟩)
      · exact ⟨_, List.mem_append_right _ (List.mem_singleton.2 rfl), rfl⟩
      · exact ⟨p, List.mem_append_left _ hp, rfl⟩
    · rintro ⟨p, hp, rfl⟩
      rcases List.mem_append.1 hp with hp | hp
      · refine .inr ⟨⟨p, hp, rfl⟩, fun e2 => ?_⟩
        have := (I.m.pos p hp).2
        simp only at e2
        omega
      · rw [List.mem_singleton] at hp
        subst hp
        exact .inl rfl
  · show (Tm.setR q.S lim (q.last + 1, (opF th bk c now).til)).Pairwise Tm.H.Lt
    unfold Tm.setR
    rw [if_pos (.inr (by rw [hsl]; exact hlt))]
    exact Tm.H.setS_sorted I.s.so
  · rw [List.length_append]
    simp only [List.length_cons, List.length_nil]
    omega
  · have := I.l0
    show 0 ≤ q.last + 1
    omega

/-- A flow of the table stands otherwise. -/
def chL (L : List (Int × Fw)) (k : Int) (g : Fw) : List (Int × Fw) := L.map fun p => if p.1 = k then (k, g) else p
theorem mem_ch {k : Int} {f g : Fw} (hk : (k, f) ∈ L) {p : Int × Fw} : p ∈ chL L k g ↔ p = (k, g) ∨ (p ∈ L ∧ p.1 ≠ k) := by
  unfold chL
  rw [List.mem_map]
  constructor
  · rintro ⟨x, hx, rfl⟩
    by_cases e : x.1 = k
    · rw [if_pos e]; exact .inl rfl
    · rw [if_neg e]; exact .inr ⟨hx, e⟩
  · rintro (rfl | ⟨hp, e⟩)
    · exact ⟨(k, f), hk, by simp⟩
    · exact ⟨p, hp, by rw [if_neg e]⟩
theorem inv_keep {k : Int} {f g : Fw} (I : Inv lim q L) (hk : (k, f) ∈ L) (e1 : g.th = f.th) (e2 : g.bk = f.bk) (s1 : 1 ≤ g.st) (s2 : g.st < 10) (ht : Tm.In64 g.til) : Inv lim (keepQ lim q k g) (chL L k g) := by
  have hm := fun p => mem_ch (g := g) hk (p := p)
  have hgk := (I.m.gk k f).2 hk
  have hS : Tm.hasS q.S k = true ∨ (q.S.length : Int) < lim := .inl (by
    have : (k, f.til) ∈ q.S := (I.s.sm _).2 ⟨_, hk, rfl⟩
    simp only [Tm.hasS, List.any_eq_true]
    exact ⟨_, this, by simp⟩)
  refine ⟨⟨?_, ?_, ?_, ?_, ?_, ?_, ?_⟩, ⟨?_, ?_⟩, ?_, I.l0⟩
  · unfold chL
    rw [List.pairwise_map]
    refine I.m.srt.imp fun {a b} hab => ?_
    split <;> split <;> simp_all
  · intro p hp
    show 1 ≤ p.1 ∧ p.1 ≤ q.last
    rcases (hm p).1 hp with rfl | ⟨hp, _⟩
    · exact I.m.pos (k, f) hk
    · exact I.m.pos _ hp
  · intro j x
    show upG q.g k g j = some x ↔ _
    rw [hm]
    unfold upG
    by_cases hj : j = k
    · subst hj
      rw [if_pos rfl]
      simp [eq_comm]
    · rw [if_neg hj, I.m.gk]
      simp [hj]
  · intro t j
    show q.f t = some j ↔ _
    rw [I.m.fk]
    constructor
    · rintro ⟨x, hx, hxt⟩
      by_cases hj : j = k
      · subst hj
        obtain rfl := I.m.uniq hx hk
        exact ⟨g, (hm _).2 (.inl rfl), by rw [e1, e2]; exact hxt⟩
      · exact ⟨x, (hm _).2 (.inr ⟨hx, hj⟩), hxt⟩
    · rintro ⟨x, hx, hxt⟩
      rcases (hm _).1 hx with e | ⟨hx, _⟩
      · injection e with a1 a2
        subst a1 a2
        exact ⟨f, hk, by rw [← e1, ← e2]; exact hxt⟩
      · exact ⟨x, hx, hxt⟩
  · show (if (q.g k).isSome then q.cg else q.cg + 1) = _
    rw [hgk]
    simp [chL, I.m.cg]
  · show q.cf = _
    simp [chL, I.m.cf]
  · intro p hp
    rcases (hm p).1 hp with rfl | ⟨hp, _⟩
    · obtain ⟨o1, o2, _, _, _, o6, o7⟩ := I.m.ok _ hk
      simp only at o1 o2 o6 o7 ⊢
      rw [e1, e2]
      exact ⟨o1, o2, s1, s2, ht, o6, o7⟩
    · exact I.m.ok _ hp
  · intro d
    show d ∈ Tm.setR q.S lim (k, g.til) ↔ _
    unfold Tm.setR
    rw [if_pos hS, Tm.H.mem_setS, I.s.sm]
    constructor
    · rintro (rfl | ⟨⟨p, hp, rfl⟩, hne⟩)
      · exact ⟨_, (hm _).2 (.inl rfl), rfl⟩
      · exact ⟨p, (hm _).2 (.inr ⟨hp, hne⟩), rfl⟩
    · rintro ⟨p, hp, rfl⟩
      rcases (hm p).1 hp with rfl | ⟨hp, hne⟩
      · exact .inl rfl
      · exact .inr ⟨⟨p, hp, rfl⟩, hne⟩
  · show (Tm.setR q.S lim (k, g.til)).Pairwise Tm.H.Lt
    unfold Tm.setR
    rw [if_pos hS]
    exact Tm.H.setS_sorted I.s.so
  · simp only [chL, List.length_map]
    exact I.lm

/-! ### what is taken out -/
def delQ (q : Raw) (k : Int) (f : Fw) : Raw :=
  { q with g := fun y => if y = k then none else q.g y, cg := if (q.g k).isSome then q.cg - 1 else q.cg,
           f := fun y => if y = f.bk then none else if y = f.th then none else q.f y,
           cf := if ((fun y => if y = f.th then none else q.f y) f.bk : Option Int).isSome then (if (q.f f.th).isSome then q.cf - 1 else q.cf) - 1 else if (q.f f.th).isSome then q.cf - 1 else q.cf }
theorem fil_one {k : Int} {f : Fw} (hs : L.Pairwise (fun a b => a.1 < b.1)) (hk : (k, f) ∈ L) : (L.filter fun p => decide (p.1 ≠ k)).length + 1 = L.length := by
  obtain ⟨A, B, rfl⟩ := List.append_of_mem hk
  rw [List.pairwise_append, List.pairwise_cons] at hs
  obtain ⟨_, ⟨h1, _⟩, h3⟩ := hs
  have e1 : A.filter (fun p => decide (p.1 ≠ k)) = A := List.filter_eq_self.2 fun p hp => by
    have := h3 p hp (k, f) List.mem_cons_self
    simp only at this
    simp; omega
  have e2 : B.filter (fun p => decide (p.1 ≠ k)) = B := List.filter_eq_self.2 fun p hp => by
    have := h1 p hp
    simp only at this
    simp; omega
  rw [List.filter_append, List.filter_cons, e1, e2]
  simp
  omega
theorem inv_del {k : Int} {f : Fw} (h : InvM q L) (hk : (k, f) ∈ L) : InvM (delQ q k f) (L.filter fun p => decide (p.1 ≠ k)) := by
  have hl := fil_one h.srt hk
  have hgk := (h.gk k f).2 hk
  obtain ⟨o1, o2, _, _, _, o6, o7⟩ := h.ok _ hk
  simp only at o7
  refine ⟨h.srt.filter _, fun p hp => h.pos p (List.mem_filter.1 hp).1, fun j x => ?_, fun t j => ?_, ?_, ?_, fun p hp => h.ok p (List.mem_filter.1 hp).1⟩
  · show (if j = k then none else q.g j) = some x ↔ _
    rw [List.mem_filter]
    by_cases hj : j = k
    · rw [if_pos hj]; simp [hj]
    · rw [if_neg hj, h.gk]; simp [hj]
  · show (if t = f.bk then none else if t = f.th then none else q.f t) = some j ↔ _
    by_cases h1 : t = f.bk
    · rw [if_pos h1]
      constructor
      · intro e; cases e
      · rintro ⟨x, hx, ht⟩
        obtain ⟨hx, hne⟩ := List.mem_filter.1 hx
        have := (h.apart hx hk ht (.inr h1)).1
        simp [this] at hne
    · rw [if_neg h1]
      by_cases h2 : t = f.th
      · rw [if_pos h2]
        constructor
        · intro e; cases e
        · rintro ⟨x, hx, ht⟩
          obtain ⟨hx, hne⟩ := List.mem_filter.1 hx
          have := (h.apart hx hk ht (.inl h2)).1
          simp [this] at hne
      · rw [if_neg h2, h.fk]
        constructor
        · rintro ⟨x, hx, ht⟩
          refine ⟨x, List.mem_filter.2 ⟨hx, ?_⟩, ht⟩
          simp only [decide_eq_true_eq]
          intro e
          subst e
          obtain rfl := h.uniq hx hk
          rcases ht with ht | ht
          · exact h2 ht
          · exact h1 ht
        · rintro ⟨x, hx, ht⟩
          exact ⟨x, (List.mem_filter.1 hx).1, ht⟩
  · show (if (q.g k).isSome then q.cg - 1 else q.cg) = _
    rw [hgk, h.cg]
    simp only [Option.isSome_some, if_true]
    omega
  · have e1 : q.f f.th = some k := (h.fk _ _).2 ⟨f, hk, .inl rfl⟩
    have e2 : q.f f.bk = some k := (h.fk _ _).2 ⟨f, hk, .inr rfl⟩
    show (if (if f.bk = f.th then none else q.f f.bk : Option Int).isSome then (if (q.f f.th).isSome then q.cf - 1 else q.cf) - 1 else if (q.f f.th).isSome then q.cf - 1 else q.cf) = _
    rw [if_neg o7, e2, e1, h.cf]
    simp only [Option.isSome_some, if_true]
    omega

theorem due_fil {S : List Tm.H.Dl} (h : S.Pairwise Tm.H.Lt) (now : Int) : Tm.dueT S now = S.filter (fun x => decide (x.2 ≤ now)) ∧ Tm.dueR S now = S.filter (fun x => decide (¬ x.2 ≤ now)) := by
  unfold Tm.dueT Tm.dueR
  induction S with
  | nil => exact ⟨rfl, rfl⟩
  | cons x S ih =>
    obtain ⟨h1, h2⟩ := List.pairwise_cons.1 h
    obtain ⟨i1, i2⟩ := ih h2
    by_cases hx : x.2 ≤ now
    · rw [List.takeWhile_cons_of_pos (by simpa using hx), List.dropWhile_cons_of_pos (by simpa using hx), List.filter_cons_of_pos (by simpa using hx), List.filter_cons_of_neg (by simpa using hx), i1, i2]
      exact ⟨rfl, rfl⟩
    · have hall : ∀ y ∈ S, ¬ y.2 ≤ now := fun y hy => by
        have := h1 y hy
        unfold Tm.H.Lt at this
        omega
      rw [List.takeWhile_cons_of_neg (by simpa using hx), List.dropWhile_cons_of_neg (by simpa using hx), List.filter_cons_of_neg (by simpa using hx), List.filter_cons_of_pos (by simpa using hx)]
      refine ⟨(List.filter_eq_nil_iff.2 fun y hy => by simpa using hall y hy).symm, ?_⟩
      rw [List.filter_eq_self.2 fun y hy => by simpa using hall y hy]
theorem inv_dueS {S : List Tm.H.Dl} (h : InvS S L) (now : Int) : InvS (Tm.dueR S now) (L.filter fun p => decide (¬ p.2.til ≤ now)) := by
  rw [(due_fil h.so now).2]
  refine ⟨fun d => ?_, h.so.filter _⟩
  rw [List.mem_filter, h.sm]
  constructor
  · rintro ⟨⟨p, hp, rfl⟩, hd⟩
    exact ⟨p, List.mem_filter.2 ⟨hp, hd⟩, rfl⟩
  · rintro ⟨p, hp, rfl⟩
    exact ⟨⟨p, (List.mem_filter.1 hp).1, rfl⟩, (List.mem_filter.1 hp).2⟩
/-- The flows whose time is over, in the timers' order. -/
theorem due_perm (I : Inv lim q L) (now : Int) : (((Tm.dueT q.S now).map (·.1)).map fun k => (q.g k).getD zFw).Perm ((L.filter fun p => decide (p.2.til ≤ now)).map (·.2)) := by
  rw [(due_fil I.s.so now).1]
  have h1 : q.S.Perm (L.map fun p => (p.1, p.2.til)) := (List.perm_ext_iff_of_nodup (Tm.H.sorted_nodup I.s.so) (nodup_of I.m.srt)).2 fun d => by
    rw [I.s.sm, List.mem_map]
    constructor
    · rintro ⟨p, hp, rfl⟩; exact ⟨p, hp, rfl⟩
    · rintro ⟨p, hp, rfl⟩; exact ⟨p, hp, rfl⟩
  have h2 := ((h1.filter fun x => decide (x.2 ≤ now)).map (·.1)).map fun k => (q.g k).getD zFw
  refine h2.trans ?_
  rw [List.filter_map, List.map_map, List.map_map]
  have e : (L.filter ((fun x : Int × Int => decide (x.2 ≤ now)) ∘ fun p => (p.1, p.2.til))) = L.filter fun p => decide (p.2.til ≤ now) := rfl
  rw [e]
  refine List.Perm.of_eq (List.map_congr_left fun p hp => ?_)
  show (q.g p.1).getD zFw = p.2
  rw [(I.m.gk p.1 p.2).2 (List.mem_filter.1 hp).1]
  rfl
/-- The numbers that are due are those of such flows. -/
theorem due_num (I : Inv lim q L) (now : Int) {p : Int × Fw} (hp : p ∈ L) : p.1 ∈ (Tm.dueT q.S now).map (·.1) ↔ p.2.til ≤ now := by
  rw [(due_fil I.s.so now).1, List.mem_map]
  constructor
  · rintro ⟨d, hd, e⟩
    obtain ⟨hd, hn⟩ := List.mem_filter.1 hd
    obtain ⟨x, hx, rfl⟩ := (I.s.sm d).1 hd
    simp only at e
    have : x.2 = p.2 := I.m.uniq (k := p.1) (by rw [← e]; exact hx) hp
    rw [← this]
    simpa using hn
  · intro h
    exact ⟨(p.1, p.2.til), List.mem_filter.2 ⟨(I.s.sm _).2 ⟨p, hp, rfl⟩, by simpa using h⟩, rfl⟩
end
end Go.Proofs.YtkkfioebpppffaaGreatDoor.Fl
