/-
  Two pools that are used beside one another.
-/
import Derived.Test.YtahoileampdnkaaMM
namespace Go.Proofs.Ytahoileampdnkaa
open Go.ChangeShapes Go.WideShapes Go.ChangeAt Go.RowKit Ru N Tri
set_option maxHeartbeats 1000000
set_option maxRecDepth 100000

/-- No block in common. -/
def Off (pb qb : Nat) (vk vt vj vu : Value) : Prop := pb ≠ qb ∧ ∀ k, vk.ownBlock = some k ∨ vt.ownBlock = some k → ¬ (vj.ownBlock = some k ∨ vu.ownBlock = some k)

def Tw (w0 : World) (pb qb sub lo hi : Nat) (ks js ts us : List R) (u : World) : Prop :=
  ∃ vk vt vj vu, Rm w0 pb sub lo hi ks u vk vt ts ∧ Rm w0 qb sub lo hi js u vj vu us ∧ Off pb qb vk vt vj vu

section
variable {w0 u : World} {pb qb sub lo hi : Nat} {ks js ts us : List R}

theorem Tw.swap (h : Tw w0 pb qb sub lo hi ks js ts us u) : Tw w0 qb pb sub lo hi js ks us ts u := by
  obtain ⟨vk, vt, vj, vu, h1, h2, h3, h4⟩ := h
  exact ⟨vj, vu, vk, vt, h2, h1, h3.symm, fun k hk hk' => h4 k hk' hk⟩

theorem Tw.be (h : Tw w0 pb qb sub lo hi ks js ts us u) : Below w0.heap.size w0 u := by
  obtain ⟨vk, vt, vj, vu, h1, h2, h3⟩ := h; exact h1.be

theorem Tw.below {u' : World} (h : Tw w0 pb qb sub lo hi ks js ts us u) (hb : Below u.heap.size u u') : Tw w0 pb qb sub lo hi ks js ts us u' := by
  obtain ⟨vk, vt, vj, vu, h1, h2, h3⟩ := h
  exact ⟨vk, vt, vj, vu, h1.below hb, h2.below hb, h3⟩

theorem Tw.facts (h : Tw w0 pb qb sub lo hi ks js ts us u) : Runs ts ∧ Runs us ∧ hi < 4294967296 ∧ lo ≤ hi := by
  obtain ⟨vk, vt, vj, vu, h1, h2, h3⟩ := h
  exact ⟨h1.pool.rt, h2.pool.rt, h1.pool.hh, h1.pool.lh⟩

theorem Tw.turned {u' : World} {vk vt vj vu vt' : Value} {ts' : List R} (h1 : Rm w0 pb sub lo hi ks u vk vt ts) (h2 : Rm w0 qb sub lo hi js u vj vu us) (h3 : Off pb qb vk vt vj vu) (ht : Turned pb vk vt sub lo hi ks u u' vt' ts') : Tw w0 pb qb sub lo hi ks js ts' us u' := by
  have hr := h1.turned ht
  refine ⟨vk, vt', vj, vu, hr, ⟨h2.pool.keeps ht.keeps ?_ ?_ ?_, h2.new, h2.kn, h2.tn, hr.be⟩, h3.1, ?_⟩
  · rintro (e | e)
    · exact h3.1 e.symm
    · exact own_ne h1.pool.ot h2.pool.row e rfl
  · rintro k hk (e | e)
    · exact own_ne h2.pool.ok h1.pool.row hk e
    · exact h3.2 k (.inr e) (.inl hk)
  · rintro k hk (e | e)
    · exact own_ne h2.pool.ot h1.pool.row hk e
    · exact h3.2 k (.inr e) (.inr hk)
  · rintro k (hk | hk) hk'
    · exact h3.2 k (.inl hk) hk'
    · rcases ht.new with e | ⟨g, e, hg⟩
      · exact h3.2 k (.inr (e ▸ hk)) hk'
      · rw [hk] at e
        simp at e
        subst e
        rcases hk' with hk' | hk'
        · have := own_lt h2.pool.ok hk'; omega
        · have := own_lt h2.pool.ot hk'; omega

/-- May it be had? -/
def may (sub lo hi : Nat) (ks : List R) (x : Nat) (y : Int) : Prop := alg sub x y = true ∧ ((lo ≤ num sub x ∧ num sub x ≤ hi) ∨ Mem ks (num sub x))

theorem Tw.claim (h : Tw w0 pb qb sub lo hi ks js ts us u) (x : Nat) (y : Int) (hx : x < 4294967296) : Calls Try.prog 12 #[.pointer (some ⟨pb, 0, none⟩), .agg #[.int .u32 (x : Int), .int .i64 y]] u fun e u' =>
    ∃ (c : Int) (ts' : List R), e = .returned (.int .i64 c) ∧ Hid (∀ m, Mem ts' m ↔ Mem ts m ∨ (may sub lo hi ks x y ∧ m = num sub x)) ∧ Hid (Tw w0 pb qb sub lo hi ks js ts' us u') := by
  obtain ⟨vk, vt, vj, vu, h1, h2, h3⟩ := h
  have hb' : ∀ u', Below u.heap.size u u' → Tw w0 pb qb sub lo hi ks js ts us u' := fun u' hb => ⟨vk, vt, vj, vu, h1.below hb, h2.below hb, h3⟩
  refine (claim_any pb sub lo hi x y vk vt ks ts u h1.pool hx).mono ?_
  rintro e u' (⟨k1, he, hb⟩ | ⟨k1, k2, k3, he, hb⟩ | ⟨k1, k2, k3, he, hb⟩ | ⟨k1, k2, k3, he, vt', ts', ht, k4⟩)
  · exact ⟨100, ts, he, fun m => ⟨.inl, fun h => h.elim id fun h => by have := h.1.1; rw [k1] at this; cases this⟩, hb' _ hb⟩
  · exact ⟨101, ts, he, fun m => ⟨.inl, fun h => h.elim id fun h => h.1.2.elim (fun h => absurd h k2) (fun h => absurd h k3)⟩, hb' _ hb⟩
  · exact ⟨102, ts, he, fun m => ⟨.inl, fun h => h.elim id fun h => h.2 ▸ k3⟩, hb' _ hb⟩
  · exact ⟨0, ts', he, fun m => by rw [k4 m]; exact ⟨fun h => h.elim (fun h => .inr ⟨⟨k1, k2⟩, h⟩) .inl, fun h => h.elim .inr fun h => .inl h.2⟩, Tw.turned h1 h2 h3 ht⟩

theorem Tw.free (h : Tw w0 pb qb sub lo hi ks js ts us u) (x : Nat) (y : Int) (hx : x < 4294967296) : Calls Try.prog 15 #[.pointer (some ⟨pb, 0, none⟩), .agg #[.int .u32 (x : Int), .int .i64 y]] u fun e u' =>
    ∃ (c : Int) (ts' : List R), e = .returned (.int .i64 c) ∧ Hid (∀ m, Mem ts' m ↔ Mem ts m ∧ ¬ (alg sub x y = true ∧ m = num sub x)) ∧ Hid (Tw w0 pb qb sub lo hi ks js ts' us u') := by
  obtain ⟨vk, vt, vj, vu, h1, h2, h3⟩ := h
  refine (free_any pb sub lo hi x y vk vt ks ts u h1.pool hx).mono ?_
  rintro e u' (⟨k1, he, hb⟩ | ⟨k1, k2, he, vt', ts', ht, k4⟩)
  · refine ⟨3, ts, he, fun m => ⟨fun h => ⟨h, ?_⟩, fun h => h.1⟩, vk, vt, vj, vu, h1.below hb, h2.below hb, h3⟩
    rintro ⟨e1, e2⟩
    rcases k1 with k1 | k1
    · rw [k1] at e1; cases e1
    · exact k1 (e2 ▸ h)
  · exact ⟨0, ts', he, fun m => by rw [k4 m]; exact ⟨fun h => ⟨h.2, fun h' => h.1 h'.2⟩, fun h => ⟨fun e => h.2 ⟨k1, e⟩, h.1⟩⟩, Tw.turned h1 h2 h3 ht⟩

theorem own_ne_p {w : World} {B b : Nat} {v : Value} {rs : List R} {cs : Array Value} (h : OwnR w B v rs) (hp : w.heap[b]? = some (.cells cs 25 (0, 0))) {k : Nat} (hk : v.ownBlock = some k) : k ≠ b := by
  intro e
  rcases h.2 with ⟨rfl, _⟩ | ⟨g', cap', cur', rfl, _, hgg, _⟩
  · cases hk
  · simp [Value.ownBlock] at hk
    rw [hk, e, hp] at hgg
    simp at hgg

/-- All prefixes stay. -/
def KpP (u u' : World) : Prop := ∀ (b : Nat) (cs : Array Value), u.heap[b]? = some (.cells cs 25 (0, 0)) → u'.heap[b]? = some (.cells cs 25 (0, 0))

theorem KpP.of {u u' : World} (hb : Below u.heap.size u u') : KpP u u' := fun _ _ h => below_keeps hb h (Array.getElem?_eq_some_iff.1 h).1

theorem KpP.turned {u u' : World} {vk vt vt' : Value} {ts' : List R} (h1 : Rm w0 pb sub lo hi ks u vk vt ts) (ht : Turned pb vk vt sub lo hi ks u u' vt' ts') : KpP u u' := fun b cs h => by
  refine (ht.keeps.block b (Array.getElem?_eq_some_iff.1 h).1 ?_).trans h
  rintro (e | e)
  · subst e
    have := h1.pool.row
    rw [h] at this
    simp at this
  · exact own_ne_p h1.pool.ot h e rfl

theorem Tw.take (h : Tw w0 pb qb sub lo hi ks js ts us u) : Calls Try.prog 14 #[.pointer (some ⟨pb, 0, none⟩)] u fun e u' =>
    (∃ (a : Nat) (ts' : List R), e = .returned (.tuple #[.agg #[.int .u32 ((adr sub a : Nat) : Int), .int .i64 (sub : Int)], .int .i64 0]) ∧ Hid (lo ≤ a ∧ a ≤ hi ∧ ¬ Mem ks a ∧ ¬ Mem ts a ∧ (∀ x, lo ≤ x → x < a → Mem ks x ∨ Mem ts x) ∧ ∀ m, Mem ts' m ↔ m = a ∨ Mem ts m) ∧ Hid (Tw w0 pb qb sub lo hi ks js ts' us u') ∧ Hid (KpP u u')) ∨
    (e = .returned (.tuple #[.agg #[.int .u32 0, .int .i64 0], .int .i64 4]) ∧ Hid (∀ x, lo ≤ x → x ≤ hi → Mem ks x ∨ Mem ts x) ∧ Hid (Tw w0 pb qb sub lo hi ks js ts us u') ∧ Hid (KpP u u')) := by
  obtain ⟨vk, vt, vj, vu, h1, h2, h3⟩ := h
  refine (take_any pb sub lo hi vk vt ks ts u h1.pool).mono ?_
  rintro e u' (⟨a, vt', ts', he, k1, k2, k3, k4, k5, ht, k6⟩ | ⟨he, k1, hb⟩)
  · exact .inl ⟨a, ts', he, ⟨k1, k2, k3, k4, k5, k6⟩, Tw.turned h1 h2 h3 ht, KpP.turned h1 ht⟩
  · exact .inr ⟨he, k1, ⟨vk, vt, vj, vu, h1.below hb, h2.below hb, h3⟩, KpP.of hb⟩

theorem Tw.room (h : Tw w0 pb qb sub lo hi ks js ts us u) : Calls Try.prog 13 #[.pointer (some ⟨pb, 0, none⟩)] u fun e u' =>
    e = .returned (.int .i64 ((cnt ks ts lo (hi + 1) : Nat) : Int)) ∧ Hid (Below u.heap.size u u') := by
  obtain ⟨vk, vt, vj, vu, h1, h2, h3⟩ := h
  exact room_any pb sub lo hi vk vt ks ts u h1.pool

theorem Tw.taken (h : Tw w0 pb qb sub lo hi ks js ts us u) : Calls Try.prog 17 #[.pointer (some ⟨pb, 0, none⟩)] u fun e u' =>
    ∃ v, e = .returned v ∧ Hid (Sees u' v (tks sub (els ts)) ∧ Below u.heap.size u u') := by
  obtain ⟨vk, vt, vj, vu, h1, h2, h3⟩ := h
  exact (taken_any pb sub lo hi vk vt ks ts u h1.pool).mono fun e u' ⟨v, h4, h5, h6⟩ => ⟨v, h4, h5.sees, h6⟩

theorem Tw.of {w1 w2 : World} {vk vj : Value} (hb : Below w0.heap.size w0 w1) (h1 : Mk w0 pb sub lo hi w1 vk ks) (h2 : Mk w1 qb sub lo hi w2 vj js) : Tw w0 pb qb sub lo hi ks js [] [] w2 := by
  have hp := (Array.getElem?_eq_some_iff.1 h1.pool.row).1
  refine ⟨vk, _, vj, _, ⟨h1.pool.below h2.be, h1.new, h1.vnew, (fun g hg => by cases hg), hb.trans (h2.be.mono hb.size)⟩, ⟨h2.pool, Nat.le_trans hb.size h2.new, fun g hg => Nat.le_trans hb.size (h2.vnew g hg), (fun g hg => by cases hg), hb.trans (h2.be.mono hb.size)⟩, ?_, ?_⟩
  · have := h2.new
    omega
  · rintro k (hk | hk) (hk' | hk')
    · have := own_lt h1.pool.ok hk
      have := h2.vnew k hk'
      omega
    · cases hk'
    · cases hk
    · cases hk
end

/-- The least that is free. -/
theorem take_same {ks js ts us : List R} {lo a b : Nat} (hm : ∀ m, Mem ks m ∨ Mem ts m ↔ Mem js m ∨ Mem us m)
    (ha1 : lo ≤ a) (ha2 : ¬ Mem ks a) (ha3 : ¬ Mem ts a) (ha4 : ∀ x, lo ≤ x → x < a → Mem ks x ∨ Mem ts x) (hb1 : lo ≤ b) (hb2 : ¬ Mem js b) (hb3 : ¬ Mem us b) (hb4 : ∀ x, lo ≤ x → x < b → Mem js x ∨ Mem us x) : a = b := by
  rcases Nat.lt_trichotomy a b with h | h | h
  · rcases (hm a).2 (hb4 a ha1 h) with h | h
    · exact absurd h ha2
    · exact absurd h ha3
  · exact h
  · rcases (hm b).1 (ha4 b hb1 h) with h | h
    · exact absurd h hb2
    · exact absurd h hb3
end Go.Proofs.Ytahoileampdnkaa
