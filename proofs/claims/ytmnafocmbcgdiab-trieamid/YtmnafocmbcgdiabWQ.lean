/-
  Eight tries beside one another.
-/
import Derived.Test.YtmnafocmbcgdiabWP
namespace Go.Proofs.Ytmnafocmbcgdiab
open Go.ChangeShapes Go.WideShapes Go.ChangeAt Go.RowKit Tri N
set_option maxHeartbeats 1000000
set_option maxRecDepth 100000

structure Sl where
  tb : Nat
  rb : Nat
  v : Value
  t : Tr
  L : List (K × Int)

def pa : Option Sl → Value
  | none => .pointer none
  | some s => .pointer (some ⟨s.tb, 0, none⟩)

def pb : Option Sl → Value
  | none => .pointer none
  | some s => .pointer (some ⟨s.rb, 0, none⟩)

def rowCells (S : List (Option Sl)) : Array Value := (S.map pa ++ S.map pb).toArray

structure RowAt (w : World) (rr : Nat) (S : List (Option Sl)) (N : Nat) : Prop where
  len : S.length = 8
  row : w.heap[rr]? = some (.cells (rowCells S) 82)
  duo : ∀ (i : Nat) (s : Sl), S[i]? = some (some s) → Duo w s.tb s.rb s.v s.t s.L ∧ s.L.length ≤ N
  sep : ∀ (i j : Nat) (s u : Sl), i ≠ j → S[i]? = some (some s) → S[j]? = some (some u) → s.tb ≠ u.tb ∧ s.rb ≠ u.rb ∧ ∀ b, s.v.ownBlock = some b → u.v.ownBlock ≠ some b

theorem RowAt.below {w w' : World} {rr N : Nat} {S : List (Option Sl)} (h : RowAt w rr S N) (hb : Below w.heap.size w w') : RowAt w' rr S N :=
  ⟨h.len, below_keeps hb h.row (Array.getElem?_eq_some_iff.1 h.row).1, fun i s hi => ⟨(h.duo i s hi).1.below hb, (h.duo i s hi).2⟩, h.sep⟩

theorem RowAt.mono {w : World} {rr N M : Nat} {S : List (Option Sl)} (h : RowAt w rr S N) (hn : N ≤ M) : RowAt w rr S M :=
  ⟨h.len, h.row, fun i s hi => ⟨(h.duo i s hi).1, Nat.le_trans (h.duo i s hi).2 hn⟩, h.sep⟩

theorem RowAt.at {w : World} {rr N : Nat} {S : List (Option Sl)} (h : RowAt w rr S N) {k : Nat} (hk : k < 8) : ∃ o, S[k]? = some o ∧ w.cell? ⟨rr, k, none⟩ = some (pa o) ∧ w.cell? ⟨rr, 8 + k, none⟩ = some (pb o) := by
  have hl := h.len
  obtain ⟨o, ho⟩ : ∃ o, S[k]? = some o := ⟨_, List.getElem?_eq_getElem (by omega)⟩
  refine ⟨o, ho, ?_, ?_⟩
  · rw [cell_of_row _ _ _ _ _ _ h.row]
    unfold rowCells
    rw [List.getElem?_toArray, List.getElem?_append_left (by simp; omega), List.getElem?_map, ho]
    rfl
  · rw [cell_of_row _ _ _ _ _ _ h.row]
    unfold rowCells
    rw [List.getElem?_toArray, List.getElem?_append_right (by simp; omega), List.getElem?_map, List.length_map, hl, show 8 + k - 8 = k by omega, ho]
    rfl

theorem Duo.chg {w w' : World} {Z : Nat → Prop} {tb rb : Nat} {v : Value} {t : Tr} {L : List (K × Int)} (h : Duo w tb rb v t L) (hZ : NoTree w Z) (h1 : ¬ Z tb) (h2 : ¬ Z rb) (h3 : ∀ b, v.ownBlock = some b → ¬ Z b) (hc : Chg Z w w') : Duo w' tb rb v t L :=
  ⟨h.tr.chgT hZ h1 hc, h.ref.chg h2 h3 hc, h.same, h.ris⟩

theorem Duo.kt {w : World} {tb rb : Nat} {v : Value} {t : Tr} {L : List (K × Int)} (h : Duo w tb rb v t L) : ∃ cs, w.heap[tb]? = some (.cells cs 50) := by
  obtain ⟨m, h3, _⟩ := h.tr.tree
  exact ⟨_, h3⟩

theorem Duo.noTouch {w : World} {tb rb : Nat} {v : Value} {t : Tr} {L : List (K × Int)} (h : Duo w tb rb v t L) : NoTree w (Touch tb rb v) := fun b hb => by
  rcases hb with hb | hb
  · exact h.tr.noTree b hb
  · exact h.ref.noTree b hb

theorem set_at {α : Type} {S : List α} {k i : Nat} {x y : α} (h : (S.set k x)[i]? = some y) : (i = k ∧ y = x) ∨ (i ≠ k ∧ S[i]? = some y) := by
  rw [List.getElem?_set] at h
  by_cases e : k = i
  · rw [if_pos e] at h
    split at h
    · exact .inl ⟨e.symm, (Option.some.inj h).symm⟩
    · cases h
  · rw [if_neg e] at h
    exact .inr ⟨fun h' => e h'.symm, h⟩

theorem set_same {α : Type} {l : List α} {k : Nat} {x : α} (h : l[k]? = some x) : l.set k x = l := by
  apply List.ext_getElem?
  intro i
  rw [List.getElem?_set]
  by_cases e : k = i
  · rw [if_pos e, if_pos (List.getElem?_eq_some_iff.1 h).1, ← e, h]
  · rw [if_neg e]

/-- All of them lie in blocks from B on. -/
def From (B : Nat) (S : List (Option Sl)) : Prop := ∀ (i : Nat) (s : Sl), S[i]? = some (some s) → B ≤ s.tb ∧ B ≤ s.rb ∧ ∀ b, s.v.ownBlock = some b → B ≤ b

theorem Chg.behind {Z : Nat → Prop} {w w' : World} {B : Nat} (h : Chg Z w w') (hB : B ≤ w.heap.size) (hZ : ∀ b, Z b → B ≤ b) : Below B w w' :=
  ⟨h.os, h.tape, h.output, h.size, fun j hj => h.block j (by omega) (fun hz => by have := hZ j hz; omega)⟩

/-- A step at the k-th. -/
theorem RowAt.step {w w' : World} {rr N k : Nat} {S : List (Option Sl)} {s : Sl} (h : RowAt w rr S N) (hk : S[k]? = some (some s)) (hs : Stepped w w' s.tb s.rb s.v s.L.length) : ∃ S', RowAt w' rr S' (N + 1) ∧ ∀ B, B ≤ w.heap.size → From B S → From B S' := by
  obtain ⟨⟨v', t', L', hd, hl, hv⟩, hc⟩ := hs
  obtain ⟨d, dn⟩ := h.duo k s hk
  have hrr : ¬ Touch s.tb s.rb s.v rr := by
    rintro (e | e | e)
    · obtain ⟨cs, h1⟩ := d.kt
      exact kinds_ne h.row h1 (by decide) e
    · exact kinds_ne h.row d.ref.1 (by decide) e
    · obtain ⟨cs, h1⟩ := d.ref.2.1.kind e
      exact kinds_ne h.row h1 (by decide) rfl
  have hother : ∀ (i : Nat) (u : Sl), i ≠ k → S[i]? = some (some u) → Duo w' u.tb u.rb u.v u.t u.L := fun i u hi hu => by
    obtain ⟨e, _⟩ := h.duo i u hu
    obtain ⟨p1, p2, p3⟩ := h.sep i k u s hi hu hk
    obtain ⟨cu, ku⟩ := e.kt
    obtain ⟨cd, kd⟩ := d.kt
    refine e.chg d.noTouch ?_ ?_ (fun b hb => ?_) hc
    · rintro (q | q | q)
      · exact p1 q
      · exact kinds_ne ku d.ref.1 (by decide) q
      · obtain ⟨cs, h1⟩ := d.ref.2.1.kind q
        exact kinds_ne ku h1 (by decide) rfl
    · rintro (q | q | q)
      · exact kinds_ne e.ref.1 kd (by decide) q
      · exact p2 q
      · obtain ⟨cs, h1⟩ := d.ref.2.1.kind q
        exact kinds_ne e.ref.1 h1 (by decide) rfl
    · obtain ⟨cs, h1⟩ := e.ref.2.1.kind hb
      rintro (q | q | q)
      · exact kinds_ne h1 kd (by decide) q
      · exact kinds_ne h1 d.ref.1 (by decide) q
      · exact p3 b hb q
  have hcells : rowCells (S.set k (some ⟨s.tb, s.rb, v', t', L'⟩)) = rowCells S := by
    unfold rowCells
    rw [List.map_set, List.map_set]
    rw [set_same (l := S.map pa) (x := pa (some ⟨s.tb, s.rb, v', t', L'⟩)) (by rw [List.getElem?_map, hk]; rfl), set_same (l := S.map pb) (x := pb (some ⟨s.tb, s.rb, v', t', L'⟩)) (by rw [List.getElem?_map, hk]; rfl)]
  have hnew : ∀ (i : Nat) (u : Sl), i ≠ k → S[i]? = some (some u) → ∀ b, v'.ownBlock = some b → u.v.ownBlock ≠ some b := fun i u hi hu b hb hb' => by
    rcases hv with rfl | hv
    · exact (h.sep k i s u (Ne.symm hi) hk hu).2.2 b hb hb'
    · have h1 := hv b hb
      have h2 := ((h.duo i u hu).1.ref.2.1.lt b hb').2
      omega
  refine ⟨S.set k (some ⟨s.tb, s.rb, v', t', L'⟩), ⟨by rw [List.length_set]; exact h.len, ?_, fun i u hu => ?_, fun i j u x hij hu hx => ?_⟩, fun B hB hF i u hu => ?_⟩
  · rw [hcells]
    exact (hc.block rr (Array.getElem?_eq_some_iff.1 h.row).1 hrr).trans h.row
  · rcases set_at hu with ⟨rfl, e⟩ | ⟨hi, hu⟩
    · cases e
      exact ⟨hd, by show L'.length ≤ N + 1; omega⟩
    · exact ⟨hother i u hi hu, Nat.le_trans (h.duo i u hu).2 (Nat.le_succ _)⟩
  · rcases set_at hu with ⟨rfl, e⟩ | ⟨hi, hu2⟩
    · cases e
      rcases set_at hx with ⟨e2, _⟩ | ⟨hj, hx⟩
      · exact absurd e2.symm hij
      · obtain ⟨p1, p2, _⟩ := h.sep i j s x hij hk hx
        exact ⟨p1, p2, hnew j x hj hx⟩
    · rcases set_at hx with ⟨rfl, e⟩ | ⟨hj, hx⟩
      · cases e
        obtain ⟨p1, p2, _⟩ := h.sep i j u s hij hu2 hk
        exact ⟨p1, p2, fun b hb hb' => hnew i u hi hu2 b hb' hb⟩
      · exact h.sep i j u x hij hu2 hx
  · rcases set_at hu with ⟨rfl, e⟩ | ⟨hi, hu2⟩
    · cases e
      obtain ⟨p1, p2, p3⟩ := hF i s hk
      refine ⟨p1, p2, fun b hb => ?_⟩
      rcases hv with rfl | hv
      · exact p3 b hb
      · exact Nat.le_trans hB (hv b hb)
    · exact hF i u hu2

theorem ref_new (w : World) : RefAt (w.alloc (.cells #[.slice none 0 0] 92)) w.heap.size (.slice none 0 0) [] :=
  ⟨heap_alloc_new w _, World.ownsRow_nil _ _ _ _, fun e he => by cases he⟩

/-- The k-th is begun anew. -/
theorem RowAt.begun {w : World} {rr N k tb rb : Nat} {S : List (Option Sl)} (h : RowAt w rr S N) (hk : k < 8) {w1 w2 w3 w4 : World} (b1 : Below w.heap.size w w1) (ht : w.heap.size ≤ tb) (t1 : TrieAt w1 (fun b => b = tb) tb .nil) (h2 : w2 = w1.setCell ⟨rr, k, none⟩ (.pointer (some ⟨tb, 0, none⟩))) (b3 : Below w2.heap.size w2 w3) (hr : w2.heap.size ≤ rb) (f3 : RefAt w3 rb (.slice none 0 0) []) (h4 : w4 = w3.setCell ⟨rr, 8 + k, none⟩ (.pointer (some ⟨rb, 0, none⟩))) :
    RowAt w4 rr (S.set k (some ⟨tb, rb, .slice none 0 0, .nil, []⟩)) N ∧ Chg (fun b => b = rr) w w4 := by
  have hlt := (Array.getElem?_eq_some_iff.1 h.row).1
  have c2 : Chg (fun b => b = rr) w1 w2 := by rw [h2]; exact Chg.of_but (But.set rr _ w1 _) rfl
  have c4 : Chg (fun b => b = rr) w3 w4 := by rw [h4]; exact Chg.of_but (But.set rr _ w3 _) rfl
  have c24 : Chg (fun b => b = rr) w2 w4 := (Chg.of_below b3).trans c4
  have c : Chg (fun b => b = rr) w w4 := ((Chg.of_below b1).trans c2).trans c24
  have r1 := below_keeps b1 h.row hlt
  have r2 : w2.heap[rr]? = some (.cells ((rowCells S).setIfInBounds k (.pointer (some ⟨tb, 0, none⟩))) 82) := by rw [h2]; exact set_row r1
  have r3 := below_keeps b3 r2 (Array.getElem?_eq_some_iff.1 r2).1
  have r4 : w4.heap[rr]? = some (.cells (((rowCells S).setIfInBounds k (.pointer (some ⟨tb, 0, none⟩))).setIfInBounds (8 + k) (.pointer (some ⟨rb, 0, none⟩))) 82) := by rw [h4]; exact set_row r3
  have s1 := b1.size
  have s2 := c2.size
  have nt : ∀ (u : World) (cs : Array Value), u.heap[rr]? = some (.cells cs 82) → NoTree u (fun b => b = rr) := fun u cs hu b hb => by subst hb; exact kind_no hu (by decide) (by decide)
  have t4 : TrieAt w4 (fun b => b = tb) tb .nil := (t1.chgT (nt w1 _ r1) (fun e => by omega) c2).chgT (nt w2 _ r2) (fun e => by omega) c24
  have f4 : RefAt w4 rb (.slice none 0 0) [] := f3.chg (fun e => by omega) (fun b hb => by cases hb) c4
  have hold : ∀ (i : Nat) (u : Sl), S[i]? = some (some u) → Duo w4 u.tb u.rb u.v u.t u.L := fun i u hu => by
    obtain ⟨e, _⟩ := h.duo i u hu
    obtain ⟨cu, ku⟩ := e.kt
    refine e.chg (nt w _ h.row) (fun q => kinds_ne ku h.row (by decide) q) (fun q => kinds_ne e.ref.1 h.row (by decide) q) (fun b hb q => ?_) c
    obtain ⟨cs, g⟩ := e.ref.2.1.kind hb
    exact kinds_ne g h.row (by decide) q
  have hold2 : ∀ (i : Nat) (u : Sl), S[i]? = some (some u) → u.tb < w.heap.size ∧ u.rb < w.heap.size := fun i u hu => by
    obtain ⟨e, _⟩ := h.duo i u hu
    exact ⟨e.lt, (Array.getElem?_eq_some_iff.1 e.ref.1).1⟩
  have hl := h.len
  refine ⟨⟨by rw [List.length_set]; exact h.len, ?_, fun i u hu => ?_, fun i j u x hij hu hx => ?_⟩, c⟩
  · rw [r4]
    congr 2
    unfold rowCells
    rw [List.map_set, List.map_set, List.setIfInBounds_toArray, List.setIfInBounds_toArray, List.set_append_left _ _ (by simp; omega), List.set_append_right _ _ (by simp; omega)]
    rw [List.length_set, List.length_map, hl, show 8 + k - 8 = k by omega]
    rfl
  · rcases set_at hu with ⟨rfl, e⟩ | ⟨hi, hu⟩
    · cases e
      exact ⟨⟨t4, f4, Same.nil, Ris.nil⟩, Nat.zero_le _⟩
    · exact ⟨hold i u hu, (h.duo i u hu).2⟩
  · rcases set_at hu with ⟨rfl, e⟩ | ⟨hi, hu2⟩
    · cases e
      rcases set_at hx with ⟨e2, _⟩ | ⟨hj, hx⟩
      · exact absurd e2.symm hij
      · obtain ⟨p1, p2⟩ := hold2 j x hx
        exact ⟨by show tb ≠ x.tb; omega, by show rb ≠ x.rb; omega, fun b hb => by cases hb⟩
    · rcases set_at hx with ⟨rfl, e⟩ | ⟨hj, hx⟩
      · cases e
        obtain ⟨p1, p2⟩ := hold2 i u hu2
        exact ⟨by show u.tb ≠ tb; omega, by show u.rb ≠ rb; omega, fun b _ hb => by cases hb⟩
      · exact h.sep i j u x hij hu2 hx
end Go.Proofs.Ytmnafocmbcgdiab
