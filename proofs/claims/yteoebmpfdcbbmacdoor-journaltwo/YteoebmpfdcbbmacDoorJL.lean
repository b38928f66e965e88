/-
  The journal in memory; Size, Dirty.
-/
import Derived.Test.YteoebmpfdcbbmacDoorJK
import Derived.Test.YteoebmpfdcbbmacDoorJN
namespace Go.Proofs.YteoebmpfdcbbmacDoor
open Go.ChangeShapes Go.WideShapes Go.ChangeAt Go.RowKit Jn N
set_option maxHeartbeats 4000000
set_option maxRecDepth 100000

/-- A write in memory. -/
structure Wv where
  ar : Nat
  pl : Nat
  v : Value
  bs : List Nat
def Wv.wr (x : Wv) : Wr := ⟨x.ar, x.pl, x.bs⟩
def wc (x : Wv) : List Value := [.int .i64 (x.ar : Int), .int .i64 (x.pl : Int), x.v]
def OwnW (w : World) (B : Nat) (v : Value) (X : List Wv) : Prop := w.ownsRow B 101 3 v X.length (X.flatMap wc)
theorem uWW : Tryd.prog.underlying 74 = some (.slice 101) := by kernel_rfl
theorem infoW : (Tryd.prog.info? 101).map (fun i => (i.zero, i.size, i.bytes)) = some (some (.agg #[.int .i64 0, .int .i64 0, .slice none 0 0]), 3, 40) := by kernel_rfl
theorem ownW_nil (w : World) (B : Nat) : OwnW w B (.slice none 0 0) [] := World.ownsRow_nil _ _ _ _
theorem OwnW.keeps {S : Nat → Prop} {w w' : World} {B : Nat} {v : Value} {X : List Wv} (h : OwnW w B v X) (hb : Keeps S w w') (hn : ∀ k, v.ownBlock = some k → ¬ S k) : OwnW w' B v X := by
  refine ⟨h.1, ?_⟩
  rcases h.2 with hn | ⟨g, cap, cur, rfl, hbb, hg, rest⟩
  · exact .inl hn
  · exact .inr ⟨g, cap, cur, rfl, hbb, (hb.block g (Array.getElem?_eq_some_iff.1 hg).1 (hn g rfl)).trans hg, rest⟩
theorem OwnW.shape {w : World} {B : Nat} {v : Value} {X : List Wv} (h : OwnW w B v X) : ∃ a n cap, v = .slice a n cap ∧ Hid (n = X.length) ∧ n ≤ cap ∧ cap ≤ 9223372036854775807 := by
  rcases h.2 with ⟨rfl, h0⟩ | ⟨g, cap, cur, rfl, -, -, h1, h2, -⟩
  · exact ⟨none, 0, 0, rfl, h0.symm, Nat.le_refl _, by omega⟩
  · unfold maxLen at h2
    exact ⟨_, X.length, cap, rfl, rfl, h1, by omega⟩
theorem flat3 : ∀ (X : List Wv) (i : Nat) (x : Wv), X[i]? = some x → (X.flatMap wc)[i * 3]? = some (.int .i64 (x.ar : Int)) ∧ (X.flatMap wc)[i * 3 + 1]? = some (.int .i64 (x.pl : Int)) ∧ (X.flatMap wc)[i * 3 + 2]? = some x.v
  | [], i, x, h => by simp at h
  | y :: X, 0, x, h => by
    simp at h
    subst h
    simp [wc]
  | y :: X, i + 1, x, h => by
    have h' := flat3 X i x (by simpa using h)
    rw [List.flatMap_cons]
    have l : (wc y).length = 3 := rfl
    refine ⟨?_, ?_, ?_⟩
    · rw [List.getElem?_append_right (by omega), show (i + 1) * 3 - (wc y).length = i * 3 by omega]; exact h'.1
    · rw [List.getElem?_append_right (by omega), show (i + 1) * 3 + 1 - (wc y).length = i * 3 + 1 by omega]; exact h'.2.1
    · rw [List.getElem?_append_right (by omega), show (i + 1) * 3 + 2 - (wc y).length = i * 3 + 2 by omega]; exact h'.2.2
theorem flat3_len (X : List Wv) : (X.flatMap wc).length = X.length * 3 := by
  induction X with
  | nil => rfl
  | cons x X ih => rw [List.flatMap_cons, List.length_append, ih, List.length_cons, show (wc x).length = 3 from rfl]; omega
theorem OwnW.at {w : World} {B n cap : Nat} {a : Option Addr} {X : List Wv} (h : OwnW w B (.slice a n cap) X) {i : Nat} {x : Wv} (hi : X[i]? = some x) : ∃ g, a = some ⟨g, 0, none⟩ ∧ g < w.heap.size ∧ ∀ u : World, u.heap[g]? = w.heap[g]? → u.cell? ⟨g, i * 3, none⟩ = some (.int .i64 (x.ar : Int)) ∧ u.cell? ⟨g, i * 3 + 1, none⟩ = some (.int .i64 (x.pl : Int)) ∧ u.cell? ⟨g, i * 3 + 2, none⟩ = some x.v := by
  have hl := (List.getElem?_eq_some_iff.1 hi).1
  rcases h.2 with ⟨_, h0⟩ | ⟨g, cap', cur, h0, hb, hg, h1, h2, h3, h4⟩
  · omega
  · simp only [Value.slice.injEq] at h0
    obtain ⟨rfl, -, -⟩ := h0
    obtain ⟨f0, f1, f2⟩ := flat3 X i x hi
    refine ⟨g, rfl, (Array.getElem?_eq_some_iff.1 hg).1, fun u hu => ?_⟩
    rw [hg] at hu
    have key : ∀ j v, j < X.length * 3 → (X.flatMap wc)[j]? = some v → u.cell? ⟨g, j, none⟩ = some v := fun j v hj hv => by
      rw [cell_of_row _ _ _ _ _ _ hu, ← Array.getElem?_toList]
      rw [← h4, List.getElem?_take, if_pos hj] at hv
      exact hv
    exact ⟨key _ _ (by omega) f0, key _ _ (by omega) f1, key _ _ (by omega) f2⟩
theorem OwnW.ne_of {w : World} {B b : Nat} {v : Value} {X : List Wv} {cs : Array Value} {T : TypeId} (h : OwnW w B v X) (hp : w.heap[b]? = some (.cells cs T (0, 0))) (hT : T ≠ 101) : v.ownBlock ≠ some b := by
  intro e
  rcases h.2 with ⟨rfl, _⟩ | ⟨g', cap', cur', rfl, _, hgg, _⟩
  · cases e
  · simp [Value.ownBlock] at e
    rw [e, hp] at hgg
    simp at hgg
    exact hT hgg.2

/-- A byte list's block, as it lies. -/
theorem OwnB.row {w : World} {B g n cap : Nat} {L : List Nat} (h : OwnB w B (.slice (some ⟨g, 0, none⟩) n cap) L) : ∃ cs, w.heap[g]? = some (.cells cs 5 (0, 0)) := by
  rcases h.2 with ⟨h1, _⟩ | ⟨g', cap', cur, h1, hb, hg, -⟩
  · cases h1
  · simp at h1
    obtain ⟨rfl, -, rfl⟩ := h1
    exact ⟨cur, hg⟩

def lgRow (v0 v1 vw : Value) (d cur gen fr size : Nat) : Obj := .cells #[v0, v1, vw, .int .i64 (d : Int), .int .i64 (cur : Int), .int .u32 (gen : Int), .int .u32 (fr : Int), .int .i64 (size : Int)] 76 (0, 0)

/-- The journal l in the blocks of S, its own block p. -/
structure LogX (w : World) (S : Nat → Prop) (p : Nat) (l : Lg) (ga na ca gb nb cb : Nat) (vw : Value) (X : List Wv) : Prop where
  row : w.heap[p]? = some (lgRow (.slice (some ⟨ga, 0, none⟩) na ca) (.slice (some ⟨gb, 0, none⟩) nb cb) vw (dirt l.ws) l.cur l.gen l.fr l.size)
  a : OwnB w 0 (.slice (some ⟨ga, 0, none⟩) na ca) l.a
  b : OwnB w 0 (.slice (some ⟨gb, 0, none⟩) nb cb) l.b
  ne : ga ≠ gb
  ws : OwnW w 0 vw X
  wr : X.map Wv.wr = l.ws
  by_ : ∀ x ∈ X, SeesB w x.v x.bs ∧ ∀ a n c, x.v = .slice (some a) n c → S a.block ∧ a.block ≠ ga ∧ a.block ≠ gb ∧ a.block ≠ p ∧ vw.ownBlock ≠ some a.block
  sp : S p
  sa : S ga
  sb : S gb
  sw : ∀ k, vw.ownBlock = some k → S k
  lt : ∀ k, S k → k < w.heap.size
def LogAt (w : World) (S : Nat → Prop) (p : Nat) (l : Lg) : Prop := ∃ ga na ca gb nb cb vw X, LogX w S p l ga na ca gb nb cb vw X

/-- What does not touch S leaves the journal as it is. -/
theorem LogX.keeps {w w' : World} {S : Nat → Prop} {p : Nat} {l : Lg} {ga na ca gb nb cb : Nat} {vw : Value} {X : List Wv} (h : LogX w S p l ga na ca gb nb cb vw X) (hk : Keeps (fun k => ¬ S k) w w') : LogX w' S p l ga na ca gb nb cb vw X := by
  refine ⟨(hk.block p (h.lt p h.sp) (fun e => e h.sp)).trans h.row, h.a.keeps hk (fun k hk e => ?_), h.b.keeps hk (fun k hk e => ?_), h.ne, h.ws.keeps hk (fun k hk e => e (h.sw k hk)), h.wr, fun x hx => ⟨(h.by_ x hx).1.keeps hk (fun a n c e hn => hn ((h.by_ x hx).2 a n c e).1), (h.by_ x hx).2⟩, h.sp, h.sa, h.sb, h.sw, fun k hS => Nat.lt_of_lt_of_le (h.lt k hS) hk.size⟩
  · simp [Value.ownBlock] at hk; exact e (hk ▸ h.sa)
  · simp [Value.ownBlock] at hk; exact e (hk ▸ h.sb)
theorem LogX.below {w w' : World} {S : Nat → Prop} {p : Nat} {l : Lg} {ga na ca gb nb cb : Nat} {vw : Value} {X : List Wv} (h : LogX w S p l ga na ca gb nb cb vw X) (hb : Below w.heap.size w w') : LogX w' S p l ga na ca gb nb cb vw X := h.keeps (Keeps.of hb)
theorem LogAt.keeps {w w' : World} {S : Nat → Prop} {p : Nat} {l : Lg} (h : LogAt w S p l) (hk : Keeps (fun k => ¬ S k) w w') : LogAt w' S p l := by
  obtain ⟨ga, na, ca, gb, nb, cb, vw, X, h⟩ := h
  exact ⟨ga, na, ca, gb, nb, cb, vw, X, h.keeps hk⟩
theorem LogAt.below {w w' : World} {S : Nat → Prop} {p : Nat} {l : Lg} (h : LogAt w S p l) (hb : Below w.heap.size w w') : LogAt w' S p l := h.keeps (Keeps.of hb)

theorem lg_cells {u : World} {p d cur gen fr size : Nat} {v0 v1 vw : Value} (h : u.heap[p]? = some (lgRow v0 v1 vw d cur gen fr size)) : u.cell? ⟨p, 0, none⟩ = some v0 ∧ u.cell? ⟨p, 1, none⟩ = some v1 ∧ u.cell? ⟨p, 2, none⟩ = some vw ∧ u.cell? ⟨p, 3, none⟩ = some (.int .i64 (d : Int)) ∧ u.cell? ⟨p, 4, none⟩ = some (.int .i64 (cur : Int)) ∧ u.cell? ⟨p, 5, none⟩ = some (.int .u32 (gen : Int)) ∧ u.cell? ⟨p, 6, none⟩ = some (.int .u32 (fr : Int)) ∧ u.cell? ⟨p, 7, none⟩ = some (.int .i64 (size : Int)) ∧ ∀ i, u.frozen? ⟨p, i, none⟩ = false := by
  unfold lgRow at h
  exact ⟨by rw [cell_of_row _ _ _ _ _ _ h]; rfl, by rw [cell_of_row _ _ _ _ _ _ h]; rfl, by rw [cell_of_row _ _ _ _ _ _ h]; rfl, by rw [cell_of_row _ _ _ _ _ _ h]; rfl, by rw [cell_of_row _ _ _ _ _ _ h]; rfl, by rw [cell_of_row _ _ _ _ _ _ h]; rfl, by rw [cell_of_row _ _ _ _ _ _ h]; rfl, by rw [cell_of_row _ _ _ _ _ _ h]; rfl, fun i => frozen_of_row _ _ _ _ _ h⟩

theorem size_any (S : Nat → Prop) (p : Nat) (l : Lg) (w : World) (h : LogAt w S p l) :
    Calls Tryd.prog 23 #[.pointer (some ⟨p, 0, none⟩)] w fun e w' => e = .returned (.int .i64 (l.size : Int)) ∧ w' = w := by
  obtain ⟨ga, na, ca, gb, nb, cb, vw, X, h⟩ := h
  obtain ⟨-, -, -, -, -, -, -, c7, -⟩ := lg_cells h.row
  clear h
  go_enter Tryd.func23, Tryd.ntmps23
  go_wp2_with fail
  go_ret
  exact ⟨rfl, rfl⟩

theorem dirty_any (S : Nat → Prop) (p : Nat) (l : Lg) (w : World) (h : LogAt w S p l) :
    Calls Tryd.prog 24 #[.pointer (some ⟨p, 0, none⟩)] w fun e w' => e = .returned (.int .i64 ((dirt l.ws : Nat) : Int)) ∧ w' = w := by
  obtain ⟨ga, na, ca, gb, nb, cb, vw, X, h⟩ := h
  obtain ⟨-, -, -, c3, -⟩ := lg_cells h.row
  clear h
  go_enter Tryd.func24, Tryd.ntmps24
  go_wp2_with fail
  go_ret
  exact ⟨rfl, rfl⟩
end Go.Proofs.YteoebmpfdcbbmacDoor
