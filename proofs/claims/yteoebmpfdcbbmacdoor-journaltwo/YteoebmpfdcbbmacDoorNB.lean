/-
  The tale of a journal in memory.
-/
import Derived.Test.YteoebmpfdcbbmacDoorNA
import Derived.Test.YteoebmpfdcbbmacDoorGB
import Derived.Test.YteoebmpfdcbbmacDoorRW2
namespace Go.Proofs.YteoebmpfdcbbmacDoor
open Go.ChangeShapes Go.WideShapes Go.ChangeAt Go.RowKit Jn N
set_option maxHeartbeats 4000000
set_option maxRecDepth 100000

theorem uG : Tryd.prog.underlying 51 = some (.slice 38) := by kernel_rfl
theorem infoG : (Tryd.prog.info? 38).map (fun i => (i.zero, i.size, i.bytes)) = some (some (.slice none 0 0), 1, 24) := by kernel_rfl
structure Pt3 where
  g : Nat
  n : Nat
  a : Nat
def ptc (x : Pt3) : List Value := [.int .i64 (x.g : Int), .int .i64 (x.n : Int), .int .i64 (x.a : Int)]
theorem row_keeps {S : Nat → Prop} {w w' : World} {B k n : Nat} {T : TypeId} {v : Value} {cs : List Value} (h : w.ownsRow B T k v n cs) (hb : Keeps S w w') (hn : ∀ j, v.ownBlock = some j → ¬ S j) : w'.ownsRow B T k v n cs := by
  refine ⟨h.1, ?_⟩
  rcases h.2 with hn | ⟨g, cap, cur, rfl, hbb, hg, rest⟩
  · exact .inl hn
  · exact .inr ⟨g, cap, cur, rfl, hbb, (hb.block g (Array.getElem?_eq_some_iff.1 hg).1 (hn g rfl)).trans hg, rest⟩
theorem row_ne {w : World} {B b k n : Nat} {v : Value} {cs : List Value} {xs : Array Value} {T T' : TypeId} (h : w.ownsRow B T k v n cs) (hp : w.heap[b]? = some (.cells xs T' (0, 0))) (hT : T' ≠ T) : v.ownBlock ≠ some b := by
  intro e
  rcases h.2 with ⟨rfl, _⟩ | ⟨g', cap', cur', rfl, _, hgg, _⟩
  · cases e
  · simp [Value.ownBlock] at e
    rw [e, hp] at hgg
    simp at hgg
    exact hT hgg.2
theorem row_at {w : World} {B k n : Nat} {v : Value} {cs : List Value} {T : TypeId} {j : Nat} (h : w.ownsRow B T k v n cs) (hj : v.ownBlock = some j) : ∃ xs, w.heap[j]? = some (.cells xs T (0, 0)) := by
  rcases h.2 with ⟨rfl, _⟩ | ⟨g', cap', cur', rfl, _, hgg, _⟩
  · cases hj
  · simp [Value.ownBlock] at hj
    subst hj
    exact ⟨_, hgg⟩
theorem rows_ne {w : World} {B B' k k' n n' : Nat} {v v' : Value} {cs cs' : List Value} {T T' : TypeId} (h : w.ownsRow B T k v n cs) (h' : w.ownsRow B' T' k' v' n' cs') (hT : T ≠ T') : ∀ j, v.ownBlock = some j → v'.ownBlock ≠ some j := fun _ hj => by
  obtain ⟨xs, hx⟩ := row_at h hj
  exact row_ne h' hx hT
theorem row_shape {w : World} {B k n : Nat} {v : Value} {cs : List Value} {T : TypeId} (h : w.ownsRow B T k v n cs) : ∃ a cap, v = .slice a n cap ∧ n ≤ cap ∧ cap ≤ 9223372036854775807 := by
  rcases h.2 with ⟨rfl, h0⟩ | ⟨g, cap, cur, rfl, -, -, h1, h2, -⟩
  · subst h0; exact ⟨none, 0, rfl, Nat.le_refl _, by omega⟩
  · unfold maxLen at h2
    exact ⟨_, cap, rfl, h1, by omega⟩
theorem row_cell {w : World} {B k n cap : Nat} {a : Option Addr} {cs : List Value} {T : TypeId} (h : w.ownsRow B T k (.slice a n cap) n cs) {i : Nat} {x : Value} (hi : cs[i]? = some x) : ∃ g, a = some ⟨g, 0, none⟩ ∧ B ≤ g ∧ g < w.heap.size ∧ (∀ j, w.frozen? ⟨g, j, none⟩ = false) ∧ w.cell? ⟨g, i, none⟩ = some x := by
  have hl := (List.getElem?_eq_some_iff.1 hi).1
  rcases h.2 with ⟨_, h0⟩ | ⟨g, cap', cur, h0, hb, hg, h1, h2, h3, h4⟩
  · have := h.1
    rw [h0] at this
    omega
  · simp only [Value.slice.injEq] at h0
    obtain ⟨rfl, -, -⟩ := h0
    refine ⟨g, rfl, hb, (Array.getElem?_eq_some_iff.1 hg).1, fun j => frozen_of_row _ _ _ _ _ hg, ?_⟩
    rw [cell_of_row _ _ _ _ _ _ hg, ← Array.getElem?_toList]
    rw [← h4, List.getElem?_take] at hi
    have h9 := h.1
    rw [if_pos (by omega)] at hi
    exact hi
theorem row_put {w : World} {B g n cap : Nat} {T : TypeId} {Vs : List Value} (h : w.ownsRow B T 1 (.slice (some ⟨g, 0, none⟩) n cap) n Vs) (i : Nat) (x : Value) :
    (w.setCell ⟨g, i, none⟩ x).ownsRow B T 1 (.slice (some ⟨g, 0, none⟩) n cap) n (Vs.set i x) := by
  rcases h.2 with ⟨h1, _⟩ | ⟨g', cap', cur, h1, hb, hg, hnc, hcm, hcs, ht⟩
  · cases h1
  · simp at h1
    obtain ⟨rfl, rfl⟩ := h1
    have h2 := heap_setCell_same w g i cur T x hg
    refine ⟨by rw [List.length_set]; exact h.1, .inr ⟨g, cap, _, rfl, hb, h2, hnc, hcm, by simpa using hcs, ?_⟩⟩
    simp only [Array.toList_setIfInBounds, List.take_set]
    rw [ht]

/-- A record that stays as it is, in one of the blocks of C. -/
def Frz (u : World) (C : Nat → Prop) (x : Value) (r : List Nat) : Prop := SeesB u x r ∧ ∀ a n c, x = .slice (some a) n c → C a.block
theorem Frz.keeps {T C : Nat → Prop} {u u' : World} {x : Value} {r : List Nat} (h : Frz u C x r) (hk : Keeps T u u') (hC : ∀ k, C k → ¬ T k) : Frz u' C x r := ⟨h.1.keeps hk (fun a n c e => hC _ (h.2 a n c e)), h.2⟩
theorem Frz.more {C C' : Nat → Prop} {u : World} {x : Value} {r : List Nat} (h : Frz u C x r) (hC : ∀ k, C k → C' k) : Frz u C' x r := ⟨h.1, fun a n c e => hC _ (h.2 a n c e)⟩
/-- An own list of such records. -/
def RecsF (u : World) (C : Nat → Prop) (B : Nat) (v : Value) (R : List (List Nat)) : Prop := ∃ Vs, OwnS u B v Vs ∧ Vs.length = R.length ∧ ∀ (i : Nat) x r, Vs[i]? = some x → R[i]? = some r → Frz u C x r
theorem RecsF.nil (u : World) (C : Nat → Prop) (B : Nat) : RecsF u C B (.slice none 0 0) [] := ⟨[], ownS_nil _ _, rfl, fun i x r hx => by simp at hx⟩
theorem RecsF.keeps {T C : Nat → Prop} {u u' : World} {B : Nat} {v : Value} {R : List (List Nat)} (h : RecsF u C B v R) (hk : Keeps T u u') (hC : ∀ k, C k → ¬ T k) (hv : ∀ j, v.ownBlock = some j → ¬ T j) : RecsF u' C B v R := by
  obtain ⟨Vs, h1, h2, h3⟩ := h
  exact ⟨Vs, h1.keeps hk hv, h2, fun i x r hx hr => (h3 i x r hx hr).keeps hk hC⟩
theorem RecsF.sees {C : Nat → Prop} {u : World} {B : Nat} {v : Value} {R : List (List Nat)} (h : RecsF u C B v R) : SeesBB u v R := by
  obtain ⟨Vs, h1, h2, h3⟩ := h
  exact own_seesS h1 h2 (fun i x r hx hr => (h3 i x r hx hr).1)
/-- A closed generation. -/
def GenF (u : World) (C : Nat → Prop) (v : Value) (L : List (List Nat)) : Prop :=
  ∃ (Vs : List Value) (ao : Option Addr) (cap : Nat), v = .slice ao L.length cap ∧ L.length ≤ cap ∧ cap ≤ maxLen ∧ Vs.length = L.length ∧ (∀ (j : Nat) x, Vs[j]? = some x → ∃ g off, ao = some ⟨g, off, none⟩ ∧ C g ∧ g < u.heap.size ∧ u.cell? ⟨g, off + j, none⟩ = some x) ∧ ∀ (i : Nat) x r, Vs[i]? = some x → L[i]? = some r → Frz u C x r
theorem GenF.keeps {T C : Nat → Prop} {u u' : World} {v : Value} {L : List (List Nat)} (h : GenF u C v L) (hk : Keeps T u u') (hC : ∀ k, C k → ¬ T k) : GenF u' C v L := by
  obtain ⟨Vs, ao, cap, h1, h2, h3, h4, h5, h6⟩ := h
  refine ⟨Vs, ao, cap, h1, h2, h3, h4, fun j x hx => ?_, fun i x r hx hr => (h6 i x r hx hr).keeps hk hC⟩
  obtain ⟨g, off, e, hg, hl, hc⟩ := h5 j x hx
  exact ⟨g, off, e, hg, Nat.lt_of_lt_of_le hl hk.size, (World.cell?_of_block (w := u) (a := ⟨g, off + j, none⟩) (hk.block g hl (hC g hg))).trans hc⟩
theorem GenF.more {C C' : Nat → Prop} {u : World} {v : Value} {L : List (List Nat)} (h : GenF u C v L) (hC : ∀ k, C k → C' k) : GenF u C' v L := by
  obtain ⟨Vs, ao, cap, h1, h2, h3, h4, h5, h6⟩ := h
  refine ⟨Vs, ao, cap, h1, h2, h3, h4, fun j x hx => ?_, fun i x r hx hr => (h6 i x r hx hr).more hC⟩
  obtain ⟨g, off, e, hg, hl, hc⟩ := h5 j x hx
  exact ⟨g, off, e, hC g hg, hl, hc⟩
theorem GenF.sees {C : Nat → Prop} {u : World} {v : Value} {L : List (List Nat)} (h : GenF u C v L) : SeesBB u v L := by
  obtain ⟨Vs, ao, cap, h1, h2, h3, h4, h5, h6⟩ := h
  refine ⟨ao, cap, h1, h2, h3, fun j hj => ?_⟩
  have hx : Vs[j]? = some Vs[j] := List.getElem?_eq_getElem (by omega)
  obtain ⟨g, off, e, -, hl, hc⟩ := h5 j _ hx
  exact ⟨g, off, _, e, hl, hc, (h6 j _ _ hx (List.getElem?_eq_getElem hj)).1⟩
theorem RecsF.close {C : Nat → Prop} {u : World} {B : Nat} {v : Value} {R : List (List Nat)} (h : RecsF u C B v R) : GenF u (fun k => C k ∨ v.ownBlock = some k) v R := by
  obtain ⟨Vs, h1, h2, h3⟩ := h
  obtain ⟨a, n, cap, rfl, HN, k1, k2⟩ := h1.shape
  refine ⟨Vs, a, cap, by rw [HN.out, h2], by rw [← h2, ← HN.out]; exact k1, by unfold maxLen; omega, h2, fun j x hx => ?_, fun i x r hx hr => (h3 i x r hx hr).more (fun k hk => .inl hk)⟩
  obtain ⟨g, rfl, -, hl, hc⟩ := h1.at hx
  exact ⟨g, 0, rfl, .inr rfl, hl, by rw [Nat.zero_add]; exact hc u rfl⟩

end Go.Proofs.YteoebmpfdcbbmacDoor
