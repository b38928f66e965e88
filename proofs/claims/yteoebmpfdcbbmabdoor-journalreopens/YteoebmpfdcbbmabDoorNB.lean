/-
  The tale of a journal in memory.
-/
import Derived.Test.YteoebmpfdcbbmabDoorNA
import Derived.Test.YteoebmpfdcbbmabDoorGB
import Derived.Test.YteoebmpfdcbbmabDoorRW2
namespace Go.Proofs.YteoebmpfdcbbmabDoor
open Go.ChangeShapes Go.WideShapes Go.ChangeAt Go.RowKit Jn N
set_option maxHeartbeats 4000000
set_option maxRecDepth 100000

theorem uG : Tryd.prog.underlying 56 = some (.slice 27) := by kernel_rfl
theorem infoG : (Tryd.prog.info? 27).map (fun i => (i.zero, i.size, i.bytes)) = some (some (.slice none 0 0), 1, 24) := by kernel_rfl
theorem uPt : Tryd.prog.underlying 57 = some (.slice 94) := by kernel_rfl
theorem infoPt : (Tryd.prog.info? 94).map (fun i => (i.zero, i.size, i.bytes)) = some (some (.agg #[.int .i64 0, .int .i64 0, .int .i64 0]), 3, 24) := by kernel_rfl

structure Pt3 where
  g : Nat
  n : Nat
  a : Nat
def ptc (x : Pt3) : List Value := [.int .i64 (x.g : Int), .int .i64 (x.n : Int), .int .i64 (x.a : Int)]
def taRow (vG vP vR : Value) (sz wr : Nat) : Obj := .cells #[vG, vP, vR, .int .i64 (sz : Int), .int .i64 (wr : Int)] 59 (0, 0)

theorem row_keeps {S : Nat → Prop} {w w' : World} {B k n : Nat} {T : TypeId} {v : Value} {cs : List Value} (h : w.ownsRow B T k v n cs) (hb : Keeps S w w') (hn : ∀ j, v.ownBlock = some j → ¬ S j) : w'.ownsRow B T k v n cs := by
  refine ⟨h.1, ?_⟩
  rcases h.2 with hn | ⟨g, cap, cur, rfl, hbb, hg, rest⟩
  · exact .inl hn
  · exact .inr ⟨g, cap, cur, rfl, hbb, (hb.block g (Array.getElem?_eq_some_iff.1 hg).1 (hn g rfl)).trans hg, rest⟩
theorem row_ne {w : World} {B b k n : Nat} {v : Value} {cs : List Value} {xs : Array Value} {T T' : TypeId} (h : w.ownsRow B T k v n cs) (hp : w.heap[b]? = some (.cells xs T' (0, 0))) (hT : T' ≠ T) : v.ownBlock ≠ some b := by
  intro e
  rcases h.2 with ⟨rfl, _⟩ | ⟨g', cap', cur', rfl, _, hgg, _⟩
  · cases e
  · simp [Value.ownBlock] at e
    rw [e, hp] at hgg
    simp at hgg
    exact hT hgg.2
theorem row_at {w : World} {B k n : Nat} {v : Value} {cs : List Value} {T : TypeId} {j : Nat} (h : w.ownsRow B T k v n cs) (hj : v.ownBlock = some j) : ∃ xs, w.heap[j]? = some (.cells xs T (0, 0)) := by
  rcases h.2 with ⟨rfl, _⟩ | ⟨g', cap', cur', rfl, _, hgg, _⟩
  · cases hj
  · simp [Value.ownBlock] at hj
    subst hj
    exact ⟨_, hgg⟩
theorem rows_ne {w : World} {B B' k k' n n' : Nat} {v v' : Value} {cs cs' : List Value} {T T' : TypeId} (h : w.ownsRow B T k v n cs) (h' : w.ownsRow B' T' k' v' n' cs') (hT : T ≠ T') : ∀ j, v.ownBlock = some j → v'.ownBlock ≠ some j := fun _ hj => by
  obtain ⟨xs, hx⟩ := row_at h hj
  exact row_ne h' hx hT
theorem row_shape {w : World} {B k n : Nat} {v : Value} {cs : List Value} {T : TypeId} (h : w.ownsRow B T k v n cs) : ∃ a cap, v = .slice a n cap ∧ n ≤ cap ∧ cap ≤ 9223372036854775807 := by
  rcases h.2 with ⟨rfl, h0⟩ | ⟨g, cap, cur, rfl, -, -, h1, h2, -⟩
  · subst h0; exact ⟨none, 0, rfl, Nat.le_refl _, by omega⟩
  · unfold maxLen at h2
    exact ⟨_, cap, rfl, h1, by omega⟩
theorem row_cell {w : World} {B k n cap : Nat} {a : Option Addr} {cs : List Value} {T : TypeId} (h : w.ownsRow B T k (.slice a n cap) n cs) {i : Nat} {x : Value} (hi : cs[i]? = some x) : ∃ g, a = some ⟨g, 0, none⟩ ∧ B ≤ g ∧ g < w.heap.size ∧ (∀ j, w.frozen? ⟨g, j, none⟩ = false) ∧ w.cell? ⟨g, i, none⟩ = some x := by
  have hl := (List.getElem?_eq_some_iff.1 hi).1
  rcases h.2 with ⟨_, h0⟩ | ⟨g, cap', cur, h0, hb, hg, h1, h2, h3, h4⟩
  · have := h.1
    rw [h0] at this
    omega
  · simp only [Value.slice.injEq] at h0
    obtain ⟨rfl, -, -⟩ := h0
    refine ⟨g, rfl, hb, (Array.getElem?_eq_some_iff.1 hg).1, fun j => frozen_of_row _ _ _ _ _ hg, ?_⟩
    rw [cell_of_row _ _ _ _ _ _ hg, ← Array.getElem?_toList]
    rw [← h4, List.getElem?_take] at hi
    have h9 := h.1
    rw [if_pos (by omega)] at hi
    exact hi
theorem row_put {w : World} {B g n cap : Nat} {T : TypeId} {Vs : List Value} (h : w.ownsRow B T 1 (.slice (some ⟨g, 0, none⟩) n cap) n Vs) (i : Nat) (x : Value) :
    (w.setCell ⟨g, i, none⟩ x).ownsRow B T 1 (.slice (some ⟨g, 0, none⟩) n cap) n (Vs.set i x) := by
  rcases h.2 with ⟨h1, _⟩ | ⟨g', cap', cur, h1, hb, hg, hnc, hcm, hcs, ht⟩
  · cases h1
  · simp at h1
    obtain ⟨rfl, rfl⟩ := h1
    have h2 := heap_setCell_same w g i cur T x hg
    refine ⟨by rw [List.length_set]; exact h.1, .inr ⟨g, cap, _, rfl, hb, h2, hnc, hcm, by simpa using hcs, ?_⟩⟩
    simp only [Array.toList_setIfInBounds, List.take_set]
    rw [ht]

/-- A record that stays as it is, in one of the blocks of C. -/
def Frz (u : World) (C : Nat → Prop) (x : Value) (r : List Nat) : Prop := SeesB u x r ∧ ∀ a n c, x = .slice (some a) n c → C a.block
theorem Frz.keeps {T C : Nat → Prop} {u u' : World} {x : Value} {r : List Nat} (h : Frz u C x r) (hk : Keeps T u u') (hC : ∀ k, C k → ¬ T k) : Frz u' C x r := ⟨h.1.keeps hk (fun a n c e => hC _ (h.2 a n c e)), h.2⟩
theorem Frz.more {C C' : Nat → Prop} {u : World} {x : Value} {r : List Nat} (h : Frz u C x r) (hC : ∀ k, C k → C' k) : Frz u C' x r := ⟨h.1, fun a n c e => hC _ (h.2 a n c e)⟩
/-- An own list of such records. -/
def RecsF (u : World) (C : Nat → Prop) (B : Nat) (v : Value) (R : List (List Nat)) : Prop := ∃ Vs, OwnS u B v Vs ∧ Vs.length = R.length ∧ ∀ (i : Nat) x r, Vs[i]? = some x → R[i]? = some r → Frz u C x r
theorem RecsF.nil (u : World) (C : Nat → Prop) (B : Nat) : RecsF u C B (.slice none 0 0) [] := ⟨[], ownS_nil _ _, rfl, fun i x r hx => by simp at hx⟩
theorem RecsF.keeps {T C : Nat → Prop} {u u' : World} {B : Nat} {v : Value} {R : List (List Nat)} (h : RecsF u C B v R) (hk : Keeps T u u') (hC : ∀ k, C k → ¬ T k) (hv : ∀ j, v.ownBlock = some j → ¬ T j) : RecsF u' C B v R := by
  obtain ⟨Vs, h1, h2, h3⟩ := h
  exact ⟨Vs, h1.keeps hk hv, h2, fun i x r hx hr => (h3 i x r hx hr).keeps hk hC⟩
theorem RecsF.sees {C : Nat → Prop} {u : World} {B : Nat} {v : Value} {R : List (List Nat)} (h : RecsF u C B v R) : SeesBB u v R := by
  obtain ⟨Vs, h1, h2, h3⟩ := h
  exact own_seesS h1 h2 (fun i x r hx hr => (h3 i x r hx hr).1)
/-- A closed generation. -/
def GenF (u : World) (C : Nat → Prop) (v : Value) (L : List (List Nat)) : Prop :=
  ∃ (Vs : List Value) (ao : Option Addr) (cap : Nat), v = .slice ao L.length cap ∧ L.length ≤ cap ∧ cap ≤ maxLen ∧ Vs.length = L.length ∧ (∀ (j : Nat) x, Vs[j]? = some x → ∃ g off, ao = some ⟨g, off, none⟩ ∧ C g ∧ g < u.heap.size ∧ u.cell? ⟨g, off + j, none⟩ = some x) ∧ ∀ (i : Nat) x r, Vs[i]? = some x → L[i]? = some r → Frz u C x r
theorem GenF.keeps {T C : Nat → Prop} {u u' : World} {v : Value} {L : List (List Nat)} (h : GenF u C v L) (hk : Keeps T u u') (hC : ∀ k, C k → ¬ T k) : GenF u' C v L := by
  obtain ⟨Vs, ao, cap, h1, h2, h3, h4, h5, h6⟩ := h
  refine ⟨Vs, ao, cap, h1, h2, h3, h4, fun j x hx => ?_, fun i x r hx hr => (h6 i x r hx hr).keeps hk hC⟩
  obtain ⟨g, off, e, hg, hl, hc⟩ := h5 j x hx
  exact ⟨g, off, e, hg, Nat.lt_of_lt_of_le hl hk.size, (World.cell?_of_block (w := u) (a := ⟨g, off + j, none⟩) (hk.block g hl (hC g hg))).trans hc⟩
theorem GenF.more {C C' : Nat → Prop} {u : World} {v : Value} {L : List (List Nat)} (h : GenF u C v L) (hC : ∀ k, C k → C' k) : GenF u C' v L := by
  obtain ⟨Vs, ao, cap, h1, h2, h3, h4, h5, h6⟩ := h
  refine ⟨Vs, ao, cap, h1, h2, h3, h4, fun j x hx => ?_, fun i x r hx hr => (h6 i x r hx hr).more hC⟩
  obtain ⟨g, off, e, hg, hl, hc⟩ := h5 j x hx
  exact ⟨g, off, e, hC g hg, hl, hc⟩
theorem GenF.sees {C : Nat → Prop} {u : World} {v : Value} {L : List (List Nat)} (h : GenF u C v L) : SeesBB u v L := by
  obtain ⟨Vs, ao, cap, h1, h2, h3, h4, h5, h6⟩ := h
  refine ⟨ao, cap, h1, h2, h3, fun j hj => ?_⟩
  have hx : Vs[j]? = some Vs[j] := List.getElem?_eq_getElem (by omega)
  obtain ⟨g, off, e, -, hl, hc⟩ := h5 j _ hx
  exact ⟨g, off, _, e, hl, hc, (h6 j _ _ hx (List.getElem?_eq_getElem hj)).1⟩
theorem RecsF.close {C : Nat → Prop} {u : World} {B : Nat} {v : Value} {R : List (List Nat)} (h : RecsF u C B v R) : GenF u (fun k => C k ∨ v.ownBlock = some k) v R := by
  obtain ⟨Vs, h1, h2, h3⟩ := h
  obtain ⟨a, n, cap, rfl, HN, k1, k2⟩ := h1.shape
  refine ⟨Vs, a, cap, by rw [HN.out, h2], by rw [← h2, ← HN.out]; exact k1, by unfold maxLen; omega, h2, fun j x hx => ?_, fun i x r hx hr => (h3 i x r hx hr).more (fun k hk => .inl hk)⟩
  obtain ⟨g, rfl, -, hl, hc⟩ := h1.at hx
  exact ⟨g, 0, rfl, .inr rfl, hl, by rw [Nat.zero_add]; exact hc u rfl⟩

/-- What the points of a tale say. -/
def PtOk (G : List (List (List Nat))) (X : List Pt3) (P : Pts) : Prop := X.length = P.length ∧ ∀ (i : Nat) x p, X[i]? = some x → P[i]? = some p → x.a = p.1 ∧ ∃ L, G[x.g]? = some L ∧ x.n ≤ L.length ∧ p.2 = L.take x.n
theorem PtOk.grow {Gc : List (List (List Nat))} {R : List (List Nat)} {X : List Pt3} {P : Pts} (h : PtOk (Gc ++ [R]) X P) (r : List Nat) : PtOk (Gc ++ [R ++ [r]]) X P := by
  refine ⟨h.1, fun i x p hx hp => ?_⟩
  obtain ⟨h1, L, h2, h3, h4⟩ := h.2 i x p hx hp
  refine ⟨h1, ?_⟩
  by_cases hg : x.g < Gc.length
  · rw [List.getElem?_append_left hg] at h2
    exact ⟨L, by rw [List.getElem?_append_left hg]; exact h2, h3, h4⟩
  · rw [List.getElem?_append_right (by omega)] at h2
    rcases hj : x.g - Gc.length with _ | j
    · rw [hj] at h2
      simp at h2
      subst h2
      refine ⟨R ++ [r], by rw [List.getElem?_append_right (by omega), hj]; rfl, by rw [List.length_append]; omega, by rw [h4, List.take_append_of_le_length h3]⟩
    · rw [hj] at h2; simp at h2
theorem PtOk.close {G H : List (List (List Nat))} {X : List Pt3} {P : Pts} (h : PtOk G X P) : PtOk (G ++ H) X P := by
  refine ⟨h.1, fun i x p hx hp => ?_⟩
  obtain ⟨h1, L, h2, h3, h4⟩ := h.2 i x p hx hp
  exact ⟨h1, L, by rw [List.getElem?_append_left (List.getElem?_eq_some_iff.1 h2).1]; exact h2, h3, h4⟩
theorem PtOk.note {G : List (List (List Nat))} {X : List Pt3} {P : Pts} (h : PtOk G X P) {g a : Nat} {R : List (List Nat)} (hg : G[g]? = some R) : PtOk G (X ++ [⟨g, R.length, a⟩]) (P ++ [(a, R)]) := by
  refine ⟨by simp [h.1], fun i x p hx hp => ?_⟩
  by_cases hi : i < X.length
  · rw [List.getElem?_append_left hi] at hx
    rw [List.getElem?_append_left (by rw [← h.1]; exact hi)] at hp
    exact h.2 i x p hx hp
  · rw [List.getElem?_append_right (by omega)] at hx
    rw [List.getElem?_append_right (by rw [← h.1]; omega), ← h.1] at hp
    rcases hj : i - X.length with _ | j
    · rw [hj] at hx hp
      simp at hx hp
      subst hx hp
      exact ⟨rfl, R, hg, Nat.le_refl _, by simp⟩
    · rw [hj] at hx; simp at hx

/-- A journal and its tale beside it. -/
structure TaX (w u : World) (S : Nat → Prop) (p : Nat) (l : Lg) (q : Nat) (C : Nat → Prop) (vG vP vR : Value) (Gs : List Value) (X : List Pt3) (Gc : List (List (List Nat))) (R : List (List Nat)) (P : Pts) (sz wr : Nat) : Prop where
  jr : Jr w u S p l
  row : u.heap[q]? = some (taRow vG vP vR sz wr)
  lq : w.heap.size ≤ q
  fg : u.ownsRow w.heap.size 27 1 vG Gs.length Gs
  fp : u.ownsRow w.heap.size 94 3 vP X.length (X.flatMap ptc)
  fr : RecsF u C w.heap.size vR R
  cl : ∀ (j : Nat) v L, Gs[j]? = some v → Gc[j]? = some L → GenF u C v L
  gl : Gs.length = Gc.length + 1 ∨ (Gs = [] ∧ Gc = [])
  sl : AllS Gs
  pk : PtOk (Gc ++ [R]) X P
  ap : ∀ k, C k → k < u.heap.size ∧ k ≠ q ∧ vG.ownBlock ≠ some k ∧ vP.ownBlock ≠ some k ∧ vR.ownBlock ≠ some k ∧ ¬ S k
  sq : ¬ S q
  sg : ∀ k, vG.ownBlock = some k → ¬ S k
  sp : ∀ k, vP.ownBlock = some k → ¬ S k
  sr : ∀ k, vR.ownBlock = some k → ¬ S k
section
variable {w u u' : World} {S S' : Nat → Prop} {p : Nat} {l l' : Lg} {q : Nat} {C : Nat → Prop} {vG vP vR : Value} {Gs : List Value} {X : List Pt3} {Gc : List (List (List Nat))} {R : List (List Nat)} {P : Pts} {sz wr : Nat}
theorem TaX.lt (h : TaX w u S p l q C vG vP vR Gs X Gc R P sz wr) : q < u.heap.size ∧ (∀ k, vG.ownBlock = some k → w.heap.size ≤ k ∧ k < u.heap.size) ∧ (∀ k, vP.ownBlock = some k → w.heap.size ≤ k ∧ k < u.heap.size) ∧ (∀ k, vR.ownBlock = some k → w.heap.size ≤ k ∧ k < u.heap.size) := by
  obtain ⟨Vs, h1, -, -⟩ := h.fr
  exact ⟨(Array.getElem?_eq_some_iff.1 h.row).1, fun k hk => World.ownsRow.lt h.fg k hk, fun k hk => World.ownsRow.lt h.fp k hk, fun k hk => World.ownsRow.lt h1 k hk⟩
/-- The four parts lie in blocks of their own. -/
theorem TaX.ne (h : TaX w u S p l q C vG vP vR Gs X Gc R P sz wr) : vG.ownBlock ≠ some q ∧ vP.ownBlock ≠ some q ∧ vR.ownBlock ≠ some q ∧ (∀ k, vG.ownBlock = some k → vP.ownBlock ≠ some k ∧ vR.ownBlock ≠ some k) ∧ (∀ k, vP.ownBlock = some k → vG.ownBlock ≠ some k ∧ vR.ownBlock ≠ some k) ∧ (∀ k, vR.ownBlock = some k → vG.ownBlock ≠ some k ∧ vP.ownBlock ≠ some k) := by
  obtain ⟨Vs, h1, -, -⟩ := h.fr
  have hr := h.row
  unfold taRow at hr
  unfold OwnS at h1
  exact ⟨row_ne h.fg hr (by decide), row_ne h.fp hr (by decide), row_ne h1 hr (by decide), fun k hk => ⟨rows_ne h.fg h.fp (by decide) k hk, rows_ne h.fg h1 (by decide) k hk⟩, fun k hk => ⟨rows_ne h.fp h.fg (by decide) k hk, rows_ne h.fp h1 (by decide) k hk⟩, fun k hk => ⟨rows_ne h1 h.fg (by decide) k hk, rows_ne h1 h.fp (by decide) k hk⟩⟩
theorem TaX.keeps {T : Nat → Prop} (h : TaX w u S p l q C vG vP vR Gs X Gc R P sz wr) (hk : Keeps T u u') (hT : ∀ k, T k → ¬ C k ∧ k ≠ q ∧ vG.ownBlock ≠ some k ∧ vP.ownBlock ≠ some k ∧ vR.ownBlock ≠ some k) (hj : Jr w u' S' p l') (hS : ∀ k, S' k → S k ∨ u.heap.size ≤ k) : TaX w u' S' p l' q C vG vP vR Gs X Gc R P sz wr := by
  obtain ⟨l1, l2, l3, l4⟩ := h.lt
  have hC : ∀ k, C k → ¬ T k := fun k hc ht => (hT k ht).1 hc
  have nS : ∀ k, k < u.heap.size → ¬ S k → ¬ S' k := fun k hk hn e => by
    rcases hS k e with e | e
    · exact hn e
    · omega
  refine ⟨hj, (hk.block q l1 (fun e => (hT q e).2.1 rfl)).trans h.row, h.lq, row_keeps h.fg hk (fun j hj e => (hT j e).2.2.1 hj), row_keeps h.fp hk (fun j hj e => (hT j e).2.2.2.1 hj), h.fr.keeps hk hC (fun j hj e => (hT j e).2.2.2.2 hj), fun j v L hv hL => (h.cl j v L hv hL).keeps hk hC, h.gl, h.sl, h.pk, fun k hc => ?_, nS q l1 h.sq, fun k e => nS k (l2 k e).2 (h.sg k e), fun k e => nS k (l3 k e).2 (h.sp k e), fun k e => nS k (l4 k e).2 (h.sr k e)⟩
  obtain ⟨a1, a2, a3, a4, a5, a6⟩ := h.ap k hc
  exact ⟨Nat.lt_of_lt_of_le a1 hk.size, a2, a3, a4, a5, nS k a1 a6⟩
theorem TaX.left (h : TaX w u S p l q C vG vP vR Gs X Gc R P sz wr) (hl : Left u u' S p l') : TaX w u' (NewS S u.heap.size u') p l' q C vG vP vR Gs X Gc R P sz wr :=
  h.keeps hl.kp (fun k hk => ⟨fun hc => (h.ap k hc).2.2.2.2.2 hk, fun e => h.sq (e ▸ hk), fun e => h.sg k e hk, fun e => h.sp k e hk, fun e => h.sr k e hk⟩) (h.jr.left hl) (fun _ hk => hk.imp id (fun e => e.1))
theorem TaX.below (h : TaX w u S p l q C vG vP vR Gs X Gc R P sz wr) (hb : Below u.heap.size u u') : TaX w u' S p l q C vG vP vR Gs X Gc R P sz wr :=
  h.keeps (T := fun _ => False) (Keeps.of hb) (fun _ e => e.elim) (h.jr.below hb) (fun _ hk => .inl hk)
/-- A write into the tale's own blocks leaves the journal and what is frozen. -/
theorem TaX.own {T : Nat → Prop} (h : TaX w u S p l q C vG vP vR Gs X Gc R P sz wr) (hk : Keeps T u u') (hT : ∀ k, T k → k = q ∨ vG.ownBlock = some k ∨ vP.ownBlock = some k ∨ vR.ownBlock = some k) : Jr w u' S p l ∧ ∀ k, C k → ¬ T k := by
  obtain ⟨l1, l2, l3, l4⟩ := h.lt
  refine ⟨h.jr.keeps hk (fun k ht => ?_), fun k hc ht => ?_⟩
  · rcases hT k ht with rfl | e | e | e
    · exact ⟨h.sq, h.lq⟩
    · exact ⟨h.sg k e, (l2 k e).1⟩
    · exact ⟨h.sp k e, (l3 k e).1⟩
    · exact ⟨h.sr k e, (l4 k e).1⟩
  · obtain ⟨a1, a2, a3, a4, a5, a6⟩ := h.ap k hc
    rcases hT k ht with e | e | e | e
    · exact a2 e
    · exact a3 e
    · exact a4 e
    · exact a5 e
/-- The two numbers. -/
theorem TaX.nums (h : TaX w u S p l q C vG vP vR Gs X Gc R P sz wr) (hk : Keeps (At1 q) u u') {sz' wr' : Nat} (hr : u'.heap[q]? = some (taRow vG vP vR sz' wr')) : TaX w u' S p l q C vG vP vR Gs X Gc R P sz' wr' := by
  obtain ⟨hj, hC⟩ := h.own hk (fun _ e => .inl e)
  obtain ⟨n1, n2, n3, -, -, -⟩ := h.ne
  refine ⟨hj, hr, h.lq, row_keeps h.fg hk (fun j hj e => n1 (by unfold At1 at e; rw [hj, e])), row_keeps h.fp hk (fun j hj e => n2 (by unfold At1 at e; rw [hj, e])), h.fr.keeps hk hC (fun j hj e => n3 (by unfold At1 at e; rw [hj, e])), fun j v L hv hL => (h.cl j v L hv hL).keeps hk hC, h.gl, h.sl, h.pk, fun k hc => ?_, h.sq, h.sg, h.sp, h.sr⟩
  obtain ⟨a1, a2⟩ := h.ap k hc
  exact ⟨Nat.lt_of_lt_of_le a1 hk.size, a2⟩
/-- A record more, in a new block. -/
theorem TaX.add {u0 W u6 : World} {Vs : List Value} {x : Value} {r : List Nat} {g6 z6 cap6 : Nat} (h0 : TaX w u0 S p l q C vG vP vR Gs X Gc R P sz wr) (hb : Below u0.heap.size u0 W) (hVl : Vs.length = R.length) (hVf : ∀ (i : Nat) x r, Vs[i]? = some x → R[i]? = some r → Frz u0 C x r)
    (hx : SeesB W x r) (hn : ∀ a n c, x = .slice (some a) n c → u0.heap.size ≤ a.block ∧ a.block < W.heap.size) (ho : OwnS u6 w.heap.size (.slice (some ⟨g6, 0, none⟩) z6 cap6) (Vs ++ [x])) (hg : W.grownBy u6 vR.ownBlock) (hat : vR.ownBlock = some g6 ∨ W.heap.size ≤ g6) :
    ∃ C', TaX w (u6.setCell ⟨q, 2, none⟩ (.slice (some ⟨g6, 0, none⟩) z6 cap6)) S p l q C' vG vP (.slice (some ⟨g6, 0, none⟩) z6 cap6) Gs X Gc (R ++ [r]) P sz wr := by
  have h := h0.below hb
  obtain ⟨n1, n2, n3, n4, n5, n6⟩ := h.ne
  obtain ⟨l1, l2, l3, l4⟩ := h0.lt
  have hsz := hb.size
  have k6 : Keeps (fun k => k = q ∨ vR.ownBlock = some k) W u6 := Keeps.grown hg (fun k e => .inr e)
  have hk : Keeps (fun k => k = q ∨ vR.ownBlock = some k) W (u6.setCell ⟨q, 2, none⟩ (.slice (some ⟨g6, 0, none⟩) z6 cap6)) := k6.set ⟨q, 2, none⟩ (.inl rfl) _
  have hq6 : g6 ≠ q := fun e => by
    rcases hat with e' | e'
    · exact n3 (by rw [e', e])
    · omega
  obtain ⟨hj, hC⟩ := h.own hk (fun k e => e.elim .inl (fun e => .inr (.inr (.inr e))))
  have hr6 : u6.heap[q]? = some (taRow vG vP vR sz wr) := (hg.block q (by omega) (fun e => n3 e.symm)).trans h.row
  unfold taRow at hr6
  have hr7 := set_cells (i := 2) (v := .slice (some ⟨g6, 0, none⟩) z6 cap6) hr6
  have hS6 : ∀ k, S k → k < u0.heap.size := h0.jr.log.lt
  have hsg : ∀ k, k < u0.heap.size → vR.ownBlock ≠ some k → k ≠ g6 := fun k hk hne e => by
    rcases hat with e' | e'
    · exact hne (by rw [e', e])
    · omega
  refine ⟨fun k => C k ∨ ∃ a n c, x = .slice (some a) n c ∧ k = a.block, hj, hr7, h.lq, row_keeps h.fg hk (fun j hj e => ?_), row_keeps h.fp hk (fun j hj e => ?_), ⟨Vs ++ [x], ho.keeps ((Keeps.refl (At1 q) u6).set ⟨q, 2, none⟩ rfl _) (fun k hk e => ?_), by simp [hVl], fun i y s hy hs => ?_⟩, fun j v L hv hL => ((h.cl j v L hv hL).keeps hk hC).more (fun k hc => .inl hc), h.gl, h.sl, h.pk.grow r, fun k hc => ?_, h.sq, h.sg, h.sp, fun k e hS => ?_⟩
  · rcases e with e | e
    · exact n1 (by rw [hj, e])
    · exact (n4 j hj).2 e
  · rcases e with e | e
    · exact n2 (by rw [hj, e])
    · exact (n5 j hj).2 e
  · simp [Value.ownBlock] at hk
    unfold At1 at e
    exact hq6 (hk.trans e)
  · by_cases hi : i < Vs.length
    · rw [List.getElem?_append_left hi] at hy
      rw [List.getElem?_append_left (by omega)] at hs
      exact (((hVf i y s hy hs).keeps (T := fun _ => False) (Keeps.of hb) (fun _ _ e => e)).keeps hk hC).more (fun k hc => .inl hc)
    · rw [List.getElem?_append_right (by omega)] at hy hs
      rw [hVl] at hy
      rcases hj' : i - R.length with _ | j
      · rw [hj'] at hy hs
        simp at hy hs
        subst hy hs
        refine ⟨hx.keeps hk (fun a n c e => ?_), fun a n c e => .inr ⟨a, n, c, e, rfl⟩⟩
        obtain ⟨hn1, hn2⟩ := hn a n c e
        rintro (e' | e')
        · omega
        · have := (l4 _ e').2; omega
      · rw [hj'] at hy; simp at hy
  · have hz := hk.size
    rcases hc with hc | ⟨a, n, c, e, rfl⟩
    · obtain ⟨a1, a2, a3, a4, a5, a6⟩ := h0.ap k hc
      exact ⟨by omega, a2, a3, a4, fun e => by simp [Value.ownBlock] at e; exact hsg k a1 a5 e.symm, a6⟩
    · obtain ⟨hn1, hn2⟩ := hn a n c e
      refine ⟨by omega, by omega, fun e' => by have := (l2 _ e').2; omega, fun e' => by have := (l3 _ e').2; omega, fun e' => ?_, fun e' => by have := hS6 _ e'; omega⟩
      simp [Value.ownBlock] at e'
      rcases hat with e2 | e2
      · have := (l4 _ e2).2; omega
      · omega
  · simp [Value.ownBlock] at e
    subst e
    rcases hat with e' | e'
    · exact h.sr _ e' hS
    · have := hS6 _ hS; omega
/-- A new generation: the elder one is closed. -/
theorem TaX.newGen {u0 W u6 : World} {g6 z6 cap6 : Nat} (h0 : TaX w u0 S p l q C vG vP vR Gs X Gc R P sz wr) (hb : Below u0.heap.size u0 W) (hs : Gs[Gc.length]? = some vR) (hgl : Gs.length = Gc.length + 1)
    (ho : u6.ownsRow w.heap.size 27 1 (.slice (some ⟨g6, 0, none⟩) z6 cap6) (Gs ++ [Value.slice none 0 0]).length (Gs ++ [Value.slice none 0 0])) (hg : W.grownBy u6 vG.ownBlock) (hat : vG.ownBlock = some g6 ∨ W.heap.size ≤ g6) :
    ∃ C', TaX w ((u6.setCell ⟨q, 0, none⟩ (.slice (some ⟨g6, 0, none⟩) z6 cap6)).setCell ⟨q, 2, none⟩ (.slice none 0 0)) S p l q C' (.slice (some ⟨g6, 0, none⟩) z6 cap6) vP (.slice none 0 0) (Gs ++ [.slice none 0 0]) X (Gc ++ [R]) [] P sz wr := by
  have h := h0.below hb
  obtain ⟨n1, n2, n3, n4, n5, n6⟩ := h.ne
  obtain ⟨l1, l2, l3, l4⟩ := h0.lt
  have hsz := hb.size
  have hk : Keeps (fun k => k = q ∨ vG.ownBlock = some k) W ((u6.setCell ⟨q, 0, none⟩ (.slice (some ⟨g6, 0, none⟩) z6 cap6)).setCell ⟨q, 2, none⟩ (.slice none 0 0)) := ((Keeps.grown hg (fun k e => .inr e)).set ⟨q, 0, none⟩ (.inl rfl) _).set ⟨q, 2, none⟩ (.inl rfl) _
  have hq6 : g6 ≠ q := fun e => by
    rcases hat with e' | e'
    · exact n1 (by rw [e', e])
    · omega
  obtain ⟨hj, hC⟩ := h.own hk (fun k e => e.elim .inl (fun e => .inr (.inl e)))
  have hr6 : u6.heap[q]? = some (taRow vG vP vR sz wr) := (hg.block q (by omega) (fun e => n1 e.symm)).trans h.row
  unfold taRow at hr6
  have hr7 := set_cells (i := 2) (v := .slice none 0 0) (set_cells (i := 0) (v := .slice (some ⟨g6, 0, none⟩) z6 cap6) hr6)
  have hS6 : ∀ k, S k → k < u0.heap.size := h0.jr.log.lt
  have hnR : ∀ k, vR.ownBlock = some k → ¬ (k = q ∨ vG.ownBlock = some k) := fun k hk e => by
    rcases e with e | e
    · exact n3 (by rw [hk, e])
    · exact (n6 k hk).1 e
  refine ⟨fun k => C k ∨ vR.ownBlock = some k, hj, hr7, h.lq, row_keeps ho (((Keeps.refl (At1 q) u6).set ⟨q, 0, none⟩ rfl _).set ⟨q, 2, none⟩ rfl _) (fun k hk e => ?_), row_keeps h.fp hk (fun j hj e => ?_), RecsF.nil _ _ _, fun j v L hv hL => ?_, .inl (by simp [hgl]), ?_, h.pk.close, fun k hc => ?_, h.sq, fun k e hS => ?_, h.sp, fun k e => by simp [Value.ownBlock] at e⟩
  · simp [Value.ownBlock] at hk
    unfold At1 at e
    exact hq6 (hk.trans e)
  · rcases e with e | e
    · exact n2 (by rw [hj, e])
    · exact (n5 j hj).1 e
  · by_cases hjl : j < Gc.length
    · rw [List.getElem?_append_left (by omega)] at hv hL
      exact ((h.cl j v L hv hL).keeps hk hC).more (fun k hc => .inl hc)
    · rw [List.getElem?_append_right (by omega)] at hL
      rcases hj' : j - Gc.length with _ | i
      · rw [hj'] at hL
        simp at hL
        subst hL
        obtain rfl : j = Gc.length := by omega
        rw [List.getElem?_append_left (by omega), hs] at hv
        simp at hv
        subst hv
        exact h.fr.close.keeps hk (fun k hc e => by
          rcases hc with hc | hc
          · exact hC k hc e
          · exact hnR k hc e)
      · rw [hj'] at hL; simp at hL
  · intro y hy
    rcases List.mem_append.1 hy with hy | hy
    · exact h.sl y hy
    · simp at hy; subst hy; exact ⟨_, _, _, rfl⟩
  · have hz := hk.size
    have key : ∀ k, k < u0.heap.size → vG.ownBlock ≠ some k → ¬ (Value.ownBlock (.slice (some ⟨g6, 0, none⟩) z6 cap6) = some k) := fun k hk hne e => by
      simp [Value.ownBlock] at e
      rcases hat with e' | e'
      · exact hne (by rw [e', e])
      · omega
    rcases hc with hc | hc
    · obtain ⟨a1, a2, a3, a4, a5, a6⟩ := h0.ap k hc
      exact ⟨by omega, a2, key k a1 a3, a4, fun e => by simp [Value.ownBlock] at e, a6⟩
    · have a1 := (l4 k hc).2
      exact ⟨by omega, fun e => hnR k hc (.inl e), key k a1 (n6 k hc).1, (n6 k hc).2, fun e => by simp [Value.ownBlock] at e, h.sr k hc⟩
  · simp [Value.ownBlock] at e
    subst e
    rcases hat with e' | e'
    · exact h.sg _ e' hS
    · have := hS6 _ hS; omega
/-- The first generation of a tale. -/
theorem TaX.gen0 {u0 W u6 : World} {g6 z6 cap6 : Nat} (h0 : TaX w u0 S p l q C vG vP vR [] X [] R P sz wr) (hb : Below u0.heap.size u0 W)
    (ho : u6.ownsRow w.heap.size 27 1 (.slice (some ⟨g6, 0, none⟩) z6 cap6) [Value.slice none 0 0].length [.slice none 0 0]) (hg : W.grownBy u6 vG.ownBlock) (hat : vG.ownBlock = some g6 ∨ W.heap.size ≤ g6) :
    TaX w (u6.setCell ⟨q, 0, none⟩ (.slice (some ⟨g6, 0, none⟩) z6 cap6)) S p l q C (.slice (some ⟨g6, 0, none⟩) z6 cap6) vP vR [.slice none 0 0] X [] R P sz wr := by
  have h := h0.below hb
  obtain ⟨n1, n2, n3, n4, n5, n6⟩ := h.ne
  obtain ⟨l1, l2, l3, l4⟩ := h0.lt
  have hsz := hb.size
  have hk : Keeps (fun k => k = q ∨ vG.ownBlock = some k) W (u6.setCell ⟨q, 0, none⟩ (.slice (some ⟨g6, 0, none⟩) z6 cap6)) := (Keeps.grown hg (fun k e => .inr e)).set ⟨q, 0, none⟩ (.inl rfl) _
  have hq6 : g6 ≠ q := fun e => by
    rcases hat with e' | e'
    · exact n1 (by rw [e', e])
    · omega
  obtain ⟨hj, hC⟩ := h.own hk (fun k e => e.elim .inl (fun e => .inr (.inl e)))
  have hr6 : u6.heap[q]? = some (taRow vG vP vR sz wr) := (hg.block q (by omega) (fun e => n1 e.symm)).trans h.row
  unfold taRow at hr6
  have hr7 := set_cells (i := 0) (v := .slice (some ⟨g6, 0, none⟩) z6 cap6) hr6
  have hS6 : ∀ k, S k → k < u0.heap.size := h0.jr.log.lt
  refine ⟨hj, hr7, h.lq, row_keeps ho ((Keeps.refl (At1 q) u6).set ⟨q, 0, none⟩ rfl _) (fun k hk e => ?_), row_keeps h.fp hk (fun j hj e => ?_), h.fr.keeps hk hC (fun j hj e => ?_), fun j v L hv hL => by simp at hL, .inl rfl, ?_, h.pk, fun k hc => ?_, h.sq, fun k e hS => ?_, h.sp, h.sr⟩
  · simp [Value.ownBlock] at hk
    unfold At1 at e
    exact hq6 (hk.trans e)
  · rcases e with e | e
    · exact n2 (by rw [hj, e])
    · exact (n5 j hj).1 e
  · rcases e with e | e
    · exact n3 (by rw [hj, e])
    · exact (n6 j hj).1 e
  · intro y hy
    simp at hy; subst hy; exact ⟨_, _, _, rfl⟩
  · have hz := hk.size
    obtain ⟨a1, a2, a3, a4, a5, a6⟩ := h0.ap k hc
    refine ⟨by omega, a2, fun e => ?_, a4, a5, a6⟩
    simp [Value.ownBlock] at e
    rcases hat with e' | e'
    · exact a3 (by rw [e', e])
    · omega
  · simp [Value.ownBlock] at e
    subst e
    rcases hat with e' | e'
    · exact h.sg _ e' hS
    · have := hS6 _ hS; omega
/-- The records are laid into their generation. -/
theorem TaX.setGen {g6 z6 cap6 : Nat} (h : TaX w u S p l q C (.slice (some ⟨g6, 0, none⟩) z6 cap6) vP vR Gs X Gc R P sz wr) (hgl : Gs.length = Gc.length + 1) :
    TaX w (u.setCell ⟨g6, Gc.length, none⟩ vR) S p l q C (.slice (some ⟨g6, 0, none⟩) z6 cap6) vP vR (Gs.set Gc.length vR) X Gc R P sz wr ∧ (Gs.set Gc.length vR)[Gc.length]? = some vR := by
  obtain ⟨n1, n2, n3, n4, n5, n6⟩ := h.ne
  obtain ⟨l1, l2, l3, l4⟩ := h.lt
  have hk : Keeps (At1 g6) u (u.setCell ⟨g6, Gc.length, none⟩ vR) := (Keeps.refl (At1 g6) u).set ⟨g6, Gc.length, none⟩ rfl _
  obtain ⟨hj, hC⟩ := h.own hk (fun k e => .inr (.inl (by unfold At1 at e; rw [e]; rfl)))
  have hgq : g6 ≠ q := fun e => n1 (by rw [← e]; rfl)
  obtain ⟨a, cap, e, -, -⟩ := row_shape h.fg
  simp at e
  obtain ⟨rfl, rfl, rfl⟩ := e
  have hfg := row_put h.fg Gc.length vR
  refine ⟨⟨hj, (hk.block q l1 (fun e => hgq e.symm)).trans h.row, h.lq, ?_, row_keeps h.fp hk (fun j hj e => (n5 j hj).1 (by unfold At1 at e; rw [e]; rfl)), h.fr.keeps hk hC (fun j hj e => (n6 j hj).1 (by unfold At1 at e; rw [e]; rfl)), fun j v L hv hL => ?_, ?_, ?_, h.pk, fun k hc => ?_, h.sq, h.sg, h.sp, h.sr⟩, ?_⟩
  · rw [List.length_set]; exact hfg
  · have hjl := (List.getElem?_eq_some_iff.1 hL).1
    rw [List.getElem?_set_ne (by omega)] at hv
    exact (h.cl j v L hv hL).keeps hk hC
  · exact .inl (by simpa using hgl)
  · intro y hy
    rcases List.mem_or_eq_of_mem_set hy with hy | rfl
    · exact h.sl y hy
    · obtain ⟨Vs, h1, -, -⟩ := h.fr
      obtain ⟨a, n, c, e, -, -, -⟩ := h1.shape
      exact ⟨a, n, c, e⟩
  · obtain ⟨a1, a2⟩ := h.ap k hc
    exact ⟨Nat.lt_of_lt_of_le a1 hk.size, a2⟩
  · rw [List.getElem?_set_self (by omega)]
/-- A point more. -/
theorem TaX.point {u0 W u6 : World} {g6 z6 cap6 : Nat} (h0 : TaX w u0 S p l q C vG vP vR Gs X Gc R P sz wr) (hb : Below u0.heap.size u0 W)
    (ho : u6.ownsRow w.heap.size 94 3 (.slice (some ⟨g6, 0, none⟩) z6 cap6) (X ++ [(⟨Gc.length, R.length, wr⟩ : Pt3)]).length ((X ++ [(⟨Gc.length, R.length, wr⟩ : Pt3)]).flatMap ptc)) (hg : W.grownBy u6 vP.ownBlock) (hat : vP.ownBlock = some g6 ∨ W.heap.size ≤ g6) :
    TaX w (u6.setCell ⟨q, 1, none⟩ (.slice (some ⟨g6, 0, none⟩) z6 cap6)) S p l q C vG (.slice (some ⟨g6, 0, none⟩) z6 cap6) vR Gs (X ++ [⟨Gc.length, R.length, wr⟩]) Gc R (P ++ [(wr, R)]) sz wr := by
  have h := h0.below hb
  obtain ⟨n1, n2, n3, n4, n5, n6⟩ := h.ne
  obtain ⟨l1, l2, l3, l4⟩ := h0.lt
  have hsz := hb.size
  have hk : Keeps (fun k => k = q ∨ vP.ownBlock = some k) W (u6.setCell ⟨q, 1, none⟩ (.slice (some ⟨g6, 0, none⟩) z6 cap6)) := (Keeps.grown hg (fun k e => .inr e)).set ⟨q, 1, none⟩ (.inl rfl) _
  have hq6 : g6 ≠ q := fun e => by
    rcases hat with e' | e'
    · exact n2 (by rw [e', e])
    · omega
  obtain ⟨hj, hC⟩ := h.own hk (fun k e => e.elim .inl (fun e => .inr (.inr (.inl e))))
  have hr6 : u6.heap[q]? = some (taRow vG vP vR sz wr) := (hg.block q (by omega) (fun e => n2 e.symm)).trans h.row
  unfold taRow at hr6
  have hr7 := set_cells (i := 1) (v := .slice (some ⟨g6, 0, none⟩) z6 cap6) hr6
  have hS6 : ∀ k, S k → k < u0.heap.size := h0.jr.log.lt
  refine ⟨hj, hr7, h.lq, row_keeps h.fg hk (fun j hj e => ?_), row_keeps ho ((Keeps.refl (At1 q) u6).set ⟨q, 1, none⟩ rfl _) (fun k hk e => ?_), h.fr.keeps hk hC (fun j hj e => ?_), fun j v L hv hL => (h.cl j v L hv hL).keeps hk hC, h.gl, h.sl, h.pk.note (by simp), fun k hc => ?_, h.sq, h.sg, fun k e hS => ?_, h.sr⟩
  · rcases e with e | e
    · exact n1 (by rw [hj, e])
    · exact (n4 j hj).1 e
  · simp [Value.ownBlock] at hk
    unfold At1 at e
    exact hq6 (hk.trans e)
  · rcases e with e | e
    · exact n3 (by rw [hj, e])
    · exact (n6 j hj).2 e
  · have hz := hk.size
    obtain ⟨a1, a2, a3, a4, a5, a6⟩ := h0.ap k hc
    refine ⟨by omega, a2, a3, fun e => ?_, a5, a6⟩
    simp [Value.ownBlock] at e
    rcases hat with e' | e'
    · exact a4 (by rw [e', e])
    · omega
  · simp [Value.ownBlock] at e
    subst e
    rcases hat with e' | e'
    · exact h.sp _ e' hS
    · have := hS6 _ hS; omega
/-- Sync: no points any more. -/
theorem TaX.noPts (h : TaX w u S p l q C vG vP vR Gs X Gc R P sz wr) : TaX w ((u.setCell ⟨q, 4, none⟩ (.int .i64 0)).setCell ⟨q, 1, none⟩ (.slice none 0 0)) S p l q C vG (.slice none 0 0) vR Gs [] Gc R [] sz 0 := by
  have hk : Keeps (At1 q) u ((u.setCell ⟨q, 4, none⟩ (.int .i64 0)).setCell ⟨q, 1, none⟩ (.slice none 0 0)) := ((Keeps.refl (At1 q) u).set ⟨q, 4, none⟩ rfl _).set ⟨q, 1, none⟩ rfl _
  obtain ⟨hj, hC⟩ := h.own hk (fun _ e => .inl e)
  obtain ⟨n1, n2, n3, -, -, -⟩ := h.ne
  have hr := h.row
  unfold taRow at hr
  have hr7 := set_cells (i := 1) (v := .slice none 0 0) (set_cells (i := 4) (v := .int .i64 0) hr)
  refine ⟨hj, hr7, h.lq, row_keeps h.fg hk (fun j hj e => n1 (by unfold At1 at e; rw [hj, e])), World.ownsRow_nil _ _ _ _, h.fr.keeps hk hC (fun j hj e => n3 (by unfold At1 at e; rw [hj, e])), fun j v L hv hL => (h.cl j v L hv hL).keeps hk hC, h.gl, h.sl, ⟨rfl, fun i x p hx => by simp at hx⟩, fun k hc => ?_, h.sq, h.sg, fun k e => by simp [Value.ownBlock] at e, h.sr⟩
  obtain ⟨a1, a2, a3, -, a5⟩ := h.ap k hc
  exact ⟨Nat.lt_of_lt_of_le a1 hk.size, a2, a3, by simp [Value.ownBlock], a5⟩
theorem ta_cells {u : World} {q sz wr : Nat} {vG vP vR : Value} (h : u.heap[q]? = some (taRow vG vP vR sz wr)) : u.cell? ⟨q, 0, none⟩ = some vG ∧ u.cell? ⟨q, 1, none⟩ = some vP ∧ u.cell? ⟨q, 2, none⟩ = some vR ∧ u.cell? ⟨q, 3, none⟩ = some (.int .i64 (sz : Int)) ∧ u.cell? ⟨q, 4, none⟩ = some (.int .i64 (wr : Int)) ∧ ∀ i, u.frozen? ⟨q, i, none⟩ = false := by
  unfold taRow at h
  exact ⟨by rw [cell_of_row _ _ _ _ _ _ h]; rfl, by rw [cell_of_row _ _ _ _ _ _ h]; rfl, by rw [cell_of_row _ _ _ _ _ _ h]; rfl, by rw [cell_of_row _ _ _ _ _ _ h]; rfl, by rw [cell_of_row _ _ _ _ _ _ h]; rfl, fun i => frozen_of_row _ _ _ _ _ h⟩
end
end Go.Proofs.YteoebmpfdcbbmabDoor
