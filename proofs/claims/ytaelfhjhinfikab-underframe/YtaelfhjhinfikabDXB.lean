/-
  UnderFrame: what stands while framed works.
-/
import Derived.Test.YtaelfhjhinfikabDXA
import Derived.Test.YtaelfhjhinfikabVRO
namespace Go.Proofs.Ytaelfhjhinfikab
open Go.ChangeShapes Go.WideShapes Go.ChangeAt Go.RowKit Me
set_option maxHeartbeats 2000000
set_option maxRecDepth 100000

/-- The net, the step's own copy at b, what was listed ahead (S0, at vo), the step's packets. -/
structure Fr (w0 : World) (K K1 : Nat → Prop) (w : World) (pb m : Nat) (S0 S : List Pk) (b : Nat) (row : Array Value) (vo : Value) (E : List En) (v : Value) (L : List Pk) : Prop where
  pn : Pn w0 K1 w pb m S
  le : ∀ k, K k → K1 k
  rw : w.heap[b]? = some (.cells row 35 (0, 0))
  kb : K1 b
  fl : Fl w vo E
  em : E.map En.pk = S0
  fk : ∀ k, fpF vo E k → K1 k ∧ w0.heap.size ≤ k
  vs : SeesS K1 w v L

section
variable {w0 w w' : World} {K K1 : Nat → Prop} {pb m b : Nat} {S0 S S' L : List Pk} {row : Array Value} {vo v : Value} {E : List En}
theorem Fr.old (h : Fr w0 K K1 w pb m S0 S b row vo E v L) : SeesS K1 w vo S0 := by
  have := h.fl.sees
  rw [h.em] at this
  exact this.weak fun k _ e => (h.fk k e).1
theorem Fr.step (h : Fr w0 K K1 w pb m S0 S b row vo E v L) (hp : Pn w0 K1 w' pb m S') (hk : Keeps (fun k => ¬ K1 k) w w') : Fr w0 K K1 w' pb m S0 S' b row vo E v L :=
  ⟨hp, h.le, hk.mem h.rw fun e => e h.kb, h.kb, h.fl.keeps hk fun k e e2 => e2 (h.fk k e).1, h.em, h.fk, h.vs.keeps hk fun _ e e2 => e2 e⟩
theorem Fr.below (h : Fr w0 K K1 w pb m S0 S b row vo E v L) (hb : Below w.heap.size w w') : Fr w0 K K1 w' pb m S0 S b row vo E v L :=
  ⟨h.pn.below hb, h.le, below_keeps hb h.rw (Array.getElem?_eq_some_iff.1 h.rw).1, h.kb, h.fl.below hb, h.em, h.fk, h.vs.below hb⟩
theorem Fr.done (h : Fr w0 K K1 w pb m S0 S b row vo E v L) : ∃ S', Pn w0 K w pb m S' := ⟨S, h.pn.less h.le⟩

theorem fr_list (row : Array Value) (h : Pn w0 K w pb m S) (hv : SeesS K w v L) : Calls Try.prog 20 #[.pointer (some ⟨pb, 0, none⟩)] (w.alloc (.cells row 35)) fun e w' => ∃ a n c K1 E, e = .returned (.slice a n c) ∧ Fr w0 K K1 w' pb m S S w.heap.size row (.slice a n c) E v L ∧ n = S.length := by
  have hb1 : Below w.heap.size w (w.alloc (.cells row 35)) := (Below.refl _ _).alloc (Nat.le_refl _) _
  have hr1 : (w.alloc (.cells row 35)).heap[w.heap.size]? = some (.cells row 35 (0, 0)) := heap_alloc_new w _
  generalize w.alloc (.cells row 35) = w1 at *
  refine (h.below hb1).list.mono ?_
  rintro e w' ⟨a, n, c, he, hb2, ⟨E, hfl, hem, hge⟩, hn⟩
  have hb : Below w.heap.size w w' := hb1.trans (hb2.mono hb1.size)
  have hlt := (Array.getElem?_eq_some_iff.1 hr1).1
  have hs2 := hb2.size
  refine ⟨a, n, c, fun k => K k ∨ (w.heap.size ≤ k ∧ k < w'.heap.size), E, he, ⟨h.more hb fun k e => ?_, fun _ e => .inl e, below_keeps hb2 hr1 hlt, .inr ⟨Nat.le_refl _, Nat.lt_of_lt_of_le hlt hs2⟩, hfl, hem, fun k e => ?_, (hv.below hb).weak fun _ _ e => .inl e⟩, hn⟩
  · rcases e with e | e
    · exact ⟨.inl e, Nat.lt_of_lt_of_le (h.inn k e) hb.size⟩
    · exact ⟨.inr e.1, e.2⟩
  · have h1 := hge k e
    have h2 := hb1.size
    have h3 := h.be.size
    exact ⟨.inr ⟨by omega, hfl.lt e⟩, by omega⟩
end
end Go.Proofs.Ytaelfhjhinfikab
