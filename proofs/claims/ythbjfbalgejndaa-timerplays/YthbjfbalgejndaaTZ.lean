import Derived.Test.YthbjfbalgejndaaTY
namespace Go.Proofs.Ythbjfbalgejndaa
open Go.ChangeShapes Go.WideShapes Go.ChangeAt Go.RowKit Go.Maps H
set_option maxHeartbeats 4000000
set_option maxRecDepth 100000

/-- The step that is played lies at ob, apart from the three pairs. -/
def StO (wB w : World) (t r u s x y : Value) (ob : Nat) (kd on i a : Int) : Prop :=
  ∃ Ft Fu Fx, (Live w t r Ft ∧ Live w u s Fu ∧ Live w x y Fx) ∧ ((∀ z ∈ Ft, z ∉ Fu) ∧ (∀ z ∈ Ft, z ∉ Fx) ∧ (∀ z ∈ Fu, z ∉ Fx)) ∧ ((∀ z ∈ Ft, wB.heap.size ≤ z) ∧ (∀ z ∈ Fu, wB.heap.size ≤ z) ∧ (∀ z ∈ Fx, wB.heap.size ≤ z)) ∧ Below wB.heap.size wB w ∧
    w.heap[ob]? = some (.cells #[.int .i64 kd, .int .i64 on, .int .i64 i, .int .i64 a] 57 (0, 0)) ∧ ob ∉ Ft ∧ ob ∉ Fu ∧ ob ∉ Fx

section
variable {wB w : World} {t r u s x y : Value} {ob : Nat} {kd on i a : Int}

theorem StO.st (h : StO wB w t r u s x y ob kd on i a) : St wB w t r u s x y := by
  obtain ⟨Ft, Fu, Fx, ⟨h1, h2, h3⟩, ⟨d1, d2, d3⟩, ⟨n1, n2, n3⟩, hb, _⟩ := h
  exact ⟨Ft, Fu, Fx, h1, h2, h3, d1, d2, d3, n1, n2, n3, hb⟩

theorem St.box (h : St wB w t r u s x y) (kd on i a : Int) : StO wB (w.alloc (.cells #[.int .i64 kd, .int .i64 on, .int .i64 i, .int .i64 a] 57)) t r u s x y w.heap.size kd on i a := by
  have hb' : Below w.heap.size w (w.alloc (.cells #[.int .i64 kd, .int .i64 on, .int .i64 i, .int .i64 a] 57)) := (Below.refl _ _).alloc (Nat.le_refl _) _
  obtain ⟨Ft, Fu, Fx, h1, h2, h3, d1, d2, d3, n1, n2, n3, hb⟩ := h
  have hf := Fr.of_below hb' []
  exact ⟨Ft, Fu, Fx, ⟨h1.fr hf (by simp), h2.fr hf (by simp), h3.fr hf (by simp)⟩, ⟨d1, d2, d3⟩, ⟨n1, n2, n3⟩, hb.trans (hb'.mono hb.size), heap_alloc_new w _, fun hm => Nat.lt_irrefl _ (h1.lt _ hm), fun hm => Nat.lt_irrefl _ (h2.lt _ hm), fun hm => Nat.lt_irrefl _ (h3.lt _ hm)⟩

theorem StO.cells (h : StO wB w t r u s x y ob kd on i a) : w.cell? ⟨ob, 0, none⟩ = some (.int .i64 kd) ∧ w.cell? ⟨ob, 1, none⟩ = some (.int .i64 on) ∧ w.cell? ⟨ob, 2, none⟩ = some (.int .i64 i) ∧ w.cell? ⟨ob, 3, none⟩ = some (.int .i64 a) := by
  obtain ⟨Ft, Fu, Fx, _, _, _, _, h, _⟩ := h
  exact ⟨by rw [cell_of_row _ _ _ _ _ _ h]; rfl, by rw [cell_of_row _ _ _ _ _ _ h]; rfl, by rw [cell_of_row _ _ _ _ _ _ h]; rfl, by rw [cell_of_row _ _ _ _ _ _ h]; rfl⟩

theorem StO.swap (h : StO wB w t r u s x y ob kd on i a) : StO wB w u s t r x y ob kd on i a := by
  obtain ⟨Ft, Fu, Fx, ⟨h1, h2, h3⟩, ⟨d1, d2, d3⟩, ⟨n1, n2, n3⟩, hb, hc, o1, o2, o3⟩ := h
  exact ⟨Fu, Ft, Fx, ⟨h2, h1, h3⟩, ⟨fun z hz hy => d1 z hy hz, d3, d2⟩, ⟨n2, n1, n3⟩, hb, hc, o2, o1, o3⟩

theorem StO.turn (h : StO wB w t r u s x y ob kd on i a) : StO wB w x y u s t r ob kd on i a := by
  obtain ⟨Ft, Fu, Fx, ⟨h1, h2, h3⟩, ⟨d1, d2, d3⟩, ⟨n1, n2, n3⟩, hb, hc, o1, o2, o3⟩ := h
  exact ⟨Fx, Fu, Ft, ⟨h3, h2, h1⟩, ⟨fun z hz hy => d3 z hy hz, fun z hz hy => d2 z hy hz, fun z hz hy => d1 z hy hz⟩, ⟨n3, n2, n1⟩, hb, hc, o3, o2, o1⟩

theorem StO.below {w' : World} (h : StO wB w t r u s x y ob kd on i a) (hb' : Below w.heap.size w w') : StO wB w' t r u s x y ob kd on i a := by
  obtain ⟨Ft, Fu, Fx, ⟨h1, h2, h3⟩, ⟨d1, d2, d3⟩, ⟨n1, n2, n3⟩, hb, hc, o1, o2, o3⟩ := h
  have hf := Fr.of_below hb' []
  exact ⟨Ft, Fu, Fx, ⟨h1.fr hf (by simp), h2.fr hf (by simp), h3.fr hf (by simp)⟩, ⟨d1, d2, d3⟩, ⟨n1, n2, n3⟩, hb.trans (hb'.mono hb.size), (hb'.block ob (Array.getElem?_eq_some_iff.1 hc).1).trans hc, o1, o2, o3⟩

theorem StO.put {w' : World} {x' y' : Value} {F : List Nat} (h : StO wB w t r u s x y ob kd on i a) (hb' : Below w.heap.size w w') (hL : Live w' x' y' F) (hF : ∀ z ∈ F, w.heap.size ≤ z) : StO wB w' t r u s x' y' ob kd on i a := by
  obtain ⟨Ft, Fu, Fx, ⟨h1, h2, h3⟩, ⟨d1, d2, d3⟩, ⟨n1, n2, n3⟩, hb, hc, o1, o2, o3⟩ := h
  have hf := Fr.of_below hb' []
  have l1 := h1.lt
  have l2 := h2.lt
  have lo := (Array.getElem?_eq_some_iff.1 hc).1
  exact ⟨Ft, Fu, F, ⟨h1.fr hf (by simp), h2.fr hf (by simp), hL⟩, ⟨d1, fun z hz hy => by have := l1 z hz; have := hF z hy; omega, fun z hz hy => by have := l2 z hz; have := hF z hy; omega⟩, ⟨n1, n2, fun z hz => Nat.le_trans hb.size (hF z hz)⟩, hb.trans (hb'.mono hb.size), (hb'.block ob lo).trans hc, o1, o2, fun hm => by have := hF ob hm; omega⟩

theorem StO.play {b1 b2 : Nat} (h : StO wB w (.pointer (some ⟨b1, 0, none⟩)) (.pointer (some ⟨b2, 0, none⟩)) u s x y ob kd on i a) (hi : In64 i) (ha : In64 a) :
    Calls Try.prog 25 #[.pointer (some ⟨b1, 0, none⟩), .pointer (some ⟨b2, 0, none⟩), .agg #[.int .i64 kd, .int .i64 on, .int .i64 i, .int .i64 a]] w fun e w' => e = .returned (.bool true) ∧ StO wB w' (.pointer (some ⟨b1, 0, none⟩)) (.pointer (some ⟨b2, 0, none⟩)) u s x y ob kd on i a := by
  obtain ⟨Ft, Fu, Fx, ⟨h1, h2, h3⟩, ⟨d1, d2, d3⟩, ⟨n1, n2, n3⟩, hb, hc, o1, o2, o3⟩ := h
  rcases h1 with ⟨h, _⟩ | ⟨b1', m1, g1, b2', g2, lim, S, e1, e2, hP, rfl⟩
  · cases h
  · cases e1
    cases e2
    refine (plays_any hP kd on i a hi ha).mono ?_
    rintro e w' ⟨rfl, g1', g2', S', hP', hx, hf⟩
    have l2 := h2.lt
    have l3 := h3.lt
    have lo := (Array.getElem?_eq_some_iff.1 hc).1
    refine ⟨rfl, fpP b1 m1 g1' b2 g2', Fu, Fx, ⟨.inr ⟨b1, m1, g1', b2, g2', lim, S', rfl, rfl, hP', rfl⟩, h2.fr hf (fun z hz hy => d1 z hy hz), h3.fr hf (fun z hz hy => d2 z hy hz)⟩, ⟨fun z hz hy => ?_, fun z hz hy => ?_, d3⟩, ⟨fun z hz => ?_, n2, n3⟩, hb.trans (hf.below n1 hb.size), (hf.block ob lo o1).trans hc, fun hm => ?_, o2, o3⟩
    · rcases hx z hz with h | h
      · exact d1 z h hy
      · have := l2 z hy; omega
    · rcases hx z hz with h | h
      · exact d2 z h hy
      · have := l3 z hy; omega
    · rcases hx z hz with h | h
      · exact n1 z h
      · exact Nat.le_trans hb.size h
    · rcases hx ob hm with h | h
      · exact o1 h
      · omega
end
end Go.Proofs.Ythbjfbalgejndaa
