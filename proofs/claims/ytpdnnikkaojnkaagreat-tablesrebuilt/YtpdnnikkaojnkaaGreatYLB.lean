import Derived.Test.YtpdnnikkaojnkaaGreatYLA
namespace Go.Proofs.YtpdnnikkaojnkaaGreat.Rt
open Go.Proofs.YtpdnnikkaojnkaaGreat Go.ChangeShapes Go.WideShapes Go.ChangeAt Go.RowKit Go.Maps Tri N
set_option maxHeartbeats 2000000
set_option maxRecDepth 100000
structure Vs where
  r : Value
  n : Value
  f : Value
def rkC (v : Vs) (s : Ks) : Array Value := #[v.r, v.n, v.f, .int .i64 (s.cr : Int), .int .i64 (s.cn : Int), .int .i64 (s.cf : Int)]
structure Rf (w : World) (m : Nat) (v : Vs) (s : Ks) : Prop where
  row : w.heap[m]? = some (.cells (rkC v s) 142)
  r : Own kR w 0 v.r s.R
  n : Own kN w 0 v.n s.N
  f : Own kF w 0 v.f s.F
  ok : s.Ok
def fpR (m : Nat) (v : Vs) (k : Nat) : Prop := k = m ∨ v.r.ownBlock = some k ∨ v.n.ownBlock = some k ∨ v.f.ownBlock = some k
theorem Rf.kinds {w : World} {m : Nat} {v : Vs} {s : Ks} (h : Rf w m v s) {k : Nat} (hk : fpR m v k) : ∃ cs T, w.heap[k]? = some (.cells cs T (0, 0)) ∧ (T = 142 ∨ T = 38 ∨ T = 42 ∨ T = 44) := by
  rcases hk with rfl | hk | hk | hk
  · exact ⟨_, _, h.row, .inl rfl⟩
  · obtain ⟨cs, hc⟩ := h.r.kind hk
    exact ⟨cs, _, hc, .inr (.inl rfl)⟩
  · obtain ⟨cs, hc⟩ := h.n.kind hk
    exact ⟨cs, _, hc, .inr (.inr (.inl rfl))⟩
  · obtain ⟨cs, hc⟩ := h.f.kind hk
    exact ⟨cs, _, hc, .inr (.inr (.inr rfl))⟩
theorem Rf.lt {w : World} {m : Nat} {v : Vs} {s : Ks} (h : Rf w m v s) {k : Nat} (hk : fpR m v k) : k < w.heap.size := by
  obtain ⟨_, _, hc, _⟩ := h.kinds hk
  exact (Array.getElem?_eq_some_iff.1 hc).1
theorem Rf.keeps {S : Nat → Prop} {w w' : World} {m : Nat} {v : Vs} {s : Ks} (h : Rf w m v s) (hk : Me.Keeps S w w') (hn : ∀ k, fpR m v k → ¬ S k) : Rf w' m v s :=
  ⟨(hk.block m (h.lt (.inl rfl)) (hn m (.inl rfl))).trans h.row, h.r.keeps hk fun k e => hn k (.inr (.inl e)), h.n.keeps hk fun k e => hn k (.inr (.inr (.inl e))), h.f.keeps hk fun k e => hn k (.inr (.inr (.inr e))), h.ok⟩
theorem Rf.below {w w' : World} {m : Nat} {v : Vs} {s : Ks} (h : Rf w m v s) (hb : Below w.heap.size w w') : Rf w' m v s := h.keeps (S := fun _ => False) (Me.Keeps.of hb) fun _ _ e => e
theorem Chg.keeps {X : Nat → Prop} {w w' : World} (h : Chg X w w') : Me.Keeps X w w' := ⟨h.os, h.tape, h.output, h.size, h.block⟩
theorem keeps_chg {X : Nat → Prop} {w w' : World} (h : Me.Keeps X w w') : Chg X w w' := ⟨h.os, h.tape, h.output, h.size, h.block⟩
theorem Rf.cells {w : World} {m : Nat} {v : Vs} {s : Ks} (h : Rf w m v s) : w.cell? ⟨m, 0, none⟩ = some v.r ∧ w.cell? ⟨m, 1, none⟩ = some v.n ∧ w.cell? ⟨m, 2, none⟩ = some v.f ∧ w.cell? ⟨m, 3, none⟩ = some (.int .i64 (s.cr : Int)) ∧ w.cell? ⟨m, 4, none⟩ = some (.int .i64 (s.cn : Int)) ∧ w.cell? ⟨m, 5, none⟩ = some (.int .i64 (s.cf : Int)) := by
  refine ⟨?_, ?_, ?_, ?_, ?_, ?_⟩ <;> rw [cell_of_row _ _ _ _ _ _ h.row] <;> rfl
theorem Rf.frozen {w : World} {m : Nat} {v : Vs} {s : Ks} (h : Rf w m v s) (i : Nat) : w.frozen? ⟨m, i, none⟩ = false := frozen_of_row _ _ _ _ _ h.row
structure RTurn (w w' : World) (m : Nat) (v : Vs) (s' : Ks) (v' : Vs) : Prop where
  ref : Rf w' m v' s'
  new : ∀ k, fpR m v' k → fpR m v k ∨ w.heap.size ≤ k
  keeps : Me.Keeps (fpR m v) w w'
theorem RTurn.refl {w : World} {m : Nat} {v : Vs} {s : Ks} (h : Rf w m v s) : RTurn w w m v s v := ⟨h, fun _ h => .inl h, Me.Keeps.refl _ _⟩
theorem RTurn.same {w w' : World} {m : Nat} {v : Vs} {s : Ks} (h : Rf w m v s) (hb : Below w.heap.size w w') : RTurn w w' m v s v := ⟨h.below hb, fun _ h => .inl h, Me.Keeps.of hb⟩
theorem RTurn.trans {w w1 w2 : World} {m : Nat} {v v1 v2 : Vs} {s1 s2 : Ks} (h1 : RTurn w w1 m v s1 v1) (h2 : RTurn w1 w2 m v1 s2 v2) : RTurn w w2 m v s2 v2 := by
  have hz := h1.keeps.size
  refine ⟨h2.ref, fun k hk => ?_, ⟨h2.keeps.os.trans h1.keeps.os, h2.keeps.tape.trans h1.keeps.tape, h2.keeps.output.trans h1.keeps.output, Nat.le_trans hz h2.keeps.size, fun k hk hn => ?_⟩⟩
  · rcases h2.new k hk with h | h
    · exact h1.new k h
    · exact .inr (Nat.le_trans hz h)
  · refine (h2.keeps.block k (Nat.lt_of_lt_of_le hk hz) fun h => ?_).trans (h1.keeps.block k hk hn)
    rcases h1.new k h with h | h
    · exact hn h
    · omega
theorem RTurn.behind {w w1 w2 : World} {m : Nat} {v v1 : Vs} {s1 : Ks} (hb : Below w.heap.size w w1) (h : RTurn w1 w2 m v s1 v1) : RTurn w w2 m v s1 v1 :=
  ⟨h.ref, fun k hk => (h.new k hk).imp id fun h => Nat.le_trans hb.size h, (Me.Keeps.of hb).trans h.keeps⟩
theorem RTurn.then {w w1 w2 : World} {m : Nat} {v v1 : Vs} {s1 : Ks} (h : RTurn w w1 m v s1 v1) (hb : Below w1.heap.size w1 w2) : RTurn w w2 m v s1 v1 :=
  ⟨h.ref.below hb, h.new, h.keeps.trans (Me.Keeps.of hb)⟩
theorem ty_ne {w : World} {k : Nat} {cs cs' : Array Value} {T T' : TypeId} (h : w.heap[k]? = some (.cells cs T (0, 0))) (h' : w.heap[k]? = some (.cells cs' T' (0, 0))) (hne : T ≠ T') : False := by
  rw [h] at h'
  simp only [Option.some.injEq, Obj.cells.injEq] at h'
  exact hne h'.2.1
theorem Rf.apart {w : World} {m : Nat} {v : Vs} {s : Ks} (h : Rf w m v s) : v.r.ownBlock ≠ some m ∧ v.n.ownBlock ≠ some m ∧ v.f.ownBlock ≠ some m ∧ (∀ k, v.r.ownBlock = some k → v.n.ownBlock ≠ some k ∧ v.f.ownBlock ≠ some k) ∧ ∀ k, v.n.ownBlock = some k → v.f.ownBlock ≠ some k := by
  refine ⟨fun e => ?_, fun e => ?_, fun e => ?_, fun k e => ⟨fun e' => ?_, fun e' => ?_⟩, fun k e e' => ?_⟩
  · obtain ⟨cs, hc⟩ := h.r.kind e; exact ty_ne hc h.row (by decide)
  · obtain ⟨cs, hc⟩ := h.n.kind e; exact ty_ne hc h.row (by decide)
  · obtain ⟨cs, hc⟩ := h.f.kind e; exact ty_ne hc h.row (by decide)
  · obtain ⟨cs, hc⟩ := h.r.kind e; obtain ⟨cs', hc'⟩ := h.n.kind e'; exact ty_ne hc hc' (by decide)
  · obtain ⟨cs, hc⟩ := h.r.kind e; obtain ⟨cs', hc'⟩ := h.f.kind e'; exact ty_ne hc hc' (by decide)
  · obtain ⟨cs, hc⟩ := h.n.kind e; obtain ⟨cs', hc'⟩ := h.f.kind e'; exact ty_ne hc hc' (by decide)
theorem Rf.storeR {w u : World} {m : Nat} {v : Vs} {s : Ks} {x : Value} {L : List Vt} (h : Rf w m v s) (hk : Me.Keeps (fun k => v.r.ownBlock = some k) w u) (ho : Own kR u 0 x L) (hn : Me.NwB v.r x w.heap.size) (ok : ({ s with R := L } : Ks).Ok) :
    RTurn w (u.setCell ⟨m, 0, none⟩ x) m v { s with R := L } { v with r := x } := by
  obtain ⟨a1, a2, a3, a4, a5⟩ := h.apart
  have hr : u.heap[m]? = some (.cells (rkC v s) 142) := (hk.block m (h.lt (.inl rfl)) a1).trans h.row
  have hks : Me.Keeps (fun k => k = m) u (u.setCell ⟨m, 0, none⟩ x) := Me.Keeps.set (S := fun k => k = m) (Me.Keeps.refl _ _) ⟨m, 0, none⟩ rfl _
  have hne : x.ownBlock ≠ some m := fun e => by
    obtain ⟨cs, hc⟩ := ho.kind e
    exact ty_ne hc hr (by decide)
  refine ⟨⟨?_, ho.keeps hks fun k e e' => hne (by rw [← e']; exact e), (h.n.keeps hk fun k e e' => (a4 k e').1 e).keeps hks fun k e e' => a2 (by rw [← e']; exact e), (h.f.keeps hk fun k e e' => (a4 k e').2 e).keeps hks fun k e e' => a3 (by rw [← e']; exact e), ok⟩, ?_, ?_⟩
  · rw [Me.set_cells hr]; rfl
  · rintro k (rfl | e | e | e)
    · exact .inl (.inl rfl)
    · exact (hn k e).imp (fun e => .inr (.inl e)) id
    · exact .inl (.inr (.inr (.inl e)))
    · exact .inl (.inr (.inr (.inr e)))
  · exact (hk.mono fun k _ e => .inr (.inl e)).trans (hks.mono fun k _ e => .inl e)
theorem Rf.storeN {w u : World} {m : Nat} {v : Vs} {s : Ks} {x : Value} {L : List Nb} (h : Rf w m v s) (hk : Me.Keeps (fun k => v.n.ownBlock = some k) w u) (ho : Own kN u 0 x L) (hn : Me.NwB v.n x w.heap.size) (ok : ({ s with N := L } : Ks).Ok) :
    RTurn w (u.setCell ⟨m, 1, none⟩ x) m v { s with N := L } { v with n := x } := by
  obtain ⟨a1, a2, a3, a4, a5⟩ := h.apart
  have hr : u.heap[m]? = some (.cells (rkC v s) 142) := (hk.block m (h.lt (.inl rfl)) a2).trans h.row
  have hks : Me.Keeps (fun k => k = m) u (u.setCell ⟨m, 1, none⟩ x) := Me.Keeps.set (S := fun k => k = m) (Me.Keeps.refl _ _) ⟨m, 1, none⟩ rfl _
  have hne : x.ownBlock ≠ some m := fun e => by
    obtain ⟨cs, hc⟩ := ho.kind e
    exact ty_ne hc hr (by decide)
  refine ⟨⟨?_, (h.r.keeps hk fun k e e' => (a4 k e).1 e').keeps hks fun k e e' => a1 (by rw [← e']; exact e), ho.keeps hks fun k e e' => hne (by rw [← e']; exact e), (h.f.keeps hk fun k e e' => a5 k e' e).keeps hks fun k e e' => a3 (by rw [← e']; exact e), ok⟩, ?_, ?_⟩
  · rw [Me.set_cells hr]; rfl
  · rintro k (rfl | e | e | e)
    · exact .inl (.inl rfl)
    · exact .inl (.inr (.inl e))
    · exact (hn k e).imp (fun e => .inr (.inr (.inl e))) id
    · exact .inl (.inr (.inr (.inr e)))
  · exact (hk.mono fun k _ e => .inr (.inr (.inl e))).trans (hks.mono fun k _ e => .inl e)
theorem Rf.storeF {w u : World} {m : Nat} {v : Vs} {s : Ks} {x : Value} {L : List Fd} (h : Rf w m v s) (hk : Me.Keeps (fun k => v.f.ownBlock = some k) w u) (ho : Own kF u 0 x L) (hn : Me.NwB v.f x w.heap.size) (ok : ({ s with F := L } : Ks).Ok) :
    RTurn w (u.setCell ⟨m, 2, none⟩ x) m v { s with F := L } { v with f := x } := by
  obtain ⟨a1, a2, a3, a4, a5⟩ := h.apart
  have hr : u.heap[m]? = some (.cells (rkC v s) 142) := (hk.block m (h.lt (.inl rfl)) a3).trans h.row
  have hks : Me.Keeps (fun k => k = m) u (u.setCell ⟨m, 2, none⟩ x) := Me.Keeps.set (S := fun k => k = m) (Me.Keeps.refl _ _) ⟨m, 2, none⟩ rfl _
  have hne : x.ownBlock ≠ some m := fun e => by
    obtain ⟨cs, hc⟩ := ho.kind e
    exact ty_ne hc hr (by decide)
  refine ⟨⟨?_, (h.r.keeps hk fun k e e' => (a4 k e).2 e').keeps hks fun k e e' => a1 (by rw [← e']; exact e), (h.n.keeps hk fun k e e' => a5 k e e').keeps hks fun k e e' => a2 (by rw [← e']; exact e), ho.keeps hks fun k e e' => hne (by rw [← e']; exact e), ok⟩, ?_, ?_⟩
  · rw [Me.set_cells hr]; rfl
  · rintro k (rfl | e | e | e)
    · exact .inl (.inl rfl)
    · exact .inl (.inr (.inl e))
    · exact .inl (.inr (.inr (.inl e)))
    · exact (hn k e).imp (fun e => .inr (.inr (.inr e))) id
  · exact (hk.mono fun k _ e => .inr (.inr (.inr e))).trans (hks.mono fun k _ e => .inl e)
theorem Rf.putR {w u : World} {m g n c : Nat} {v : Vs} {s : Ks} {L : List Vt} (h : Rf w m v s) (hv : v.r = .slice (some ⟨g, 0, none⟩) n c) (hk : Me.Keeps (fun k => k = g) w u) (ho : Own kR u 0 v.r L) (ok : ({ s with R := L } : Ks).Ok) :
    RTurn w u m v { s with R := L } v := by
  obtain ⟨a1, a2, a3, a4, a5⟩ := h.apart
  have hk' : Me.Keeps (fun k => v.r.ownBlock = some k) w u := hk.mono fun k _ e => by rw [hv, e]; rfl
  exact ⟨⟨(hk'.block m (h.lt (.inl rfl)) a1).trans h.row, ho, h.n.keeps hk' fun k e e' => (a4 k e').1 e, h.f.keeps hk' fun k e e' => (a4 k e').2 e, ok⟩, fun k hk => .inl hk, hk'.mono fun k _ e => .inr (.inl e)⟩
theorem Rf.putN {w u : World} {m g n c : Nat} {v : Vs} {s : Ks} {L : List Nb} (h : Rf w m v s) (hv : v.n = .slice (some ⟨g, 0, none⟩) n c) (hk : Me.Keeps (fun k => k = g) w u) (ho : Own kN u 0 v.n L) (ok : ({ s with N := L } : Ks).Ok) :
    RTurn w u m v { s with N := L } v := by
  obtain ⟨a1, a2, a3, a4, a5⟩ := h.apart
  have hk' : Me.Keeps (fun k => v.n.ownBlock = some k) w u := hk.mono fun k _ e => by rw [hv, e]; rfl
  exact ⟨⟨(hk'.block m (h.lt (.inl rfl)) a2).trans h.row, h.r.keeps hk' fun k e e' => (a4 k e).1 e', ho, h.f.keeps hk' fun k e e' => a5 k e' e, ok⟩, fun k hk => .inl hk, hk'.mono fun k _ e => .inr (.inr (.inl e))⟩
theorem Rf.putF {w u : World} {m g n c : Nat} {v : Vs} {s : Ks} {L : List Fd} (h : Rf w m v s) (hv : v.f = .slice (some ⟨g, 0, none⟩) n c) (hk : Me.Keeps (fun k => k = g) w u) (ho : Own kF u 0 v.f L) (ok : ({ s with F := L } : Ks).Ok) :
    RTurn w u m v { s with F := L } v := by
  obtain ⟨a1, a2, a3, a4, a5⟩ := h.apart
  have hk' : Me.Keeps (fun k => v.f.ownBlock = some k) w u := hk.mono fun k _ e => by rw [hv, e]; rfl
  exact ⟨⟨(hk'.block m (h.lt (.inl rfl)) a3).trans h.row, h.r.keeps hk' fun k e e' => (a4 k e).2 e', h.n.keeps hk' fun k e e' => a5 k e e', ho, ok⟩, fun k hk => .inl hk, hk'.mono fun k _ e => .inr (.inr (.inr e))⟩
def pz : Option Nat → Int
  | none => -1
  | some i => (i : Int)
end Go.Proofs.YtpdnnikkaojnkaaGreat.Rt
