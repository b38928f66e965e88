import Derived.Test.YtpdokaoholifkabGreatLN
namespace Go.Proofs.YtpdokaoholifkabGreat.Rt
open Go.Proofs.YtpdokaoholifkabGreat Go.ChangeShapes Go.WideShapes Go.ChangeAt Go.RowKit Go.Maps Tri N
set_option maxHeartbeats 4000000
set_option maxRecDepth 100000

theorem wf_nil {lo hi : Nat} {t : Tr} (h : WF lo hi t) (hv : vals t = 0) : t = .nil := by
  induction t generalizing lo hi with
  | nil => rfl
  | node k u l r il ir =>
    obtain ⟨_, _, _, h4, h5, h6⟩ := h
    unfold vals at hv
    cases u with
    | some v => simp at hv
    | none =>
      have := il h4 (by omega)
      exact absurd this (h6 rfl).1
/-- An empty kernel has no nodes: any other block may be written. -/
theorem KAt.wide {w : World} {X Y : Nat → Prop} {b : Bks} {s : Ks} (h : KAt w X b s) (hR : s.R = []) (hXY : ∀ c, X c → Y c) (hl : ∀ c, Y c → c < w.heap.size) : KAt w Y b s := by
  refine ⟨h.row, ?_, h.nt, h.ft, h.ok, ⟨hXY _ h.mem.1, hXY _ h.mem.2.1, hXY _ h.mem.2.2.1, hXY _ h.mem.2.2.2.1, hXY _ h.mem.2.2.2.2⟩, h.nd⟩
  obtain ⟨t, ⟨t1, t2, ⟨m, t3, t4, t5⟩, t6⟩, hh⟩ := h.rt.tree
  refine ⟨h.rt.row, ⟨t, ⟨hXY _ t1, hl, ⟨m, t3, t4, ?_⟩, t6⟩, hh⟩, h.rt.le, hXY _ h.rt.xr, h.rt.ne⟩
  have hv : vals t = 0 := by rw [hh.len t6, hR]; rfl
  have ht := wf_nil t6 hv
  rw [ht] at t4
  cases m with
  | nil => trivial
  | node => cases t4
theorem Pr.wide {w : World} {X Y : Nat → Prop} {b : Bks} {m : Nat} {v : Vs} {s : Ks} (h : Pr w X b m v s) (hR : s.R = []) (hXY : ∀ c, X c → Y c) (hl : ∀ c, Y c → c < w.heap.size) : Pr w Y b m v s := ⟨h.k.wide hR hXY hl, h.r, fun c hc => hXY c (h.x c hc)⟩

/-- Other blocks than the pair's are written. -/
theorem Pr.other {w w' : World} {X Z : Nat → Prop} {b : Bks} {m : Nat} {v : Vs} {s : Ks} (h : Pr w X b m v s) (hk : Me.Keeps Z w w') (hZ : ∀ c, Z c → X c ∧ ¬ fpP b m v c) : Pr w' (fun c => X c ∨ (w.heap.size ≤ c ∧ c < w'.heap.size)) b m v s := by
  have hz := hk.size
  exact ⟨h.k.grow (keeps_chg hk) (fun c e _ => ⟨(hZ c e).1, fun e' => (hZ c e).2 (.inl e')⟩) (fun c e => e.imp id fun e => e.1) (fun c e => .inl e) (fun c e => e.elim (fun e => Nat.lt_of_lt_of_le (h.k.lt c e) hz) fun e => e.2), h.r.keeps hk fun c e e' => (hZ c e').2 (.inr e), fun c e => .inl (h.x c e)⟩

/-- Two pairs apart; nothing of theirs lies below B. -/
structure P2 (B : Nat) (w : World) (X1 : Nat → Prop) (b1 : Bks) (m1 : Nat) (v1 : Vs) (s1 : Ks) (X2 : Nat → Prop) (b2 : Bks) (m2 : Nat) (v2 : Vs) (s2 : Ks) : Prop where
  p1 : Pr w X1 b1 m1 v1 s1
  p2 : Pr w X2 b2 m2 v2 s2
  x12 : ∀ c, fpP b1 m1 v1 c → X2 c ∧ ¬ fpP b2 m2 v2 c
  x21 : ∀ c, fpP b2 m2 v2 c → X1 c ∧ ¬ fpP b1 m1 v1 c
  lo1 : ∀ c, X1 c → B ≤ c
  lo2 : ∀ c, X2 c → B ≤ c
theorem P2.swap {B : Nat} {w : World} {X1 : Nat → Prop} {b1 : Bks} {m1 : Nat} {v1 : Vs} {s1 : Ks} {X2 : Nat → Prop} {b2 : Bks} {m2 : Nat} {v2 : Vs} {s2 : Ks} (h : P2 B w X1 b1 m1 v1 s1 X2 b2 m2 v2 s2) : P2 B w X2 b2 m2 v2 s2 X1 b1 m1 v1 s1 := ⟨h.p2, h.p1, h.x21, h.x12, h.lo2, h.lo1⟩
theorem P2.below {B : Nat} {w w' : World} {X1 : Nat → Prop} {b1 : Bks} {m1 : Nat} {v1 : Vs} {s1 : Ks} {X2 : Nat → Prop} {b2 : Bks} {m2 : Nat} {v2 : Vs} {s2 : Ks} (h : P2 B w X1 b1 m1 v1 s1 X2 b2 m2 v2 s2) (hb : Below w.heap.size w w') : P2 B w' X1 b1 m1 v1 s1 X2 b2 m2 v2 s2 := ⟨h.p1.below hb, h.p2.below hb, h.x12, h.x21, h.lo1, h.lo2⟩
/-- A step on the first. -/
theorem P2.step {B : Nat} {w w' : World} {X1 : Nat → Prop} {b1 : Bks} {m1 : Nat} {v1 : Vs} {s1 s' : Ks} {X2 : Nat → Prop} {b2 : Bks} {m2 : Nat} {v2 : Vs} {s2 : Ks} (h : P2 B w X1 b1 m1 v1 s1 X2 b2 m2 v2 s2) (hB : B ≤ w.heap.size) {X' : Nat → Prop} {b' : Bks} {v' : Vs} (ht : PTurn w w' X1 b1 m1 v1 s' X' b' v') :
    P2 B w' X' b' m1 v' s' (fun c => X2 c ∨ (w.heap.size ≤ c ∧ c < w'.heap.size)) b2 m2 v2 s2 := by
  have hn2 : ∀ c, fpP b2 m2 v2 c → c < w.heap.size := fun c hc => h.p2.lt hc
  refine ⟨ht.pr, h.p2.other ht.keeps h.x12, fun c hc => ?_, fun c hc => ⟨ht.xle c (h.x21 c hc).1, fun hc' => ?_⟩, fun c hc => ?_, fun c hc => ?_⟩
  · rcases ht.new c hc with e | e
    · exact ⟨.inl (h.x12 c e).1, (h.x12 c e).2⟩
    · exact ⟨.inr ⟨e, ht.pr.lt hc⟩, fun e' => by have := hn2 c e'; omega⟩
  · rcases ht.new c hc' with e | e
    · exact (h.x21 c hc).2 e
    · have := hn2 c hc; omega
  · exact (ht.xnew c hc).elim (h.lo1 c) fun e => Nat.le_trans hB e
  · exact hc.elim (h.lo2 c) fun e => Nat.le_trans hB e.1
/-- A new pair beside one. -/
theorem P2.mk' {B : Nat} {w w' : World} {X1 : Nat → Prop} {b1 : Bks} {m1 : Nat} {v1 : Vs} {s1 : Ks} (h : Pr w X1 b1 m1 v1 s1) (hb : Below w.heap.size w w') (hlo : ∀ c, X1 c → B ≤ c) (hB : B ≤ w.heap.size) {X2 : Nat → Prop} {b2 : Bks} {m2 : Nat} {v2 : Vs} {s2 : Ks} (h2 : Pr w' X2 b2 m2 v2 s2) (hR : s2.R = []) (hX2 : ∀ c, X2 c → w.heap.size ≤ c) :
    P2 B w' (fun c => X1 c ∨ (w.heap.size ≤ c ∧ c < w'.heap.size)) b1 m1 v1 s1 (fun c => X2 c ∨ X1 c) b2 m2 v2 s2 := by
  have hz := hb.size
  refine ⟨h.other (Me.Keeps.of (S := fun _ => False) hb) fun c e => e.elim, h2.wide hR (fun c e => .inl e) (fun c e => e.elim (h2.k.lt c) fun e => Nat.lt_of_lt_of_le (h.k.lt c e) hz), fun c hc => ⟨.inr (h.fpx hc), fun hc' => ?_⟩, fun c hc => ⟨.inr ⟨hX2 c (h2.fpx hc), h2.lt hc⟩, fun hc' => ?_⟩, fun c hc => hc.elim (hlo c) fun e => Nat.le_trans hB e.1, fun c hc => hc.elim (fun e => Nat.le_trans hB (hX2 c e)) (hlo c)⟩
  · have := hX2 c (h2.fpx hc'); have := h.lt hc; omega
  · have := hX2 c (h2.fpx hc); have := h.lt hc'; omega
end Go.Proofs.YtpdokaoholifkabGreat.Rt
