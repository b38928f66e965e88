import Derived.Test.YtpdnnikkaojnkaaGreatYLN
namespace Go.Proofs.YtpdnnikkaojnkaaGreat.Rt
open Go.Proofs.YtpdnnikkaojnkaaGreat Go.ChangeShapes Go.WideShapes Go.ChangeAt Go.RowKit Go.Maps Tri N
set_option maxHeartbeats 4000000
set_option maxRecDepth 100000
theorem wf_nil {lo hi : Nat} {t : Tr} (h : WF lo hi t) (hv : vals t = 0) : t = .nil := by
  induction t generalizing lo hi with
  | nil => rfl
  | node k u l r il ir =>
    obtain ⟨_, _, _, h4, h5, h6⟩ := h
    unfold vals at hv
    cases u with
    | some v => simp at hv
    | none =>
      have := il h4 (by omega)
      exact absurd this (h6 rfl).1
theorem KAt.wide {w : World} {X Y : Nat → Prop} {b : Bks} {s : Ks} (h : KAt w X b s) (hR : s.R = []) (hXY : ∀ c, X c → Y c) (hl : ∀ c, Y c → c < w.heap.size) : KAt w Y b s := by
  refine ⟨h.row, ?_, h.nt, h.ft, h.ok, ⟨hXY _ h.mem.1, hXY _ h.mem.2.1, hXY _ h.mem.2.2.1, hXY _ h.mem.2.2.2.1, hXY _ h.mem.2.2.2.2⟩, h.nd⟩
  obtain ⟨t, ⟨t1, t2, ⟨m, t3, t4, t5⟩, t6⟩, hh⟩ := h.rt.tree
  refine ⟨h.rt.row, ⟨t, ⟨hXY _ t1, hl, ⟨m, t3, t4, ?_⟩, t6⟩, hh⟩, h.rt.le, hXY _ h.rt.xr, h.rt.ne⟩
  have hv : vals t = 0 := by rw [hh.len t6, hR]; rfl
  have ht := wf_nil t6 hv
  rw [ht] at t4
  cases m with
  | nil => trivial
  | node => cases t4
structure P2 (B : Nat) (w : World) (X1 : Nat → Prop) (b1 : Bks) (m1 : Nat) (v1 : Vs) (s1 : Ks) (X2 : Nat → Prop) (b2 : Bks) (m2 : Nat) (v2 : Vs) (s2 : Ks) : Prop where
  p1 : Pr w X1 b1 m1 v1 s1
  p2 : Pr w X2 b2 m2 v2 s2
  x12 : ∀ c, fpP b1 m1 v1 c → X2 c ∧ ¬ fpP b2 m2 v2 c
  x21 : ∀ c, fpP b2 m2 v2 c → X1 c ∧ ¬ fpP b1 m1 v1 c
  lo1 : ∀ c, X1 c → B ≤ c
  lo2 : ∀ c, X2 c → B ≤ c
end Go.Proofs.YtpdnnikkaojnkaaGreat.Rt
