/-
  The pair beside a book, and beside lists that wait.
-/
import Derived.Test.YtjilahbkolcekabGJ1
namespace Go.Proofs.Ytjilahbkolcekab
open Go.ChangeShapes Go.WideShapes Go.ChangeAt Go.RowKit Go.Maps Tri
set_option maxHeartbeats 1000000
set_option maxRecDepth 100000

/-- Both hold the same, all of it new since wa; beside them blocks X. -/
structure Sd (wa wr : World) (pb bn ba rb : Nat) (X : Nat → Prop) (vp : Value) (s : Ist) : Prop where
  pr : Pr wr pb bn ba rb vp s
  new : ∀ k, fpP pb bn ba rb vp k → wa.heap.size ≤ k
  sep : ∀ k, X k → k < wr.heap.size ∧ wa.heap.size ≤ k ∧ ¬ fpP pb bn ba rb vp k
  be : Below wa.heap.size wa wr

section
variable {wa wr w' : World} {pb bn ba rb : Nat} {X Y : Nat → Prop} {vp : Value} {s : Ist}
theorem Sd.below (h : Sd wa wr pb bn ba rb X vp s) (hb : Below wr.heap.size wr w') : Sd wa w' pb bn ba rb X vp s :=
  ⟨h.pr.below hb, h.new, fun k hk => ⟨Nat.lt_of_lt_of_le (h.sep k hk).1 hb.size, (h.sep k hk).2⟩, h.be.trans (hb.mono h.be.size)⟩
theorem Sd.step {s' : Ist} (h : Sd wa wr pb bn ba rb X vp s) (hp : Pd wr pb bn ba rb vp w' s') : ∃ vp', Sd wa w' pb bn ba rb X vp' s' ∧ Keeps (fun k => ¬ X k) wr w' := by
  obtain ⟨vp', h1, h2, h3⟩ := hp
  refine ⟨vp', ⟨h1, fun k hk => ?_, fun k hk => ⟨Nat.lt_of_lt_of_le (h.sep k hk).1 h3.size, (h.sep k hk).2.1, fun e => ?_⟩, h.be.trans (h3.below h.be.size h.new)⟩, h3.mono fun k _ e hx => (h.sep k hx).2.2 e⟩
  · rcases hk with hk | rfl | hk
    · exact h.new k (.inl hk)
    · exact h.new _ (.inr (.inl rfl))
    · rcases h2 k hk with e | e
      · exact h.new k (.inr (.inr e))
      · exact Nat.le_trans h.be.size e
  · obtain ⟨a, -, c⟩ := h.sep k hk
    rcases e with e | rfl | e
    · exact c (.inl e)
    · exact c (.inr (.inl rfl))
    · rcases h2 k e with e | e
      · exact c (.inr (.inr e))
      · omega
/-- Blocks X turn into blocks Y: nothing of the pair is touched. -/
theorem Sd.turn {Z : Nat → Prop} (h : Sd wa wr pb bn ba rb X vp s) (hk : Keeps Z wr w') (hz : ∀ k, Z k → X k ∨ wr.heap.size ≤ k) (hy : ∀ k, Y k → k < w'.heap.size ∧ (X k ∨ wr.heap.size ≤ k)) : Sd wa w' pb bn ba rb Y vp s := by
  have hb := h.be.size
  refine ⟨h.pr.keeps hk fun k hf e => ?_, h.new, fun k hk2 => ⟨(hy k hk2).1, ?_, fun e => ?_⟩, h.be.trans (hk.below hb fun k e => ?_)⟩
  · rcases hz k e with e | e
    · exact (h.sep k e).2.2 hf
    · have := h.pr.lt hf
      omega
  · rcases (hy k hk2).2 with e | e
    · exact (h.sep k e).2.1
    · omega
  · rcases (hy k hk2).2 with e2 | e2
    · exact (h.sep k e2).2.2 e
    · have := h.pr.lt e
      omega
  · rcases hz k e with e | e
    · exact (h.sep k e).2.1
    · omega
end

/-- The pair beside a book. -/
def FS (wa wr : World) (pb bn ba rb bb m : Nat) : Prop :=
  ∃ vp s vl vm Vs Ps, Bk wr wa.heap.size bb vl vm Vs Ps ∧ Vs.length ≤ m ∧ Sd wa wr pb bn ba rb (fpB bb vl vm Vs) vp s

section
variable {wa wr w' : World} {pb bn ba rb bb m : Nat}
theorem FS.be (h : FS wa wr pb bn ba rb bb m) : Below wa.heap.size wa wr := by
  obtain ⟨vp, s, vl, vm, Vs, Ps, -, -, h3⟩ := h
  exact h3.be
theorem FS.below (h : FS wa wr pb bn ba rb bb m) (hb : Below wr.heap.size wr w') : FS wa w' pb bn ba rb bb m := by
  obtain ⟨vp, s, vl, vm, Vs, Ps, h1, h2, h3⟩ := h
  exact ⟨vp, s, vl, vm, Vs, Ps, h1.below hb, h2, h3.below hb⟩
theorem FS.mono {m' : Nat} (h : FS wa wr pb bn ba rb bb m) (hm : m ≤ m') : FS wa wr pb bn ba rb bb m' := by
  obtain ⟨vp, s, vl, vm, Vs, Ps, h1, h2, h3⟩ := h
  exact ⟨vp, s, vl, vm, Vs, Ps, h1, Nat.le_trans h2 hm, h3⟩
theorem FS.plays (h : FS wa wr pb bn ba rb bb m) (o : Stp) (hn : o.n.size ≤ maxLen) (ha : o.a < 4294967296) :
    Calls Try.prog 13 #[.pointer (some ⟨pb, 0, none⟩), .pointer (some ⟨rb, 0, none⟩), .agg #[.int .i64 o.k, .string o.n, .int .u32 (o.a : Int)]] wr fun e W => e = .returned (.bool true) ∧ FS wa W pb bn ba rb bb m := by
  obtain ⟨vp, s, vl, vm, Vs, Ps, h1, h2, h3⟩ := h
  refine (plays_any o wr pb bn ba rb vp s h3.pr hn ha).mono ?_
  rintro e W ⟨rfl, hp⟩
  obtain ⟨vp', h4, h5⟩ := h3.step hp
  exact ⟨rfl, vp', _, vl, vm, Vs, Ps, h1.keeps h5 fun k hk e => e hk, h2, h4⟩
theorem FS.whole (h : FS wa wr pb bn ba rb bb m) :
    Calls Try.prog 22 #[.pointer (some ⟨bb, 0, none⟩)] wr fun e W => e = .returned (.bool true) ∧ FS wa W pb bn ba rb bb m := by
  have hh := h
  obtain ⟨vp, s, vl, vm, Vs, Ps, h1, h2, h3⟩ := h
  refine (whole_any wr _ bb vl vm Vs Ps h1).mono ?_
  rintro e W ⟨rfl, hb⟩
  exact ⟨rfl, hh.below hb⟩
/-- A List, ready to be kept. -/
theorem FS.list (h : FS wa wr pb bn ba rb bb m) (hm : m + 4 < 4294967296) :
    Calls Try.prog 20 #[.pointer (some ⟨pb, 0, none⟩)] wr fun e W => ∃ a n c, e = .returned (.slice a n c) ∧ Hid (Calls Try.prog 21 #[.pointer (some ⟨bb, 0, none⟩), .slice a n c] W fun e W' => e = .returned (.tuple #[]) ∧ FS wa W' pb bn ba rb bb (m + 4)) := by
  obtain ⟨vp, s, vl, vm, Vs, Ps, h1, h2, h3⟩ := h
  refine (list_any wr pb bn ba s h3.pr.ip).mono ?_
  rintro e W ⟨v, L, rfl, ho, hs, hb⟩
  obtain ⟨a, n, c, rfl, -, -, -, -⟩ := ho.shape
  refine ⟨a, n, c, rfl, ?_⟩
  have hB := h3.be.size
  have h3b := h3.below hb
  refine (keep_any W wa.heap.size bb vl vm (.slice a n c) Vs Ps L (h1.below hb) (ho.low hB) (fun k hk hf => ?_) (by rw [hs.1.length_eq]; exact h3.pr.ip.ok.le) (by omega) (by have := hb.size; omega)).mono ?_
  · have e1 := (ho.lt hk).1
    have e2 := (h1.lt hf).2
    omega
  · rintro e W' ⟨rfl, vl', vm', Vs', Ps', k1, k2, k3, k4⟩
    refine ⟨rfl, vp, s, vl', vm', Vs', Ps', k1, by omega, ?_⟩
    have hbs := hb.size
    refine Sd.turn (X := fpB bb vl vm Vs) (wr := wr) h3 ((Keeps.of hb).trans k4) (fun k hk => ?_) (fun k hk => ⟨(k1.lt hk).2, ?_⟩)
    · rcases hk with hk | hk
      · exact .inl hk
      · exact .inr (ho.lt hk).1
    · rcases k3 k hk with e | e | e
      · exact .inl e
      · exact .inr (ho.lt e).1
      · exact .inr (by omega)
/-- A new book. -/
theorem FS.start {vp : Value} {s : Ist} (h : Sd wa wr pb bn ba rb (fun _ => False) vp s) : FS wa (wr.alloc (.cells #[.slice none 0 0, .slice none 0 0] 54)) pb bn ba rb wr.heap.size 0 := by
  have hb : Below wr.heap.size wr (wr.alloc (.cells #[.slice none 0 0, .slice none 0 0] 54)) := (Below.refl _ _).alloc (Nat.le_refl _) _
  refine ⟨vp, s, .slice none 0 0, .slice none 0 0, [], [], ⟨heap_alloc_new wr _, h.be.size, OwnS.nil _ _, OwnD.nil _ _, rfl, fun i v p hv => by simp at hv, fun v hv => by cases hv⟩, Nat.le_refl _, ?_⟩
  refine Sd.turn (Z := fun _ => False) h (Keeps.of hb) (fun k e => e.elim) fun k hk => ?_
  rcases hk with rfl | hk | hk | ⟨v, hv, -⟩
  · exact ⟨by simp, .inr (Nat.le_refl _)⟩
  · cases hk
  · cases hk
  · cases hv
end
end Go.Proofs.Ytjilahbkolcekab
