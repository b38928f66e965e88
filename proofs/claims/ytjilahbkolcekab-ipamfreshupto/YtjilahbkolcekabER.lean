/-
  The law's both, first, holds.
-/
import Derived.Test.YtjilahbkolcekabEQ
namespace Go.Proofs.Ytjilahbkolcekab
open Go.ChangeShapes Go.WideShapes Go.ChangeAt Go.RowKit Go.Maps Tri
set_option maxHeartbeats 4000000
set_option maxRecDepth 100000

/-- A pair that is used, all of it new since w0. -/
def Live (w0 w : World) (pb bn ba rb : Nat) : Prop := ∃ vp s, Pr w pb bn ba rb vp s ∧ (∀ k, fpP pb bn ba rb vp k → w0.heap.size ≤ k) ∧ Below w0.heap.size w0 w

/-- No block of a pair is of such a kind. -/
def okT (t : TypeId) : Prop := t ≠ 75 ∧ t ≠ 89 ∧ t ≠ 80

theorem Pr.other {w : World} {pb bn ba rb : Nat} {vp : Value} {s : Ist} (h : Pr w pb bn ba rb vp s) {k : Nat} {cs : Array Value} {t : TypeId} (hk : w.heap[k]? = some (.cells cs t (0, 0))) (ht : okT t) : ¬ fpP pb bn ba rb vp k := by
  rintro ((rfl | rfl | rfl) | (rfl | e))
  · have := h.ip.row
    rw [hk] at this
    simp at this
    exact ht.1 this.2
  · obtain ⟨es, c, h1⟩ := h.ip.mn.isMap
    rw [hk] at h1
    cases h1
  · obtain ⟨es, c, h1⟩ := h.ip.ma.isMap
    rw [hk] at h1
    cases h1
  · have := h.rf.row
    rw [hk] at this
    simp at this
    exact ht.2.1 this.2
  · obtain ⟨cs2, h1⟩ := h.rf.own.kind e
    rw [hk] at h1
    simp at h1
    exact ht.2.2 h1.2

theorem Live.be {w0 w : World} {pb bn ba rb : Nat} (h : Live w0 w pb bn ba rb) : Below w0.heap.size w0 w := by
  obtain ⟨vp, s, -, -, h⟩ := h; exact h
theorem Live.below {w0 w w' : World} {pb bn ba rb : Nat} (h : Live w0 w pb bn ba rb) (hb : Below w.heap.size w w') : Live w0 w' pb bn ba rb := by
  obtain ⟨vp, s, h1, h2, h3⟩ := h
  exact ⟨vp, s, h1.below hb, h2, h3.trans (hb.mono h3.size)⟩

theorem Live.plays {w0 w : World} {pb bn ba rb : Nat} (h : Live w0 w pb bn ba rb) (o : Stp) (hn : o.n.size ≤ maxLen) (ha : o.a < 4294967296) :
    Calls Try.prog 13 #[.pointer (some ⟨pb, 0, none⟩), .pointer (some ⟨rb, 0, none⟩), .agg o.cells] w fun e W => e = .returned (.bool true) ∧ Live w0 W pb bn ba rb ∧ ∀ (k : Nat) (cs : Array Value) (t : TypeId), w.heap[k]? = some (Obj.cells cs t (0, 0)) → okT t → W.heap[k]? = some (Obj.cells cs t (0, 0)) := by
  obtain ⟨vp, s, h1, h2, h3⟩ := h
  refine (plays_any o w pb bn ba rb vp s h1 hn ha).mono ?_
  rintro e W ⟨he, vp', hp, hnw, hk⟩
  refine ⟨he, ⟨vp', _, hp, fun k hk2 => ?_, ?_⟩, fun k cs t hk2 ht => (hk.block k (Array.getElem?_eq_some_iff.1 hk2).1 (h1.other hk2 ht)).trans hk2⟩
  · rcases hk2 with hk2 | rfl | hk2
    · exact h2 k (.inl hk2)
    · exact h2 _ (.inr (.inl rfl))
    · rcases hnw k hk2 with h4 | h4
      · exact h2 k (.inr (.inr h4))
      · exact Nat.le_trans h3.size h4
  · exact h3.trans (hk.below h3.size h2)

/-- What both leaves. -/
def Bth (x : Nat) (y : Int) (w : World) (e : Ending) (w' : World) : Prop :=
  (nwB x y = false ∧ e = .returned (.tuple #[.pointer none, .pointer none, .bool true]) ∧ Below w.heap.size w w') ∨
  (nwB x y = true ∧ ∃ pb bn ba rb, e = .returned (.tuple #[.pointer (some ⟨pb, 0, none⟩), .pointer (some ⟨rb, 0, none⟩), .bool true]) ∧ Pr w' pb bn ba rb (.slice none 0 0) (Ist.new x y) ∧ (∀ k, fpP pb bn ba rb (.slice none 0 0) k → w.heap.size ≤ k) ∧ Below w.heap.size w w')

theorem both_any (x : Nat) (y : Int) (w : World) (hx : x < 4294967296) :
    Calls Try.prog 10 #[.agg #[.int .u32 (x : Int), .int .i64 y]] w (Bth x y w) := by
  obtain ⟨wa, HWA⟩ : ∃ wa, Hid (wa = w.alloc (.cells #[.int .u32 (x : Int), .int .i64 y] 25)) := ⟨_, rfl⟩
  have HB0 : Hid (Below w.heap.size w wa) := by unfold Hid; rw [HWA.out]; exact (Below.refl _ _).alloc (Nat.le_refl _) _
  have R1 : Hid (wa.heap[w.heap.size]? = some (.cells #[.int .u32 (x : Int), .int .i64 y] 25)) := by unfold Hid; rw [HWA.out]; exact heap_alloc_new w _
  obtain ⟨q0, q1⟩ := Beh.two R1.out
  have c0 := q0 ⟨wa, Below.refl _ _⟩
  have c1 := q1 ⟨wa, Below.refl _ _⟩
  simp only at c0 c1
  have HN := hid (new_any x y wa hx)
  go_enter Try.func10, Try.ntmps10
  go_upto_region 1 with fail
  rw [← HWA.out]
  go_wp2_with fail
  refine HN.out.mono ?_
  rintro _ w1 (⟨hb, rfl, hb1⟩ | ⟨hb, pb, bn, ba, rfl, hi1, hk1, hb1⟩)
  · have d0 := q0 ⟨w1, hb1⟩
    have d1 := q1 ⟨w1, hb1⟩
    simp only at d0 d1
    have HR := hid (newR_any x y w1 hx)
    have HB1 := hid (HB0.out.trans (hb1.mono HB0.out.size))
    have HBB := hid hb
    clear c0 c1 q0 q1 HN hb1 hb
    go_wp2_with fail
    refine HR.out.mono ?_
    rintro _ w2 (⟨hb, rfl, hb2⟩ | ⟨hb, rb, rfl, hr2, hk2, hb2⟩)
    · have HFIN : Hid (Bth x y w (.returned (.tuple #[.pointer none, .pointer none, .bool true])) w2) := .inl ⟨hb, rfl, HB1.out.trans (hb2.mono HB1.out.size)⟩
      clear d0 d1 HR hb2 hb
      go_wp2_with fail
      go_ret3
      exact HFIN.out
    · rw [HBB.out] at hb; cases hb
  · have d0 := q0 ⟨w1, hb1⟩
    have d1 := q1 ⟨w1, hb1⟩
    simp only at d0 d1
    have HR := hid (newR_any x y w1 hx)
    have HB1 := hid (HB0.out.trans (hb1.mono HB0.out.size))
    have HBB := hid hb
    have HI1 := hid hi1
    have HK1 := hid hk1
    have hs0 := HB0.out.size
    clear c0 c1 q0 q1 HN hb1 hb hi1 hk1
    go_wp2_with fail
    refine HR.out.mono ?_
    rintro _ w2 (⟨hb, rfl, hb2⟩ | ⟨hb, rb, rfl, hr2, hk2, hb2⟩)
    · rw [HBB.out] at hb; cases hb
    · have HFIN : Hid (Bth x y w (.returned (.tuple #[.pointer (some ⟨pb, 0, none⟩), .pointer (some ⟨rb, 0, none⟩), .bool true])) w2) := by
        refine .inr ⟨hb, pb, bn, ba, rb, rfl, ⟨HI1.out.below hb2, hr2⟩, ?_, HB1.out.trans (hb2.mono HB1.out.size)⟩
        rintro k (hk | rfl | hk)
        · exact Nat.le_trans hs0 (HK1.out k hk)
        · exact Nat.le_trans HB1.out.size hk2
        · cases hk
      clear d0 d1 HR hb2 hb hr2 hk2
      go_wp2_with fail
      go_ret3
      exact HFIN.out

theorem Bth.live {x : Nat} {y : Int} {w w' : World} {pb bn ba rb : Nat} (h1 : Pr w' pb bn ba rb (.slice none 0 0) (Ist.new x y)) (h2 : ∀ k, fpP pb bn ba rb (.slice none 0 0) k → w.heap.size ≤ k) (h3 : Below w.heap.size w w') : Live w w' pb bn ba rb := ⟨_, _, h1, h2, h3⟩
end Go.Proofs.Ytjilahbkolcekab
