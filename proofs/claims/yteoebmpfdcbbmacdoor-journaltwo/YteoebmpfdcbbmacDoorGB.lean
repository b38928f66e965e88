/-
  Lists of records beside a journal.
-/
import Derived.Test.YteoebmpfdcbbmacDoorGA
import Derived.Test.YteoebmpfdcbbmacDoorGM
namespace Go.Proofs.YteoebmpfdcbbmacDoor
open Go.ChangeShapes Go.WideShapes Go.ChangeAt Go.RowKit Jn N
set_option maxHeartbeats 4000000
set_option maxRecDepth 100000

/-- A list of records of w, itself apart from S. -/
structure Lv (w u : World) (S : Nat → Prop) (v : Value) (L : List (List Nat)) : Prop where
  recs : RecsAt w w.heap.size u v L
  ap : ∀ j, v.ownBlock = some j → ¬ S j
theorem RecsAt.lt {w u : World} {B j : Nat} {v : Value} {L : List (List Nat)} (h : RecsAt w B u v L) (hj : v.ownBlock = some j) : B ≤ j ∧ j < u.heap.size := by
  obtain ⟨Vs, h1, -, -⟩ := h
  exact World.ownsRow.lt h1 j hj
theorem Lv.left {w u u' : World} {S : Nat → Prop} {p : Nat} {l' : Lg} {v : Value} {L : List (List Nat)} (h : Lv w u S v L) (hl : Left u u' S p l') : Lv w u' (NewS S u.heap.size u') v L := by
  have hlt := fun j hj => (h.recs.lt (j := j) hj).2
  obtain ⟨Vs, h1, h2, h3⟩ := h.recs
  refine ⟨⟨Vs, h1.keeps hl.kp h.ap, h2, h3⟩, fun j hj e => ?_⟩
  rcases e with e | ⟨e, -⟩
  · exact h.ap j hj e
  · have := hlt j hj; omega
theorem Lv.below {w u u' : World} {S : Nat → Prop} {v : Value} {L : List (List Nat)} (h : Lv w u S v L) (hb : Below u.heap.size u u') : Lv w u' S v L := ⟨h.recs.below hb, h.ap⟩
theorem Lv.new {w u u' : World} {S : Nat → Prop} {p : Nat} {l : Lg} {v : Value} {L : List (List Nat)} (h : RecsAt w u.heap.size u' v L) (hj : Jr w u S p l) : Lv w u' S v L :=
  ⟨h.mono hj.be.size, fun j hv e => by have := (h.lt hv).1; have := hj.log.lt j e; omega⟩
theorem Lv.old {w u1 u : World} {B : Nat} {S : Nat → Prop} {p : Nat} {l : Lg} {v : Value} {L : List (List Nat)} (h : RecsAt w B u1 v L) (hB : w.heap.size ≤ B) (hj : Jr u1 u S p l) : Lv w u S v L :=
  ⟨(h.mono hB).below hj.be, fun j hv e => by have := (h.lt hv).2; have := hj.lo j e; omega⟩
theorem Lv.at {w u : World} {S : Nat → Prop} {a : Option Addr} {n c : Nat} {L : List (List Nat)} (h : Lv w u S (.slice a n c) L) {i : Nat} (hi : i < L.length) : ∃ g x r, a = some ⟨g, 0, none⟩ ∧ u.cell? ⟨g, i, none⟩ = some x ∧ SeesB w x r ∧ L[i]? = some r := by
  obtain ⟨Vs, h1, h2, h3⟩ := h.recs
  obtain ⟨x, hx⟩ : ∃ x, Vs[i]? = some x := ⟨_, List.getElem?_eq_getElem (by omega)⟩
  obtain ⟨r, hr⟩ : ∃ r, L[i]? = some r := ⟨_, List.getElem?_eq_getElem hi⟩
  obtain ⟨g, rfl, -, -, hc⟩ := h1.at hx
  exact ⟨g, x, r, rfl, hc u rfl, h3 i x r hx hr, hr⟩

/-- A journal, and three lists of records beside it. -/
structure CtS (w : World) (p : Nat) (u : World) (S : Nat → Prop) (l : Lg) (vb vm va : Value) (bs ms zs : List (List Nat)) : Prop where
  jr : Jr w u S p l
  b : Lv w u S vb bs
  m : Lv w u S vm ms
  a : Lv w u S va zs
theorem CtS.left {w u u' : World} {p : Nat} {S : Nat → Prop} {l l' : Lg} {vb vm va : Value} {bs ms zs : List (List Nat)} (h : CtS w p u S l vb vm va bs ms zs) (hl : Left u u' S p l') : CtS w p u' (NewS S u.heap.size u') l' vb vm va bs ms zs := ⟨h.jr.left hl, h.b.left hl, h.m.left hl, h.a.left hl⟩
theorem CtS.below {w u u' : World} {p : Nat} {S : Nat → Prop} {l : Lg} {vb vm va : Value} {bs ms zs : List (List Nat)} (h : CtS w p u S l vb vm va bs ms zs) (hb : Below u.heap.size u u') : CtS w p u' S l vb vm va bs ms zs := ⟨h.jr.below hb, h.b.below hb, h.m.below hb, h.a.below hb⟩
theorem CtS.more {w u u' : World} {p : Nat} {S : Nat → Prop} {l : Lg} {vb vm va va' : Value} {bs ms zs zs' : List (List Nat)} (h : CtS w p u S l vb vm va bs ms zs) (hr : RecsAt w u.heap.size u' va' zs') (hb : Below u.heap.size u u') : CtS w p u' S l vb vm va' bs ms zs' := ⟨h.jr.below hb, h.b.below hb, h.m.below hb, Lv.new hr h.jr⟩

theorem SeesBB.high {w : World} {ao : Option Addr} {n cap : Nat} {L : List (List Nat)} (h : SeesBB w (.slice ao n cap) L) (m : Nat) (i : Int) (hi : i = m) (hm : m ≤ n) :
    ∃ ao', Hid (SeesBB w (.slice ao' m cap) (L.take m)) ∧ ∀ u : World, (Instr.sliceAt 38 (.slice ao n cap) none (some (.int .i64 i)) none).run Tryd.prog u = .ok (.slice ao' m cap) u := by
  subst hi
  obtain ⟨ao1, cap1, hv, h1, h2, h3⟩ := h
  simp at hv
  obtain ⟨rfl, hlen, rfl⟩ := hv
  refine ⟨ao, ?_, fun u => ?_⟩
  · refine ⟨ao, cap, by rw [List.length_take]; congr 1; omega, by rw [List.length_take]; omega, h2, fun j hj => ?_⟩
    rw [List.length_take] at hj
    obtain ⟨g, off, x, ha, hg, hc, hb⟩ := h3 j (by omega)
    exact ⟨g, off, x, ha, hg, hc, by rw [List.getElem_take]; exact hb⟩
  · have hu : Tryd.prog.underlying 38 = some (.slice (Tryd.prog.elem 38)) := by kernel_rfl
    have hsz : (sizeOf (Tryd.prog.elem 38)).run Tryd.prog u = .ok 1 u := by kernel_rfl
    rw [run_sliceAt_slice (h := hu), run_slice_h (ht := hu) (h0 := by omega) (h2 := by omega), hsz]
    simp [Result.andThen, sliced]
    intro _
    cases ao <;> simp [Addr.add]

theorem mem_base {rs : List (List Nat)} {r : List Nat} (h : r ∈ rs) : 12 + r.length ≤ baseL rs := by
  induction rs with
  | nil => simp at h
  | cons q rs ih =>
    rcases List.mem_cons.1 h with rfl | h
    · simp [baseL]
    · have := ih h; simp [baseL] at *; omega
theorem len_base (rs : List (List Nat)) : 12 * rs.length ≤ baseL rs := by
  induction rs with
  | nil => simp
  | cons q qs ih => simp [baseL] at *; omega
end Go.Proofs.YteoebmpfdcbbmacDoor
