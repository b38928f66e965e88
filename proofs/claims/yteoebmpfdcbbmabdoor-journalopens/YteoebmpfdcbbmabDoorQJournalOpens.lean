import Derived.Test.YteoebmpfdcbbmabDoorRK
import Derived.Test.YteoebmpfdcbbmabDoorRB
import Derived.Deep.RegionHeld
import Derived.Test.YteoebmpfdcbbmabDoorCards
import Derived.Test.YteoebmpfdcbbmabDoorTie
import Derived.Deep.Slices
import Derived.Deep.Strs
import Derived.SizedLaws
import Derived.Deep.DeepHandedRow
import Derived.Lib.LaidTab
import Derived.Stop.LaidErr
import Derived.Deep.CondSized
namespace Go.Proofs.YteoebmpfdcbbmabDoor
open Go.ChangeShapes Go.WideShapes Go.ChangeAt Go.RowKit Jn N
set_option maxHeartbeats 16000000
set_option maxRecDepth 100000

theorem SeesB.passN {w w' : World} {v : Value} {L : List Nat} {b : Nat} {cs : Array Value} {T : TypeId} (h : SeesB w v L) (hb : w.heap[b]? = some (.cells cs T (0, 0))) (hn : ∀ (i : Nat) z, cs[i]? ≠ some (.int .u8 z)) (hk : Keeps (At1 b) w w') : SeesB w' v L := by
  obtain ⟨ao, cap, hv, h1, h2, h3⟩ := h
  refine ⟨ao, cap, hv, h1, h2, fun j hj => ?_⟩
  obtain ⟨g, off, ha, hg, c0, c1⟩ := h3 j hj
  refine ⟨g, off, ha, Nat.lt_of_lt_of_le hg hk.size, ?_, c1⟩
  by_cases e : g = b
  · subst e
    rw [cell_of_row _ _ _ _ _ _ hb] at c0
    exact absurd c0 (hn _ _)
  · exact (World.cell?_of_block (w := w) (a := ⟨g, off + j, none⟩) (hk.block g hg e)).trans c0
theorem SeesBB.passN {w w' : World} {v : Value} {L : List (List Nat)} {b : Nat} {cs : Array Value} {T : TypeId} (h : SeesBB w v L) (hb : w.heap[b]? = some (.cells cs T (0, 0))) (hn : ∀ (i : Nat) z, cs[i]? ≠ some (.int .u8 z)) (hs : ∀ (i : Nat) a n c, cs[i]? ≠ some (.slice a n c)) (hk : Keeps (At1 b) w w') : SeesBB w' v L := by
  obtain ⟨ao, cap, hv, h1, h2, h3⟩ := h
  refine ⟨ao, cap, hv, h1, h2, fun j hj => ?_⟩
  obtain ⟨g, off, x, ha, hg, c0, c1⟩ := h3 j hj
  refine ⟨g, off, x, ha, Nat.lt_of_lt_of_le hg hk.size, ?_, c1.passN hb hn hk⟩
  by_cases e : g = b
  · subst e
    rw [cell_of_row _ _ _ _ _ _ hb] at c0
    obtain ⟨a, n, c, rfl, -⟩ := c1.shape
    exact absurd c0 (hs _ _ _ _)
  · exact (World.cell?_of_block (w := w) (a := ⟨g, off + j, none⟩) (hk.block g hg e)).trans c0
def prRow (x y : Option Addr) : Obj := .cells #[.pointer x, .pointer y] 40 (0, 0)
theorem pr_int (x y : Option Addr) : ∀ (i : Nat) z, (#[Value.pointer x, .pointer y] : Array Value)[i]? ≠ some (.int .u8 z) := fun i z e => by
  rcases i with _ | _ | i <;> simp at e
theorem pr_sl (x y : Option Addr) : ∀ (i : Nat) a n c, (#[Value.pointer x, .pointer y] : Array Value)[i]? ≠ some (.slice a n c) := fun i a n c e => by
  rcases i with _ | _ | i <;> simp at e
theorem pr_cells {u : World} {b : Nat} {x y : Option Addr} (h : u.heap[b]? = some (prRow x y)) : u.cell? ⟨b, 0, none⟩ = some (.pointer x) ∧ u.cell? ⟨b, 1, none⟩ = some (.pointer y) ∧ ∀ i, u.frozen? ⟨b, i, none⟩ = false := by
  unfold prRow at h
  exact ⟨by rw [cell_of_row _ _ _ _ _ _ h]; rfl, by rw [cell_of_row _ _ _ _ _ _ h]; rfl, fun i => frozen_of_row _ _ _ _ _ h⟩
theorem pr_put {u : World} {b : Nat} {x y : Option Addr} (h : u.heap[b]? = some (prRow x y)) (x' y' : Option Addr) : ((u.setCell ⟨b, 0, none⟩ (.pointer x')).setCell ⟨b, 1, none⟩ (.pointer y')).heap[b]? = some (prRow x' y') ∧ Keeps (At1 b) u ((u.setCell ⟨b, 0, none⟩ (.pointer x')).setCell ⟨b, 1, none⟩ (.pointer y')) := by
  unfold prRow at h ⊢
  exact ⟨set_cells (set_cells h), ((Keeps.refl (At1 b) u).set ⟨b, 0, none⟩ rfl _).set ⟨b, 1, none⟩ rfl _⟩

/-- The same disk. -/
theorem disks_eq (xa xb ya yb : Value) (A B : List Nat) (w : World) (h1 : SeesB w xa A) (h2 : SeesB w xb B) (h3 : SeesB w ya A) (h4 : SeesB w yb B) :
    Calls Tryd.prog 19 #[.agg #[xa, xb], .agg #[ya, yb]] w fun e w' => e = .returned (.bool true) ∧ Below w.heap.size w w' := by
  obtain ⟨a1, n1, c1, rfl, -, -, -⟩ := h1.shape
  obtain ⟨a2, n2, c2, rfl, -, -, -⟩ := h2.shape
  obtain ⟨a3, n3, c3, rfl, -, -, -⟩ := h3.shape
  obtain ⟨a4, n4, c4, rfl, -, -, -⟩ := h4.shape
  obtain ⟨u, hu⟩ : ∃ u, u = (w.alloc (.cells #[.slice a1 n1 c1, .slice a2 n2 c2] 26)).alloc (.cells #[.slice a3 n3 c3, .slice a4 n4 c4] 26) := ⟨_, rfl⟩
  have s1 : (w.alloc (.cells #[.slice a1 n1 c1, .slice a2 n2 c2] 26)).heap.size = w.heap.size + 1 := World.size_alloc _ _
  have hb1 : Below w.heap.size w (w.alloc (.cells #[.slice a1 n1 c1, .slice a2 n2 c2] 26)) := (Below.refl _ _).alloc (Nat.le_refl _) _
  have hb2 : Below (w.alloc (.cells #[.slice a1 n1 c1, .slice a2 n2 c2] 26)).heap.size (w.alloc (.cells #[.slice a1 n1 c1, .slice a2 n2 c2] 26)) u := by rw [hu]; exact (Below.refl _ _).alloc (Nat.le_refl _) _
  have hb : Below w.heap.size w u := hb1.trans (hb2.mono hb1.size)
  have r1 : u.heap[w.heap.size]? = some (dkRow (.slice a1 n1 c1) (.slice a2 n2 c2)) := (hb2.block _ (by omega)).trans (heap_alloc_new w _)
  have r2 : u.heap[w.heap.size + 1]? = some (dkRow (.slice a3 n3 c3) (.slice a4 n4 c4)) := by rw [hu, ← s1]; exact heap_alloc_new _ _
  obtain ⟨x0, x1, -⟩ := dk_cells r1
  obtain ⟨y0, y1, -⟩ := dk_cells r2
  have hl1 := (Array.getElem?_eq_some_iff.1 r1).1
  have hl2 := (Array.getElem?_eq_some_iff.1 r2).1
  have HS1 := hid (same_eq _ _ A u (h1.below hb) (h3.below hb))
  have HS2 : Hid (∀ u', Below u.heap.size u u' → Calls Tryd.prog 24 #[.slice a2 n2 c2, .slice a4 n4 c4] u' fun e w' => e = .returned (.bool true) ∧ Below u'.heap.size u' w') := fun u' h' => same_eq _ _ B u' ((h2.below hb).below h') ((h4.below hb).below h')
  have HRR : Hid (∀ u', Below u.heap.size u u' → u'.heap[w.heap.size]? = some (dkRow (.slice a1 n1 c1) (.slice a2 n2 c2)) ∧ u'.heap[w.heap.size + 1]? = some (dkRow (.slice a3 n3 c3) (.slice a4 n4 c4))) := fun u' h' => ⟨below_keeps h' r1 hl1, below_keeps h' r2 hl2⟩
  have HU := hid hu
  have HB := hid hb
  obtain ⟨b1, hbb1⟩ : ∃ b1, b1 = w.heap.size := ⟨_, rfl⟩
  obtain ⟨b2, hbb2⟩ : ∃ b2, b2 = w.heap.size + 1 := ⟨_, rfl⟩
  rw [← hbb2] at y0 y1 hl2 HRR
  rw [← hbb1] at x0 x1 hl1 HRR
  have H1 := hid hbb1
  have H2 := hid hbb2
  clear h1 h2 h3 h4 hu hb hb1 hb2 r1 r2 s1 hbb1 hbb2
  go_enter Tryd.func19, Tryd.ntmps19
  go_upto_region 1 with fail
  rw [← HU.out, ← H1.out, show b1 + 1 = b2 by have := H1.out; have := H2.out; omega]
  go_wp2_with fail
  refine HS1.out.mono ?_
  rintro _ u1 ⟨rfl, hb1⟩
  obtain ⟨-, p1, -⟩ := dk_cells (HRR.out u1 hb1).1
  obtain ⟨-, p2, -⟩ := dk_cells (HRR.out u1 hb1).2
  have m1 := (Array.getElem?_eq_some_iff.1 (HRR.out u1 hb1).1).1
  have m2 := (Array.getElem?_eq_some_iff.1 (HRR.out u1 hb1).2).1
  have HSS := hid (HS2.out u1 hb1)
  have HB1 := hid hb1
  clear hb1 HS1 HS2
  go_wp2_with fail
  refine HSS.out.mono ?_
  rintro _ u2 ⟨rfl, hb2⟩
  have HB2 : Hid (Below w.heap.size w u2) := HB.out.trans ((HB1.out.trans (hb2.mono HB1.out.size)).mono HB.out.size)
  clear hb2
  go_wp2_with fail
  go_ret
  exact ⟨rfl, HB2.out⟩

/-- What both hold behind the same opening. -/
def PrO (w u' : World) (pp : Nat) (A B : List Nat) : Prop :=
  (opnE A B = true ∧ u'.heap[pp]? = some (prRow none none)) ∨ (opnE A B = false ∧ ∃ p m S Bd, u'.heap[pp]? = some (prRow (some ⟨p, 0, none⟩) (some ⟨m, 0, none⟩)) ∧ Jr w u' S p (opnL A B) ∧ (∀ k, S k → k < Bd) ∧ RefAt Bd u' m (opnL A B) ∧ pp < Bd)
theorem RefAt.keepsLow {B : Nat} {u u' : World} {m : Nat} {l : Lg} {b : Nat} (h : RefAt B u m l) (hk : Keeps (At1 b) u u') (hb : b < B) : RefAt B u' m l := by
  obtain ⟨C, va, vb, vw, X, h⟩ := h
  refine ⟨C, va, vb, vw, X, h.keeps hk (fun k e => ?_)⟩
  unfold At1 at e
  subst e
  exact ⟨fun e => by have := h.lp; omega, fun hc => by have := (h.ap _ hc).2.2.2; omega, fun e => by have := (World.ownsRow.lt h.w _ e).1; omega⟩
theorem pairOpen_any (pp : Nat) (va vb : Value) (A B : List Nat) (w u : World) (hw : Below w.heap.size w u) (hpw : w.heap.size ≤ pp) (hrow : u.heap[pp]? = some (prRow none none)) (hva : SeesB u va A) (hvb : SeesB u vb B) (ht : TabN u) :
    Calls Tryd.prog 14 #[.pointer (some ⟨pp, 0, none⟩), .agg #[va, vb]] u fun e u' => e = .returned (.bool true) ∧ Keeps (At1 pp) u u' ∧ PrO w u' pp A B := by
  obtain ⟨a1, n1, c1, rfl, -, -, -⟩ := hva.shape
  obtain ⟨a2, n2, c2, rfl, -, -, -⟩ := hvb.shape
  obtain ⟨u0, hu0⟩ : ∃ u0, u0 = u.alloc (.cells #[.slice a1 n1 c1, .slice a2 n2 c2] 26) := ⟨_, rfl⟩
  have hb0 : Below u.heap.size u u0 := by rw [hu0]; exact (Below.refl _ _).alloc (Nat.le_refl _) _
  have hr0 : u0.heap[u.heap.size]? = some (dkRow (.slice a1 n1 c1) (.slice a2 n2 c2)) := by rw [hu0]; exact heap_alloc_new u _
  obtain ⟨x0, x1, -⟩ := dk_cells hr0
  have hl0 := (Array.getElem?_eq_some_iff.1 hr0).1
  have hpl := (Array.getElem?_eq_some_iff.1 hrow).1
  have HOP := hid (open_any _ _ A B u0 (hva.below hb0) (hvb.below hb0) (ht.below hb0 ht.2))
  have HRO : Hid (∀ u', Below u0.heap.size u0 u' → Calls Tryd.prog 35 #[.agg #[.slice a1 n1 c1, .slice a2 n2 c2]] u' fun e w' => (opnE A B = true → e = .returned (.tuple #[.pointer none, .slice none 0 0, .int .i64 120]) ∧ Below u'.heap.size u' w') ∧ (opnE A B = false → ∃ p v, e = .returned (.tuple #[.pointer (some ⟨p, 0, none⟩), v, .int .i64 0]) ∧ RefAt u'.heap.size w' p (opnL A B) ∧ SeesBB w' v (opnR A B) ∧ Below u'.heap.size u' w')) := fun u' h' => openR_any _ _ A B u' ((hva.below hb0).below h') ((hvb.below hb0).below h')
  have HRB : Hid (∀ u', Below u0.heap.size u0 u' → u'.heap[u.heap.size]? = some (dkRow (.slice a1 n1 c1) (.slice a2 n2 c2)) ∧ u'.heap[pp]? = some (prRow none none)) := fun u' h' => ⟨below_keeps h' hr0 hl0, below_keeps h' ((hb0.block pp hpl).trans hrow) (Nat.lt_of_lt_of_le hpl hb0.size)⟩
  have HU0 := hid hu0
  have HB0 := hid hb0
  have HPL := hid hpl
  have HW := hid hw
  have HPW := hid hpw
  obtain ⟨b, hbb⟩ : ∃ b, b = u.heap.size := ⟨_, rfl⟩
  rw [← hbb] at x0 x1 hl0 HRB
  have HBB := hid hbb
  clear hva hvb ht hu0 hb0 hr0 hbb hrow hw hpw
  cases hE : opnE A B with
  | true =>
    as_aux_lemma =>
      have HO1 : Hid (Calls Tryd.prog 11 #[.agg #[.slice a1 n1 c1, .slice a2 n2 c2]] u0 fun e w' => e = .returned (.tuple #[.pointer none, .slice none 0 0, .int .i64 120]) ∧ Below u0.heap.size u0 w') := HOP.out.mono fun e w' h => h.1 hE
      have HE := hid hE
      clear HOP hE
      go_enter Tryd.func14, Tryd.ntmps14
      go_upto_region 1 with fail
      rw [← HU0.out, ← HBB.out]
      go_wp2_with fail
      refine HO1.out.mono ?_
      rintro _ u1 ⟨rfl, hb1⟩
      have HO2 : Hid (Calls Tryd.prog 35 #[.agg #[.slice a1 n1 c1, .slice a2 n2 c2]] u1 fun e w' => e = .returned (.tuple #[.pointer none, .slice none 0 0, .int .i64 120]) ∧ Below u1.heap.size u1 w') := (HRO.out u1 hb1).mono fun e w' h => h.1 HE.out
      obtain ⟨p0, p1, -⟩ := dk_cells (HRB.out u1 hb1).1
      have m1 := (Array.getElem?_eq_some_iff.1 (HRB.out u1 hb1).1).1
      have HB1 := hid hb1
      clear hb1 HO1
      go_wp2_with fail
      refine HO2.out.mono ?_
      rintro _ u2 ⟨rfl, hb2⟩
      have hb02 : Below u0.heap.size u0 u2 := HB1.out.trans (hb2.mono HB1.out.size)
      have hr2 := (HRB.out u2 hb02).2
      obtain ⟨q0, q1, qf⟩ := pr_cells hr2
      have m2 := (Array.getElem?_eq_some_iff.1 hr2).1
      obtain ⟨hP1, hP2⟩ := pr_put hr2 none none
      have h3 := hr2
      have hr3 : (u2.setCell ⟨pp, 0, none⟩ (.pointer none)).heap[pp]? = some (prRow none none) := by unfold prRow at h3 ⊢; exact set_cells h3
      obtain ⟨s0, s1, sf⟩ := pr_cells hr3
      obtain ⟨u3, hu3⟩ : ∃ u3, u3 = (u2.setCell ⟨pp, 0, none⟩ (.pointer none)).setCell ⟨pp, 1, none⟩ (.pointer none) := ⟨_, rfl⟩
      rw [← hu3] at hP1 hP2
      have HLS := hid (lists_eq _ _ [] u3 (seesBB_nil _) (seesBB_nil _))
      have hK : Keeps (At1 pp) u u3 := (Keeps.of (HB0.out.trans (hb02.mono HB0.out.size))).trans hP2
      have HK := hid hK
      have HP1 := hid hP1
      have HU3 := hid hu3
      clear hb2 hb02 hr2 hP1 hP2 h3 hr3 hu3 hK HO2 HRO
      go_upto_region 5 with fail
      rw [← HU3.out]
      go_wp2_with fail
      refine HLS.out.mono ?_
      rintro _ u4 ⟨rfl, hb4⟩
      have HF : Hid (Keeps (At1 pp) u u4 ∧ u4.heap[pp]? = some (prRow none none)) := ⟨HK.out.trans (Keeps.of hb4), below_keeps hb4 HP1.out (Array.getElem?_eq_some_iff.1 HP1.out).1⟩
      clear hb4
      go_wp2_with fail
      go_ret
      exact ⟨rfl, HF.out.1, .inl ⟨HE.out, HF.out.2⟩⟩
  | false =>
    as_aux_lemma =>
      have HO1 : Hid (Calls Tryd.prog 11 #[.agg #[.slice a1 n1 c1, .slice a2 n2 c2]] u0 fun e w' => ∃ p v S Bd, e = .returned (.tuple #[.pointer (some ⟨p, 0, none⟩), v, .int .i64 0]) ∧ Opened u0 w' S Bd p v (opnL A B) (opnR A B)) := HOP.out.mono fun e w' h => h.2 hE
      have HE := hid hE
      clear HOP hE
      obtain ⟨L0, HL0⟩ : ∃ L0, Hid (L0 = opnL A B) := ⟨_, rfl⟩
      rw [← HL0.out] at HO1 HRO
      unfold PrO
      rw [← HL0.out]
      go_enter Tryd.func14, Tryd.ntmps14
      go_upto_region 1 with fail
      rw [← HU0.out, ← HBB.out]
      go_wp2_with fail
      refine HO1.out.mono ?_
      rintro _ u1 ⟨p, v1, S, Bd, rfl, hO⟩
      have hb1 := hO.be
      have HJ0 : Hid (Jr w u1 S p L0) := by
        have h1 : Jr u0 u1 S p L0 := ⟨hO.be, hO.log, hO.ok, hO.lo⟩
        exact h1.since (HW.out.trans (HB0.out.mono HW.out.size))
      have HSl : Hid (∀ k, S k → k < u1.heap.size) := hO.log.lt
      have HSlo : Hid (∀ k, S k → u0.heap.size ≤ k) := hO.lo
      have HS1 := hid hO.recs.sees
      obtain ⟨g1, k1, d1, rfl, -, -, -⟩ := hO.recs.sees.shape
      have HO2 : Hid (Calls Tryd.prog 35 #[.agg #[.slice a1 n1 c1, .slice a2 n2 c2]] u1 fun e w' => ∃ p v, e = .returned (.tuple #[.pointer (some ⟨p, 0, none⟩), v, .int .i64 0]) ∧ RefAt u1.heap.size w' p L0 ∧ SeesBB w' v (opnR A B) ∧ Below u1.heap.size u1 w') := (HRO.out u1 hb1).mono fun e w' h => h.2 HE.out
      obtain ⟨p0, p1, -⟩ := dk_cells (HRB.out u1 hb1).1
      have m1 := (Array.getElem?_eq_some_iff.1 (HRB.out u1 hb1).1).1
      have HB1 := hid hb1
      clear hb1 HO1 hO
      go_wp2_with fail
      refine HO2.out.mono ?_
      rintro _ u2 ⟨m, v2, rfl, hRf, hS2, hb2⟩
      obtain ⟨g2, k2, d2, rfl, -, -, -⟩ := hS2.shape
      have hb02 : Below u0.heap.size u0 u2 := HB1.out.trans (hb2.mono HB1.out.size)
      have hr2 := (HRB.out u2 hb02).2
      obtain ⟨q0, q1, qf⟩ := pr_cells hr2
      have m2 := (Array.getElem?_eq_some_iff.1 hr2).1
      obtain ⟨hP1, hP2⟩ := pr_put hr2 (some ⟨p, 0, none⟩) (some ⟨m, 0, none⟩)
      have h3 := hr2
      have hr3 : (u2.setCell ⟨pp, 0, none⟩ (.pointer (some ⟨p, 0, none⟩))).heap[pp]? = some (prRow (some ⟨p, 0, none⟩) none) := by unfold prRow at h3 ⊢; exact set_cells h3
      obtain ⟨s0, s1, sf⟩ := pr_cells hr3
      obtain ⟨u3, hu3⟩ : ∃ u3, u3 = (u2.setCell ⟨pp, 0, none⟩ (.pointer (some ⟨p, 0, none⟩))).setCell ⟨pp, 1, none⟩ (.pointer (some ⟨m, 0, none⟩)) := ⟨_, rfl⟩
      rw [← hu3] at hP1 hP2
      have hrc : u2.heap[pp]? = some (.cells #[.pointer none, .pointer none] 40 (0, 0)) := hr2
      have HLS := hid (lists_eq _ _ (opnR A B) u3 ((HS1.out.below hb2).passN hrc (pr_int _ _) (pr_sl _ _) hP2) (hS2.passN hrc (pr_int _ _) (pr_sl _ _) hP2))
      have hpu : pp < u.heap.size := HPL.out
      have hs0 := HB0.out.size
      have hs1 := HB1.out.size
      have HJ3 : Hid (Jr w u2 S p L0) := HJ0.out.below hb2
      have HF3 : Hid (∀ u4, Below u3.heap.size u3 u4 → Keeps (At1 pp) u u4 ∧ u4.heap[pp]? = some (prRow (some ⟨p, 0, none⟩) (some ⟨m, 0, none⟩)) ∧ Jr w u4 S p L0 ∧ RefAt u1.heap.size u4 m L0) := fun u4 h4 => by
        have hkk : Keeps (At1 pp) u u3 := (Keeps.of (HB0.out.trans (hb02.mono HB0.out.size))).trans hP2
        refine ⟨hkk.trans (Keeps.of h4), below_keeps h4 hP1 (Array.getElem?_eq_some_iff.1 hP1).1, ?_, ?_⟩
        · exact (HJ3.out.keeps hP2 (fun k e => by unfold At1 at e; exact ⟨fun hS => by have := HSlo.out k hS; omega, by have := HPW.out; omega⟩)).below h4
        · exact (hRf.keepsLow hP2 (by omega)).below h4
      have HU3 := hid hu3
      clear hb2 hb02 hr2 hP1 hP2 h3 hr3 hu3 HO2 HRO hRf hS2 hrc
      go_upto_region 5 with fail
      rw [← HU3.out]
      go_wp2_with fail
      refine HLS.out.mono ?_
      rintro _ u4 ⟨rfl, hb4⟩
      have HF := hid (HF3.out u4 hb4)
      clear hb4
      go_wp2_with fail
      go_ret
      exact ⟨rfl, HF.out.1, .inr ⟨HE.out, p, m, S, u1.heap.size, HF.out.2.1, HF.out.2.2.1, HSl.out, HF.out.2.2.2, by omega⟩⟩
end Go.Proofs.YteoebmpfdcbbmabDoor

namespace Go.Proofs.YteoebmpfdcbbmabDoor
open Go.ChangeShapes Go.WideShapes Go.ChangeAt Go.RowKit Jn N
set_option maxHeartbeats 16000000
set_option maxRecDepth 100000

theorem opn_facts {A B : List Nat} (hA : ∀ y ∈ A, y < 256) (hB : ∀ y ∈ B, y < 256) (h : opnE A B = false) : (opnL A B).Ok ∧ (opnL A B).a = A ∧ (opnL A B).b = B ∧ (opnL A B).ws.length ≤ 1 := by
  refine ⟨opn_ok hA hB h, ?_, ?_, ?_⟩ <;> unfold opnL <;> (repeat' split) <;> simp [Lg.beg]
theorem opens_any (va vb : Value) (A B : List Nat) (w : World) (hva : SeesB w va A) (hvb : SeesB w vb B) (ht : TabN w) :
    Calls Tryd.prog 4 #[.agg #[va, vb]] w fun e w' => e = .returned (.bool true) ∧ Below w.heap.size w w' := by
  have HYA := hid hva.bytes
  have HYB := hid hvb.bytes
  obtain ⟨a1, n1, c1, rfl, -, -, -⟩ := hva.shape
  obtain ⟨a2, n2, c2, rfl, -, -, -⟩ := hvb.shape
  obtain ⟨u, hu⟩ : ∃ u, u = (w.alloc (.cells #[.slice a1 n1 c1, .slice a2 n2 c2] 26)).alloc (.cells #[.pointer none, .pointer none] 40) := ⟨_, rfl⟩
  have s1 : (w.alloc (.cells #[.slice a1 n1 c1, .slice a2 n2 c2] 26)).heap.size = w.heap.size + 1 := World.size_alloc _ _
  have hb1 : Below w.heap.size w (w.alloc (.cells #[.slice a1 n1 c1, .slice a2 n2 c2] 26)) := (Below.refl _ _).alloc (Nat.le_refl _) _
  have hb2 : Below (w.alloc (.cells #[.slice a1 n1 c1, .slice a2 n2 c2] 26)).heap.size (w.alloc (.cells #[.slice a1 n1 c1, .slice a2 n2 c2] 26)) u := by rw [hu]; exact (Below.refl _ _).alloc (Nat.le_refl _) _
  have hb : Below w.heap.size w u := hb1.trans (hb2.mono hb1.size)
  have r1 : u.heap[w.heap.size]? = some (dkRow (.slice a1 n1 c1) (.slice a2 n2 c2)) := (hb2.block _ (by omega)).trans (heap_alloc_new w _)
  have r2 : u.heap[w.heap.size + 1]? = some (prRow none none) := by rw [hu, ← s1]; exact heap_alloc_new _ _
  have HU := hid hu
  have HB := hid hb
  have HFI := hid (first_any u (ht.below hb ht.2))
  obtain ⟨b, hbb⟩ : ∃ b, b = w.heap.size := ⟨_, rfl⟩
  obtain ⟨pp, hpp⟩ : ∃ pp, pp = w.heap.size + 1 := ⟨_, rfl⟩
  rw [← hpp] at r2
  rw [← hbb] at r1
  have R1 := hid r1
  have R2 := hid r2
  have H1 := hid hbb
  have H2 := hid hpp
  have hbpp : b ≠ pp := by omega
  have hl1 := (Array.getElem?_eq_some_iff.1 r1).1
  have hl2 := (Array.getElem?_eq_some_iff.1 r2).1
  have HVA := hid (hva.below hb)
  have HVB := hid (hvb.below hb)
  have HT := hid ht
  clear hva hvb ht hu hb hb1 hb2 r1 r2 s1 hbb hpp
  go_enter Tryd.func4, Tryd.ntmps4
  go_upto_region 2 with fail
  rw [← HU.out, ← H1.out, show b + 1 = pp by have := H1.out; have := H2.out; omega]
  go_wp2_with fail
  refine HFI.out.mono ?_
  rintro _ u1 ⟨rfl, hb1⟩
  have hr1 := below_keeps hb1 R1.out hl1
  have hr2 := below_keeps hb1 R2.out hl2
  have hb1w : Below w.heap.size w u1 := HB.out.trans (hb1.mono HB.out.size)
  have HPO := hid (pairOpen_any pp _ _ A B w u1 hb1w (by have := H2.out; omega) hr2 (HVA.out.below hb1) (HVB.out.below hb1) (HT.out.below hb1w HT.out.2))
  obtain ⟨x0, x1, -⟩ := dk_cells hr1
  have m1 := (Array.getElem?_eq_some_iff.1 hr1).1
  have HSA1 := hid (HVA.out.below hb1)
  have HSB1 := hid (HVB.out.below hb1)
  have HRP1 : Hid (u1.heap[pp]? = some (.cells #[.pointer none, .pointer none] 40 (0, 0))) := hr2
  have HRB1 := hid hr1
  have HB1w := hid hb1w
  clear hb1 hr1 hr2 hb1w HFI HVA HVB R1 R2
  go_wp2_with fail
  refine HPO.out.mono ?_
  rintro _ u2 ⟨rfl, hk2, hpo⟩
  have HB2w : Hid (Below w.heap.size w u2) := hk2.below HB1w.out HB1w.out.size (fun k hk e => by unfold At1 at e; have := H2.out; omega)
  rcases hpo with ⟨hE, hrp⟩ | ⟨hE, p, m, S, Bd, hrp, hJ, hSB, hRf, hBd⟩
  · as_aux_lemma =>
      obtain ⟨q0, q1, -⟩ := pr_cells hrp
      have hlp := (Array.getElem?_eq_some_iff.1 hrp).1
      clear hk2 hrp
      go_wp2_with fail
      go_ret
      exact ⟨rfl, HB2w.out⟩
  · as_aux_lemma =>
      obtain ⟨q0, q1, -⟩ := pr_cells hrp
      have hlp := (Array.getElem?_eq_some_iff.1 hrp).1
      obtain ⟨hOk, ha, hbq, hws⟩ := opn_facts HYA.out HYB.out hE
      have HSA2 := hid (HSA1.out.passN HRP1.out (pr_int _ _) hk2)
      have HSB2 := hid (HSB1.out.passN HRP1.out (pr_int _ _) hk2)
      have hrb2 := (hk2.block b m1 hbpp).trans HRB1.out
      generalize opnL A B = l at *
      obtain ⟨ds, hds⟩ : ∃ ds, ds = dirt l.ws := ⟨_, rfl⟩
      obtain ⟨ls, hls⟩ : ∃ ls, ls = l.size := ⟨_, rfl⟩
      have hdb : ds ≤ 1048576 := by have h1 := hOk.ws.le; rw [hds]; omega
      obtain ⟨D, hD⟩ : ∃ D, D = crash (l.a, l.b) ds l.ws := ⟨_, rfl⟩
      have hby := crash_bytes l.ws (l.a, l.b) ds hOk.ba hOk.bb hOk.ws.bytes
      rw [← hD] at hby
      have HBY := hid hby
      have HSK : Hid (∀ W, Below u2.heap.size u2 W → W.cell? ⟨pp, 0, none⟩ = some (.pointer (some ⟨p, 0, none⟩)) ∧ W.cell? ⟨pp, 1, none⟩ = some (.pointer (some ⟨m, 0, none⟩)) ∧ W.cell? ⟨b, 0, none⟩ = some (.slice a1 n1 c1) ∧ W.cell? ⟨b, 1, none⟩ = some (.slice a2 n2 c2)) := fun W hW => by
        obtain ⟨t0, t1, -⟩ := pr_cells (below_keeps hW hrp hlp)
        obtain ⟨t2, t3, -⟩ := dk_cells (below_keeps hW hrb2 (Array.getElem?_eq_some_iff.1 hrb2).1)
        exact ⟨t0, t1, t2, t3⟩
      have HDM := hid (dirtyR_any Bd m l u2 hRf (by omega))
      rw [← hds] at HDM
      have HZL : Hid (∀ W, Below u2.heap.size u2 W → Calls Tryd.prog 16 #[.pointer (some ⟨p, 0, none⟩)] W fun e w' => e = .returned (.int .i64 (ls : Int)) ∧ w' = W) := fun W hW => by rw [hls]; exact size_any _ p l W (hJ.below hW).log
      have HZM : Hid (∀ W, Below u2.heap.size u2 W → Calls Tryd.prog 17 #[.pointer (some ⟨m, 0, none⟩)] W fun e w' => e = .returned (.int .i64 (ls : Int)) ∧ w' = W) := fun W hW => by rw [hls]; exact sizeR_any Bd m l W (hRf.below hW)
      have HDL : Hid (∀ W, Below u2.heap.size u2 W → Calls Tryd.prog 18 #[.pointer (some ⟨p, 0, none⟩)] W fun e w' => e = .returned (.int .i64 (ds : Int)) ∧ w' = W) := fun W hW => by rw [hds]; exact dirty_any _ p l W (hJ.below hW).log
      have HC0 : Hid (∀ W, Below u2.heap.size u2 W → Calls Tryd.prog 20 #[.pointer (some ⟨p, 0, none⟩), .int .i64 0] W fun e w' => ∃ ga na ca gb nb cb, e = .returned (.agg #[.slice (some ⟨ga, 0, none⟩) na ca, .slice (some ⟨gb, 0, none⟩) nb cb]) ∧ SeesB w' (.slice (some ⟨ga, 0, none⟩) na ca) A ∧ SeesB w' (.slice (some ⟨gb, 0, none⟩) nb cb) B ∧ Below u2.heap.size u2 w') := fun W hW => by
        refine (crash_any _ p l 0 W (hJ.below hW).log hOk (by omega) (by decide)).mono ?_
        rintro e w' ⟨ga, na, ca, gb, nb, cb, rfl, hd⟩
        rw [show (0 : Int).toNat = 0 from rfl, crash_zero, ha, hbq] at hd
        exact ⟨ga, na, ca, gb, nb, cb, rfl, hd.a.sees HYA.out, hd.b.sees HYB.out, hW.trans (hd.be.mono hW.size)⟩
      have HCN : Hid (∀ W, Below u2.heap.size u2 W → Calls Tryd.prog 20 #[.pointer (some ⟨p, 0, none⟩), .int .i64 (ds : Int)] W fun e w' => ∃ ga na ca gb nb cb, e = .returned (.agg #[.slice (some ⟨ga, 0, none⟩) na ca, .slice (some ⟨gb, 0, none⟩) nb cb]) ∧ SeesB w' (.slice (some ⟨ga, 0, none⟩) na ca) D.1 ∧ SeesB w' (.slice (some ⟨gb, 0, none⟩) nb cb) D.2 ∧ Below u2.heap.size u2 w') := fun W hW => by
        refine (crash_any _ p l (ds : Int) W (hJ.below hW).log hOk (by omega) (by omega)).mono ?_
        rintro e w' ⟨ga, na, ca, gb, nb, cb, rfl, hd⟩
        rw [Int.toNat_natCast, ← hD] at hd
        exact ⟨ga, na, ca, gb, nb, cb, rfl, hd.a.sees HBY.out.1, hd.b.sees HBY.out.2, hW.trans (hd.be.mono hW.size)⟩
      have HCM : Hid (∀ W, Below u2.heap.size u2 W → Calls Tryd.prog 21 #[.pointer (some ⟨m, 0, none⟩), .int .i64 (ds : Int)] W fun e w' => ∃ a n c a' n' c', e = .returned (.agg #[.slice a n c, .slice a' n' c']) ∧ SeesB w' (.slice a n c) D.1 ∧ SeesB w' (.slice a' n' c') D.2 ∧ Below W.heap.size W w' ∧ Below u2.heap.size u2 w') := fun W hW => by
        refine (crashR_any Bd m l (ds : Int) W (hRf.below hW) hOk (by omega)).mono ?_
        rintro e w' ⟨xa, xb, rfl, ⟨a, n, c, rfl⟩, ⟨a', n', c', rfl⟩, o1, o2, hb⟩
        rw [Int.toNat_natCast, ← hD] at o1 o2
        exact ⟨a, n, c, a', n', c', rfl, o1.sees HBY.out.1, o2.sees HBY.out.2, hb, hW.trans (hb.mono hW.size)⟩
      have hbd : Below u2.heap.size u2 u2.drew := below_drew (Below.refl _ _)
      clear hk2 hrp hJ hSB hRf hBd hOk ha hbq hws hrb2 hds hls hD hby
      go_wp2_with fail
      refine HDM.out.mono ?_
      rintro _ ux ⟨rfl, rfl⟩
      go_upto_region 7 with fail
      go_region_held (fun W => W.cell? ⟨pp, 0, none⟩ = some (.pointer (some ⟨p, 0, none⟩)) ∧ W.cell? ⟨pp, 1, none⟩ = some (.pointer (some ⟨m, 0, none⟩)) ∧ W.cell? ⟨b, 0, none⟩ = some (.slice a1 n1 c1) ∧ W.cell? ⟨b, 1, none⟩ = some (.slice a2 n2 c2)) (exact HSK.out _ (by assumption))
        (first
          | (go_at_call 16; refine (HZL.out _ (by assumption)).mono ?_; rintro _ _ ⟨rfl, rfl⟩)
          | (go_at_call 17; refine (HZM.out _ (by assumption)).mono ?_; rintro _ _ ⟨rfl, rfl⟩)
          | (go_at_call 18; refine (HDL.out _ (by assumption)).mono ?_; rintro _ _ ⟨rfl, rfl⟩)
          | (have HKK := HMARK; go_at_call 20; refine (HCN.out _ HBd1.out).mono ?_; rintro _ w5 ⟨ga, na, ca, gb, nb, cb, rfl, hs5, hs5', hb5⟩; have HSa := hid hs5; have HSb := hid hs5'; have HB5 := hid hb5; clear hs5 hs5')
          | (go_at_call 20; refine (HC0.out _ hbd).mono ?_; rintro _ w3 ⟨ga0, na0, ca0, gb0, nb0, cb0, rfl, hs3, hs3', hb3⟩; have HSa0 := hid hs3; have HSb0 := hid hs3'; have HB3 := hid hb3; clear hs3 hs3')
          | (go_at_call 21; refine (HCM.out _ HB5.out).mono ?_; rintro _ w6 ⟨xa, xn, xc, ya, yn, yc, rfl, hs6, hs6', hb6, hb26⟩; have HSx := hid hs6; have HSy := hid hs6'; have HSa6 := hid (HSa.out.below hb6); have HSb6 := hid (HSb.out.below hb6); have HB26 := hid hb26; clear hs6 hs6' hb6)
          | (have HKK := HSx; go_at_call 19; refine (disks_eq _ _ _ _ _ _ _ HSa6.out HSb6.out HSx.out HSy.out).mono ?_; rintro _ w7 ⟨rfl, hb7⟩; have hb27 := HB26.out.trans (hb7.mono HB26.out.size); have HB27 := hid hb27; clear hb7)
          | (go_at_call 19; refine (disks_eq _ _ _ _ _ _ _ HSa0.out HSb0.out (HSA2.out.below HB3.out) (HSB2.out.below HB3.out)).mono ?_; rintro _ w4 ⟨rfl, hb4⟩; have hb24 := HB3.out.trans (hb4.mono HB3.out.size); have HBd1 := hid hb24; have HMARK := hid (True.intro); clear hb4)
          | fail)
      all_goals (
        go_wp2_with fail
        go_ret
        exact ⟨rfl, HB2w.out.trans (HB27.out.mono HB2w.out.size)⟩)
end Go.Proofs.YteoebmpfdcbbmabDoor

namespace Go.Proofs.YteoebmpfdcbbmabDoor
open Go.ChangeShapes Go.WideShapes Go.ChangeAt Go.RowKit Jn N
set_option maxRecDepth 100000

theorem own : ownKnob Tryd.prog.godebug = none := by kernel_rfl
theorem laidOut : laidOutB Tryd.prog = true := by kernel_rfl
theorem gN : Tryd.prog.globalNamed "weft/journal.nibbles" = some 0 := by kernel_rfl
theorem gNType : (Tryd.prog.globals[0]?).map (·.type) = some 114 := by kernel_rfl
theorem uN : Tryd.prog.underlying 114 = some (.array 16 63) := by kernel_rfl
theorem cellsN : Tryd.prog.cellsOf 114 = 16 := by kernel_rfl
theorem cells1N : Tryd.prog.cellsOf 63 = 1 := by kernel_rfl
theorem uU : Tryd.prog.underlying 63 = some (.int .u32) := by kernel_rfl
theorem uI : Tryd.prog.underlying 3 = some (.int .i64) := by kernel_rfl
theorem u5 : Tryd.prog.underlying 5 = some (.int .u8) := by kernel_rfl
theorem uB8 : Tryd.prog.underlying 24 = some (.slice 5) := by kernel_rfl
theorem cell1_5 : Tryd.prog.cellsOf 5 = 1 := by kernel_rfl
theorem bytes5 : Tryd.prog.bytesOf 5 = 1 := by kernel_rfl

theorem wf_u8 {a : Int} (h : (Lit.int .u8 a).wf = true) : ∃ n : Nat, a = (n : Int) ∧ n < 256 := by
  have h' : (decide (IntKind.u8.min ≤ a) && decide (a ≤ IntKind.u8.max)) = true := h
  rw [show IntKind.u8.min = 0 from by decide +kernel, show IntKind.u8.max = 255 from by decide +kernel] at h'
  simp at h'
  exact ⟨a.toNat, by omega, by omega⟩
theorem wf_u16 {a : Int} (h : (Lit.int .u16 a).wf = true) : ∃ n : Nat, a = (n : Int) ∧ n < 65536 := by
  have h' : (decide (IntKind.u16.min ≤ a) && decide (a ≤ IntKind.u16.max)) = true := h
  rw [show IntKind.u16.min = 0 from by decide +kernel, show IntKind.u16.max = 65535 from by decide +kernel] at h'
  simp at h'
  exact ⟨a.toNat, by omega, by omega⟩
theorem wf_u32 {a : Int} (h : (Lit.int .u32 a).wf = true) : ∃ n : Nat, a = (n : Int) ∧ n < 4294967296 := by
  have h' : (decide (IntKind.u32.min ≤ a) && decide (a ≤ IntKind.u32.max)) = true := h
  rw [show IntKind.u32.min = 0 from by decide +kernel, show IntKind.u32.max = 4294967295 from by decide +kernel] at h'
  simp at h'
  exact ⟨a.toNat, by omega, by omega⟩
theorem wf_i64 {a : Int} (h : (Lit.int .i64 a).wf = true) : -9223372036854775808 ≤ a ∧ a ≤ 9223372036854775807 := by
  have h' : (decide (IntKind.i64.min ≤ a) && decide (a ≤ IntKind.i64.max)) = true := h
  rw [show IntKind.i64.min = -9223372036854775808 from by decide +kernel, show IntKind.i64.max = 9223372036854775807 from by decide +kernel] at h'
  simpa using h'

theorem spot_none {W : World} {a : Addr} {v : Value} (z0 : W.cell? a = some v) : ∃ g off, a = ⟨g, off, none⟩ ∧ g < W.heap.size := by
  have hlt := World.block_lt_of_cell? W a z0
  obtain ⟨g, off, sp⟩ := a
  cases sp with
  | none => exact ⟨g, off, rfl, hlt⟩
  | some s =>
    exfalso
    simp only [World.cell?] at z0
    split at z0 <;> simp at z0

theorem bulk_one {H : Type} (d : DataW H) : 1 ≤ Rows.uptoBulk d := by
  cases d with
  | lit l => cases l <;> simp [Rows.uptoBulk]
  | nil => simp [Rows.uptoBulk]
  | ptr d => simp [Rows.uptoBulk]
  | slice elems spare => simp [Rows.uptoBulk]
  | agg parts => simp [Rows.uptoBulk]
  | iface t d => simp [Rows.uptoBulk]
  | map entries => simp [Rows.uptoBulk]
  | held h => simp [Rows.uptoBulk]

theorem bulk_part {H : Type} {d : DataW H} {l : List (DataW H)} (h : d ∈ l) : Rows.uptoBulk d ≤ Rows.uptoBulkAll l := by
  induction l with
  | nil => cases h
  | cons x r ih =>
    simp only [Rows.uptoBulkAll]
    rcases List.mem_cons.1 h with rfl | h
    · omega
    · have := ih h; omega

theorem bulk_len {H : Type} (l : List (DataW H)) : l.length ≤ Rows.uptoBulkAll l := by
  induction l with
  | nil => simp
  | cons x r ih => have := bulk_one x; simp only [Rows.uptoBulkAll, List.length_cons]; omega

theorem bulk_flat {H : Type} (D : Nat → DataW H) (F : Nat → List Nat) (l : List Nat) (h : ∀ i ∈ l, (F i).length ≤ Rows.uptoBulk (D i)) : (l.map F).flatten.length ≤ Rows.uptoBulkAll (l.map D) := by
  induction l with
  | nil => simp
  | cons x r ih =>
    have h1 := h x List.mem_cons_self
    have h2 := ih (fun i hi => h i (List.mem_cons_of_mem _ hi))
    simp only [List.map_cons, List.flatten_cons, List.length_append, Rows.uptoBulkAll]
    omega

theorem weights_all {H : Type} {P : Program} {e : TypeId} : ∀ {ds : List (DataW H)} {d : DataW H}, d ∈ ds → ∀ n ∈ d.weights P e, n ∈ DataW.weightsAll P e ds
  | a :: t, d, hd, n, hn => by
    simp only [DataW.weightsAll, List.mem_append]
    rcases List.mem_cons.1 hd with rfl | h
    · exact .inl hn
    · exact .inr (weights_all h n hn)

section
variable {H : Type} {enc : TypeId × Value → H} {W : World}

/-- How long a list is, against what was read of it. -/
structure Fits (x : DataW H) (t : TypeId) (n : Nat) : Prop where
  bulk : n ≤ Rows.uptoBulk x
  room : (∀ k ∈ x.weights Tryd.prog t, k ≤ reachBytes) → n ≤ reachBytes

/-- A list of bytes that came in, within another thing. -/
theorem open_bytes {fuel : Nat} {cs : List Value} {x : DataW H × List MemPlace} (hf : DataW.trod enc Tryd.prog W 0 (fun _ => true) true fuel 24 cs = some x) :
    ∃ v L, cs = [v] ∧ SeesB W v L ∧ Fits x.1 24 L.length ∧ v.oneCell' = true := by
  rcases Go.Deep.open_slice uB8 hf with ⟨h1, hx⟩ | ⟨a, len, cap, m, n, D, Pl, h1, _, hlc, hcm, hm, hxx, hx⟩
  · subst hx
    exact ⟨_, [], h1, sees_nil W, ⟨by simp, fun _ => by simp⟩, rfl⟩
  · simp at hm
    subst hm
    have key : ∀ i, i < len → ∃ y : Nat, y < 256 ∧ W.cell? (a.add i) = some (.int .u8 (y : Int)) := by
      intro i hi
      obtain ⟨cs', k1, k2⟩ := hx i (by omega)
      rw [cell1_5, Nat.mul_one] at k1
      obtain ⟨_, _, hc⟩ := World.cells?_some k1
      obtain ⟨z, e1, _, wf⟩ := DataW.trod_int u5 k2
      obtain ⟨y, rfl, hy⟩ := wf_u8 wf
      refine ⟨y, hy, ?_⟩
      have := hc 0 (by omega)
      rw [e1] at this
      simpa [Addr.add] using this
    have hch : ∃ F : Nat → Nat, ∀ i, i < len → F i < 256 ∧ W.cell? (a.add i) = some (.int .u8 ((F i : Nat) : Int)) := by
      refine ⟨fun i => if h : i < len then (key i h).choose else 0, fun i hi => ?_⟩
      simp only [dif_pos hi]
      exact (key i hi).choose_spec
    obtain ⟨F, hF⟩ := hch
    refine ⟨_, (List.range len).map F, h1, ⟨some a, m, by simp, ⟨by simpa using hlc, fun h => by cases h⟩, hcm, fun j hj => ?_⟩, ?_, rfl⟩
    · have hj' : j < len := by simpa using hj
      obtain ⟨g, off, rfl, hg⟩ : ∃ g off, a = ⟨g, off, none⟩ ∧ g < W.heap.size := by
        have z0 := (hF 0 (by omega)).2
        have e : a.add 0 = a := by simp [Addr.add]
        rw [e] at z0
        exact spot_none z0
      have y0 := (hF j hj').2
      rw [Addr.add_mid] at y0
      exact ⟨g, off, rfl, hg, by rw [y0]; simp, by simpa using (hF j hj').1⟩
    · subst hxx
      refine ⟨?_, fun hw => ?_⟩
      · simp only [List.length_map, List.length_range, Rows.uptoBulk]
        have := bulk_len ((List.range len).map D)
        simp only [List.length_map, List.length_range] at this
        omega
      · have := hw ((((List.range len).map D).length + ((List.range (m - len)).map fun j => D (len + j)).length) * Tryd.prog.bytesOf 5) (by simp [DataW.weights])
        rw [bytes5] at this
        simp only [List.length_map, List.length_range] at this ⊢
        omega

end

theorem tabN {W : World} (h : laidMet Tryd.prog [("weft/journal.nibbles", Rows.laid_weft_journal_nibbles)] W) : TabN W := by
  obtain ⟨ps, ⟨g, t, cs, fuel, p, q, hg, ht, hvar, hd, _, _⟩, _⟩ := h
  obtain rfl := Option.some.inj (gN.symm.trans hg)
  obtain rfl := Option.some.inj (gNType.symm.trans ht)
  obtain ⟨xs, m, _, hx, hl, hxl, hall⟩ := DataW.trod_array uN hd
  rw [cellsN] at hl
  rw [cells1N] at hall
  unfold Rows.laid_weft_journal_nibbles at hx
  match xs, hxl with
  | [(d0, q0), (d1, q1), (d2, q2), (d3, q3), (d4, q4), (d5, q5), (d6, q6), (d7, q7), (d8, q8), (d9, q9), (d10, q10), (d11, q11), (d12, q12), (d13, q13), (d14, q14), (d15, q15)], _ =>
    simp at hx
    obtain ⟨⟨rfl, rfl, rfl, rfl, rfl, rfl, rfl, rfl, rfl, rfl, rfl, rfl, rfl, rfl, rfl, rfl⟩, _⟩ := hx
    obtain ⟨z0, r0, e0, _⟩ := DataW.trod_int uU (hall 0 (by omega))
    obtain ⟨z1, r1, e1, _⟩ := DataW.trod_int uU (hall 1 (by omega))
    obtain ⟨z2, r2, e2, _⟩ := DataW.trod_int uU (hall 2 (by omega))
    obtain ⟨z3, r3, e3, _⟩ := DataW.trod_int uU (hall 3 (by omega))
    obtain ⟨z4, r4, e4, _⟩ := DataW.trod_int uU (hall 4 (by omega))
    obtain ⟨z5, r5, e5, _⟩ := DataW.trod_int uU (hall 5 (by omega))
    obtain ⟨z6, r6, e6, _⟩ := DataW.trod_int uU (hall 6 (by omega))
    obtain ⟨z7, r7, e7, _⟩ := DataW.trod_int uU (hall 7 (by omega))
    obtain ⟨z8, r8, e8, _⟩ := DataW.trod_int uU (hall 8 (by omega))
    obtain ⟨z9, r9, e9, _⟩ := DataW.trod_int uU (hall 9 (by omega))
    obtain ⟨z10, r10, e10, _⟩ := DataW.trod_int uU (hall 10 (by omega))
    obtain ⟨z11, r11, e11, _⟩ := DataW.trod_int uU (hall 11 (by omega))
    obtain ⟨z12, r12, e12, _⟩ := DataW.trod_int uU (hall 12 (by omega))
    obtain ⟨z13, r13, e13, _⟩ := DataW.trod_int uU (hall 13 (by omega))
    obtain ⟨z14, r14, e14, _⟩ := DataW.trod_int uU (hall 14 (by omega))
    obtain ⟨z15, r15, e15, _⟩ := DataW.trod_int uU (hall 15 (by omega))
    simp at e0 e1 e2 e3 e4 e5 e6 e7 e8 e9 e10 e11 e12 e13 e14 e15
    obtain ⟨rfl, -⟩ := e0
    obtain ⟨rfl, -⟩ := e1
    obtain ⟨rfl, -⟩ := e2
    obtain ⟨rfl, -⟩ := e3
    obtain ⟨rfl, -⟩ := e4
    obtain ⟨rfl, -⟩ := e5
    obtain ⟨rfl, -⟩ := e6
    obtain ⟨rfl, -⟩ := e7
    obtain ⟨rfl, -⟩ := e8
    obtain ⟨rfl, -⟩ := e9
    obtain ⟨rfl, -⟩ := e10
    obtain ⟨rfl, -⟩ := e11
    obtain ⟨rfl, -⟩ := e12
    obtain ⟨rfl, -⟩ := e13
    obtain ⟨rfl, -⟩ := e14
    obtain ⟨rfl, -⟩ := e15
    have hcs : cs.toList = (List.range 16).map fun j => Value.int .u32 ((tab j : Nat) : Int) := by
      match hc : cs.toList, hl with
      | [c0, c1, c2, c3, c4, c5, c6, c7, c8, c9, c10, c11, c12, c13, c14, c15], _ =>
        rw [hc] at r0 r1 r2 r3 r4 r5 r6 r7 r8 r9 r10 r11 r12 r13 r14 r15
        simp at r0 r1 r2 r3 r4 r5 r6 r7 r8 r9 r10 r11 r12 r13 r14 r15
        subst r0 r1 r2 r3 r4 r5 r6 r7 r8 r9 r10 r11 r12 r13 r14 r15
        rfl
    have hcell : ∀ j, j < 16 → W.cell? ⟨0, j, none⟩ = some (.int .u32 ((tab j : Nat) : Int)) := by
      intro j hj
      rw [World.var?_cell gN hvar j, ← Array.getElem?_toList, hcs, List.getElem?_map, List.getElem?_range hj]
      rfl
    exact ⟨hcell, World.block_lt_of_cell? W _ (hcell 0 (by omega))⟩

/-- The cells of a table of numbers. -/
def aggCells : DataW Unit → Array Value
  | .agg ds => (ds.map fun d => match d with | .lit (.int k z) => Value.int k z | _ => .bool false).toArray
  | _ => #[]
def put (d : DataW Unit) : Obj → Obj
  | .cells _ t frozen => .cells (aggCells d) t frozen
  | o => o
/-- A world for the witness: the settled one, the table holding what its initialiser lays. -/
noncomputable def laidWorld (os : Os) : World :=
  { World.holding Tryd.prog os ⟨#[], #[], []⟩ with heap := (World.holding Tryd.prog os ⟨#[], #[], []⟩).heap.modify 0 (put Rows.laid_weft_journal_nibbles) }
end Go.Proofs.YteoebmpfdcbbmabDoor

namespace Go.Proofs.YteoebmpfdcbbmabDoor
open Go.ChangeShapes Go.WideShapes Go.ChangeAt Go.RowKit Jn N
set_option maxRecDepth 100000

theorem cell1_B : Tryd.prog.cellsOf 24 = 1 := by kernel_rfl
section
variable {H : Type} {enc : TypeId × Value → H} {W : World}
theorem open_bss {fuel : Nat} {cs : List Value} {x : DataW H × List MemPlace} (hf : DataW.trod enc Tryd.prog W 0 (fun _ => true) true fuel 27 cs = some x) (hw : ∀ k ∈ x.1.weights Tryd.prog 27, k ≤ reachBytes) :
    ∃ v Ls, cs = [v] ∧ SeesBB W v Ls ∧ ∀ L ∈ Ls, L.length ≤ 140737488355328 := by
  rcases Go.Deep.open_slice1 uBB cell1_B hf with ⟨h1, hx⟩ | ⟨a, len, cap, m, n, V, D, Pl, h1, _, hlc, hcm, hm, hxx, hx⟩
  · exact ⟨_, [], h1, ⟨none, 0, rfl, by simp, by unfold maxLen; omega, fun j hj => absurd hj (by simp)⟩, fun L hL => by cases hL⟩
  · simp at hm
    subst hm
    subst hxx
    have key : ∀ i, i < len → ∃ L : List Nat, W.cell? (a.add i) = some (V i) ∧ SeesB W (V i) L ∧ L.length ≤ 140737488355328 := by
      intro i hi
      obtain ⟨k1, k2⟩ := hx i (by omega)
      obtain ⟨v, L, e, hs, hft, -⟩ := open_bytes k2
      simp at e
      subst e
      refine ⟨L, k1, hs, ?_⟩
      have := hft.room (fun k hk => hw k (by
        simp only [DataW.weights, uBB, List.mem_cons, List.mem_append]
        exact .inr (.inl (weights_all (d := D i) (List.mem_map.2 ⟨i, by simpa using hi, rfl⟩) k hk))))
      unfold reachBytes at this
      omega
    by_cases h0 : len = 0
    · subst h0
      exact ⟨_, [], h1, ⟨some a, m, rfl, by simp, hcm, fun j hj => absurd hj (by simp)⟩, fun L hL => by cases hL⟩
    obtain ⟨F, hF⟩ : ∃ F : Nat → List Nat, ∀ i, i < len → W.cell? (a.add i) = some (V i) ∧ SeesB W (V i) (F i) ∧ (F i).length ≤ 140737488355328 := by
      refine ⟨fun i => if h : i < len then (key i h).choose else [], fun i hi => ?_⟩
      simp only [dif_pos hi]
      exact (key i hi).choose_spec
    obtain ⟨g, off, rfl, hg⟩ : ∃ g off, a = ⟨g, off, none⟩ ∧ g < W.heap.size := by
      have z0 := (hF 0 (by omega)).1
      have e : a.add 0 = a := by simp [Addr.add]
      rw [e] at z0
      exact spot_none z0
    refine ⟨_, (List.range len).map F, h1, ⟨some ⟨g, off, none⟩, m, by simp, by simpa using hlc, hcm, fun j hj => ?_⟩, fun L hL => ?_⟩
    · have hj' : j < len := by simpa using hj
      obtain ⟨y0, y1, -⟩ := hF j hj'
      rw [Addr.add_mid] at y0
      exact ⟨g, off, _, rfl, hg, y0, by simpa using y1⟩
    · obtain ⟨i, hi, rfl⟩ := List.mem_map.1 hL
      exact (hF i (by simpa using hi)).2.2
end
end Go.Proofs.YteoebmpfdcbbmabDoor

namespace Go.Proofs.YteoebmpfdcbbmabDoor
open Go.ChangeShapes Go.WideShapes Go.ChangeAt Go.RowKit Jn N
set_option maxRecDepth 100000

theorem bytesB : Tryd.prog.bytesOf 24 = 24 := by kernel_rfl
section
variable {H : Type} {enc : TypeId × Value → H} {W : World}
theorem open_bssL {fuel : Nat} {cs : List Value} {x : DataW H × List MemPlace} (hf : DataW.trod enc Tryd.prog W 0 (fun _ => true) true fuel 27 cs = some x) (hw : ∀ k ∈ x.1.weights Tryd.prog 27, k ≤ reachBytes) :
    ∃ v Ls, cs = [v] ∧ SeesBB W v Ls ∧ (∀ L ∈ Ls, L.length ≤ 140737488355328) ∧ Ls.length ≤ 8796093022208 := by
  rcases Go.Deep.open_slice1 uBB cell1_B hf with ⟨h1, hx⟩ | ⟨a, len, cap, m, n, V, D, Pl, h1, _, hlc, hcm, hm, hxx, hx⟩
  · exact ⟨_, [], h1, ⟨none, 0, rfl, by simp, by unfold maxLen; omega, fun j hj => absurd hj (by simp)⟩, fun L hL => (by cases hL), by simp⟩
  · simp at hm
    subst hm
    subst hxx
    have key : ∀ i, i < len → ∃ L : List Nat, W.cell? (a.add i) = some (V i) ∧ SeesB W (V i) L ∧ L.length ≤ 140737488355328 := by
      intro i hi
      obtain ⟨k1, k2⟩ := hx i (by omega)
      obtain ⟨v, L, e, hs, hft, -⟩ := open_bytes k2
      simp at e
      subst e
      refine ⟨L, k1, hs, ?_⟩
      have := hft.room (fun k hk => hw k (by
        simp only [DataW.weights, uBB, List.mem_cons, List.mem_append]
        exact .inr (.inl (weights_all (d := D i) (List.mem_map.2 ⟨i, by simpa using hi, rfl⟩) k hk))))
      unfold reachBytes at this
      omega
    by_cases h0 : len = 0
    · subst h0
      exact ⟨_, [], h1, ⟨some a, m, rfl, by simp, hcm, fun j hj => absurd hj (by simp)⟩, fun L hL => (by cases hL), by simp⟩
    obtain ⟨F, hF⟩ : ∃ F : Nat → List Nat, ∀ i, i < len → W.cell? (a.add i) = some (V i) ∧ SeesB W (V i) (F i) ∧ (F i).length ≤ 140737488355328 := by
      refine ⟨fun i => if h : i < len then (key i h).choose else [], fun i hi => ?_⟩
      simp only [dif_pos hi]
      exact (key i hi).choose_spec
    obtain ⟨g, off, rfl, hg⟩ : ∃ g off, a = ⟨g, off, none⟩ ∧ g < W.heap.size := by
      have z0 := (hF 0 (by omega)).1
      have e : a.add 0 = a := by simp [Addr.add]
      rw [e] at z0
      exact spot_none z0
    refine ⟨_, (List.range len).map F, h1, ⟨some ⟨g, off, none⟩, m, by simp, by simpa using hlc, hcm, fun j hj => ?_⟩, fun L hL => ?_, ?_⟩
    · have hj' : j < len := by simpa using hj
      obtain ⟨y0, y1, -⟩ := hF j hj'
      rw [Addr.add_mid] at y0
      exact ⟨g, off, _, rfl, hg, y0, by simpa using y1⟩
    · obtain ⟨i, hi, rfl⟩ := List.mem_map.1 hL
      exact (hF i (by simpa using hi)).2.2
    · have := hw ((((List.range len).map D).length + ((List.range (m - len)).map fun j => D (len + j)).length) * Tryd.prog.bytesOf 24) (by simp [DataW.weights])
      rw [bytesB] at this
      simp only [List.length_map, List.length_range] at this ⊢
      unfold reachBytes at this
      omega
end
end Go.Proofs.YteoebmpfdcbbmabDoor

namespace Go.Proofs.YteoebmpfdcbbmabDoor
open Go.ChangeShapes Go.WideShapes Go.ChangeAt Go.RowKit Jn N
set_option maxHeartbeats 1000000
set_option maxRecDepth 100000

theorem cellsDk : Tryd.prog.cellsOf 26 = 2 := by kernel_rfl
theorem cellsB8 : Tryd.prog.cellsOf 24 = 1 := by kernel_rfl
section
variable {H : Type} {enc : TypeId × Value → H} {W : World}
theorem open_d {base : Nat} {v : Value} {d : DataW H} {ps : List MemPlace} (hval : Value.okWide Tryd.prog W .any base 26 v) (h : DataW.Trod enc Tryd.prog W 0 (fun _ => true) true 26 v d ps) (hw : ∀ x ∈ d.weights Tryd.prog 26, x ≤ reachBytes) :
    ∃ va vb A B, v = .agg #[va, vb] ∧ SeesB W va A ∧ SeesB W vb B ∧ A.length ≤ 140737488355328 ∧ B.length ≤ 140737488355328 := by
  obtain ⟨cs, rfl, _⟩ := okWide_struct Tryd.underlying26 hval
  obtain ⟨fuel, hf⟩ := h
  obtain ⟨xs, n, _, hx, hl, hxl, hff⟩ := DataW.trod_struct Tryd.underlying26 hf
  rw [cellsDk] at hl
  obtain ⟨cl⟩ := cs
  simp only [Value.cells] at hl hff
  match xs, hxl, cl, hl with
  | [y0, y1], _, [v0, v1], _ =>
    have g0 := hff 0 _ rfl
    have g1 := hff 1 _ rfl
    simp [cellsB8] at g0 g1
    obtain ⟨b0, L0, e0, hs0, hf0, _⟩ := open_bytes g0
    obtain ⟨b1, L1, e1, hs1, hf1, _⟩ := open_bytes g1
    simp only [Prod.mk.injEq] at hx
    obtain ⟨rfl, _⟩ := hx
    have h0 := hf0.room (fun k hk => hw k (by
      simp only [DataW.weights, Tryd.underlying26]
      exact DataW.weights_mem_each (j := 0) (t := 24) (d := y0.1) (by simp) rfl _ hk))
    have h1 := hf1.room (fun k hk => hw k (by
      simp only [DataW.weights, Tryd.underlying26]
      exact DataW.weights_mem_each (j := 1) (t := 24) (d := y1.1) (by simp) rfl _ hk))
    unfold reachBytes at h0 h1
    simp at e0 e1
    subst e0 e1
    exact ⟨_, _, L0, L1, rfl, hs0, hs1, by omega, by omega⟩
end
end Go.Proofs.YteoebmpfdcbbmabDoor

namespace Go.Proofs.YteoebmpfdcbbmabDoor.J.journalOpens
open Go.ChangeShapes Go.WideShapes Go.ChangeAt Go.RowKit Jn N Go.Proofs.YteoebmpfdcbbmabDoor

set_option maxRecDepth 100000 in
theorem contract (H : Type) (enc : TypeId × Value → H) (W : World) (base : Nat) (args : Array Value) (ds gs : List (DataW H)) (before : List MemPlace)
    (hval : ∀ (j : Nat) t v, Tryd.f4.params[j]? = some t → args[j]? = some v → Value.okWide Tryd.prog W .any base t v)
    (hW : DataW.Whole enc Tryd.prog Tryd.f4.params.toList Rows.journalOpensSpec.vars false W args.toList ds gs before) (hsz0 : (DataW.weightsEach Tryd.prog (Tryd.f4.params.toList ++ (OpenSpec.ofChange Rows.journalOpensSpec).bare.plain.varTypes Tryd.prog) (ds ++ gs)).all (· ≤ reachBytes) = true) (hL : laidMetH Tryd.prog Rows.journalOpensRow.laid W) :
    Calls Tryd.prog 4 args W fun e W' => ∃ v, e = .returned v ∧ Rows.journalOpensSpec.post enc Tryd.prog Tryd.f4 false true false false W args v W' := by
  have hsz : (DataW.weightsEach Tryd.prog (Tryd.f4.params.toList ++ Rows.journalOpensSpec.plain.varTypes Tryd.prog) (ds ++ gs)).all (· ≤ reachBytes) = true := hsz0
  have htN := tabN hL
  have hW' := hW
  obtain ⟨p, q, hA0, hV, rfl, hfz, hnd⟩ := hW
  have hA : DataW.TrodAll enc Tryd.prog W 0 (fun _ => true) true Tryd.f4.params.toList args.toList ds p := hA0
  rw [Tryd.params4] at hA hval hsz
  obtain ⟨v0, vs0, d0, ds0, p0, q0, hargs, rfl, rfl, h0, r0⟩ := trodAll_cons hA
  obtain ⟨rfl, rfl, rfl⟩ := trodAll_nil r0
  obtain rfl : args = #[v0] := by cases args; simp_all
  obtain ⟨rfl, rfl⟩ := trodVars_none hV
  clear hA0
  simp only [List.append_nil] at hW'
  have hw0 : ∀ x ∈ d0.weights Tryd.prog 26, x ≤ reachBytes := fun x hx => by
    have := List.all_eq_true.1 hsz x (DataW.weights_mem_each (j := 0) (t := 26) (d := d0) rfl rfl x hx)
    simpa using this
  obtain ⟨va0, vb0, A0, B0, rfl, hA0, hB0, lA0, lB0⟩ := open_d (hval 0 26 v0 rfl rfl) h0 hw0
  have hlt : ∀ x, x ∈ p0 → x.block < W.heap.size := fun x hx => hW'.lt x (by simpa using hx)
  refine (opens_any va0 vb0 A0 B0 W hA0 hB0 htN).mono fun e W' ⟨he, hg⟩ => ?_
  subst he
  exact ⟨_, rfl, _, _, _, [], p0 ++ [], [], hW', trodAll_cons_mk (shut_bool Tryd.underlying4 _) trodAll_mk0,
    trodAll_cons_mk (Below.trod laidOut (by kernel_rfl) (of_decide_eq_true (by kernel_rfl)) h0 hg (fun x hx => hlt x (hx))) trodAll_mk0, rfl, hg.frame _, fun h => by cases h⟩

theorem laid_met (os : Os) : laidMet Tryd.prog Rows.journalOpensRow.laid ((laidWorld os).forCall (fun _ _ => 0) ⟨#[], #[.agg #[.slice none 0 0, .slice none 0 0]], []⟩).memory :=
  laidMet_of_run' 8 (by kernel_rfl) (by kernel_rfl)
theorem reads (os : Os) {H : Type} (enc : TypeId × Value → H) : ∃ places, DataW.whole enc Tryd.prog ((laidWorld os).forCall (fun _ _ => 0) ⟨#[], #[.agg #[.slice none 0 0, .slice none 0 0]], []⟩).memory Tryd.f4.params.toList Rows.journalOpensSpec.vars false (#[.agg #[.slice none 0 0, .slice none 0 0]] : Array Value).toList 8 = some ([.agg [.nil, .nil]], [], places) :=
  ⟨[], by kernel_rfl⟩

set_option maxRecDepth 100000 in
theorem lifted (os : Os) (started : os.Started) (H : Type) (enc : TypeId × Value → H) (F : Stop.Interp) :
    ReturnsInHanded {} Tryd.checked os 4 .any ((OpenSpec.ofChange Rows.journalOpensSpec).preRow enc Tryd.prog Tryd.f4 Rows.journalOpensRow.domain false Rows.journalOpensRow.laid) (((OpenSpec.ofChange Rows.journalOpensSpec).at F).post enc Tryd.prog Tryd.f4 false true false false) := by
  obtain ⟨places, hx⟩ := reads os enc
  refine returnsInHanded_of_row (C := Tryd.checked) (s := OpenSpec.ofChange Rows.journalOpensSpec) own started (by kernel_rfl) Tryd.func4
    (witness_row_at (enc := enc) (C := Tryd.checked) false (laidWorld os) #[.agg #[.slice none 0 0, .slice none 0 0]] rfl (by kernel_rfl) (by kernel_rfl) (by kernel_rfl)
      (OpenSpec.preRow_of_cond 8 hx (by kernel_rfl) (fun k hk => by cases hk) (by kernel_rfl) (laid_met os))) ?_
  intro W base args ds gs before hval hW _ _ hsz hL _ _
  exact contract H enc W base args ds gs before hval hW hsz hL

theorem said : Rows.JournalOpensSaid :=
  OpenClaim.holds_of_cond 4 Tryd.f4 rfl rfl rfl rfl rfl rfl rfl ⟨rfl, rfl, rfl, rfl, rfl⟩ rfl rfl rfl rfl rfl (by kernel_rfl) Tryd.func4 (by kernel_rfl)
    (of_decide_eq_true (by kernel_rfl)) (by unfold Func.isWrapper; first | (rw [if_pos (by decide +kernel)]; kernel_rfl) | (rw [if_neg (by decide +kernel)]; exact ⟨rfl, rfl⟩))
    (fun os started H enc _ F => by rw [OpenClaim.pre_eq_preRow]; exact lifted os started H enc F)

/-- No parameter wants a stand-in; the program has looks of its own. -/
theorem plain (f : FuncId) (fn : Func) (hf : Tryd.pinned.checked.prog.funcNamed "weft/weftlaw12.JournalOpens" = some f) (hfn : Tryd.pinned.checked.prog.funcs[f]? = some fn) :
    false = Tryd.pinned.checked.prog.looks [] ∧ ∀ (j : Nat) t, fn.params[j]? = some t → Tryd.pinned.checked.prog.wantsStandIn t = false := by
  obtain rfl : f = 4 := Option.some.inj ((show Tryd.prog.funcNamed "weft/weftlaw12.JournalOpens" = some 4 by kernel_rfl).symm.trans hf) |>.symm
  obtain rfl : fn = Tryd.f4 := (Option.some.inj (Tryd.func4.symm.trans hfn)).symm
  refine ⟨by kernel_rfl, fun j t ht => ?_⟩
  rw [Tryd.params4] at ht
  have h : t = 26 := by
    rcases j with _ | j <;> simp at ht <;> simp [← ht]
  rcases h with rfl
  exact (show Tryd.prog.wantsStandIn 26 = false by kernel_rfl)

theorem card : Rows.JournalOpensCardSaid :=
  Claim7.holds_tied_plain_at .later [] _ _ _ _ said (fun _ h => by cases h) (by kernel_rfl) (fun _ h => by cases h) journalOpens_row_tie rfl ⟨rfl, rfl⟩ (by kernel_rfl) rfl plain (by kernel_rfl)
end Go.Proofs.YteoebmpfdcbbmabDoor.J.journalOpens
namespace Go.Proofs.YteoebmpfdcbbmabDoor
theorem journalOpens_holds : Rows.JournalOpensCardSaid := J.journalOpens.card
#print axioms journalOpens_holds
end Go.Proofs.YteoebmpfdcbbmabDoor
