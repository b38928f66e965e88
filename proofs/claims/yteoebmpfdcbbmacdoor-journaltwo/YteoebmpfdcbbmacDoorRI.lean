/-
  The reference's log in memory; Size, Dirty, copied.
-/
import Derived.Test.YteoebmpfdcbbmacDoorRG
namespace Go.Proofs.YteoebmpfdcbbmacDoor
open Go.ChangeShapes Go.WideShapes Go.ChangeAt Go.RowKit Jn N
set_option maxHeartbeats 4000000
set_option maxRecDepth 100000

def rfRow (va vb vw : Value) (c g fr fin : Nat) : Obj := .cells #[va, vb, vw, .int .i64 (c : Int), .int .i64 (g : Int), .int .i64 (fr : Int), .int .i64 (fin : Int)] 86 (0, 0)
/-- The reference's log that holds l, all of it not below B. -/
structure RfX (B : Nat) (u : World) (p : Nat) (l : Lg) (C : Nat → Prop) (va vb vw : Value) (X : List Wv) : Prop where
  row : u.heap[p]? = some (rfRow va vb vw l.cur l.gen l.fr l.size)
  lp : B ≤ p
  a : Frz u C va l.a
  b : Frz u C vb l.b
  w : u.ownsRow B 89 3 vw X.length (X.flatMap wc)
  wr : X.map Wv.wr = l.ws
  by_ : ∀ x ∈ X, Frz u C x.v x.bs
  ap : ∀ k, C k → k < u.heap.size ∧ k ≠ p ∧ vw.ownBlock ≠ some k ∧ B ≤ k
def RefAt (B : Nat) (u : World) (p : Nat) (l : Lg) : Prop := ∃ C va vb vw X, RfX B u p l C va vb vw X
theorem RfX.keeps {T : Nat → Prop} {B : Nat} {u u' : World} {p : Nat} {l : Lg} {C : Nat → Prop} {va vb vw : Value} {X : List Wv} (h : RfX B u p l C va vb vw X) (hk : Keeps T u u') (hT : ∀ k, T k → k ≠ p ∧ ¬ C k ∧ vw.ownBlock ≠ some k) : RfX B u' p l C va vb vw X := by
  have hC : ∀ k, C k → ¬ T k := fun k hc ht => (hT k ht).2.1 hc
  exact ⟨(hk.block p (Array.getElem?_eq_some_iff.1 h.row).1 (fun e => (hT p e).1 rfl)).trans h.row, h.lp, h.a.keeps hk hC, h.b.keeps hk hC, row_keeps h.w hk (fun j hj e => (hT j e).2.2 hj), h.wr, fun x hx => (h.by_ x hx).keeps hk hC, fun k hc => ⟨Nat.lt_of_lt_of_le (h.ap k hc).1 hk.size, (h.ap k hc).2⟩⟩
theorem RfX.below {B : Nat} {u u' : World} {p : Nat} {l : Lg} {C : Nat → Prop} {va vb vw : Value} {X : List Wv} (h : RfX B u p l C va vb vw X) (hb : Below u.heap.size u u') : RfX B u' p l C va vb vw X := h.keeps (T := fun _ => False) (Keeps.of hb) (fun _ e => e.elim)
theorem RefAt.below {B : Nat} {u u' : World} {p : Nat} {l : Lg} (h : RefAt B u p l) (hb : Below u.heap.size u u') : RefAt B u' p l := by
  obtain ⟨C, va, vb, vw, X, h⟩ := h
  exact ⟨C, va, vb, vw, X, h.below hb⟩
theorem rf_cells {u : World} {p c g fr fin : Nat} {va vb vw : Value} (h : u.heap[p]? = some (rfRow va vb vw c g fr fin)) : u.cell? ⟨p, 0, none⟩ = some va ∧ u.cell? ⟨p, 1, none⟩ = some vb ∧ u.cell? ⟨p, 2, none⟩ = some vw ∧ u.cell? ⟨p, 3, none⟩ = some (.int .i64 (c : Int)) ∧ u.cell? ⟨p, 4, none⟩ = some (.int .i64 (g : Int)) ∧ u.cell? ⟨p, 5, none⟩ = some (.int .i64 (fr : Int)) ∧ u.cell? ⟨p, 6, none⟩ = some (.int .i64 (fin : Int)) ∧ ∀ i, u.frozen? ⟨p, i, none⟩ = false := by
  unfold rfRow at h
  exact ⟨by rw [cell_of_row _ _ _ _ _ _ h]; rfl, by rw [cell_of_row _ _ _ _ _ _ h]; rfl, by rw [cell_of_row _ _ _ _ _ _ h]; rfl, by rw [cell_of_row _ _ _ _ _ _ h]; rfl, by rw [cell_of_row _ _ _ _ _ _ h]; rfl, by rw [cell_of_row _ _ _ _ _ _ h]; rfl, by rw [cell_of_row _ _ _ _ _ _ h]; rfl, fun i => frozen_of_row _ _ _ _ _ h⟩
/-- A write, read. -/
theorem RfX.at {B : Nat} {u : World} {p : Nat} {l : Lg} {C : Nat → Prop} {va vb : Value} {a : Option Addr} {n c : Nat} {X : List Wv} (h : RfX B u p l C va vb (.slice a n c) X) {i : Nat} (hi : i < n) : ∃ g x, a = some ⟨g, 0, none⟩ ∧ g < u.heap.size ∧ X[i]? = some x ∧ l.ws[i]? = some x.wr ∧ Frz u C x.v x.bs ∧ u.cell? ⟨g, i * 3, none⟩ = some (.int .i64 (x.ar : Int)) ∧ u.cell? ⟨g, i * 3 + 1, none⟩ = some (.int .i64 (x.pl : Int)) ∧ u.cell? ⟨g, i * 3 + 2, none⟩ = some x.v := by
  obtain ⟨a', c', e, -, -⟩ := row_shape h.w
  simp at e
  obtain ⟨rfl, rfl, rfl⟩ := e
  have hx : X[i]? = some X[i] := List.getElem?_eq_getElem hi
  obtain ⟨q0, q1, q2⟩ := flat3 X i _ hx
  obtain ⟨g, rfl, -, hg, -, r0⟩ := row_cell h.w q0
  obtain ⟨g1, e1, -, -, -, r1⟩ := row_cell h.w q1
  obtain ⟨g2, e2, -, -, -, r2⟩ := row_cell h.w q2
  simp at e1 e2
  subst e1 e2
  exact ⟨g, _, rfl, hg, hx, by rw [← h.wr, List.getElem?_map, hx]; rfl, h.by_ _ (List.mem_of_getElem? hx), r0, r1, r2⟩

theorem sizeR_any (B : Nat) (p : Nat) (l : Lg) (u : World) (h : RefAt B u p l) :
    Calls Tryd.prog 57 #[.pointer (some ⟨p, 0, none⟩)] u fun e w' => e = .returned (.int .i64 (l.size : Int)) ∧ w' = u := by
  obtain ⟨C, va, vb, vw, X, h⟩ := h
  obtain ⟨-, -, -, -, -, -, c6, -⟩ := rf_cells h.row
  have hp := (Array.getElem?_eq_some_iff.1 h.row).1
  clear h
  go_enter Tryd.func57, Tryd.ntmps57
  go_wp2_with fail
  go_ret
  exact ⟨rfl, rfl⟩
theorem dirt_take (ws : List Wr) (k : Nat) : dirt (ws.take k) ≤ dirt ws := by
  conv => rhs; rw [← List.take_append_drop k ws, dirt_append]
  omega
theorem dirtyR_any (B : Nat) (p : Nat) (l : Lg) (u : World) (h : RefAt B u p l) (hd : dirt l.ws ≤ 4611686018427387904) :
    Calls Tryd.prog 56 #[.pointer (some ⟨p, 0, none⟩)] u fun e w' => e = .returned (.int .i64 ((dirt l.ws : Nat) : Int)) ∧ w' = u := by
  obtain ⟨C, va, vb, vw, X, h⟩ := h
  obtain ⟨-, -, c2, -, -, -, -, -⟩ := rf_cells h.row
  have hp := (Array.getElem?_eq_some_iff.1 h.row).1
  obtain ⟨aw, cw, hvw, hcw1, hcw2⟩ := row_shape h.w
  obtain ⟨n, hn⟩ : ∃ n, n = X.length := ⟨_, rfl⟩
  rw [← hn] at hvw hcw1
  subst hvw
  have HX := hid h
  have HNW : Hid (n = l.ws.length) := by unfold Hid; rw [← h.wr, List.length_map, hn]
  have HD := hid hd
  clear h hn hd
  go_enter Tryd.func56, Tryd.ntmps56
  go_wp2_with fail
  go_loop [3, 4] (fun t i => ∃ (k s : Nat), i = .int .i64 (k : Int) ∧ k ≤ n ∧ t = .int .i64 (s : Int) ∧ Hid (s = dirt (l.ws.take k))) (fun _ i => n - (intOf i).toNat)
  case atStart => exact ⟨0, 0, rfl, Nat.zero_le _, rfl, by unfold Hid; simp [dirt]⟩
  case round =>
    obtain ⟨k, s, rfl, hk, rfl, HS⟩ := hrel
    have hs : s ≤ 4611686018427387904 := by rw [HS.out]; exact Nat.le_trans (dirt_take _ _) HD.out
    by_cases hlt : k < n
    · obtain ⟨g, x, rfl, hg, hx, hw, hf, q0, q1, q2⟩ := HX.out.at hlt
      obtain ⟨ax, nx, cx, hxv, HNX, hx1, hx2⟩ := hf.1.shape
      have HS2 : Hid (s + nx = dirt (l.ws.take (k + 1))) := by
        unfold Hid
        rw [take_snoc hw, dirt_append, ← HS.out, HNX.out]
        simp [dirt, Wv.wr]
      have hs2 : s + nx ≤ 4611686018427387904 := by rw [HS2.out]; exact Nat.le_trans (dirt_take _ _) HD.out
      rw [hxv] at q2
      clear hx hw hf hxv HNX q0 q1
      go_wp2_with fail
      go_round
      case rel => exact ⟨k + 1, s + nx, by go_num, by omega, by go_num, HS2⟩
      case measure => simp [intOf]; omega
    · have HE : Hid (s = dirt l.ws) := by
        have := HS.out
        rw [List.take_of_length_le (by have := HNW.out; omega)] at this
        exact this
      go_wp2_with fail
      go_ret
      exact ⟨ret_int (by rw [HE.out]), rfl⟩

/-- A disk of its own. -/
theorem copiedR_any (va vb : Value) (A B : List Nat) (w : World) (hA : SeesB w va A) (hB : SeesB w vb B) (lA : A.length ≤ 140737488355328) (lB : B.length ≤ 140737488355328) :
    Calls Tryd.prog 42 #[.agg #[va, vb]] w fun e w' => ∃ xa xb, e = .returned (.agg #[xa, xb]) ∧ (∃ a n c, xa = .slice a n c) ∧ (∃ a n c, xb = .slice a n c) ∧ OwnB w' w.heap.size xa A ∧ OwnB w' w.heap.size xb B ∧ Below w.heap.size w w' := by
  obtain ⟨aa, na, ca, rfl, HNA, -, -⟩ := hA.shape
  obtain ⟨ab, nb, cb, rfl, HNB, -, -⟩ := hB.shape
  obtain ⟨u, hu⟩ : ∃ u, u = (w.alloc (.cells #[.slice aa na ca, .slice ab nb cb] 24)).alloc (.cells #[.slice none 0 0, .slice none 0 0] 24) := ⟨_, rfl⟩
  have s1 : (w.alloc (.cells #[.slice aa na ca, .slice ab nb cb] 24)).heap.size = w.heap.size + 1 := World.size_alloc _ _
  have hb1 : Below w.heap.size w (w.alloc (.cells #[.slice aa na ca, .slice ab nb cb] 24)) := (Below.refl _ _).alloc (Nat.le_refl _) _
  have hb2 : Below (w.alloc (.cells #[.slice aa na ca, .slice ab nb cb] 24)).heap.size (w.alloc (.cells #[.slice aa na ca, .slice ab nb cb] 24)) u := by rw [hu]; exact (Below.refl _ _).alloc (Nat.le_refl _) _
  have hb : Below w.heap.size w u := hb1.trans (hb2.mono hb1.size)
  have r1 : u.heap[w.heap.size]? = some (.cells #[.slice aa na ca, .slice ab nb cb] 24 (0, 0)) := (hb2.block _ (by omega)).trans (heap_alloc_new w _)
  have r2 : u.heap[w.heap.size + 1]? = some (.cells #[.slice none 0 0, .slice none 0 0] 24 (0, 0)) := by rw [hu, ← s1]; exact heap_alloc_new _ _
  have HU := hid hu
  have HB := hid hb
  have HR2 : Hid (∀ w9, Below u.heap.size u w9 → w9.heap[w.heap.size + 1]? = some (.cells #[.slice none 0 0, .slice none 0 0] 24 (0, 0))) := fun w9 h9 => (h9.block _ (Array.getElem?_eq_some_iff.1 r2).1).trans r2
  have HR1 : Hid (∀ w9, Below u.heap.size u w9 → w9.heap[w.heap.size]? = some (.cells #[.slice aa na ca, .slice ab nb cb] 24 (0, 0))) := fun w9 h9 => (h9.block _ (Array.getElem?_eq_some_iff.1 r1).1).trans r1
  have y0 : u.cell? ⟨w.heap.size, 0, none⟩ = some (.slice aa na ca) := by rw [cell_of_row _ _ _ _ _ _ r1]; rfl
  have y1 : u.cell? ⟨w.heap.size, 1, none⟩ = some (.slice ab nb cb) := by rw [cell_of_row _ _ _ _ _ _ r1]; rfl
  have hl1 := (Array.getElem?_eq_some_iff.1 r1).1
  have HJA : Hid (∀ u', Below u.heap.size u u' → Calls Tryd.prog 58 #[.slice none 0 0, .slice aa na ca] u' fun e w' => ∃ a m c, e = .returned (.slice a m c) ∧ OwnB w' u'.heap.size (.slice a m c) A ∧ Below u'.heap.size u' w') := fun u' h' => (join_s _ _ [] A u' (sees_nil _) ((hA.below hb).below h') (by simpa using lA)).mono fun _ _ ⟨a, m, c, h1, _, h2, h3⟩ => ⟨a, m, c, h1, h2, h3⟩
  have HJB : Hid (∀ u', Below u.heap.size u u' → Calls Tryd.prog 58 #[.slice none 0 0, .slice ab nb cb] u' fun e w' => ∃ a m c, e = .returned (.slice a m c) ∧ OwnB w' u'.heap.size (.slice a m c) B ∧ Below u'.heap.size u' w') := fun u' h' => (join_s _ _ [] B u' (sees_nil _) ((hB.below hb).below h') (by simpa using lB)).mono fun _ _ ⟨a, m, c, h1, _, h2, h3⟩ => ⟨a, m, c, h1, h2, h3⟩
  have HD : Hid (Below u.heap.size u u.drew) := below_drew (Below.refl _ _)
  obtain ⟨b, hbb⟩ : ∃ b, b = w.heap.size := ⟨_, rfl⟩
  obtain ⟨rb, hrb⟩ : ∃ rb, rb = w.heap.size + 1 := ⟨_, rfl⟩
  have HBB := hid hbb
  have HRB := hid hrb
  have HFIN : Hid (∀ (W : World) (xa xb : Value), Below u.heap.size u W → OwnB W u.heap.size xa A → OwnB W u.heap.size xb B → OwnB ((W.setCell ⟨rb, 0, none⟩ xa).setCell ⟨rb, 1, none⟩ xb) w.heap.size xa A ∧ OwnB ((W.setCell ⟨rb, 0, none⟩ xa).setCell ⟨rb, 1, none⟩ xb) w.heap.size xb B ∧ Below w.heap.size w ((W.setCell ⟨rb, 0, none⟩ xa).setCell ⟨rb, 1, none⟩ xb)) := fun W xa xb h1 h2 h3 => by
    have hk : Keeps (At1 rb) W ((W.setCell ⟨rb, 0, none⟩ xa).setCell ⟨rb, 1, none⟩ xb) := ((Keeps.refl (At1 rb) W).set ⟨rb, 0, none⟩ rfl _).set ⟨rb, 1, none⟩ rfl _
    have hru : rb < u.heap.size := by rw [hrb]; exact (Array.getElem?_eq_some_iff.1 r2).1
    have h4 := hb.size
    have h5 : Below w.heap.size w W := hb.trans (h1.mono hb.size)
    refine ⟨(h2.keeps hk (fun k hk e => ?_)).mono h4, (h3.keeps hk (fun k hk e => ?_)).mono h4, hk.below h5 h5.size (fun k hk e => by unfold At1 at e; omega)⟩
    · unfold At1 at e
      have := (World.ownsRow.lt h2 k hk).1; omega
    · unfold At1 at e
      have := (World.ownsRow.lt h3 k hk).1; omega
  rw [← hrb] at HR2
  rw [← hbb] at HR1 y0 y1 hl1
  clear hA hB lA lB HNA HNB hu hb hb1 hb2 r1 r2 s1 hbb
  go_enter Tryd.func42, Tryd.ntmps42
  go_upto_region 1 with fail
  rw [← HU.out, ← HBB.out]
  rw [show b + 1 = rb by have := HBB.out; have := HRB.out; omega]
  clear hrb
  go_region_law (first
    | (have HKK := HBAw; go_simp; go_at_call 58; refine (HJB.out wA HKK.out).mono ?_; rintro _ W9 ⟨aB, nB, cB, rfl, hoB, hbB⟩; have HB9 : Hid (Below u.heap.size u W9) := HBAw.out.trans (hbB.mono HBAw.out.size); have HOB : Hid (OwnB W9 u.heap.size (.slice aB nB cB) B) := hoB.mono HBAw.out.size; have HOA9 := hid (HOA.out.below hbB); clear hoB hbB HOA HBAw HKK; have m0 : W9.cell? ⟨rb, 0, none⟩ = some (.slice none 0 0) := (by rw [cell_of_row _ _ _ _ _ _ (HR2.out W9 HB9.out)]; rfl); have m1 : W9.cell? ⟨rb, 1, none⟩ = some (.slice none 0 0) := (by rw [cell_of_row _ _ _ _ _ _ (HR2.out W9 HB9.out)]; rfl); have mf : ∀ i, W9.frozen? ⟨rb, i, none⟩ = false := fun i => frozen_of_row _ _ _ _ _ (HR2.out W9 HB9.out); have hbl9 := (Array.getElem?_eq_some_iff.1 (HR2.out W9 HB9.out)).1)
    | (go_simp; go_at_call 58; refine (HJA.out u.drew HD.out).mono ?_; rintro _ wA ⟨aA, nA, cA, rfl, hoA, hbA⟩; have HOA : Hid (OwnB wA u.heap.size (.slice aA nA cA) A) := hoA; have HBAw : Hid (Below u.heap.size u wA) := ⟨hbA.os, hbA.tape, hbA.output, hbA.size, hbA.block⟩; clear hoA hbA; have k0 : wA.cell? ⟨b, 0, none⟩ = some (.slice aa na ca) := (by rw [cell_of_row _ _ _ _ _ _ (HR1.out wA HBAw.out)]; rfl); have k1 : wA.cell? ⟨b, 1, none⟩ = some (.slice ab nb cb) := (by rw [cell_of_row _ _ _ _ _ _ (HR1.out wA HBAw.out)]; rfl))
    | fail)
  all_goals (
    have HF := hid (HFIN.out W9 _ _ HB9.out HOA9.out HOB.out)
    have hrF := set_cells (i := 1) (v := .slice aB nB cB) (set_cells (i := 0) (v := .slice aA nA cA) (HR2.out W9 HB9.out))
    have j0 : ((W9.setCell ⟨rb, 0, none⟩ (.slice aA nA cA)).setCell ⟨rb, 1, none⟩ (.slice aB nB cB)).cell? ⟨rb, 0, none⟩ = some (.slice aA nA cA) := by rw [cell_of_row _ _ _ _ _ _ hrF]; rfl
    have j1 : ((W9.setCell ⟨rb, 0, none⟩ (.slice aA nA cA)).setCell ⟨rb, 1, none⟩ (.slice aB nB cB)).cell? ⟨rb, 1, none⟩ = some (.slice aB nB cB) := by rw [cell_of_row _ _ _ _ _ _ hrF]; rfl
    clear hrF
    go_wp2_with fail
    refine bodyPost_ret (v := .agg #[.slice aA nA cA, .slice aB nB cB]) (by simp [results, Tryd.results42, go_sem, j0, j1]) rfl ⟨_, _, rfl, ⟨_, _, _, rfl⟩, ⟨_, _, _, rfl⟩, HF.out⟩)
end Go.Proofs.YteoebmpfdcbbmacDoor
