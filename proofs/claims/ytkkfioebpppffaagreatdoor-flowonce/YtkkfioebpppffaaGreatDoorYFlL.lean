import Derived.Test.YtkkfioebpppffaaGreatDoorYFlI
import Derived.Test.YtkkfioebpppffaaGreatDoorYFlJ
import Derived.Test.YtkkfioebpppffaaGreatDoorYTmTI
namespace Go.Proofs.YtkkfioebpppffaaGreatDoor.Fl
open Go.Proofs.YtkkfioebpppffaaGreatDoor Go.ChangeShapes Go.WideShapes Go.ChangeAt Go.RowKit Go.Maps N
set_option maxHeartbeats 2000000
set_option maxRecDepth 100000

theorem fto {F : List Nat} {a b : World} (h : Tm.Fr F a b) : Me.Keeps (fun k => k ∈ F) a b := ⟨h.os, h.tape, h.output, h.size, h.block⟩
theorem turned_to {a b : World} {bm : Nat} (h : a.mapTurned b bm) : Me.Keeps (fun k => k = bm) a b := by
  have hg := h.grown
  exact ⟨hg.os, hg.tape, hg.output, hg.size, fun k hk hn => hg.block k hk fun e => hn (by cases e; rfl)⟩
theorem kp_then {S S' : Nat → Prop} {a b c : World} (h : Me.Keeps S a b) (h' : Me.Keeps S' b c) (hs : ∀ k, S' k → S k ∨ a.heap.size ≤ k) : Me.Keeps S a c :=
  ⟨h'.os.trans h.os, h'.tape.trans h.tape, h'.output.trans h.output, Nat.le_trans h.size h'.size, fun k hk hn => (h'.block k (Nat.lt_of_lt_of_le hk h.size) fun e => by
    rcases hs k e with e | e
    · exact hn e
    · omega).trans (h.block k hk hn)⟩
theorem kp_below {S : Nat → Prop} {a b : World} (h : Me.Keeps S a b) {B : Nat} {a0 : World} (h0 : Below B a0 a) (hs : ∀ k, S k → B ≤ k) (hB : B ≤ a0.heap.size) : Below B a0 b :=
  ⟨h.os.trans h0.os, h.tape.trans h0.tape, h.output.trans h0.output, Nat.le_trans h0.size h.size, fun k hk => (h.block k (Nat.lt_of_lt_of_le hk (Nat.le_trans hB h0.size)) fun e => by have := hs k e; omega).trans (h0.block k hk)⟩

/-- Timers stay where their blocks do. -/
theorem tm_keep {w w' : World} {b bm : Nat} {go : Option Nat} {lim : Int} {S : List Tm.H.Dl} (h : Tm.Tm w b bm go lim S) {Z : Nat → Prop} (hk : Me.Keeps Z w w') (hn : ∀ x ∈ Tm.fp b bm go, ¬ Z x) : Tm.Tm w' b bm go lim S := by
  refine h.fr (F := (List.range w.heap.size).filter fun x => decide (x ∉ Tm.fp b bm go)) ⟨hk.os, hk.tape, hk.output, hk.size, fun i hi hf => ?_⟩ fun x hx hf => ?_
  · refine hk.block i hi fun hz => ?_
    by_cases hx : i ∈ Tm.fp b bm go
    · exact hn i hx hz
    · exact hf (List.mem_filter.2 ⟨List.mem_range.2 hi, by simpa using hx⟩)
  · have := (List.mem_filter.1 hf).2
    simp only [decide_eq_true_eq] at this
    exact this hx

/-- What changes. -/
structure Raw where
  last : Int
  f : Tu → Option Int
  cf : Nat
  g : Int → Option Fw
  cg : Nat
  S : List Tm.H.Dl
/-- Where it lies. -/
structure Pl where
  nb : Nat
  fb : Nat
  tb : Nat
  tbm : Nat
  tgo : Option Nat

def cellsT (lim : Int) (q : Raw) (p : Pl) : Array Value := #[.int .i64 lim, .int .i64 q.last, .map (some p.nb), .map (some p.fb), .pointer (some ⟨p.tb, 0, none⟩)]
def pT (p : Pl) (k : Nat) : Prop := k ∈ Tm.fp p.tb p.tbm p.tgo
def fpT (b : Nat) (p : Pl) (k : Nat) : Prop := k = b ∨ k = p.nb ∨ k = p.fb ∨ pT p k
def isTab (k : Nat) : Prop := k = 0 ∨ k = 1

/-- Its parts lie apart, and beside the tables of the package. -/
structure Ap (b : Nat) (p : Pl) : Prop where
  bn : b ≠ p.nb
  bf : b ≠ p.fb
  bt : ¬ pT p b
  nf : p.nb ≠ p.fb
  nt : ¬ pT p p.nb
  ft : ¬ pT p p.fb
  tab : ∀ k, fpT b p k → ¬ isTab k

structure TAt (w : World) (b : Nat) (lim : Int) (q : Raw) (p : Pl) : Prop where
  row : w.heap[b]? = some (.cells (cellsT lim q p) 61 (0, 0))
  nm : Mq.MapG gT w p.nb q.f q.cf
  fm : Mq.MapG gF w p.fb q.g q.cg
  tm : Tm.Tm w p.tb p.tbm p.tgo lim q.S
  tab : TabF w
  ap : Ap b p

section
variable {w w' : World} {b : Nat} {lim : Int} {q : Raw} {p : Pl}
theorem fp_b : fpT b p b := .inl rfl
theorem fp_n : fpT b p p.nb := .inr (.inl rfl)
theorem fp_f : fpT b p p.fb := .inr (.inr (.inl rfl))
theorem fp_t {k : Nat} (h : pT p k) : fpT b p k := .inr (.inr (.inr h))
theorem TAt.lt (h : TAt w b lim q p) {k : Nat} (hk : fpT b p k) : k < w.heap.size := by
  rcases hk with rfl | rfl | rfl | hk
  · exact (Array.getElem?_eq_some_iff.1 h.row).1
  · exact h.nm.lt
  · exact h.fm.lt
  · exact h.tm.lt k hk
theorem tab_keep {Z : Nat → Prop} (h : TabF w) (hk : Me.Keeps Z w w') (hz : ∀ k, isTab k → ¬ Z k) : TabF w' :=
  h.keep (hk.block _ h.lt.1 (hz _ (.inl rfl))) (hk.block _ h.lt.2 (hz _ (.inr rfl))) hk.size
theorem TAt.keeps {Z : Nat → Prop} (h : TAt w b lim q p) (hk : Me.Keeps Z w w') (hn : ∀ k, fpT b p k → ¬ Z k) (hz : ∀ k, isTab k → ¬ Z k) : TAt w' b lim q p := by
  have hb : ∀ k, fpT b p k → w'.heap[k]? = w.heap[k]? := fun k h1 => hk.block k (h.lt h1) (hn k h1)
  exact ⟨(hb b fp_b).trans h.row, h.nm.kept (hb _ fp_n), h.fm.kept (hb _ fp_f), tm_keep h.tm hk fun x hx => hn x (fp_t hx), tab_keep h.tab hk hz, h.ap⟩
theorem TAt.below (h : TAt w b lim q p) (hb : Below w.heap.size w w') : TAt w' b lim q p := h.keeps (Z := fun _ => False) (Me.Keeps.of hb) (fun _ _ e => e) fun _ _ e => e
theorem TAt.cells (h : TAt w b lim q p) {j : Nat} {v : Value} (hv : (cellsT lim q p)[j]? = some v) : w.cell? ⟨b, j, none⟩ = some v := by
  rw [cell_of_row _ _ _ _ _ _ h.row]; exact hv
theorem TAt.free (h : TAt w b lim q p) (j : Nat) : w.frozen? ⟨b, j, none⟩ = false := frozen_of_row _ _ _ _ _ h.row

/-- The number given last. -/
theorem TAt.put (h : TAt w b lim q p) (x : Int) : TAt (w.setCell ⟨b, 1, none⟩ (.int .i64 x)) b lim { q with last := x } p := by
  have hk : Me.Keeps (fun k => k = b) w (w.setCell ⟨b, 1, none⟩ (.int .i64 x)) := Me.Keeps.set (S := fun k => k = b) (Me.Keeps.refl _ _) ⟨b, 1, none⟩ rfl _
  have hb : ∀ k, fpT b p k → k ≠ b → (w.setCell ⟨b, 1, none⟩ (.int .i64 x)).heap[k]? = w.heap[k]? := fun k h1 h2 => hk.block k (h.lt h1) h2
  exact ⟨Me.set_cells (i := 1) (v := .int .i64 x) h.row, h.nm.kept (hb _ fp_n h.ap.bn.symm), h.fm.kept (hb _ fp_f h.ap.bf.symm), tm_keep h.tm hk fun y hy e => h.ap.bt (e ▸ hy), tab_keep h.tab hk fun k ht e => h.ap.tab k (e ▸ fp_b) ht, h.ap⟩
/-- The map of numbers. -/
theorem TAt.nmap (h : TAt w b lim q p) {f' : Tu → Option Int} {c' : Nat} (ht : w.mapTurned w' p.nb) (hm : Mq.MapG gT w' p.nb f' c') : TAt w' b lim { q with f := f', cf := c' } p := by
  have hk := turned_to ht
  have hb : ∀ k, fpT b p k → k ≠ p.nb → w'.heap[k]? = w.heap[k]? := fun k h1 h2 => hk.block k (h.lt h1) h2
  exact ⟨(hb _ fp_b h.ap.bn).trans h.row, hm, h.fm.kept (hb _ fp_f h.ap.nf.symm), tm_keep h.tm hk fun y hy e => h.ap.nt (e ▸ hy), tab_keep h.tab hk fun k ht e => h.ap.tab k (e ▸ fp_n) ht, h.ap⟩
/-- The map of flows. -/
theorem TAt.fmap (h : TAt w b lim q p) {g' : Int → Option Fw} {c' : Nat} (ht : w.mapTurned w' p.fb) (hm : Mq.MapG gF w' p.fb g' c') : TAt w' b lim { q with g := g', cg := c' } p := by
  have hk := turned_to ht
  have hb : ∀ k, fpT b p k → k ≠ p.fb → w'.heap[k]? = w.heap[k]? := fun k h1 h2 => hk.block k (h.lt h1) h2
  exact ⟨(hb _ fp_b h.ap.bf).trans h.row, h.nm.kept (hb _ fp_n h.ap.nf), hm, tm_keep h.tm hk fun y hy e => h.ap.ft (e ▸ hy), tab_keep h.tab hk fun k ht e => h.ap.tab k (e ▸ fp_f) ht, h.ap⟩
/-- The timers. -/
theorem TAt.tms (h : TAt w b lim q p) {go' : Option Nat} {S' : List Tm.H.Dl} (hf : Tm.Fr (Tm.fp p.tb p.tbm p.tgo) w w') (hm : Tm.Tm w' p.tb p.tbm go' lim S') (hn : ∀ x ∈ go'.toList, x ∈ p.tgo.toList ∨ w.heap.size ≤ x) : TAt w' b lim { q with S := S' } { p with tgo := go' } := by
  have hk := fto hf
  have hb : ∀ k, fpT b p k → ¬ pT p k → w'.heap[k]? = w.heap[k]? := fun k h1 h2 => hk.block k (h.lt h1) h2
  have hx : ∀ k, pT { p with tgo := go' } k → pT p k ∨ w.heap.size ≤ k := fun k e => by
    have e' : k = p.tb ∨ k = p.tbm ∨ k ∈ go'.toList := by simpa [pT, Tm.fp] using e
    unfold pT Tm.fp
    rcases e' with rfl | rfl | e
    · simp
    · simp
    · rcases hn k e with e2 | e2
      · left; simp only [List.mem_cons]; exact .inr (.inr e2)
      · exact .inr e2
  have hy : ∀ k, pT { p with tgo := go' } k → fpT b p k → pT p k := fun k e h1 => (hx k e).elim id fun e2 => by have := h.lt h1; omega
  refine ⟨(hb _ fp_b h.ap.bt).trans h.row, h.nm.kept (hb _ fp_n h.ap.nt), h.fm.kept (hb _ fp_f h.ap.ft), hm, tab_keep h.tab hk fun k ht e => h.ap.tab k (fp_t e) ht, ?_⟩
  refine ⟨h.ap.bn, h.ap.bf, fun e => h.ap.bt (hy _ e fp_b), h.ap.nf, fun e => h.ap.nt (hy _ e fp_n), fun e => h.ap.ft (hy _ e fp_f), fun k hk2 ht => ?_⟩
  have hlt : k < w.heap.size := by
    rcases ht with rfl | rfl
    · exact h.tab.lt.1
    · exact h.tab.lt.2
  rcases hk2 with rfl | rfl | rfl | hk2
  · exact h.ap.tab _ fp_b ht
  · exact h.ap.tab _ fp_n ht
  · exact h.ap.tab _ fp_f ht
  · rcases hx k hk2 with e | e
    · exact h.ap.tab _ (fp_t e) ht
    · omega
end

/-- A table on its blocks F. -/
def St (w : World) (b : Nat) (lim : Int) (q : Raw) (F : Nat → Prop) : Prop := ∃ p, TAt w b lim q p ∧ ∀ k, F k ↔ fpT b p k
/-- What a call leaves. -/
def StD (w W : World) (b : Nat) (lim : Int) (q : Raw) (F : Nat → Prop) : Prop := ∃ F', St W b lim q F' ∧ (∀ k, F' k → F k ∨ w.heap.size ≤ k) ∧ Me.Keeps F w W
section
variable {w w1 w' : World} {b : Nat} {lim : Int} {q : Raw} {F : Nat → Prop}
theorem St.lt (h : St w b lim q F) {k : Nat} (hk : F k) : k < w.heap.size := by
  obtain ⟨p, h1, h2⟩ := h
  exact h1.lt ((h2 k).1 hk)
theorem St.notab (h : St w b lim q F) : ∀ k, isTab k → ¬ F k := fun k ht hk => by
  obtain ⟨p, h1, h2⟩ := h
  exact h1.ap.tab k ((h2 k).1 hk) ht
theorem St.tab (h : St w b lim q F) : TabF w := by
  obtain ⟨p, h1, h2⟩ := h
  exact h1.tab
theorem St.keeps {Z : Nat → Prop} (h : St w b lim q F) (hk : Me.Keeps Z w w') (hn : ∀ k, F k → ¬ Z k) (hz : ∀ k, isTab k → ¬ Z k) : St w' b lim q F := by
  obtain ⟨p, h1, h2⟩ := h
  exact ⟨p, h1.keeps hk (fun k e => hn k ((h2 k).2 e)) hz, h2⟩
theorem St.below (h : St w b lim q F) (hb : Below w.heap.size w w') : St w' b lim q F := h.keeps (Z := fun _ => False) (Me.Keeps.of hb) (fun _ _ e => e) fun _ _ e => e
theorem St.same (h : St w b lim q F) (hb : Below w.heap.size w w') : StD w w' b lim q F := ⟨F, h.below hb, fun _ e => .inl e, Me.Keeps.of hb⟩
/-- One step behind another. -/
theorem StD.then {q' : Raw} (h : StD w w1 b lim q F) (h' : ∀ F', St w1 b lim q F' → StD w1 w' b lim q' F') : StD w w' b lim q' F := by
  obtain ⟨F1, h1, h2, h3⟩ := h
  obtain ⟨F2, k1, k2, k3⟩ := h' F1 h1
  refine ⟨F2, k1, fun k e => ?_, kp_then h3 k3 h2⟩
  rcases k2 k e with e | e
  · exact h2 k e
  · exact .inr (Nat.le_trans h3.size e)
theorem StD.from (hb : Below w.heap.size w w1) (h : StD w1 w' b lim q F) : StD w w' b lim q F := by
  obtain ⟨F1, h1, h2, h3⟩ := h
  exact ⟨F1, h1, fun k e => (h2 k e).imp id fun e => Nat.le_trans hb.size e, (Me.Keeps.of hb).trans h3⟩
theorem StD.more (h : StD w w1 b lim q F) (hb : Below w1.heap.size w1 w') : StD w w' b lim q F := by
  obtain ⟨F1, h1, h2, h3⟩ := h
  exact ⟨F1, h1.below hb, h2, h3.trans (Me.Keeps.of hb)⟩
/-- A block of the call's own is written behind it. -/
theorem StD.own {g : Nat} (h : StD w w1 b lim q F) (ht : ∀ k, isTab k → k < w.heap.size) (hk : Me.Keeps (fun k => k = g) w1 w') (hg : w.heap.size ≤ g) (hn : ∀ F', St w1 b lim q F' → ¬ F' g) : StD w w' b lim q F := by
  obtain ⟨F1, h1, h2, h3⟩ := h
  refine ⟨F1, h1.keeps hk (fun k e e2 => hn F1 h1 (e2 ▸ e)) (fun k e e2 => by have := ht k e; omega), h2, kp_then h3 hk fun k e => .inr (by omega)⟩
end
end Go.Proofs.YtkkfioebpppffaaGreatDoor.Fl
