/-
  A range over an iterator that has rows of nodes of its own: what both sides keep.
-/
import Derived.Test.YtmnafocmbcgdiabVY
namespace Go.Proofs.Ytmnafocmbcgdiab
open Go.RowKit Go.Shelf

/-- What an iterator may turn: what is no cells, rows of nodes, and the box of a yield. -/
def Mine (o : Obj) : Prop := o.isCells = false ∨ (∃ cs, o = .cells cs 48) ∨ ∃ cs, o = .cells cs 93

/-- The invariant abides what an iterator turns from B on. -/
def OwnN {β : Type} (B : Nat) (I : β → World → Prop) : Prop :=
  ∀ s W W' row, I s W → W.grownBy W' row → (∀ r, row = some r → B ≤ r ∧ ∃ o : Obj, W.heap[r]? = some o ∧ Mine o) → I s W'

/-- What a round keeps: all that an iterator may have laid from B on. -/
structure KeepsN (B : Nat) (W W' : World) : Prop where
  size : W.heap.size ≤ W'.heap.size
  same : ∀ k o, B ≤ k → W.heap[k]? = some o → Mine o → W'.heap[k]? = some o

theorem KeepsN.refl (B : Nat) (W : World) : KeepsN B W W := ⟨Nat.le_refl _, fun _ _ _ h _ => h⟩
theorem KeepsN.trans {B : Nat} {X Y Z : World} (h : KeepsN B X Y) (k : KeepsN B Y Z) : KeepsN B X Z := ⟨Nat.le_trans h.size k.size, fun _ _ hB hi ho => k.same _ _ hB (h.same _ _ hB hi ho) ho⟩
theorem KeepsN.mono {B C : Nat} {W W' : World} (h : KeepsN B W W') (hB : B ≤ C) : KeepsN C W W' := ⟨h.size, fun k o hk => h.same k o (Nat.le_trans hB hk)⟩
theorem KeepsN.of_below {B : Nat} {W W' : World} (h : Below W.heap.size W W') : KeepsN B W W' := ⟨h.size, fun k _ _ hk _ => (h.block k (Array.getElem?_eq_some_iff.1 hk).1).trans hk⟩
theorem KeepsN.of_put {B l : Nat} {W : World} (o : Obj) (h : l < B) : KeepsN B W (W.putObj l o) := ⟨by simp, fun _ _ hk h1 _ => (World.putObj_heap_other (by omega)).trans h1⟩
theorem KeepsN.from {B : Nat} {W W' : World} (h : KeepsN B W W') : KeepsFrom B W W' := ⟨h.size, fun k o hk h1 h2 => h.same k o hk h1 (.inl h2)⟩

theorem OwnN.putObj {β : Type} {B : Nat} {I : β → World → Prop} (h : OwnN B I) {s : β} {W : World} {l : Nat} {o : Obj} (o' : Obj) (hs : I s W) (hB : B ≤ l) (hl : W.heap[l]? = some o) (ho : Mine o) : I s (W.putObj l o') :=
  h s W _ (some l) hs (grownBy_putObj' W l o') (fun r e => by cases e; exact ⟨hB, o, hl, ho⟩)
theorem OwnN.alloc {β : Type} {B : Nat} {I : β → World → Prop} (h : OwnN B I) {s : β} {W : World} (o : Obj) (hs : I s W) : I s (W.alloc o) :=
  h s W _ none hs (World.grownBy_alloc W o none) (fun r e => by cases e)
theorem OwnN.below {β : Type} {B : Nat} {I : β → World → Prop} (h : OwnN B I) {s : β} {W W' : World} (hs : I s W) (hb : Below W.heap.size W W') : I s W' :=
  h s W W' none hs ⟨hb.os, hb.tape, hb.output, hb.size, fun j hj _ => hb.block j hj⟩ (fun r e => by cases e)
/-- What abides all that leaves the blocks below B as they are. -/
theorem ownN_below {β : Type} {B : Nat} {I : β → World → Prop} (hs : ∀ k W, I k W → B ≤ W.heap.size) (h : ∀ k W W', I k W → Below B W W' → I k W') : OwnN B I := fun k W W' row hi hg hr =>
  h k W W' hi ⟨hg.os, hg.tape, hg.output, hg.size, fun j hj => hg.block j (Nat.lt_of_lt_of_le hj (hs k W hi)) (fun e => by have := (hr j e.symm).1; omega)⟩

/-- How a round may be left. -/
def toPostN (B k : Nat) (I : Nat → World → Prop) (Ix : Code → World → Prop) (W : World) : Exit → Act → World → Prop
  | .normal, _, W' => KeepsN B W W' ∧ I (k + 1) W'
  | .ret, _, W' => KeepsN B W W' ∧ Ix .ret W'
  | .exit id, _, W' => KeepsN B W W' ∧ Ix (.exit id) W'
  | .goto t, _, W' => KeepsN B W W' ∧ Ix (.goto t) W'
  | _, _, _ => False

/-- An iterator that hands out the values xs, one by one, until a round says that it is enough. -/
def GivesN {α : Type} (F : Fence) (n : Nat) (P : Program) (g : Nat) (lb : Array Value) (encs : α → Array Value) (xs : List α) (Fx : Nat → World → Prop) : Prop :=
  ∀ (l : Nat) (J : Nat → World → Prop) (Z : Unit → World → Prop) (W : World), OwnN W.heap.size J → OwnN W.heap.size Z → (∀ k W, J k W → Fx k W) →
    (∀ k x W1, J k W1 → xs[k]? = some x → YieldAt F (n - 1) P l (encs x) W1 fun e W' => KeepsN W.heap.size W1 W' ∧ ((e = .returned (.bool true) ∧ J (k + 1) W') ∨ (e = .returned (.bool false) ∧ Z () W'))) →
    J 0 W → CallsIn F n P g (#[.func (.yield l) #[] #[]] ++ lb) W fun e W' => (∃ v, e = .returned v) ∧ (J xs.length W' ∨ Z () W')

theorem GivesN.inRound {α : Type} {F : Fence} {n : Nat} {P : Program} {g : Nat} {lb : Array Value} {encs : α → Array Value} {xs : List α} {Fx : Nat → World → Prop} (l : Nat) (h : GivesN F n P g lb encs xs Fx) : GivesN (F.inRound l) n P g lb encs xs Fx := h

theorem mine_loop (r : Loop) : Mine (.loop r) := .inl rfl

theorem wpIn_givesN {F : Fence} {n : Nat} {P : Program} {α : Type} {g : Operand} {ps : Array Tmp} {assign body : Code} {Q : Exit → Act → World → Prop} {a : Act} {w : World}
    (hro : F.round = none) (h1 : 1 ≤ n) {gf : Nat} {lb : Array Value} (hg : a.eval g = .func (.func gf) #[] lb) (hFg : F.fn gf) (eg : ∀ args w, (callFunc gf args).run P w = .ok (.enter gf args) w)
    {encs : α → Array Value} {xs : List α} {Fx : Nat → World → Prop} (hseq : GivesN F (n - 1) P gf lb encs xs Fx) (hps : ∀ x, (encs x).size = ps.size)
    (I : Nat → World → Prop) (Ix : Code → World → Prop) (hI : OwnN w.heap.size I) (hIx : OwnN w.heap.size Ix) (hF : ∀ k W, I k W → Fx k W) (h0 : I 0 w) (Ax : α → Act → World → Prop) (hAx : ∀ x a', OwnN w.heap.size (fun (_ : Unit) W => Ax x a' W))
    (hassign : ∀ (l k : Nat) (x : α) (W : World) (K : Act → World → Prop), I k W → xs[k]? = some x → (∀ a' W', KeepsN w.heap.size W W' → I k W' → Ax x a' W' → K a' W') →
      assign.wpIn (F.inRound l) (n - 1 - 1) P (Exit.then K (fun _ _ _ => False)) { tmps := (ps.zip (encs x)).foldl (fun t (p, v) => t.setIfInBounds p v) a.tmps, defers := [] } W)
    (hbody : ∀ (l k : Nat) (x : α) (a' : Act) (W : World), w.heap.size ≤ l → (∃ r, W.heap[l]? = some (.loop r)) → I k W → Ax x a' W → xs[k]? = some x → body.wpIn (F.inRound l) (n - 1 - 1) P (toPostN w.heap.size k I Ix W) a' W)
    (hdone : ∀ (D : Nat) (W : World), w.heap.size ≤ D → I xs.length W → W.heap[D]? = some (.deferred (some [])) → Q .normal { a with defers := { target := .collected D, args := #[] } :: a.defers } W)
    (hstop : ∀ (D : Nat) (c : Code) (W : World), w.heap.size ≤ D → Ix c W → W.heap[D]? = some (.deferred (some [])) → c.wpIn F n P Q { a with defers := { target := .collected D, args := #[] } :: a.defers } W) :
    (Code.rangeFunc g ps assign body).wpIn F n P Q a w := by
  refine wpIn_rangeFunc fun fn hfn => ?_
  rw [hro]
  let R : LoopState → Option Code → Loop := fun st pe => { state := st, pending := pe, fn, tmps := a.tmps, params := ps, assign, body, defers := w.heap.size }
  obtain ⟨W1, hW1⟩ : ∃ W1, (w.alloc (.deferred (some []))).alloc (.loop (R .ready none)) = W1 := ⟨_, rfl⟩
  have hs1 : W1.heap.size = w.heap.size + 2 := by rw [← hW1]; simp
  have hl1 : W1.heap[w.heap.size + 1]? = some (.loop (R .ready none)) := by
    have := World.alloc_heap_new (w.alloc (.deferred (some []))) (.loop (R .ready none))
    rw [World.size_alloc] at this
    rw [← hW1]; exact this
  have hd1 : W1.heap[w.heap.size]? = some (.deferred (some [])) := by
    rw [← hW1]; exact (Below.heap_alloc _ _ _ (by simp)).trans (World.alloc_heap_new w _)
  have hkeep : ∀ {A B : World} {row : Option Nat} {k : Nat} {o : Obj}, A.grownBy B row → (∀ r, row = some r → W1.heap.size ≤ r ∧ ∃ o : Obj, A.heap[r]? = some o ∧ Mine o) → k < W1.heap.size → A.heap[k]? = some o → B.heap[k]? = some o :=
    fun hg' hr hk ho => (hg'.block _ (Array.getElem?_eq_some_iff.1 ho).1 (fun e => by have := (hr _ e.symm).1; omega)).trans ho
  have hrow : ∀ {A : World} {row : Option Nat}, (∀ r, row = some r → W1.heap.size ≤ r ∧ ∃ o : Obj, A.heap[r]? = some o ∧ Mine o) → ∀ r, row = some r → w.heap.size ≤ r ∧ ∃ o : Obj, A.heap[r]? = some o ∧ Mine o :=
    fun hr r e => ⟨by have := (hr r e).1; omega, (hr r e).2⟩
  refine ⟨w.heap.size + 1, [{ target := .collected w.heap.size, args := #[] }], W1, { target := .fn (.func gf) lb, args := #[.func (.yield (w.heap.size + 1)) #[] #[]] }, W1, gf, #[.func (.yield (w.heap.size + 1)) #[] #[]] ++ lb, W1, ?_, ?_, ?_, ?_, fun _ => h1, ?_⟩
  · rw [← hW1]; exact run_enterLoop_outer _ _ _ _ _
  · simp only [resolve, hg]; simp [go_sem]
  · intro f' hf'; simp [Target.leads] at hf'; subst hf'; exact hFg
  · simp [invoke, go_sem, eg]
  · refine (hseq (w.heap.size + 1) (fun k W => I k W ∧ W.heap[w.heap.size + 1]? = some (.loop (R .ready none)) ∧ W.heap[w.heap.size]? = some (.deferred (some [])))
      (fun _ W => ∃ c, Ix c W ∧ W.heap[w.heap.size + 1]? = some (.loop (R .done (some c))) ∧ W.heap[w.heap.size]? = some (.deferred (some []))) W1 ?_ ?_ (fun k W h => hF k W h.1) ?_ ⟨?_, hl1, hd1⟩).mono ?_
    · rintro k A B row ⟨i1, i2, i3⟩ hg' hr
      exact ⟨hI k A B row i1 hg' (hrow hr), hkeep hg' hr (by omega) i2, hkeep hg' hr (by omega) i3⟩
    · rintro k A B row ⟨c, i1, i2, i3⟩ hg' hr
      exact ⟨c, hIx c A B row i1 hg' (hrow hr), hkeep hg' hr (by omega) i2, hkeep hg' hr (by omega) i3⟩
    · rintro k x V ⟨i1, i2, i3⟩ hx
      refine ⟨fn, _, assign, body, run_yield (P := P) (args := encs x) i2 (hps x), roundIn_of_wpIn hfn (hassign _ k x V _ i1 hx fun a' W ka ia ax => ?_)⟩
      replace i1 := ia
      replace i2 := ka.same _ _ (by omega) i2 (mine_loop _)
      replace i3 := ka.same _ _ (Nat.le_refl _) i3 (.inl rfl)
      refine ⟨_, run_beginRound i2 rfl, ?_⟩
      have hlt := (Array.getElem?_eq_some_iff.1 i2).1
      obtain ⟨Wb, hWb⟩ : ∃ Wb, Wb = W.putObj (w.heap.size + 1) (.loop { R .ready none with state := .busy }) := ⟨_, rfl⟩
      have b2 : Wb.heap[w.heap.size + 1]? = some (.loop { R .ready none with state := .busy }) := by rw [hWb]; exact World.putObj_heap_same hlt
      have b3 : Wb.heap[w.heap.size]? = some (.deferred (some [])) := by rw [hWb]; exact (World.putObj_heap_other (by omega)).trans i3
      have b1 : I k Wb := by rw [hWb]; exact hI.putObj _ i1 (by omega) i2 (mine_loop _)
      have kb : KeepsN W1.heap.size V Wb := by rw [hWb]; exact (ka.mono (by omega)).trans (KeepsN.of_put _ (by omega))
      have bx : Ax x a' Wb := by rw [hWb]; exact (hAx x a').putObj (s := ()) _ ax (by omega) i2 (mine_loop _)
      rw [← hWb]
      refine wpIn_mono (hbody _ k x a' Wb (by omega) ⟨_, b2⟩ b1 bx hx) ?_
      rintro e a3 W3 hp
      have fin : KeepsN w.heap.size Wb W3 → W3.heap[w.heap.size + 1]? = some (.loop { R .ready none with state := .busy }) ∧ W3.heap[w.heap.size]? = some (.deferred (some [])) ∧ ∀ o, KeepsN W1.heap.size V (W3.putObj (w.heap.size + 1) o) := fun k1 =>
        ⟨k1.same _ _ (by omega) b2 (mine_loop _), k1.same _ _ (Nat.le_refl _) b3 (.inl rfl), fun o => (kb.trans (k1.mono (by omega))).trans (KeepsN.of_put _ (by omega))⟩
      cases e with
      | normal =>
        obtain ⟨k1, k2⟩ := hp
        obtain ⟨c2, c3, c4⟩ := fin k1
        exact ⟨_, _, run_endRound (P := P) none c2, c4 _, .inl ⟨rfl, hI.putObj _ k2 (by omega) c2 (mine_loop _), World.putObj_heap_same (Array.getElem?_eq_some_iff.1 c2).1, (World.putObj_heap_other (by omega)).trans c3⟩⟩
      | ret =>
        obtain ⟨k1, k2⟩ := hp
        obtain ⟨c2, c3, c4⟩ := fin k1
        exact ⟨_, _, run_endRound (P := P) (some .ret) c2, c4 _, .inr ⟨rfl, .ret, hIx.putObj _ k2 (by omega) c2 (mine_loop _), World.putObj_heap_same (Array.getElem?_eq_some_iff.1 c2).1, (World.putObj_heap_other (by omega)).trans c3⟩⟩
      | exit id =>
        obtain ⟨k1, k2⟩ := hp
        obtain ⟨c2, c3, c4⟩ := fin k1
        exact ⟨_, _, run_endRound (P := P) (some (.exit id)) c2, c4 _, .inr ⟨rfl, .exit id, hIx.putObj _ k2 (by omega) c2 (mine_loop _), World.putObj_heap_same (Array.getElem?_eq_some_iff.1 c2).1, (World.putObj_heap_other (by omega)).trans c3⟩⟩
      | goto t =>
        obtain ⟨k1, k2⟩ := hp
        obtain ⟨c2, c3, c4⟩ := fin k1
        exact ⟨_, _, run_endRound (P := P) (some (.goto t)) c2, c4 _, .inr ⟨rfl, .goto t, hIx.putObj _ k2 (by omega) c2 (mine_loop _), World.putObj_heap_same (Array.getElem?_eq_some_iff.1 c2).1, (World.putObj_heap_other (by omega)).trans c3⟩⟩
      | panic ch => exact hp.elim
      | outgrown => exact hp.elim
    · rw [← hW1]; exact hI.alloc _ (hI.alloc _ h0)
    · rintro e W2 ⟨⟨v, rfl⟩, (⟨i1, i2, i3⟩ | ⟨c, i1, i2, i3⟩)⟩
      · exact ⟨none, _, run_endLoop (P := P) i2 (by simp [R]), hdone _ _ (Nat.le_refl _) (hI.putObj _ i1 (by omega) i2 (mine_loop _)) ((World.putObj_heap_other (by omega)).trans i3)⟩
      · exact ⟨some c, _, run_endLoop (P := P) i2 (by simp [R]), hstop _ c _ (Nat.le_refl _) (hIx.putObj _ i1 (by omega) i2 (mine_loop _)) ((World.putObj_heap_other (by omega)).trans i3)⟩

/-- The same within a round of the loop l0. -/
theorem wpIn_givesN_in {F : Fence} {n : Nat} {P : Program} {α : Type} {g : Operand} {ps : Array Tmp} {assign body : Code} {Q : Exit → Act → World → Prop} {a : Act} {w : World}
    {l0 : Nat} {r0 : Loop} (hro : F.round = some l0) (hl0 : w.heap[l0]? = some (.loop r0)) (h1 : 1 ≤ n) {gf : Nat} {lb : Array Value} (hg : a.eval g = .func (.func gf) #[] lb) (hFg : F.fn gf) (eg : ∀ args w, (callFunc gf args).run P w = .ok (.enter gf args) w)
    {encs : α → Array Value} {xs : List α} {Fx : Nat → World → Prop} (hseq : GivesN F (n - 1) P gf lb encs xs Fx) (hps : ∀ x, (encs x).size = ps.size)
    (I : Nat → World → Prop) (Ix : Code → World → Prop) (hI : OwnN w.heap.size I) (hIx : OwnN w.heap.size Ix) (hF : ∀ k W, I k W → Fx k W) (h0 : I 0 w) (Ax : α → Act → World → Prop) (hAx : ∀ x a', OwnN w.heap.size (fun (_ : Unit) W => Ax x a' W))
    (hassign : ∀ (l k : Nat) (x : α) (W : World) (K : Act → World → Prop), I k W → xs[k]? = some x → (∀ a' W', KeepsN w.heap.size W W' → I k W' → Ax x a' W' → K a' W') →
      assign.wpIn (F.inRound l) (n - 1 - 1) P (Exit.then K (fun _ _ _ => False)) { tmps := (ps.zip (encs x)).foldl (fun t (p, v) => t.setIfInBounds p v) a.tmps, defers := [] } W)
    (hbody : ∀ (l k : Nat) (x : α) (a' : Act) (W : World), w.heap.size ≤ l → (∃ r, W.heap[l]? = some (.loop r)) → I k W → Ax x a' W → xs[k]? = some x → body.wpIn (F.inRound l) (n - 1 - 1) P (toPostN w.heap.size k I Ix W) a' W)
    (hdone : ∀ (W : World), I xs.length W → Q .normal a W)
    (hstop : ∀ (c : Code) (W : World), Ix c W → c.wpIn F n P Q a W) :
    (Code.rangeFunc g ps assign body).wpIn F n P Q a w := by
  refine wpIn_rangeFunc fun fn hfn => ?_
  rw [hro]
  let R : LoopState → Option Code → Loop := fun st pe => { state := st, pending := pe, fn, tmps := a.tmps, params := ps, assign, body, defers := r0.defers }
  obtain ⟨W1, hW1⟩ : ∃ W1, w.alloc (.loop (R .ready none)) = W1 := ⟨_, rfl⟩
  have hs1 : W1.heap.size = w.heap.size + 1 := by rw [← hW1]; simp
  have hl1 : W1.heap[w.heap.size]? = some (.loop (R .ready none)) := by rw [← hW1]; exact World.alloc_heap_new w _
  have hkeep : ∀ {A B : World} {row : Option Nat} {k : Nat} {o : Obj}, A.grownBy B row → (∀ r, row = some r → W1.heap.size ≤ r ∧ ∃ o : Obj, A.heap[r]? = some o ∧ Mine o) → k < W1.heap.size → A.heap[k]? = some o → B.heap[k]? = some o :=
    fun hg' hr hk ho => (hg'.block _ (Array.getElem?_eq_some_iff.1 ho).1 (fun e => by have := (hr _ e.symm).1; omega)).trans ho
  have hrow : ∀ {A : World} {row : Option Nat}, (∀ r, row = some r → W1.heap.size ≤ r ∧ ∃ o : Obj, A.heap[r]? = some o ∧ Mine o) → ∀ r, row = some r → w.heap.size ≤ r ∧ ∃ o : Obj, A.heap[r]? = some o ∧ Mine o :=
    fun hr r e => ⟨by have := (hr r e).1; omega, (hr r e).2⟩
  refine ⟨w.heap.size, [], W1, { target := .fn (.func gf) lb, args := #[.func (.yield w.heap.size) #[] #[]] }, W1, gf, #[.func (.yield w.heap.size) #[] #[]] ++ lb, W1, ?_, ?_, ?_, ?_, fun _ => h1, ?_⟩
  · rw [← hW1]; exact run_enterLoop_inner hl0 _ _ _ _ _
  · simp only [resolve, hg]; simp [go_sem]
  · intro f' hf'; simp [Target.leads] at hf'; subst hf'; exact hFg
  · simp [invoke, go_sem, eg]
  · refine (hseq w.heap.size (fun k W => I k W ∧ W.heap[w.heap.size]? = some (.loop (R .ready none)))
      (fun _ W => ∃ c, Ix c W ∧ W.heap[w.heap.size]? = some (.loop (R .done (some c)))) W1 ?_ ?_ (fun k W h => hF k W h.1) ?_ ⟨?_, hl1⟩).mono ?_
    · rintro k A B row ⟨i1, i2⟩ hg' hr
      exact ⟨hI k A B row i1 hg' (hrow hr), hkeep hg' hr (by omega) i2⟩
    · rintro k A B row ⟨c, i1, i2⟩ hg' hr
      exact ⟨c, hIx c A B row i1 hg' (hrow hr), hkeep hg' hr (by omega) i2⟩
    · rintro k x V ⟨i1, i2⟩ hx
      refine ⟨fn, _, assign, body, run_yield (P := P) (args := encs x) i2 (hps x), roundIn_of_wpIn hfn (hassign _ k x V _ i1 hx fun a' W ka ia ax => ?_)⟩
      replace i1 := ia
      replace i2 := ka.same _ _ (Nat.le_refl _) i2 (mine_loop _)
      refine ⟨_, run_beginRound i2 rfl, ?_⟩
      have hlt := (Array.getElem?_eq_some_iff.1 i2).1
      obtain ⟨Wb, hWb⟩ : ∃ Wb, Wb = W.putObj w.heap.size (.loop { R .ready none with state := .busy }) := ⟨_, rfl⟩
      have b2 : Wb.heap[w.heap.size]? = some (.loop { R .ready none with state := .busy }) := by rw [hWb]; exact World.putObj_heap_same hlt
      have b1 : I k Wb := by rw [hWb]; exact hI.putObj _ i1 (by omega) i2 (mine_loop _)
      have kb : KeepsN W1.heap.size V Wb := by rw [hWb]; exact (ka.mono (by omega)).trans (KeepsN.of_put _ (by omega))
      have bx : Ax x a' Wb := by rw [hWb]; exact (hAx x a').putObj (s := ()) _ ax (by omega) i2 (mine_loop _)
      rw [← hWb]
      refine wpIn_mono (hbody _ k x a' Wb (by omega) ⟨_, b2⟩ b1 bx hx) ?_
      rintro e a3 W3 hp
      have fin : KeepsN w.heap.size Wb W3 → W3.heap[w.heap.size]? = some (.loop { R .ready none with state := .busy }) ∧ ∀ o, KeepsN W1.heap.size V (W3.putObj w.heap.size o) := fun k1 =>
        ⟨k1.same _ _ (by omega) b2 (mine_loop _), fun o => (kb.trans (k1.mono (by omega))).trans (KeepsN.of_put _ (by omega))⟩
      cases e with
      | normal =>
        obtain ⟨k1, k2⟩ := hp
        obtain ⟨c2, c4⟩ := fin k1
        exact ⟨_, _, run_endRound (P := P) none c2, c4 _, .inl ⟨rfl, hI.putObj _ k2 (by omega) c2 (mine_loop _), World.putObj_heap_same (Array.getElem?_eq_some_iff.1 c2).1⟩⟩
      | ret =>
        obtain ⟨k1, k2⟩ := hp
        obtain ⟨c2, c4⟩ := fin k1
        exact ⟨_, _, run_endRound (P := P) (some .ret) c2, c4 _, .inr ⟨rfl, .ret, hIx.putObj _ k2 (by omega) c2 (mine_loop _), World.putObj_heap_same (Array.getElem?_eq_some_iff.1 c2).1⟩⟩
      | exit id =>
        obtain ⟨k1, k2⟩ := hp
        obtain ⟨c2, c4⟩ := fin k1
        exact ⟨_, _, run_endRound (P := P) (some (.exit id)) c2, c4 _, .inr ⟨rfl, .exit id, hIx.putObj _ k2 (by omega) c2 (mine_loop _), World.putObj_heap_same (Array.getElem?_eq_some_iff.1 c2).1⟩⟩
      | goto t =>
        obtain ⟨k1, k2⟩ := hp
        obtain ⟨c2, c4⟩ := fin k1
        exact ⟨_, _, run_endRound (P := P) (some (.goto t)) c2, c4 _, .inr ⟨rfl, .goto t, hIx.putObj _ k2 (by omega) c2 (mine_loop _), World.putObj_heap_same (Array.getElem?_eq_some_iff.1 c2).1⟩⟩
      | panic ch => exact hp.elim
      | outgrown => exact hp.elim
    · rw [← hW1]; exact hI.alloc _ h0
    · rintro e W2 ⟨⟨v, rfl⟩, (⟨i1, i2⟩ | ⟨c, i1, i2⟩)⟩
      · exact ⟨none, _, run_endLoop (P := P) i2 (by simp [R]), hdone _ (hI.putObj _ i1 (by omega) i2 (mine_loop _))⟩
      · exact ⟨some c, _, run_endLoop (P := P) i2 (by simp [R]), hstop c _ (hIx.putObj _ i1 (by omega) i2 (mine_loop _))⟩
/-- The same with what the assignment leaves told by the caller's slots. -/
theorem wpIn_givesU {F : Fence} {n : Nat} {P : Program} {α β : Type} {g : Operand} {ps : Array Tmp} {assign body : Code} {Q : Exit → Act → World → Prop} {a : Act} {w : World}
    (hro : F.round = none) (h1 : 1 ≤ n) {gf : Nat} {lb : Array Value} (hg : a.eval g = .func (.func gf) #[] lb) (hFg : F.fn gf) (eg : ∀ args w, (callFunc gf args).run P w = .ok (.enter gf args) w)
    {encs : α → Array Value} {xs : List α} {Fx : Nat → World → Prop} (hseq : GivesN F (n - 1) P gf lb encs xs Fx) (hps : ∀ x, (encs x).size = ps.size)
    (I : Nat → World → Prop) (Ix : Code → World → Prop) (hI : OwnN w.heap.size I) (hIx : OwnN w.heap.size Ix) (hF : ∀ k W, I k W → Fx k W) (h0 : I 0 w) (up : α → β → Array Value → Array Value) (Ay : α → β → World → Prop) (hAy : ∀ x y, OwnN w.heap.size (fun (_ : Unit) W => Ay x y W))
    (hassign : ∀ (l k : Nat) (x : α) (W : World) (K : Act → World → Prop), I k W → xs[k]? = some x → (∀ y W', KeepsN w.heap.size W W' → I k W' → Ay x y W' → K { tmps := up x y a.tmps, defers := [] } W') →
      assign.wpIn (F.inRound l) (n - 1 - 1) P (Exit.then K (fun _ _ _ => False)) { tmps := (ps.zip (encs x)).foldl (fun t (p, v) => t.setIfInBounds p v) a.tmps, defers := [] } W)
    (hbody : ∀ (l k : Nat) (x : α) (y : β) (W : World), w.heap.size ≤ l → (∃ r, W.heap[l]? = some (.loop r)) → I k W → Ay x y W → xs[k]? = some x → body.wpIn (F.inRound l) (n - 1 - 1) P (toPostN w.heap.size k I Ix W) { tmps := up x y a.tmps, defers := [] } W)
    (hdone : ∀ (D : Nat) (W : World), w.heap.size ≤ D → I xs.length W → W.heap[D]? = some (.deferred (some [])) → Q .normal { a with defers := { target := .collected D, args := #[] } :: a.defers } W)
    (hstop : ∀ (D : Nat) (c : Code) (W : World), w.heap.size ≤ D → Ix c W → W.heap[D]? = some (.deferred (some [])) → c.wpIn F n P Q { a with defers := { target := .collected D, args := #[] } :: a.defers } W) :
    (Code.rangeFunc g ps assign body).wpIn F n P Q a w :=
  wpIn_givesN hro h1 hg hFg eg hseq hps I Ix hI hIx hF h0 (fun x a' W => ∃ y, a' = { tmps := up x y a.tmps, defers := [] } ∧ Ay x y W)
    (fun x a' _ A B row h hg' hr => by obtain ⟨y, h1, h2⟩ := h; exact ⟨y, h1, hAy x y () A B row h2 hg' hr⟩)
    (fun l k x W K hi hx hK => hassign l k x W K hi hx fun y W' h1 h2 h3 => hK _ W' h1 h2 ⟨y, rfl, h3⟩)
    (fun l k x a' W hl hr hi hax hx => by obtain ⟨y, rfl, h2⟩ := hax; exact hbody l k x y W hl hr hi h2 hx) hdone hstop

theorem wpIn_givesU_in {F : Fence} {n : Nat} {P : Program} {α β : Type} {g : Operand} {ps : Array Tmp} {assign body : Code} {Q : Exit → Act → World → Prop} {a : Act} {w : World}
    {l0 : Nat} {r0 : Loop} (hro : F.round = some l0) (hl0 : w.heap[l0]? = some (.loop r0)) (h1 : 1 ≤ n) {gf : Nat} {lb : Array Value} (hg : a.eval g = .func (.func gf) #[] lb) (hFg : F.fn gf) (eg : ∀ args w, (callFunc gf args).run P w = .ok (.enter gf args) w)
    {encs : α → Array Value} {xs : List α} {Fx : Nat → World → Prop} (hseq : GivesN F (n - 1) P gf lb encs xs Fx) (hps : ∀ x, (encs x).size = ps.size)
    (I : Nat → World → Prop) (Ix : Code → World → Prop) (hI : OwnN w.heap.size I) (hIx : OwnN w.heap.size Ix) (hF : ∀ k W, I k W → Fx k W) (h0 : I 0 w) (up : α → β → Array Value → Array Value) (Ay : α → β → World → Prop) (hAy : ∀ x y, OwnN w.heap.size (fun (_ : Unit) W => Ay x y W))
    (hassign : ∀ (l k : Nat) (x : α) (W : World) (K : Act → World → Prop), I k W → xs[k]? = some x → (∀ y W', KeepsN w.heap.size W W' → I k W' → Ay x y W' → K { tmps := up x y a.tmps, defers := [] } W') →
      assign.wpIn (F.inRound l) (n - 1 - 1) P (Exit.then K (fun _ _ _ => False)) { tmps := (ps.zip (encs x)).foldl (fun t (p, v) => t.setIfInBounds p v) a.tmps, defers := [] } W)
    (hbody : ∀ (l k : Nat) (x : α) (y : β) (W : World), w.heap.size ≤ l → (∃ r, W.heap[l]? = some (.loop r)) → I k W → Ay x y W → xs[k]? = some x → body.wpIn (F.inRound l) (n - 1 - 1) P (toPostN w.heap.size k I Ix W) { tmps := up x y a.tmps, defers := [] } W)
    (hdone : ∀ (W : World), I xs.length W → Q .normal a W)
    (hstop : ∀ (c : Code) (W : World), Ix c W → c.wpIn F n P Q a W) :
    (Code.rangeFunc g ps assign body).wpIn F n P Q a w :=
  wpIn_givesN_in hro hl0 h1 hg hFg eg hseq hps I Ix hI hIx hF h0 (fun x a' W => ∃ y, a' = { tmps := up x y a.tmps, defers := [] } ∧ Ay x y W)
    (fun x a' _ A B row h hg' hr => by obtain ⟨y, h1, h2⟩ := h; exact ⟨y, h1, hAy x y () A B row h2 hg' hr⟩)
    (fun l k x W K hi hx hK => hassign l k x W K hi hx fun y W' h1 h2 h3 => hK _ W' h1 h2 ⟨y, rfl, h3⟩)
    (fun l k x a' W hl hr hi hax hx => by obtain ⟨y, rfl, h2⟩ := hax; exact hbody l k x y W hl hr hi h2 hx) hdone hstop

theorem roundIn_any {m m' l2 : Nat} {P : Program} {l : Nat} {f : FuncId} {tmps : Array Value} {assign body : Code} {w : World} {R : Ending → World → Prop} (h : RoundIn Fence.wide m P l f tmps assign body w R) : RoundIn (Fence.wide.inRound l2) m' P l f tmps assign body w R :=
  ⟨h.1, fun c cs _ => h.2 c cs (room_wide _)⟩
end Go.Proofs.Ytmnafocmbcgdiab
