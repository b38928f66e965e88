import Derived.Test.YtpdnnikkaojnkaaGreatYKI
import Derived.RangeFuncGives
import Derived.RangeFuncSeq
import Derived.Sort.MapsRangeIn
import Derived.OwnWalkIn
import Derived.TacticsInMore
import Derived.RegionIn
import Derived.LoopNIn
import Derived.LoopIn
namespace Go.Proofs.YtpdnnikkaojnkaaGreat.Rt
open Go.Proofs.YtpdnnikkaojnkaaGreat Go.ChangeShapes Go.WideShapes Go.ChangeAt Go.RowKit Go.Shelf Go.Maps Tri N
set_option maxHeartbeats 4000000
set_option maxRecDepth 100000
structure KeepsC (W W' : World) : Prop where
 size : W.heap.size <= W'.heap.size
 same : ∀ (k : Nat) (o : Obj), W.heap[k]? = some o -> o.isCells = false -> W'.heap[k]? = some o
theorem KeepsC.refl (W : World) : KeepsC W W := ⟨nL, fun _ _ h _ => h⟩
theorem KeepsC.of_below {W W' : World} (h : Below W.heap.size W W') : KeepsC W W' := ⟨h.size, fun k _ hk _ => (h.block k (gsl hk)).trans hk⟩
theorem KeepsC.walks {W W' : World} (h : KeepsC W W') : KeepsWalks W W' := ⟨h.size, fun k o hk ho => h.same k o hk (by cases o <;> simp_all [Obj.isWalk, Obj.isCells])⟩
def OwnC {β : Type} (B : Nat) (I : β -> World -> Prop) : Prop :=
 ∀ s W W' row, I s W -> W.grownBy W' row -> (∀ r, row = some r -> B <= r /\ ∃ o : Obj, W.heap[r]? = some o /\ o.isCells = false) -> I s W'
theorem OwnC.put {β : Type} {B : Nat} {I : β -> World -> Prop} (h : OwnC B I) {s : β} {W : World} {l : Nat} {o : Obj} (o' : Obj) (hs : I s W) (hB : B <= l) (hl : W.heap[l]? = some o) (ho : o.isCells = false) : I s (W.putObj l o') :=
 h s W _ (some l) hs (grownBy_putObj' W l o') (fun r e => by cases e; exact ⟨hB, o, hl, ho⟩)
theorem OwnC.alloc {β : Type} {B : Nat} {I : β -> World -> Prop} (h : OwnC B I) {s : β} {W : World} (o : Obj) (hs : I s W) : I s (W.alloc o) :=
 h s W _ none hs (World.grownBy_alloc W o none) (fun r e => by cases e)
theorem wpIn_seq {F : Fence} {n : Nat} {P : Program} {α β : Type} {g : Operand} {ps : Array Tmp} {assign body : Code} {Q : Exit -> Act -> World -> Prop} {a : Act} {w : World}
  (hro : F.round = none) (h1 : 1 <= n) {gf : Nat} {lb : Array Value} (hg : a.eval g = .func (.func gf) #[] lb) (hFg : F.fn gf) (eg : ∀ args w, (callFunc gf args).run P w = .ok (.enter gf args) w)
  {enc : α -> Value} {S : List α -> Prop} {N : Nat} (hseq : SeqGives F (n - 1) P gf lb enc S N w) (hps : ps.size = 1)
  (I : List α -> World -> Prop) (hI : OwnC w.heap.size I) (h0 : I [] w) (up : α -> β -> Array Value -> Array Value) (Ay : α -> β -> World -> Prop) (hAy : ∀ x y, OwnC w.heap.size (fun (_ : Unit) W => Ay x y W))
  (hassign : ∀ (l : Nat) (pre : List α) (x : α) (W : World) (K : Act -> World -> Prop), I pre W -> (∀ y W', KeepsC W W' -> I pre W' -> Ay x y W' -> K { tmps := up x y a.tmps, defers := [] } W') ->
   assign.wpIn (F.inRound l) (n - 1 - 1) P (Exit.then K (fun _ _ _ => False)) { tmps := (ps.zip #[enc x]).foldl (fun t (p, v) => t.setIfInBounds p v) a.tmps, defers := [] } W)
  (hbody : ∀ (l : Nat) (pre : List α) (x : α) (y : β) (W : World), w.heap.size <= l -> I pre W -> Ay x y W -> pre.length < N -> body.wpIn (F.inRound l) (n - 1 - 1) P (fun e _ W' => e = .normal /\ KeepsC W W' /\ I (pre ++ [x]) W') { tmps := up x y a.tmps, defers := [] } W)
  (hdone : ∀ (D : Nat) (W : World) (xs : List α), w.heap.size <= D -> S xs -> I xs W -> W.heap[D]? = some (.deferred (some [])) -> Q .normal { a with defers := { target := .collected D, args := #[] } :: a.defers } W) :
  (Code.rangeFunc g ps assign body).wpIn F n P Q a w := by
 refine wpIn_rangeFunc fun fn hfn => ?_
 rw [hro]
 let R : LoopState -> Option Code -> Loop := fun st pe => { state := st, pending := pe, fn, tmps := a.tmps, params := ps, assign, body, defers := w.heap.size }
 obtain ⟨W1, hW1⟩ : ∃ W1, (w.alloc (.deferred (some []))).alloc (.loop (R .ready none)) = W1 := ⟨_, rfl⟩
 have hs1 : W1.heap.size = w.heap.size + 2 := by rw [<- hW1]; simp
 have hb1 : Below w.heap.size w W1 := by rw [<- hW1]; exact (bR.alloc nL _).alloc (by simp) _
 have hl1 : W1.heap[w.heap.size + 1]? = some (.loop (R .ready none)) := by
  have := World.alloc_heap_new (w.alloc (.deferred (some []))) (.loop (R .ready none))
  rw [World.size_alloc] at this
  rw [<- hW1]; exact this
 have hd1 : W1.heap[w.heap.size]? = some (.deferred (some [])) := by
  rw [<- hW1]; exact (Below.heap_alloc _ _ _ (by simp)).trans (World.alloc_heap_new w _)
 have hkeep : ∀ {A B : World} {row : Option Nat} {k : Nat} {o : Obj}, A.grownBy B row -> (∀ r, row = some r -> W1.heap.size <= r /\ ∃ o : Obj, A.heap[r]? = some o /\ o.isWalk = true) -> k < W1.heap.size -> A.heap[k]? = some o -> B.heap[k]? = some o :=
  fun hg' hr hk ho => (hg'.block _ (gsl ho) (fun e => by have := (hr _ e.symm).1; omega)).trans ho
 have walkC : ∀ o : Obj, o.isWalk = true -> o.isCells = false := fun o h => by cases o <;> simp_all [Obj.isWalk, Obj.isCells]
 refine ⟨w.heap.size + 1, [{ target := .collected w.heap.size, args := #[] }], W1, { target := .fn (.func gf) lb, args := #[.func (.yield (w.heap.size + 1)) #[] #[]] }, W1, gf, #[.func (.yield (w.heap.size + 1)) #[] #[]] ++ lb, W1, ?_, ?_, ?_, ?_, fun _ => h1, ?_⟩
 ·rw [<- hW1]; exact run_enterLoop_outer _ _ _ _ _
 ·simp only [resolve, hg]; simp [go_sem]
 ·intro f' hf'; simp [Target.leads] at hf'; subst hf'; exact hFg
 ·simp [invoke, go_sem, eg]
 ·refine (hseq (w.heap.size + 1) (fun k W => I k W /\ W.heap[w.heap.size + 1]? = some (.loop (R .ready none)) /\ W.heap[w.heap.size]? = some (.deferred (some []))) W1 hb1 ?_ ?_ ⟨?_, hl1, hd1⟩).mono ?_
  ·rintro k A B row ⟨i1, i2, i3⟩ hg' hr
   exact ⟨hI k A B row i1 hg' (fun r e => ⟨by have := (hr r e).1; omega, by obtain ⟨o, ho, hw⟩ := (hr r e).2; exact ⟨o, ho, walkC o hw⟩⟩), hkeep hg' hr (by omega) i2, hkeep hg' hr (by omega) i3⟩
  ·rintro pre x V ⟨i1, i2, i3⟩ hlen
   refine ⟨fn, _, assign, body, run_yield (P := P) (args := #[enc x]) i2 (by simp [R, hps]), roundIn_of_wpIn hfn (hassign _ pre x V _ i1 fun y W ka ia ax => ?_)⟩
   replace i1 := ia
   replace i2 := ka.same _ _ i2 rfl
   replace i3 := ka.same _ _ i3 rfl
   refine ⟨_, run_beginRound i2 rfl, ?_⟩
   have hlt := (gsl i2)
   obtain ⟨Wb, hWb⟩ : ∃ Wb, Wb = W.putObj (w.heap.size + 1) (.loop { R .ready none with state := .busy }) := ⟨_, rfl⟩
   have b2 : Wb.heap[w.heap.size + 1]? = some (.loop { R .ready none with state := .busy }) := by rw [hWb]; exact World.putObj_heap_same hlt
   have b3 : Wb.heap[w.heap.size]? = some (.deferred (some [])) := by rw [hWb]; exact (World.putObj_heap_other (by omega)).trans i3
   have b1 : I pre Wb := by rw [hWb]; exact hI.put _ i1 (by omega) i2 rfl
   have bx : Ay x y Wb := by rw [hWb]; exact (hAy x y).put (s := ()) _ ax (by omega) i2 rfl
   have kb : KeepsWalks V Wb := ka.walks.trans (by rw [hWb]; exact KeepsWalks.putObj _ i2 rfl)
   rw [<- hWb]
   refine wpIn_mono (hbody _ pre x y Wb (by omega) b1 bx hlen) ?_
   rintro e a3 W3 ⟨rfl, k1, k2⟩
   have c2 := k1.same _ _ b2 rfl
   have c3 := k1.same _ _ b3 rfl
   exact ⟨_, _, run_endRound (P := P) none c2, rfl, ⟨hI.put _ k2 (by omega) c2 rfl, World.putObj_heap_same (gsl c2), (World.putObj_heap_other (by omega)).trans c3⟩, (kb.trans k1.walks).trans (KeepsWalks.putObj _ c2 rfl)⟩
  ·rw [<- hW1]; exact hI.alloc _ (hI.alloc _ h0)
  ·rintro e W2 ⟨⟨v, rfl⟩, xs, hS, i1, i2, i3⟩
   exact ⟨none, _, run_endLoop (P := P) i2 (by simp [R]), hdone _ _ xs nL hS (hI.put _ i1 (by omega) i2 rfl) ((World.putObj_heap_other (by omega)).trans i3)⟩
structure MetG {κ ε : Type} (G : Sg κ ε) (f : κ -> Option ε) (D : DataW Unit) (left : Lit -> Bool) (L : List κ) : Prop where
 nd : L.Nodup
 mem : ∀ k ∈ L, G.kOk k /\ (f k).isSome = true /\ left (G.kL k) = false
 all : ∀ k, G.kOk k -> (f k).isSome = true -> left (G.kL k) = false -> k ∈ L
 has : ∀ kl, left kl = true -> Maps.has D kl = true
theorem MetG.start {κ ε : Type} {G : Sg κ ε} {f : κ -> Option ε} {D : DataW Unit} (hD : Says G D f) : MetG G f D (Maps.has D) [] :=
 ⟨List.nodup_nil, fun p hp => absurd hp (by simp), fun k hk hf h => absurd h (by rw [(hD k hk).1, hf]; simp), fun _ h => h⟩
theorem MetG.key {κ ε : Type} {G : Sg κ ε} {f : κ -> Option ε} {D : DataW Unit} {left : Lit -> Bool} {L : List κ} (h : MetG G f D left L) (hD : Says G D f) (hC : Cl G D) {x : Value} {kl : Lit} (hk : keyOf Tryz.prog G.kT x = some kl) (hl : left kl = true) : ∃ k, G.kOk k /\ x = G.kV k /\ kl = G.kL k /\ (f k).isSome = true := by
 obtain ⟨k, h1, h2⟩ := hC kl (h.has kl hl)
 have h3 := G.key k h1
 rw [<- h2] at h3
 refine ⟨k, h1, G.law.inj hk h3, h2, ?_⟩
 rw [<- (hD k h1).1, <- h2]; exact h.has kl hl
theorem MetG.step {κ ε : Type} {G : Sg κ ε} {f : κ -> Option ε} {D : DataW Unit} {left : Lit -> Bool} {L : List κ} (h : MetG G f D left L) {k : κ} (hk : G.kOk k) (hf : (f k).isSome = true) (hl : left (G.kL k) = true) : MetG G f D (fun z => left z && !z.sameKey (G.kL k)) (L ++ [k]) := by
 have hself : (G.kL k).sameKey (G.kL k) = true := WideAt.sameKey_self (G.law.key (G.key k hk))
 refine ⟨?_, ?_, ?_, ?_⟩
 ·rw [List.nodup_append]
  refine ⟨h.nd, by simp, fun a ha b hb e => ?_⟩
  rw [List.mem_singleton] at hb
  have := (h.mem a ha).2.2
  rw [e, hb, hl] at this
  cases this
 ·intro q hq
  rcases List.mem_append.1 hq with hq | hq
  ·obtain ⟨h1, h2, h3⟩ := h.mem q hq
   exact ⟨h1, h2, by rw [h3]; rfl⟩
  ·rw [List.mem_singleton] at hq
   subst hq
   exact ⟨hk, hf, by rw [hself]; simp⟩
 ·intro q hq hfq hlq
  simp only [Bool.and_eq_false_iff, Bool.not_eq_false'] at hlq
  rcases hlq with hlq | hlq
  ·exact List.mem_append_left _ (h.all q hq hfq hlq)
  ·have := G.linj q k hq hk (WideAt.sameKey_eq hlq)
   subst this
   simp
 ·intro kl hkl
  simp only [Bool.and_eq_true] at hkl
  exact h.has kl hkl.1
end Go.Proofs.YtpdnnikkaojnkaaGreat.Rt
