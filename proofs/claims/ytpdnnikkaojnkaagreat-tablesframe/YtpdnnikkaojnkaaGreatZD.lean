import Derived.Test.YtpdnnikkaojnkaaGreatZB
import Derived.Laws.AppendOwn
import Derived.Great.BuildSlice
import Derived.Test.YtpdnnikkaojnkaaGreatZA
import Derived.OrdersIn
import Derived.TacticsIn
import Derived.Test.YtpdnnikkaojnkaaGreatZC
namespace Go.Proofs.YtpdnnikkaojnkaaGreat.Rt
open Go.Proofs.YtpdnnikkaojnkaaGreat Go.RowKit Go.Shelf
def Mine (o : Obj) : Prop := o.isCells = false \/ (∃ cs, o = .cells cs 137) \/ ∃ cs, o = .cells cs 163
def OwnN {β : Type} (B : Nat) (I : β -> World -> Prop) : Prop :=
 ∀ s W W' row, I s W -> W.grownBy W' row -> (∀ r, row = some r -> B <= r /\ ∃ o : Obj, W.heap[r]? = some o /\ Mine o) -> I s W'
structure KeepsN (B : Nat) (W W' : World) : Prop where
 size : W.heap.size <= W'.heap.size
 same : ∀ k o, B <= k -> W.heap[k]? = some o -> Mine o -> W'.heap[k]? = some o
theorem KeepsN.refl (B : Nat) (W : World) : KeepsN B W W := ⟨nL, fun _ _ _ h _ => h⟩
theorem KeepsN.trans {B : Nat} {X Y Z : World} (h : KeepsN B X Y) (k : KeepsN B Y Z) : KeepsN B X Z := ⟨Nat.le_trans h.size k.size, fun _ _ hB hi ho => k.same _ _ hB (h.same _ _ hB hi ho) ho⟩
theorem KeepsN.mono {B C : Nat} {W W' : World} (h : KeepsN B W W') (hB : B <= C) : KeepsN C W W' := ⟨h.size, fun k o hk => h.same k o (Nat.le_trans hB hk)⟩
theorem KeepsN.of_below {B : Nat} {W W' : World} (h : Below W.heap.size W W') : KeepsN B W W' := ⟨h.size, fun k _ _ hk _ => (h.block k (gsl hk)).trans hk⟩
theorem KeepsN.of_put {B l : Nat} {W : World} (o : Obj) (h : l < B) : KeepsN B W (W.putObj l o) := ⟨by simp, fun _ _ hk h1 _ => (World.putObj_heap_other (by omega)).trans h1⟩
theorem OwnN.putObj {β : Type} {B : Nat} {I : β -> World -> Prop} (h : OwnN B I) {s : β} {W : World} {l : Nat} {o : Obj} (o' : Obj) (hs : I s W) (hB : B <= l) (hl : W.heap[l]? = some o) (ho : Mine o) : I s (W.putObj l o') :=
 h s W _ (some l) hs (grownBy_putObj' W l o') (fun r e => by cases e; exact ⟨hB, o, hl, ho⟩)
theorem OwnN.alloc {β : Type} {B : Nat} {I : β -> World -> Prop} (h : OwnN B I) {s : β} {W : World} (o : Obj) (hs : I s W) : I s (W.alloc o) :=
 h s W _ none hs (World.grownBy_alloc W o none) (fun r e => by cases e)
theorem OwnN.below {β : Type} {B : Nat} {I : β -> World -> Prop} (h : OwnN B I) {s : β} {W W' : World} (hs : I s W) (hb : Below W.heap.size W W') : I s W' :=
 h s W W' none hs ⟨hb.os, hb.tape, hb.output, hb.size, fun j hj _ => hb.block j hj⟩ (fun r e => by cases e)
def toPostN (B k : Nat) (I : Nat -> World -> Prop) (Ix : Code -> World -> Prop) (W : World) : Exit -> Act -> World -> Prop
 | .normal, _, W' => KeepsN B W W' /\ I (k + 1) W'
 | .ret, _, W' => KeepsN B W W' /\ Ix .ret W'
 | .exit id, _, W' => KeepsN B W W' /\ Ix (.exit id) W'
 | .goto t, _, W' => KeepsN B W W' /\ Ix (.goto t) W'
 | _, _, _ => False
def GivesN {α : Type} (F : Fence) (n : Nat) (P : Program) (g : Nat) (lb : Array Value) (encs : α -> Array Value) (xs : List α) (Fx : Nat -> World -> Prop) : Prop :=
 ∀ (l : Nat) (J : Nat -> World -> Prop) (Z : Unit -> World -> Prop) (W : World), OwnN W.heap.size J -> OwnN W.heap.size Z -> (∀ k W, J k W -> Fx k W) ->
  (∀ k x W1, J k W1 -> xs[k]? = some x -> YieldAt F (n - 1) P l (encs x) W1 fun e W' => KeepsN W.heap.size W1 W' /\ ((e = .returned (.bool true) /\ J (k + 1) W') \/ (e = .returned (.bool false) /\ Z () W'))) ->
  J 0 W -> CallsIn F n P g (#[.func (.yield l) #[] #[]] ++ lb) W fun e W' => (∃ v, e = .returned v) /\ (J xs.length W' \/ Z () W')
theorem mine_loop (r : Loop) : Mine (.loop r) := .inl rfl
theorem wpIn_givesN {F : Fence} {n : Nat} {P : Program} {α : Type} {g : Operand} {ps : Array Tmp} {assign body : Code} {Q : Exit -> Act -> World -> Prop} {a : Act} {w : World}
  (hro : F.round = none) (h1 : 1 <= n) {gf : Nat} {lb : Array Value} (hg : a.eval g = .func (.func gf) #[] lb) (hFg : F.fn gf) (eg : ∀ args w, (callFunc gf args).run P w = .ok (.enter gf args) w)
  {encs : α -> Array Value} {xs : List α} {Fx : Nat -> World -> Prop} (hseq : GivesN F (n - 1) P gf lb encs xs Fx) (hps : ∀ x, (encs x).size = ps.size)
  (I : Nat -> World -> Prop) (Ix : Code -> World -> Prop) (hI : OwnN w.heap.size I) (hIx : OwnN w.heap.size Ix) (hF : ∀ k W, I k W -> Fx k W) (h0 : I 0 w) (Ax : α -> Act -> World -> Prop) (hAx : ∀ x a', OwnN w.heap.size (fun (_ : Unit) W => Ax x a' W))
  (hassign : ∀ (l k : Nat) (x : α) (W : World) (K : Act -> World -> Prop), I k W -> xs[k]? = some x -> (∀ a' W', KeepsN w.heap.size W W' -> I k W' -> Ax x a' W' -> K a' W') ->
   assign.wpIn (F.inRound l) (n - 1 - 1) P (Exit.then K (fun _ _ _ => False)) { tmps := (ps.zip (encs x)).foldl (fun t (p, v) => t.setIfInBounds p v) a.tmps, defers := [] } W)
  (hbody : ∀ (l k : Nat) (x : α) (a' : Act) (W : World), w.heap.size <= l -> (∃ r, W.heap[l]? = some (.loop r)) -> I k W -> Ax x a' W -> xs[k]? = some x -> body.wpIn (F.inRound l) (n - 1 - 1) P (toPostN w.heap.size k I Ix W) a' W)
  (hdone : ∀ (D : Nat) (W : World), w.heap.size <= D -> I xs.length W -> W.heap[D]? = some (.deferred (some [])) -> Q .normal { a with defers := { target := .collected D, args := #[] } :: a.defers } W)
  (hstop : ∀ (D : Nat) (c : Code) (W : World), w.heap.size <= D -> Ix c W -> W.heap[D]? = some (.deferred (some [])) -> c.wpIn F n P Q { a with defers := { target := .collected D, args := #[] } :: a.defers } W) :
  (Code.rangeFunc g ps assign body).wpIn F n P Q a w := by
 refine wpIn_rangeFunc fun fn hfn => ?_
 rw [hro]
 let R : LoopState -> Option Code -> Loop := fun st pe => { state := st, pending := pe, fn, tmps := a.tmps, params := ps, assign, body, defers := w.heap.size }
 obtain ⟨W1, hW1⟩ : ∃ W1, (w.alloc (.deferred (some []))).alloc (.loop (R .ready none)) = W1 := ⟨_, rfl⟩
 have hs1 : W1.heap.size = w.heap.size + 2 := by rw [<- hW1]; simp
 have hl1 : W1.heap[w.heap.size + 1]? = some (.loop (R .ready none)) := by
  have := World.alloc_heap_new (w.alloc (.deferred (some []))) (.loop (R .ready none))
  rw [World.size_alloc] at this
  rw [<- hW1]; exact this
 have hd1 : W1.heap[w.heap.size]? = some (.deferred (some [])) := by
  rw [<- hW1]; exact (Below.heap_alloc _ _ _ (by simp)).trans (World.alloc_heap_new w _)
 have hkeep : ∀ {A B : World} {row : Option Nat} {k : Nat} {o : Obj}, A.grownBy B row -> (∀ r, row = some r -> W1.heap.size <= r /\ ∃ o : Obj, A.heap[r]? = some o /\ Mine o) -> k < W1.heap.size -> A.heap[k]? = some o -> B.heap[k]? = some o :=
  fun hg' hr hk ho => (hg'.block _ (gsl ho) (fun e => by have := (hr _ e.symm).1; omega)).trans ho
 have hrow : ∀ {A : World} {row : Option Nat}, (∀ r, row = some r -> W1.heap.size <= r /\ ∃ o : Obj, A.heap[r]? = some o /\ Mine o) -> ∀ r, row = some r -> w.heap.size <= r /\ ∃ o : Obj, A.heap[r]? = some o /\ Mine o :=
  fun hr r e => ⟨by have := (hr r e).1; omega, (hr r e).2⟩
 refine ⟨w.heap.size + 1, [{ target := .collected w.heap.size, args := #[] }], W1, { target := .fn (.func gf) lb, args := #[.func (.yield (w.heap.size + 1)) #[] #[]] }, W1, gf, #[.func (.yield (w.heap.size + 1)) #[] #[]] ++ lb, W1, ?_, ?_, ?_, ?_, fun _ => h1, ?_⟩
 ·rw [<- hW1]; exact run_enterLoop_outer _ _ _ _ _
 ·simp only [resolve, hg]; simp [go_sem]
 ·intro f' hf'; simp [Target.leads] at hf'; subst hf'; exact hFg
 ·simp [invoke, go_sem, eg]
 ·refine (hseq (w.heap.size + 1) (fun k W => I k W /\ W.heap[w.heap.size + 1]? = some (.loop (R .ready none)) /\ W.heap[w.heap.size]? = some (.deferred (some [])))
   (fun _ W => ∃ c, Ix c W /\ W.heap[w.heap.size + 1]? = some (.loop (R .done (some c))) /\ W.heap[w.heap.size]? = some (.deferred (some []))) W1 ?_ ?_ (fun k W h => hF k W h.1) ?_ ⟨?_, hl1, hd1⟩).mono ?_
  ·rintro k A B row ⟨i1, i2, i3⟩ hg' hr
   exact ⟨hI k A B row i1 hg' (hrow hr), hkeep hg' hr (by omega) i2, hkeep hg' hr (by omega) i3⟩
  ·rintro k A B row ⟨c, i1, i2, i3⟩ hg' hr
   exact ⟨c, hIx c A B row i1 hg' (hrow hr), hkeep hg' hr (by omega) i2, hkeep hg' hr (by omega) i3⟩
  ·rintro k x V ⟨i1, i2, i3⟩ hx
   refine ⟨fn, _, assign, body, run_yield (P := P) (args := encs x) i2 (hps x), roundIn_of_wpIn hfn (hassign _ k x V _ i1 hx fun a' W ka ia ax => ?_)⟩
   replace i1 := ia
   replace i2 := ka.same _ _ (by omega) i2 (mine_loop _)
   replace i3 := ka.same _ _ nL i3 (.inl rfl)
   refine ⟨_, run_beginRound i2 rfl, ?_⟩
   have hlt := (gsl i2)
   obtain ⟨Wb, hWb⟩ : ∃ Wb, Wb = W.putObj (w.heap.size + 1) (.loop { R .ready none with state := .busy }) := ⟨_, rfl⟩
   have b2 : Wb.heap[w.heap.size + 1]? = some (.loop { R .ready none with state := .busy }) := by rw [hWb]; exact World.putObj_heap_same hlt
   have b3 : Wb.heap[w.heap.size]? = some (.deferred (some [])) := by rw [hWb]; exact (World.putObj_heap_other (by omega)).trans i3
   have b1 : I k Wb := by rw [hWb]; exact hI.putObj _ i1 (by omega) i2 (mine_loop _)
   have kb : KeepsN W1.heap.size V Wb := by rw [hWb]; exact (ka.mono (by omega)).trans (KeepsN.of_put _ (by omega))
   have bx : Ax x a' Wb := by rw [hWb]; exact (hAx x a').putObj (s := ()) _ ax (by omega) i2 (mine_loop _)
   rw [<- hWb]
   refine wpIn_mono (hbody _ k x a' Wb (by omega) ⟨_, b2⟩ b1 bx hx) ?_
   rintro e a3 W3 hp
   have fin : KeepsN w.heap.size Wb W3 -> W3.heap[w.heap.size + 1]? = some (.loop { R .ready none with state := .busy }) /\ W3.heap[w.heap.size]? = some (.deferred (some [])) /\ ∀ o, KeepsN W1.heap.size V (W3.putObj (w.heap.size + 1) o) := fun k1 =>
    ⟨k1.same _ _ (by omega) b2 (mine_loop _), k1.same _ _ nL b3 (.inl rfl), fun o => (kb.trans (k1.mono (by omega))).trans (KeepsN.of_put _ (by omega))⟩
   cases e with
   | normal =>
    obtain ⟨k1, k2⟩ := hp
    obtain ⟨c2, c3, c4⟩ := fin k1
    exact ⟨_, _, run_endRound (P := P) none c2, c4 _, .inl ⟨rfl, hI.putObj _ k2 (by omega) c2 (mine_loop _), World.putObj_heap_same (gsl c2), (World.putObj_heap_other (by omega)).trans c3⟩⟩
   | ret =>
    obtain ⟨k1, k2⟩ := hp
    obtain ⟨c2, c3, c4⟩ := fin k1
    exact ⟨_, _, run_endRound (P := P) (some .ret) c2, c4 _, .inr ⟨rfl, .ret, hIx.putObj _ k2 (by omega) c2 (mine_loop _), World.putObj_heap_same (gsl c2), (World.putObj_heap_other (by omega)).trans c3⟩⟩
   | exit id =>
    obtain ⟨k1, k2⟩ := hp
    obtain ⟨c2, c3, c4⟩ := fin k1
    exact ⟨_, _, run_endRound (P := P) (some (.exit id)) c2, c4 _, .inr ⟨rfl, .exit id, hIx.putObj _ k2 (by omega) c2 (mine_loop _), World.putObj_heap_same (gsl c2), (World.putObj_heap_other (by omega)).trans c3⟩⟩
   | goto t =>
    obtain ⟨k1, k2⟩ := hp
    obtain ⟨c2, c3, c4⟩ := fin k1
    exact ⟨_, _, run_endRound (P := P) (some (.goto t)) c2, c4 _, .inr ⟨rfl, .goto t, hIx.putObj _ k2 (by omega) c2 (mine_loop _), World.putObj_heap_same (gsl c2), (World.putObj_heap_other (by omega)).trans c3⟩⟩
   | panic ch => exact hp.elim
   | outgrown => exact hp.elim
  ·rw [<- hW1]; exact hI.alloc _ (hI.alloc _ h0)
  ·rintro e W2 ⟨⟨v, rfl⟩, (⟨i1, i2, i3⟩ | ⟨c, i1, i2, i3⟩)⟩
   ·exact ⟨none, _, run_endLoop (P := P) i2 (by simp [R]), hdone _ _ nL (hI.putObj _ i1 (by omega) i2 (mine_loop _)) ((World.putObj_heap_other (by omega)).trans i3)⟩
   ·exact ⟨some c, _, run_endLoop (P := P) i2 (by simp [R]), hstop _ c _ nL (hIx.putObj _ i1 (by omega) i2 (mine_loop _)) ((World.putObj_heap_other (by omega)).trans i3)⟩
theorem wpIn_givesU {F : Fence} {n : Nat} {P : Program} {α β : Type} {g : Operand} {ps : Array Tmp} {assign body : Code} {Q : Exit -> Act -> World -> Prop} {a : Act} {w : World}
  (hro : F.round = none) (h1 : 1 <= n) {gf : Nat} {lb : Array Value} (hg : a.eval g = .func (.func gf) #[] lb) (hFg : F.fn gf) (eg : ∀ args w, (callFunc gf args).run P w = .ok (.enter gf args) w)
  {encs : α -> Array Value} {xs : List α} {Fx : Nat -> World -> Prop} (hseq : GivesN F (n - 1) P gf lb encs xs Fx) (hps : ∀ x, (encs x).size = ps.size)
  (I : Nat -> World -> Prop) (Ix : Code -> World -> Prop) (hI : OwnN w.heap.size I) (hIx : OwnN w.heap.size Ix) (hF : ∀ k W, I k W -> Fx k W) (h0 : I 0 w) (up : α -> β -> Array Value -> Array Value) (Ay : α -> β -> World -> Prop) (hAy : ∀ x y, OwnN w.heap.size (fun (_ : Unit) W => Ay x y W))
  (hassign : ∀ (l k : Nat) (x : α) (W : World) (K : Act -> World -> Prop), I k W -> xs[k]? = some x -> (∀ y W', KeepsN w.heap.size W W' -> I k W' -> Ay x y W' -> K { tmps := up x y a.tmps, defers := [] } W') ->
   assign.wpIn (F.inRound l) (n - 1 - 1) P (Exit.then K (fun _ _ _ => False)) { tmps := (ps.zip (encs x)).foldl (fun t (p, v) => t.setIfInBounds p v) a.tmps, defers := [] } W)
  (hbody : ∀ (l k : Nat) (x : α) (y : β) (W : World), w.heap.size <= l -> (∃ r, W.heap[l]? = some (.loop r)) -> I k W -> Ay x y W -> xs[k]? = some x -> body.wpIn (F.inRound l) (n - 1 - 1) P (toPostN w.heap.size k I Ix W) { tmps := up x y a.tmps, defers := [] } W)
  (hdone : ∀ (D : Nat) (W : World), w.heap.size <= D -> I xs.length W -> W.heap[D]? = some (.deferred (some [])) -> Q .normal { a with defers := { target := .collected D, args := #[] } :: a.defers } W)
  (hstop : ∀ (D : Nat) (c : Code) (W : World), w.heap.size <= D -> Ix c W -> W.heap[D]? = some (.deferred (some [])) -> c.wpIn F n P Q { a with defers := { target := .collected D, args := #[] } :: a.defers } W) :
  (Code.rangeFunc g ps assign body).wpIn F n P Q a w :=
 wpIn_givesN hro h1 hg hFg eg hseq hps I Ix hI hIx hF h0 (fun x a' W => ∃ y, a' = { tmps := up x y a.tmps, defers := [] } /\ Ay x y W)
  (fun x a' _ A B row h hg' hr => by obtain ⟨y, h1, h2⟩ := h; exact ⟨y, h1, hAy x y () A B row h2 hg' hr⟩)
  (fun l k x W K hi hx hK => hassign l k x W K hi hx fun y W' h1 h2 h3 => hK _ W' h1 h2 ⟨y, rfl, h3⟩)
  (fun l k x a' W hl hr hi hax hx => by obtain ⟨y, rfl, h2⟩ := hax; exact hbody l k x y W hl hr hi h2 hx) hdone hstop
theorem roundIn_any {m m' l2 : Nat} {P : Program} {l : Nat} {f : FuncId} {tmps : Array Value} {assign body : Code} {w : World} {R : Ending -> World -> Prop} (h : RoundIn Fence.wide m P l f tmps assign body w R) : RoundIn (Fence.wide.inRound l2) m' P l f tmps assign body w R :=
 ⟨h.1, fun c cs _ => h.2 c cs (room_wide _)⟩
end Go.Proofs.YtpdnnikkaojnkaaGreat.Rt
namespace Go.Proofs.YtpdnnikkaojnkaaGreat.Rt
open Go.Proofs.YtpdnnikkaojnkaaGreat Go.ChangeShapes Go.WideShapes Go.ChangeAt Go.RowKit Tri N
set_option maxHeartbeats 1000000
set_option maxRecDepth 100000
def kc (k : K) : List Value := [.int .u32 (k.x : Int), .int .i64 (k.n : Int)]
theorem below_grown {w w' : World} (h : Below w.heap.size w w') (row : Option Nat) : w.grownBy w' row := ⟨h.os, h.tape, h.output, h.size, fun k hk _ => h.block k hk⟩
theorem owns_below {w w' : World} {base : Nat} {e : TypeId} {size : Nat} {v : Value} {n : Nat} {xs : List Value} (h : w.ownsRow base e size v n xs) (hb : Below w.heap.size w w') : w'.ownsRow base e size v n xs :=
 h.kept (below_grown hb none) (by cases hv : v.ownBlock <;> simp)
end Go.Proofs.YtpdnnikkaojnkaaGreat.Rt
namespace Go.Proofs.YtpdnnikkaojnkaaGreat.Rt
open Go.Proofs.YtpdnnikkaojnkaaGreat Go.ChangeShapes Go.WideShapes Go.ChangeAt Go.RowKit Go.Shelf Tri N
attribute [local go_sem] Oper.semAt_some
set_option maxHeartbeats 4000000
set_option maxRecDepth 100000
def pre : MT -> List MT
 | .nil => []
 | .node b c k u l r => .node b c k u l r :: (pre l ++ pre r)
def todo (S : List MT) : List MT := S.reverse.flatMap pre
def wt (q : MT) : Nat := 2 * nodes q.tr + 1
def tot (S : List MT) : Nat := (S.map wt).sum
theorem tot_len (S : List MT) : S.length <= tot S := by
 induction S with
 | nil => exact nL
 | cons q S ih => simp only [tot, List.map_cons, List.sum_cons, List.length_cons, wt] at ih ⊢; omega
theorem tot_snoc (S : List MT) (q : MT) : tot (S ++ [q]) = tot S + wt q := by simp [tot]
theorem todo_snoc (S : List MT) (q : MT) : todo (S ++ [q]) = pre q ++ todo S := by simp [todo]
structure BelowAt (X : Nat -> Prop) (m : MT) (B : Nat) (J : Nat -> World -> Prop) (gk : Nat) (v : Value) (wr : World) (S : List MT) (k : Nat) : Prop where
 row : wr.ownsRow B 137 1 v S.length (S.map MT.ptr)
 gh : gk = tot S
 rest : (pre m).drop k = todo S
 le : k <= (pre m).length
 sub : ∀ q ∈ S, ∀ W', Lies W' X m -> Lies W' X q
 inv : J k wr
 size : B <= wr.heap.size
 few : tot S <= 2 * nodes m.tr + 1
theorem idx_ns {n cap g m : Nat} {i : Int} (hi : i = (m : Int)) (hm : m < n) (u : World) : (Instr.indexAt 176 (.slice (some ⟨g, 0, none⟩) n cap) (.int .i64 i)).run Tryz.prog u = .ok (.pointer (some ⟨g, m, none⟩)) u := by
 subst hi
 have hu : Tryz.prog.underlying 176 = some (.slice 137) := by kernel_rfl
 have hsz : (sizeOf 137).run Tryz.prog u = .ok 1 u := by kernel_rfl
 simp [Instr.indexAt, run_underlying hu, asIntOf, go_sem, hsz, Result.andThen]
 omega
theorem cut_ns {n cap g m : Nat} {i : Int} (hi : i = (m : Int)) (hm : m <= n) (hc : n <= cap) (u : World) : (Instr.sliceAt 176 (.slice (some ⟨g, 0, none⟩) n cap) none (some (.int .i64 i)) none).run Tryz.prog u = .ok (.slice (some ⟨g, 0, none⟩) m cap) u := by
 subst hi
 have hu : Tryz.prog.underlying 176 = some (.slice (Tryz.prog.elem 176)) := by kernel_rfl
 have hsz : (sizeOf (Tryz.prog.elem 176)).run Tryz.prog u = .ok 1 u := by kernel_rfl
 rw [run_sliceAt_slice (h := hu), run_slice_h (ht := hu) (h0 := by omega) (h2 := by omega), hsz]
 simp [Result.andThen, sliced, Addr.add]
theorem infoN : (Tryz.prog.info? 137).map (fun i => (i.zero, i.size, i.bytes)) = some (some (.pointer none), 1, 8) := by kernel_rfl
theorem fill_two (rp lp : Option Addr) : Instr.fill (fun i => some (i * 1, 1)) (Array.map (fun x => (Value.pointer none).cells[x % (Value.pointer none).cells.size]!) (Array.range (2 * 1))) [(0, Value.pointer rp), (1, Value.pointer lp)] = some #[Value.pointer rp, Value.pointer lp] := by
 first
 | kernel_rfl
 | simp [Instr.fill, Value.cells, Array.range]
 | (unfold Instr.fill; simp [Value.cells, Array.range])
def FB (v lp rp : Value) (b B : Nat) (i : Nat) (x : Value) (u : World) : Prop :=
 match i with
 | 0 => x = v
 | 1 => x = .pointer (some ⟨b, 0, none⟩)
 | 2 => x = .pointer (some ⟨b, 0, none⟩)
 | 3 => x = .pointer (some ⟨b, 3, none⟩)
 | 4 => x = .pointer (some ⟨b, 4, none⟩)
 | 5 => x = rp
 | 6 => x = .pointer (some ⟨b, 0, none⟩)
 | 7 => x = .pointer (some ⟨b, 0, none⟩)
 | 8 => x = .pointer (some ⟨b, 3, none⟩)
 | 9 => x = .pointer (some ⟨b, 3, none⟩)
 | 10 => x = lp
 | _ => ∃ g, x = .slice (some ⟨g, 0, none⟩) 2 2 /\ B <= g /\ u.heap[g]? = some (.cells #[rp, lp] 137)
theorem FB.keeps (v lp rp : Value) (b B : Nat) : ∀ (i : Nat) (x : Value) (w w' : World), FB v lp rp b B i x w -> Below w.heap.size w w' -> FB v lp rp b B i x w' := fun i x w w' h hb => by
 match i with
 | 0 | 1 | 2 | 3 | 4 | 5 | 6 | 7 | 8 | 9 | 10 => exact h
 | n + 11 => obtain ⟨g, h1, h2, h3⟩ := h; exact ⟨g, h1, h2, below_keeps hb h3 (gsl h3)⟩
theorem below_gives (n : Nat) (hn : 2 <= n) (X : Nat -> Prop) (tbx : Nat) (m : MT) (hm : nodes m.tr <= 10000000000) :
  GivesN Fence.wide n Tryz.prog 97 #[.pointer (some ⟨tbx, 0, none⟩)] (fun q : MT => #[q.ptr]) (pre m) (fun k W => Lies W X m /\ (k = 0 -> W.heap[tbx]? = some (.cells #[m.ptr] 137))) := by
 intro l J Z W hJ hZ hJF hY h0
 obtain ⟨mp, hmp⟩ := ptr_is m
 have hF0 := hJF _ _ h0
 have t0 : W.cell? ⟨tbx, 0, none⟩ = some (.pointer mp) := by rw [<- hmp, cell_of_row _ _ _ _ _ _ (hF0.2 rfl)]; rfl
 obtain ⟨W1, HW1⟩ : ∃ W1, Hid (W1 = W.alloc (.cells #[.pointer mp] 137)) := ⟨_, rfl⟩
 have HREL : Hid (∃ S k, BelowAt X m W.heap.size J (2 * nodes m.tr + 1) (.slice (some ⟨W.heap.size, 0, none⟩) 1 1) W1 S k) := by
  refine ⟨[m], 0, ⟨rfl, .inr ⟨W.heap.size, 1, #[.pointer mp], rfl, nL, ?_, nL, by unfold maxLen; omega, rfl, by rw [<- hmp]; rfl⟩⟩, by simp [tot, wt], by simp [todo], Nat.zero_le _, fun q hq W' h => by simp at hq; subst hq; exact h, ?_, ?_, by simp [tot, wt]⟩
  ·rw [HW1.out]; exact heap_alloc_new W _
  ·rw [HW1.out]; exact hJ.alloc _ h0
  ·rw [HW1.out]; simp
 refine callsIn_of_wp Tryz.func97 rfl trivial ?_ rfl
 refine wpIn_wide.2 ?_
 simp only [Tryz.ntmps97, List.size_toArray, List.length_cons, List.length_nil, Nat.reduceAdd, Nat.reduceSub, Array.replicate_succ, Array.replicate_zero, List.push_toArray, List.append_toArray, List.nil_append, List.cons_append]
 have HJ := hid hJ
 have HZ := hid hZ
 have HJF := hid hJF
 have HY := hid hY
 have HM := hid hm
 clear hJ hZ hJF hY h0 hmp hF0 hm
 obtain ⟨i0, HI0⟩ : ∃ i0, Hid (Tryz.prog.info? 137 = some i0 /\ i0.zero = some (.pointer none) /\ i0.size = 1 /\ i0.bytes = 8) := by
  have h := infoN
  cases hq : Tryz.prog.info? 137 with
  | none => rw [hq] at h; cases h
  | some i => rw [hq] at h; simp at h; exact ⟨i, rfl, h.1, h.2.1, h.2.2⟩
 go_upto_region 1 with fail
 rw [<- HW1.out]
 clear t0
 obtain ⟨N0, HN0⟩ : ∃ N0, Hid (N0 = 2 * nodes m.tr + 1) := ⟨_, rfl⟩
 rw [<- HN0.out] at HREL
 go_loopg [3] N0 (fun gk v wr => ∃ vv, vv = v /\ Hid (∃ S k, BelowAt X m W.heap.size J gk vv wr S k))
 case atStart => exact ⟨_, rfl, HREL⟩
 case round =>
  obtain ⟨vv, hvv, hrel⟩ := hrel
  subst hvv
  obtain ⟨S, k, hS⟩ := hrel.out
  clear hrel HREL
  rcases List.eq_nil_or_concat S with hnil | ⟨S0, q, hcon⟩
  ·subst hnil
   obtain ⟨ao, cap, hv⟩ : ∃ ao cap, vv = .slice ao 0 cap := by
    rcases hS.row.2 with ⟨hv, _⟩ | ⟨g, cap, cur, hv, _⟩
    ·exact ⟨_, _, hv⟩
    ·exact ⟨_, _, hv⟩
   subst hv
   have HJE : Hid (J (pre m).length wr) := by
    have h1 := hS.rest
    have h2 := hS.le
    rw [show todo [] = [] from rfl, List.drop_eq_nil_iff] at h1
    have : k = (pre m).length := by omega
    rw [<- this]; exact hS.inv
   clear hS
   go_wp2_with fail
   go_end0
   exact ⟨⟨_, rfl⟩, .inl HJE.out⟩
  ·rw [List.concat_eq_append] at hcon
   subst hcon
   obtain ⟨g, cap, cur, hv, hg1, hg2, hg3, hg4, hg5, hg6⟩ : ∃ g cap cur, vv = .slice (some ⟨g, 0, none⟩) (S0 ++ [q]).length cap /\ W.heap.size <= g /\ wr.heap[g]? = some (.cells cur 137 (0, 0)) /\ (S0 ++ [q]).length <= cap /\ cap <= maxLen /\ cur.size = cap * 1 /\ cur.toList.take ((S0 ++ [q]).length * 1) = (S0 ++ [q]).map MT.ptr := by
    rcases hS.row.2 with ⟨_, hz⟩ | h
    ·simp at hz
    ·exact h
   obtain ⟨nl, HNL⟩ : ∃ nl, Hid (nl = (S0 ++ [q]).length) := ⟨_, rfl⟩
   obtain ⟨ns, HNS⟩ : ∃ ns, Hid (ns = S0.length) := ⟨_, rfl⟩
   have HL1 : Hid (nl = ns + 1) := by unfold Hid; rw [HNL.out, HNS.out]; simp
   rw [<- HNL.out] at hv hg3 hg6
   subst hv
   have hfew : nl <= 20000000001 := by
    have h1 := tot_len (S0 ++ [q])
    have h2 := hS.few
    have h3 := HM.out
    rw [<- HNL.out] at h1
    omega
   have hb0 : (0 : Int) < (nl : Int) := by have := HL1.out; omega
   have hcq : cur[ns]? = some q.ptr := by
    have h1 := congrArg (fun L => L[ns]?) hg6
    simp only [List.getElem?_take, List.getElem?_map] at h1
    rw [if_pos (by have := HL1.out; omega), HNS.out] at h1
    rw [HNS.out]
    simpa using h1
   have hix : ∀ u : World, (Instr.indexAt 176 (.slice (some ⟨g, 0, none⟩) nl cap) (.int .i64 ((nl : Int) - 1))).run Tryz.prog u = .ok (.pointer (some ⟨g, ns, none⟩)) u := fun u => idx_ns (by have := HL1.out; omega) (by have := HL1.out; omega) u
   have hcut : ∀ u : World, (Instr.sliceAt 176 (.slice (some ⟨g, 0, none⟩) nl cap) none (some (.int .i64 ((nl : Int) - 1))) none).run Tryz.prog u = .ok (.slice (some ⟨g, 0, none⟩) ns cap) u := fun u => cut_ns (by have := HL1.out; omega) (by have := HL1.out; omega) hg3 u
   obtain ⟨qp, hqp⟩ := ptr_is q
   rw [hqp] at hcq
   have hcell : wr.cell? ⟨g, ns, none⟩ = some (.pointer qp) := by rw [cell_of_row _ _ _ _ _ _ hg2]; exact hcq
   have hrow0 : wr.ownsRow W.heap.size 137 1 (.slice (some ⟨g, 0, none⟩) ns cap) S0.length (S0.map MT.ptr) := by
    refine ⟨by simp, .inr ⟨g, cap, cur, by rw [HNS.out], hg1, hg2, by have := HL1.out; have := HNS.out; omega, hg4, hg5, ?_⟩⟩
    have h1 := congrArg (fun L => L.take S0.length) hg6
    simp only [List.take_take, List.map_append] at h1
    rw [List.take_left' (by simp)] at h1
    rw [Nat.mul_one, <- h1]
    congr 1
    have := HL1.out
    have := HNS.out
    omega
   have HROW0 := hid hrow0
   have HQP := hid hqp
   have HS := hid hS
   clear hrow0 hS hg1 hg2 hg3 hg4 hg5 hg6 hcq
   cases q with
   | nil =>
    obtain rfl : qp = none := by simpa [MT.ptr] using hqp.symm
    have HNX : Hid (BelowAt X m W.heap.size J (gk - 1) (.slice (some ⟨g, 0, none⟩) ns cap) wr S0 k) := by
     have h := HS.out
     have ht := tot_snoc S0 .nil
     have hw : wt .nil = 1 := rfl
     refine ⟨HROW0.out, ?_, ?_, h.le, fun q hq => h.sub q (List.mem_append_left _ hq), h.inv, h.size, ?_⟩
     ·have := h.gh; omega
     ·rw [h.rest, todo_snoc]; rfl
     ·have := h.few; omega
    have HPOS : Hid (gk - 1 < gk) := by
     have h1 := HS.out.gh
     have ht := tot_snoc S0 .nil
     have hw : wt .nil = 1 := rfl
     unfold Hid
     omega
    clear hqp HROW0 HS HY HJF HJ HZ
    go_wp2_with fail
    go_roundg (gk - 1)
    case measure => exact HPOS.out
    case rel => exact ⟨_, rfl, S0, k, HNX.out⟩
   | node b c kk u lt rt =>
    obtain rfl : qp = some ⟨b, 0, none⟩ := by simpa [MT.ptr] using hqp.symm
    have HAT : Hid ((pre m)[k]? = some (.node b c kk u lt rt)) := by
     have h1 := congrArg (fun L => L[0]?) HS.out.rest
     rw [todo_snoc] at h1
     unfold Hid
     simpa [pre] using h1
    have hJt := HS.out.inv
    obtain ⟨fn, tmps, assign, body, hy, hR⟩ := HY.out _ _ wr hJt HAT.out
    simp only [MT.ptr] at hy
    clear hqp
    go_upto_region 5 with fail
    refine (wpIn_wide (n := n)).1 ?_
    gi_wp2
    refine ⟨fun _ => by omega, hR.mono ?_⟩
    rintro _ W3 ⟨hK, (⟨rfl, hJ3⟩ | ⟨rfl, hZ3⟩)⟩
    case inr =>
     have HZ3 := hid hZ3
     clear hZ3 hy hR hJt HY HJF hK
     gi_wp2
     go_wp2_with fail
     exact bodyPost_ret (v := .tuple #[]) (by simp [results, Tryz.results97]) rfl ⟨⟨_, rfl⟩, .inr HZ3.out⟩
    have hrow3 : W3.ownsRow W.heap.size 137 1 (.slice (some ⟨g, 0, none⟩) ns cap) S0.length (S0.map MT.ptr) := by
     refine ⟨HROW0.out.1, ?_⟩
     rcases HROW0.out.2 with h | ⟨g', cap', cur', hv, hb', hg', hrest⟩
     ·exact .inl h
     ·exact .inr ⟨g', cap', cur', hv, hb', hK.same _ _ hb' hg' (.inr (.inl ⟨_, rfl⟩)), hrest⟩
    have hF3 := HJF.out _ _ hJ3
    obtain ⟨_, hnode, _, _, _⟩ := HS.out.sub _ (List.mem_append_right _ (List.mem_singleton.2 rfl)) W3 hF3.1
    obtain ⟨lp, hlp⟩ := ptr_is lt
    obtain ⟨rp, hrp⟩ := ptr_is rt
    have hsz3 : W.heap.size <= W3.heap.size := Nat.le_trans HS.out.size hK.size
    have HNODE := hid hnode
    have HROW3 := hid hrow3
    have HJ3 := hid hJ3
    have HLP := hid hlp
    have HRP := hid hrp
    have HSZ3 := hid hsz3
    have HLT3 : Hid (b < W3.heap.size) := (gsl hnode)
    clear hy hR hJt HY HJF hK hJ3 hF3 hnode hrow3 hlp hrp hsz3 HROW0 hcell hix hcut
    gi_wp2
    go_upto_region 6 with fail
    refine wp_region_mono' 12 (fun i => 27 + i) (FB (.slice (some ⟨g, 0, none⟩) ns cap) (.pointer lp) (.pointer rp) b W.heap.size) (by kernel_rfl) (by kernel_rfl) (FB.keeps _ _ _ _ _) ?_ ?_
    ·simp only [List.take_succ_cons, List.take_zero, N.stepsOk]
     refine ⟨?_, ?_, ?_, ?_, ?_, ?_, ?_, ?_, ?_, ?_, ?_, ?_, trivial⟩
     ·intro a u vs hb hold hdep
      exact wp_val (ex_move (.tmp 3) _ rfl (hold 3 (fun j hj => low (by decide)))) ⟨_, rfl, rfl, hb, bR⟩
     ·intro a u vs hb hold hdep
      exact wp_val (ex_move (.tmp 4) _ rfl (hold 4 (fun j hj => low (by decide)))) ⟨_, rfl, rfl, hb, bR⟩
     ·intro a u vs hb hold hdep
      have h0 := hdep ⟨1, .data⟩ (by simp) rfl (by decide)
      exact wp_val (ex_nil ⟨b, 0, none⟩ (.tmp 28) rfl (h0.1.trans h0.2)) ⟨_, rfl, rfl, hb, bR⟩
     ·intro a u vs hb hold hdep
      have h0 := hdep ⟨2, .data⟩ (by simp) rfl (by decide)
      exact wp_val (ex_field _ ⟨b, 0, none⟩ (.tmp 29) 2 _ rfl (h0.1.trans h0.2) (fld_nd u).2.2) ⟨_, rfl, rfl, hb, bR⟩
     ·intro a u vs hb hold hdep
      have h0 := hdep ⟨3, .data⟩ (by simp) rfl (by decide)
      exact wp_val (ex_index _ (.tmp 30) (.const (.int .i64 1)) _ _ _ rfl (h0.1.trans h0.2) rfl (idx_two (g := b) (o := 3) (i := 1) (by omega) u)) ⟨_, rfl, rfl, hb, bR⟩
     ·intro a u vs hb hold hdep
      have h0 := hdep ⟨4, .data⟩ (by simp) rfl (by decide)
      have hr := below_keeps hb HNODE.out HLT3.out
      exact wp_val (ex_load _ ⟨b, 4, none⟩ (.tmp 31) _ rfl (h0.1.trans h0.2) (load_nd (by rw [cell_of_row _ _ _ _ _ _ hr, <- HRP.out]; rfl))) ⟨_, rfl, rfl, hb, bR⟩
     ·intro a u vs hb hold hdep
      exact wp_val (ex_move (.tmp 4) _ rfl (hold 4 (fun j hj => low (by decide)))) ⟨_, rfl, rfl, hb, bR⟩
     ·intro a u vs hb hold hdep
      have h0 := hdep ⟨6, .data⟩ (by simp) rfl (by decide)
      exact wp_val (ex_nil ⟨b, 0, none⟩ (.tmp 33) rfl (h0.1.trans h0.2)) ⟨_, rfl, rfl, hb, bR⟩
     ·intro a u vs hb hold hdep
      have h0 := hdep ⟨7, .data⟩ (by simp) rfl (by decide)
      exact wp_val (ex_field _ ⟨b, 0, none⟩ (.tmp 34) 2 _ rfl (h0.1.trans h0.2) (fld_nd u).2.2) ⟨_, rfl, rfl, hb, bR⟩
     ·intro a u vs hb hold hdep
      have h0 := hdep ⟨8, .data⟩ (by simp) rfl (by decide)
      exact wp_val (ex_index _ (.tmp 35) (.const (.int .i64 0)) _ _ _ rfl (h0.1.trans h0.2) rfl (idx_two (g := b) (o := 3) (i := 0) (by omega) u)) ⟨_, rfl, rfl, hb, bR⟩
     ·intro a u vs hb hold hdep
      have h0 := hdep ⟨9, .data⟩ (by simp) rfl (by decide)
      have hr := below_keeps hb HNODE.out HLT3.out
      exact wp_val (ex_load _ ⟨b, 3, none⟩ (.tmp 36) _ rfl (h0.1.trans h0.2) (load_nd (by rw [cell_of_row _ _ _ _ _ _ hr, <- HLP.out]; rfl))) ⟨_, rfl, rfl, hb, bR⟩
     ·intro a u vs hb hold hdep
      have h5 := hdep ⟨5, .data⟩ (by simp) rfl (by decide)
      have h10 := hdep ⟨10, .data⟩ (by simp) rfl (by decide)
      have e5 : a.eval (.tmp 32) = .pointer rp := h5.1.trans h5.2
      have e10 : a.eval (.tmp 37) = .pointer lp := h10.1.trans h10.2
      have hb' : Below u.heap.size u (u.alloc (.cells #[.pointer rp, .pointer lp] 137)) := bR.alloc nL _
      refine wp_buildSlice 176 137 2 #[(0, .tmp 32), (1, .tmp 37)] rfl #[.pointer rp, .pointer lp] i0 (.pointer none) (by kernel_rfl) HI0.out.1 HI0.out.2.1 (by rw [HI0.out.2.2.1]; decide) (by rw [HI0.out.2.2.1]; decide) ?_ ⟨_, rfl, ⟨_, rfl, Nat.le_trans HSZ3.out hb.size, heap_alloc_new u _⟩, hb.trans (hb'.mono hb.size), hb'⟩
      rw [HI0.out.2.2.1]
      simp only [List.map_toArray, List.map_cons, List.map_nil, e5, e10]
      exact fill_two rp lp
    intro vs W4 hb4 hF
    have e0 : vs 0 = .slice (some ⟨g, 0, none⟩) ns cap := hF 0 (by decide)
    obtain ⟨g4, e11, hg4, r4⟩ := hF 11 (by decide)
    clear hF
    simp only [List.drop_succ_cons, List.drop_zero, puts, List.range, List.range.loop, List.foldr, Nat.reduceAdd, if_true, e0, e11, Act.put, List.setIfInBounds_toArray, List.set_cons_zero, List.set_cons_succ]
    clear e0 e11
    generalize vs 1 = z1
    generalize vs 2 = z2
    generalize vs 3 = z3
    generalize vs 4 = z4
    generalize vs 5 = z5
    generalize vs 6 = z6
    generalize vs 7 = z7
    generalize vs 8 = z8
    generalize vs 9 = z9
    generalize vs 10 = z10
    obtain ⟨hi0, hi1, hi2, hi3⟩ := HI0.out
    have HI := hid hi0
    have hrow4 := owns_below HROW3.out hb4
    have hJ4 := HJ.out.below HJ3.out hb4
    have HROW4 := hid hrow4
    have HJ4 := hid hJ4
    have HB4 : Hid (W.heap.size <= W4.heap.size) := Nat.le_trans HSZ3.out hb4.size
    have R4 := hid r4
    clear hi0 hrow4 hJ4 r4
    go_wp2_with (at_builtin; refine wpList_append_own _ rfl _ _ 176 rfl W.heap.size 137 i0 (.pointer none) 1 8 (by kernel_rfl) HI.out hi1 hi2 hi3 rfl (by decide) _ _ _ rfl HROW4.out ⟨g4, 0, none⟩ 2 2 [.pointer rp, .pointer lp] rfl rfl ?bb1 ?bb2 ?bb3 ?bb4 ?bb5 ?_)
    case bb1 =>
     intro j u hu
     rcases j with _ | _ | j
     ·rw [show (⟨g4, 0, none⟩ : Addr).add 0 = ⟨g4, 0, none⟩ by simp [Addr.add], cell_of_row _ _ _ _ _ _ R4.out]
      exact hu
     ·rw [show (⟨g4, 0, none⟩ : Addr).add (0 + 1) = ⟨g4, 1, none⟩ by simp [Addr.add], cell_of_row _ _ _ _ _ _ R4.out]
      exact hu
     ·simp at hu
    case bb2 => intro u hu; simp at hu; rcases hu with rfl | rfl <;> rfl
    case bb3 => have := HNS.out; have := HL1.out; unfold maxLen; omega
    case bb4 => have := HNS.out; have := HL1.out; omega
    case bb5 => exact HB4.out
    intro v5 W5 hown5 hgrow _
    have HNX : Hid (BelowAt X m W.heap.size J (gk - 1) v5 W5 (S0 ++ [rt] ++ [lt]) (k + 1)) := by
     have h := HS.out
     have ht := tot_snoc S0 (.node b c kk u lt rt)
     have ht1 := tot_snoc S0 rt
     have ht2 := tot_snoc (S0 ++ [rt]) lt
     have hw : wt (.node b c kk u lt rt) = wt lt + wt rt + 1 := by simp [wt, MT.tr, nodes]; omega
     have hk : k < (pre m).length := (List.getElem?_eq_some_iff.1 HAT.out).1
     refine ⟨?_, ?_, ?_, hk, fun q hq W' hW' => ?_, ?_, Nat.le_trans HB4.out hgrow.size, ?_⟩
     ·have e : (S0 ++ [rt] ++ [lt]).map MT.ptr = S0.map MT.ptr ++ [.pointer rp, .pointer lp] := by simp [<- HRP.out, <- HLP.out]
      rw [e]
      simpa using hown5
     ·have := h.gh; omega
     ·rw [<- List.drop_drop, h.rest, todo_snoc, todo_snoc, todo_snoc]; simp [pre]
     ·have hq' : q ∈ S0 \/ q = rt \/ q = lt := by simpa [or_assoc] using hq
      rcases hq' with hq | rfl | rfl
      ·exact h.sub q (List.mem_append_left _ hq) W' hW'
      ·exact (h.sub _ (List.mem_append_right _ (List.mem_singleton.2 rfl)) W' hW').2.2.2.2
      ·exact (h.sub _ (List.mem_append_right _ (List.mem_singleton.2 rfl)) W' hW').2.2.2.1
     ·refine HJ.out _ _ _ _ HJ4.out hgrow fun r e => ?_
      rcases HROW4.out.2 with ⟨hv, _⟩ | ⟨g', cap', cur', hv, hb', hg', _⟩
      ·cases hv
      ·simp at hv
       obtain ⟨rfl, _⟩ := hv
       obtain rfl : g = r := by simpa [Value.ownBlock] using e
       exact ⟨hb', _, hg', .inr (.inl ⟨_, rfl⟩)⟩
     ·have := h.few; omega
    have HPOS : Hid (gk - 1 < gk) := by
     have h1 := HS.out.gh
     have ht := tot_snoc S0 (.node b c kk u lt rt)
     have hw : wt (.node b c kk u lt rt) = wt lt + wt rt + 1 := by simp [wt, MT.tr, nodes]; omega
     unfold Hid
     omega
    clear hown5 hgrow hb4
    go_wp2_with fail
    go_roundg (gk - 1)
    case measure => exact HPOS.out
    case rel => exact ⟨_, rfl, _, _, HNX.out⟩
def inP (p : K) (e : K × Vt) : Bool := decide (p.n <= e.1.n) && hasK p e.1.x
def MT.ent : MT -> Option (K × Vt)
 | .node _ _ k (some v) _ _ => some (k, v)
 | _ => none
theorem pre_ents (m : MT) : (pre m).filterMap MT.ent = ents m.tr := by
 induction m with
 | nil => rfl
 | node b c k u l r il ir =>
  rw [pre, MT.tr, ents]
  cases u with
  | none => rw [List.filterMap_cons_none rfl, List.filterMap_append, il, ir]; rfl
  | some v => simp only [List.filterMap_cons, MT.ent, List.filterMap_append, il, ir]; rfl
def hiT : MT -> K -> MT
 | .nil, _ => .nil
 | .node b c k u l r, p => if k.n < p.n then (if side p.x k.n = 0 then hiT l p else hiT r p) else if hasK p k.x = true then .node b c k u l r else .nil
theorem inP_ins {p : K} {e : K × Vt} (hp : p.Ok) (he : e.1.Ok) : inP p e = true ↔ Ins e.1 p := by
 unfold inP hasK
 simp only [Bool.and_eq_true, decide_eq_true_eq]
 constructor
 ·rintro ⟨h1, h2, h3⟩
  rcases nest he hp h1 with h | h | h
  ·exact h
  ·have := e.1.s_pos; omega
  ·omega
 ·intro h
  have := e.1.s_pos
  have h1 := h.1
  have h2 := h.2
  exact ⟨ins_len he hp h, h1, by omega⟩
theorem filter_none {L : List (K × Vt)} {p : K} (h : ∀ e ∈ L, inP p e ≠ true) : L.filter (inP p) = [] := List.filter_eq_nil_iff.2 h
theorem filter_all {L : List (K × Vt)} {p : K} (h : ∀ e ∈ L, inP p e = true) : L.filter (inP p) = L := List.filter_eq_self.2 h
theorem hiT_ents {lo hi : Nat} {p : K} (hp : p.Ok) : ∀ (m : MT) (_ : WF lo hi m.tr), ents (hiT m p).tr = (ents m.tr).filter (inP p) := by
 intro m
 induction m generalizing lo hi with
 | nil => intro _; rfl
 | node b c k u l r il ir =>
  intro hW
  have hW0 : WF k.x (k.x + k.s) (.node k u l.tr r.tr) := ⟨hW.1, nL, nL, hW.2.2.2⟩
  obtain ⟨ok, _, _, hl, hr, hne⟩ := hW
  have hall := ents_in hW0
  have h2 := h2_le k
  have far : (k.x + k.s <= p.x \/ p.x + p.s <= k.x) -> ∀ e ∈ ents (Tr.node k u l.tr r.tr), inP p e ≠ true := fun h e he hi => by
   have h1 := hall e he
   have h3 := (inP_ins hp h1.1).1 hi
   have h4 := h3.1
   have h5 := h3.2
   have := e.1.s_pos
   omega
  rw [hiT]
  by_cases hk : k.n < p.n
  ·rw [if_pos hk]
   have hown : (own k u).filter (inP p) = [] := by
    refine filter_none fun e he hi => ?_
    rw [mem_own] at he
    unfold inP at hi
    rw [he.1] at hi
    simp at hi
    omega
   rw [MT.tr, ents, List.filter_append, List.filter_append, hown, List.nil_append]
   rcases nest hp ok (by omega) with hin | h | h
   ·have hpk := p.s_pos
    have h32 : k.n < 32 := by have := hp.1; omega
    have sd := side_of ok h32 (a := p.x) hin.1 (by have := hin.2; omega)
    have hlf := halves hp ok hin (fun e => by rw [e] at hk; omega)
    by_cases hs : side p.x k.n = 0
    ·rw [if_pos hs, il hl]
     have : (ents r.tr).filter (inP p) = [] := by
      refine filter_none fun e he hi => ?_
      have h1 := ents_in hr e he
      have h3 := (inP_ins hp h1.1).1 hi
      have h4 := h3.1
      have h5 := h3.2
      have := e.1.s_pos
      rw [hs] at sd
      have hlt : p.x < k.x + k.h := by
       rcases Nat.lt_or_ge p.x (k.x + k.h) with h | h
       ·exact h
       ·rw [if_neg (by omega)] at sd; cases sd
      rcases hlf.2 with h6 | h6 <;> omega
     rw [this, List.append_nil]
    ·rw [if_neg hs, ir hr]
     have : (ents l.tr).filter (inP p) = [] := by
      refine filter_none fun e he hi => ?_
      have h1 := ents_in hl e he
      have h3 := (inP_ins hp h1.1).1 hi
      have h4 := h3.1
      have h5 := h3.2
      have := e.1.s_pos
      have hge : k.x + k.h <= p.x := by
       rcases Nat.lt_or_ge p.x (k.x + k.h) with h | h
       ·rw [if_pos h] at sd; exact absurd sd hs
       ·exact h
      rcases hlf.2 with h6 | h6 <;> omega
     rw [this, List.nil_append]
   ·have f := far (.inr h)
    have fl : (ents l.tr).filter (inP p) = [] := filter_none fun e he => f e (by rw [ents]; simp [he])
    have fr : (ents r.tr).filter (inP p) = [] := filter_none fun e he => f e (by rw [ents]; simp [he])
    rw [fl, fr]
    split
    ·rw [il hl, fl]; rfl
    ·rw [ir hr, fr]; rfl
   ·have f := far (.inl h)
    have fl : (ents l.tr).filter (inP p) = [] := filter_none fun e he => f e (by rw [ents]; simp [he])
    have fr : (ents r.tr).filter (inP p) = [] := filter_none fun e he => f e (by rw [ents]; simp [he])
    rw [fl, fr]
    split
    ·rw [il hl, fl]; rfl
    ·rw [ir hr, fr]; rfl
  ·rw [if_neg hk]
   have hks := k.s_pos
   rcases nest ok hp (by omega) with hin | h | h
   ·have hh : hasK p k.x = true := by
     unfold hasK
     have h1 := hin.1
     have h3 := hin.2
     simp
     omega
    rw [if_pos hh, MT.tr]
    refine (filter_all fun e he => ?_).symm
    have h1 := hall e he
    exact (inP_ins hp h1.1).2 (Ins.trans ⟨h1.2.1, h1.2.2⟩ hin)
   ·have hh : ¬ hasK p k.x = true := by
     unfold hasK
     simp
     omega
    rw [if_neg hh]; exact (filter_none (far (.inl h))).symm
   ·have hh : ¬ hasK p k.x = true := by
     unfold hasK
     simp
     omega
    rw [if_neg hh]; exact (filter_none (far (.inr h))).symm
theorem hiT_lies {p : K} : ∀ (m : MT) {W : World} {X : Nat -> Prop}, Lies W X m -> Lies W X (hiT m p) := by
 intro m
 induction m with
 | nil => intro W X h; exact h
 | node b c k u l r il ir =>
  intro W X h
  rw [hiT]
  split
  ·split
   ·exact il h.2.2.2.1
   ·exact ir h.2.2.2.2
  ·split
   ·exact h
   ·trivial
theorem hiT_nodes {p : K} : ∀ m : MT, nodes (hiT m p).tr <= nodes m.tr := by
 intro m
 induction m with
 | nil => exact nL
 | node b c k u l r il ir =>
  rw [hiT, MT.tr, nodes]
  split
  ·split <;> omega
  ·split
   ·exact nL
   ·exact Nat.zero_le _
theorem highest_any {X : Nat -> Prop} (m : MT) (p : K) (w : World) {lo hi : Nat} (hL : Lies w X m) (hW : WF lo hi m.tr) (hp : p.Ok) :
  Calls Tryz.prog 85 #[m.ptr, pv p] w fun e w' => e = .returned (hiT m p).ptr /\ Below w.heap.size w w' := by
 obtain ⟨wa, hwa⟩ : ∃ wa, wa = w.alloc (.cells #[.int .u32 (p.x : Int), .int .i64 (p.n : Int)] 36) := ⟨_, rfl⟩
 have hb0 : Below w.heap.size w wa := by rw [hwa]; exact bR.alloc nL _
 have r1 : wa.heap[w.heap.size]? = some (.cells #[.int .u32 (p.x : Int), .int .i64 (p.n : Int)] 36) := by rw [hwa]; exact heap_alloc_new w _
 have HS : Hid (wa.heap.size = w.heap.size + 1) := by unfold Hid; rw [hwa]; simp
 have HWA := hid hwa
 have HB0 := hid hb0
 have R1 := hid r1
 have HLA := hid (hL.below hb0)
 have HP := hid hp
 obtain ⟨mp, hmp⟩ := ptr_is m
 have HREL : Hid (∃ q : MT, Value.pointer mp = q.ptr /\ nodes m.tr = nodes q.tr /\ hiT q p = hiT m p /\ (∃ lo hi, WF lo hi q.tr) /\ (∀ W', Lies W' X m -> Lies W' X q) /\ Below wa.heap.size wa wa) :=
  ⟨m, hmp.symm, rfl, rfl, ⟨lo, hi, hW⟩, fun _ h => h, bR⟩
 rw [hmp]
 unfold pv
 clear hwa r1 hb0 hL hW hp hmp
 go_enter Tryz.func85, Tryz.ntmps85
 go_upto_region 1 with fail
 rw [<- HWA.out]
 go_upto_region 2 with fail
 obtain ⟨N0, HN0⟩ : ∃ N0, Hid (N0 = nodes m.tr) := ⟨_, rfl⟩
 rw [<- HN0.out] at HREL
 go_loopg [5] N0 (fun gk v wr => Hid (∃ q : MT, v = q.ptr /\ gk = nodes q.tr /\ hiT q p = hiT m p /\ (∃ lo hi, WF lo hi q.tr) /\ (∀ W', Lies W' X m -> Lies W' X q) /\ Below wa.heap.size wa wr))
 case atStart => exact HREL.out
 case round =>
  obtain ⟨q, rfl, hgk, hq, ⟨lo', hi', hqw⟩, hsub, hb⟩ := hrel.out
  clear hrel HREL
  have HBR := hid hb
  have r2 := below_keeps hb R1.out (by have := HS.out; omega)
  obtain ⟨q0, q1⟩ := Beh.two r2
  cases q with
  | nil =>
   have HRT : Hid ((hiT m p).ptr = .pointer none) := by unfold Hid; rw [<- hq]; rfl
   clear hgk hq hqw hsub hb r2
   simp only [MT.ptr]
   go_upto_region 2 with fail
   refine wp_region_beh (by kernel_rfl) (by kernel_rfl) ?_
   repeat (go_big_quiet_step (fail))
   refine wpQuiet_nil ?_
   rintro _ ⟨t, rfl⟩
   have HB1 : Hid (Below w.heap.size w t.wd) := HB0.out.trans ((HBR.out.trans (t.ok.mono HBR.out.size)).mono HB0.out.size)
   have r3 := below_keeps t.ok (below_keeps HBR.out R1.out (by have := HS.out; omega)) (by have := HBR.out.size; have := HS.out; omega)
   obtain ⟨q0, q1⟩ := Beh.two r3
   clear r3
   go_upto_region 4 with fail
   refine wp_region_beh (by kernel_rfl) (by kernel_rfl) ?_
   repeat (go_big_quiet_step (fail))
   refine wpQuiet_nil ?_
   rintro _ ⟨t2, rfl⟩
   have HB2 : Hid (Below w.heap.size w t2.wd) := HB1.out.trans (t2.ok.mono HB1.out.size)
   clear q0 q1
   go_wp2_with fail
   go_ret
   exact ⟨by rw [HRT.out]; rfl, HB2.out⟩
  | node b c k u l r =>
   obtain ⟨ok, _, _, wl, wr', _⟩ := hqw
   have hls := hsub _ (HLA.out.below hb)
   obtain ⟨_, hrow, _, _, _⟩ := hls
   have hlt := (gsl hrow)
   have n0 : ∀ t : Beh wr, t.wd.cell? ⟨b, 0, none⟩ = some (.int .u32 (k.x : Int)) := fun t => by rw [cell_of_row _ _ _ _ _ _ (below_keeps t.ok hrow hlt)]; rfl
   have n1 : ∀ t : Beh wr, t.wd.cell? ⟨b, 1, none⟩ = some (.int .i64 (k.n : Int)) := fun t => by rw [cell_of_row _ _ _ _ _ _ (below_keeps t.ok hrow hlt)]; rfl
   have HOK := hid ok
   by_cases hk : k.n < p.n
   ·have b1 : (k.n : Int) < (p.n : Int) := by omega
    obtain ⟨ch, hch⟩ : ∃ ch : MT, ch = if side p.x k.n = 0 then l else r := ⟨_, rfl⟩
    have HNX : Hid (∀ wz, Below wa.heap.size wa wz -> ∃ q : MT, ch.ptr = q.ptr /\ nodes ch.tr = nodes q.tr /\ hiT q p = hiT m p /\ (∃ lo hi, WF lo hi q.tr) /\ (∀ W', Lies W' X m -> Lies W' X q) /\ Below wa.heap.size wa wz) := fun wz hz => by
     refine ⟨ch, rfl, rfl, ?_, ?_, fun W' hW' => ?_, hz⟩
     ·rw [<- hq, hiT, if_pos hk, hch]; split <;> rfl
     ·rw [hch]; split
      ·exact ⟨_, _, wl⟩
      ·exact ⟨_, _, wr'⟩
     ·have h := hsub W' hW'
      rw [hch]; split
      ·exact h.2.2.2.1
      ·exact h.2.2.2.2
    have HPOS : Hid (nodes ch.tr < gk) := by
     unfold Hid
     rw [hgk, MT.tr, nodes, hch]
     split <;> omega
    have hs2 := side_lt p.x k.n
    have HROW := hid hrow
    have HCH := hid hch
    clear hgk hq wl wr' hsub hrow hlt ok hk hch hb r2
    simp only [MT.ptr]
    go_upto_region 2 with fail
    refine wp_region_beh (by kernel_rfl) (by kernel_rfl) ?_
    repeat (go_big_quiet_step (fail))
    refine wpQuiet_nil ?_
    rintro _ ⟨t, rfl⟩
    have hrow := below_keeps t.ok HROW.out (gsl HROW.out)
    have r3 := below_keeps t.ok (below_keeps HBR.out R1.out (by have := HS.out; omega)) (by have := HBR.out.size; have := HS.out; omega)
    have x0 : t.wd.cell? ⟨w.heap.size, 0, none⟩ = some (.int .u32 (p.x : Int)) := crw r3 rfl
    have n1 : t.wd.cell? ⟨b, 1, none⟩ = some (.int .i64 (k.n : Int)) := crw hrow rfl
    have HB1 : Hid (Below wa.heap.size wa t.wd) := HBR.out.trans (t.ok.mono HBR.out.size)
    by_cases hs : side p.x k.n = 0
    ·have HCE : Hid (ch.ptr = l.ptr) := by unfold Hid; rw [HCH.out, if_pos hs]
     obtain ⟨cp, hcp⟩ := ptr_is l
     have n3 : t.wd.cell? ⟨b, 3, none⟩ = some (.pointer cp) := by rw [<- hcp, cell_of_row _ _ _ _ _ _ hrow]; rfl
     have HH := fun u => hid (half_any p.x k.n u HOK.out.1)
     rw [show side p.x k.n = 0 from hs] at HH
     have HCP := hid hcp
     clear hs hs2 hrow hcp r3 q0 q1 n0
     go_upto_region 3 with fail
     refine wp_region_still_tail 13 (by kernel_rfl) (by kernel_rfl) ?_
     simp only [List.take_succ_cons, List.take_zero, List.drop_succ_cons, List.drop_zero]
     iterate 8 still_step
     still_call (HH _).out
     iterate 4 still_step
     refine wpStill_nil ?_
     go_wp2_with fail
     go_roundg (nodes ch.tr)
     case measure => exact HPOS.out
     case rel =>
      have h := HNX.out t.wd.drew ⟨HB1.out.os, HB1.out.tape, HB1.out.output, HB1.out.size, HB1.out.block⟩
      rw [HCE.out, HCP.out] at h
      exact h
    ·have HCE : Hid (ch.ptr = r.ptr) := by unfold Hid; rw [HCH.out, if_neg hs]
     obtain ⟨cp, hcp⟩ := ptr_is r
     have n3 : t.wd.cell? ⟨b, 4, none⟩ = some (.pointer cp) := by rw [<- hcp, cell_of_row _ _ _ _ _ _ hrow]; rfl
     have HH := fun u => hid (half_any p.x k.n u HOK.out.1)
     rw [show side p.x k.n = 1 from by omega] at HH
     have HCP := hid hcp
     clear hs hs2 hrow hcp r3 q0 q1 n0
     go_upto_region 3 with fail
     refine wp_region_still_tail 13 (by kernel_rfl) (by kernel_rfl) ?_
     simp only [List.take_succ_cons, List.take_zero, List.drop_succ_cons, List.drop_zero]
     iterate 8 still_step
     still_call (HH _).out
     iterate 4 still_step
     refine wpStill_nil ?_
     go_wp2_with fail
     go_roundg (nodes ch.tr)
     case measure => exact HPOS.out
     case rel =>
      have h := HNX.out t.wd.drew ⟨HB1.out.os, HB1.out.tape, HB1.out.output, HB1.out.size, HB1.out.block⟩
      rw [HCE.out, HCP.out] at h
      exact h
   ·have b1 : ¬ (k.n : Int) < (p.n : Int) := by omega
    have HROW := hid hrow
    have HRT : Hid ((hiT m p).ptr = if hasK p k.x = true then .pointer (some ⟨b, 0, none⟩) else .pointer none) := by
     unfold Hid
     rw [<- hq, hiT, if_neg hk]
     split <;> rfl
    clear hgk hq wl wr' hsub hrow hlt ok hk hb r2
    simp only [MT.ptr]
    go_upto_region 2 with fail
    refine wp_region_beh (by kernel_rfl) (by kernel_rfl) ?_
    repeat (go_big_quiet_step (fail))
    refine wpQuiet_nil ?_
    rintro _ ⟨t, rfl⟩
    have HB1 : Hid (Below w.heap.size w t.wd) := HB0.out.trans ((HBR.out.trans (t.ok.mono HBR.out.size)).mono HB0.out.size)
    have hrow := below_keeps t.ok HROW.out (gsl HROW.out)
    have hlt := (gsl hrow)
    have r3 := below_keeps t.ok (below_keeps HBR.out R1.out (by have := HS.out; omega)) (by have := HBR.out.size; have := HS.out; omega)
    clear q0 q1 n0 n1
    obtain ⟨q0, q1⟩ := Beh.two r3
    have n0 : ∀ s : Beh t.wd, s.wd.cell? ⟨b, 0, none⟩ = some (.int .u32 (k.x : Int)) := fun s => by rw [cell_of_row _ _ _ _ _ _ (below_keeps s.ok hrow hlt)]; rfl
    have HC : ∀ s : Beh t.wd, Hid (Calls Tryz.prog 92 #[pv p, .int .u32 (k.x : Int)] s.wd fun e w'' => e = .returned (.bool (hasK p k.x)) /\ ∃ s' : Beh t.wd, w'' = s'.wd) := fun s => Calls.beh (contains_ok k.x _ HP.out)
    unfold pv at HC
    cases hh : hasK p k.x with
    | true =>
     rw [hh] at HC HRT
     clear hrow hlt r3 hh
     go_upto_region 4 with fail
     refine wp_region_beh (by kernel_rfl) (by kernel_rfl) ?_
     repeat (go_big_quiet_step (first | (go_at_call 92; exact (HC _).out)))
     refine wpQuiet_nil ?_
     rintro _ ⟨t2, rfl⟩
     have HB2 : Hid (Below w.heap.size w t2.wd) := HB1.out.trans (t2.ok.mono HB1.out.size)
     clear q0 q1 n0 HC
     go_wp2_with fail
     go_ret
     exact ⟨by rw [HRT.out]; rfl, HB2.out⟩
    | false =>
     rw [hh] at HC HRT
     clear hrow hlt r3 hh
     go_upto_region 4 with fail
     refine wp_region_beh (by kernel_rfl) (by kernel_rfl) ?_
     repeat (go_big_quiet_step (first | (go_at_call 92; exact (HC _).out)))
     refine wpQuiet_nil ?_
     rintro _ ⟨t2, rfl⟩
     have HB2 : Hid (Below w.heap.size w t2.wd) := HB1.out.trans (t2.ok.mono HB1.out.size)
     clear q0 q1 n0 HC
     go_wp2_with fail
     go_ret
     exact ⟨by rw [HRT.out]; rfl, HB2.out⟩
end Go.Proofs.YtpdnnikkaojnkaaGreat.Rt
namespace Go.Proofs.YtpdnnikkaojnkaaGreat.N
open Go.ChangeShapes Go.WideShapes Go.ChangeAt Go.RowKit
set_option maxHeartbeats 1000000
theorem wpAnyIn_of_seq {Fe : Fence} {m : Nat} {P : Program} {ops : Array Oper} {md : Region.Mode} {Q' : Exit -> Act -> World -> Prop} : ∀ (l : List Oper) (k : Nat) (listed : Array Bool) (a : Act) (w : World), (∀ j, l[j]? = ops[k + j]?) ->
  Region.seqB md ops l.length k listed = true -> wpListIn Fe m P ops Q' l a w -> wpAnyIn Fe m P md ops Q' l.length listed a w
 | [], _, _, _, _, _, hB, h => ⟨by simpa [Region.seqB] using hB, h⟩
 | o :: l, k, listed, a, w, hl, hB, h => by
  have h0 : ops[k]? = some o := by simpa using (hl 0).symm
  simp only [List.length_cons, Region.seqB, Bool.and_eq_true, decide_eq_true_eq] at hB
  refine ⟨fun h1 => (by rw [hB.1] at h1; cases h1), fun i hi => ?_⟩
  rw [hB.1] at hi
  have hik : i = k := by simpa using hi
  subst hik
  have hw : wpOpIn Fe m P ops Q' i (wpListIn Fe m P ops Q' l) a w := by unfold wpOpIn; simp only [h0]; exact h
  exact wpOpIn_mono (fun a' w' h' => wpAnyIn_of_seq l (i + 1) _ a' w' (fun j => by have := hl (j + 1); simpa [Nat.add_assoc, Nat.add_comm 1 j] using this) hB.2 h') hw
def stepsIn (Fe : Fence) (m : Nat) (P : Program) (Q : Exit -> Act -> World -> Prop) (a0 : Act) (n : Nat) (dst : Nat -> Tmp) (F : Nat -> Value -> World -> Prop) (I : World -> Prop) (R : Nat -> World -> World -> Prop) : Nat -> List Oper -> Prop
 | _, [] => True
 | i, o :: rest => (∀ (a : Act) (w : World) (vs : Nat -> Value), I w -> (∀ s, (∀ j, j < n -> dst j ≠ s) -> a.eval (.tmp s) = a0.eval (.tmp s)) ->
   (∀ e ∈ o.after, Region.binds .any e = true -> e.on < n -> a.eval (.tmp (dst e.on)) = vs e.on /\ F e.on (vs e.on) w) ->
   o.wpIn Fe m P a w (fun a' w' => ∃ v, a' = a.put (some (dst i)) v /\ F i v w' /\ I w' /\ R i w w') Q) /\ stepsIn Fe m P Q a0 n dst F I R (i + 1) rest
theorem stepsIn.at {Fe : Fence} {m : Nat} {P : Program} {Q : Exit -> Act -> World -> Prop} {a0 : Act} {n : Nat} {dst : Nat -> Tmp} {F : Nat -> Value -> World -> Prop} {I : World -> Prop} {R : Nat -> World -> World -> Prop} : ∀ (l : List Oper) (k : Nat), stepsIn Fe m P Q a0 n dst F I R k l -> ∀ (i : Nat) (o : Oper), l[i]? = some o -> ∀ (a : Act) (w : World) (vs : Nat -> Value), I w -> (∀ s, (∀ j, j < n -> dst j ≠ s) -> a.eval (.tmp s) = a0.eval (.tmp s)) ->
   (∀ e ∈ o.after, Region.binds .any e = true -> e.on < n -> a.eval (.tmp (dst e.on)) = vs e.on /\ F e.on (vs e.on) w) ->
   o.wpIn Fe m P a w (fun a' w' => ∃ v, a' = a.put (some (dst (k + i))) v /\ F (k + i) v w' /\ I w' /\ R (k + i) w w') Q
 | [], _, _, i, o, h => by simp at h
 | x :: l, k, hs, 0, o, h => by
  simp only [List.getElem?_cons_zero, Option.some.injEq] at h
  subst h
  exact hs.1
 | x :: l, k, hs, i + 1, o, h => by
  have := stepsIn.at l (k + 1) hs.2 i o (by simpa using h)
  rw [show k + (i + 1) = k + 1 + i by omega]
  exact this
theorem wpIn_val {l m : Nat} {P : Program} {o : Oper} {a : Act} {w w' : World} {K : Act -> World -> Prop} {Q : Exit -> Act -> World -> Prop} {v : Value} (hnd : ∀ c, o.op ≠ .defer c) (hr : (execOp a.eval o).run P w = .ok (.value v) w') (h : K (a.put o.dst v) w') : o.wpIn (Fence.wide.inRound l) m P a w K Q := by
 refine ⟨fun _ _ => trivial, ?_⟩
 rw [Fence.inRound_round, Oper.semAt_some _ _ _ hnd, hr]
 exact h
def monoG (ops : Array Oper) (n : Nat) (dst : Nat -> Tmp) (size : Nat) : Bool :=
 decide (n < ops.size) && Region.sinkB .any ops n && Region.chainB .any ops n && Region.seqB .any ops (ops.size - n) n (canon ops.size n) &&
 (List.range n).all (fun i => decide (dst i < size) && ((ops[i]?).map fun o => decide (o.dst = some (dst i)) && o.after.all fun e => decide (e.on < i)).getD false && (List.range n).all fun j => decide (j = i) || decide (dst j ≠ dst i))
def opAt (Fe : Fence) (m : Nat) (P : Program) (ops : Array Oper) (o : Oper) (a : Act) (w : World) (K : Act -> World -> Prop) (Q : Exit -> Act -> World -> Prop) : Prop :=
 if Region.wanted o (yielded ops a.tmps) then o.wpIn Fe m P a w K Q else (∀ f, o.about P w a.eval = some f -> Fe.fn f) /\ K (a.put o.dst undef) w
theorem opAt_mono {Fe : Fence} {m : Nat} {P : Program} {ops : Array Oper} {o : Oper} {a : Act} {w : World} {K K' : Act -> World -> Prop} {Q : Exit -> Act -> World -> Prop} (h : ∀ a w, K a w -> K' a w) (hh : opAt Fe m P ops o a w K Q) : opAt Fe m P ops o a w K' Q := by
 unfold opAt at *
 split
 ·rename_i hw; rw [if_pos hw] at hh; exact Oper.wpIn_mono h hh
 ·rename_i hw; rw [if_neg hw] at hh; exact ⟨hh.1, h _ _ hh.2⟩
theorem opAt_plain {Fe : Fence} {m : Nat} {P : Program} {ops : Array Oper} {o : Oper} {a : Act} {w : World} {K : Act -> World -> Prop} {Q : Exit -> Act -> World -> Prop} (hg : o.guard = none) (h : o.wpIn Fe m P a w K Q) : opAt Fe m P ops o a w K Q := by
 unfold opAt
 rw [if_pos (by unfold Region.wanted; rw [hg])]
 exact h
theorem yields_at {ops : Array Oper} {a : Act} {j t : Nat} {b : Bool} (hj : (ops[j]?).bind (·.dst) = some t) (he : a.eval (.tmp t) = .bool b) : yielded ops a.tmps j = some b := by
 unfold yielded
 rw [hj]
 have h : a.tmps[t]?.getD undef = .bool b := by simpa [Act.eval] using he
 cases hq : a.tmps[t]? with
 | none => rw [hq] at h; cases h
 | some x => rw [hq] at h; simp at h; subst h; simp [hq]
theorem opAt_go {Fe : Fence} {m : Nat} {P : Program} {ops : Array Oper} {o : Oper} {a : Act} {w : World} {K : Act -> World -> Prop} {Q : Exit -> Act -> World -> Prop} {j t : Nat} {b : Bool} (hg : o.guard = some (j, b)) (hj : (ops[j]?).bind (·.dst) = some t) (he : a.eval (.tmp t) = .bool b) (h : o.wpIn Fe m P a w K Q) : opAt Fe m P ops o a w K Q := by
 unfold opAt
 rw [if_pos (by unfold Region.wanted; rw [hg]; simp [yields_at hj he])]
 exact h
theorem opAt_skip {l m : Nat} {P : Program} {ops : Array Oper} {o : Oper} {a : Act} {w : World} {K : Act -> World -> Prop} {Q : Exit -> Act -> World -> Prop} {j t : Nat} {b : Bool} (hg : o.guard = some (j, b)) (hj : (ops[j]?).bind (·.dst) = some t) (he : a.eval (.tmp t) = .bool (!b)) (h : K (a.put o.dst undef) w) : opAt (Fence.wide.inRound l) m P ops o a w K Q := by
 unfold opAt
 rw [if_neg (by unfold Region.wanted; rw [hg]; simp [yields_at hj he])]
 exact ⟨fun _ _ => trivial, h⟩
theorem wpIn_region_guarded {Fe : Fence} {m : Nat} {P : Program} {id : Nat} {Q : Exit -> Act -> World -> Prop} {a0 : Act} {W : World} {l : List Oper} (n : Nat) (dst : Nat -> Tmp) (F : Nat -> Value -> World -> Prop) (I : World -> Prop) (R : Nat -> World -> World -> Prop) (hm : P.follows .mixedOrders = true) (hB : monoG l.toArray n dst a0.tmps.size = true)
  (hI : I { W with drawn := W.drawn + 1 })
  (hF : ∀ i j v w w', i ≠ j -> F i v w -> I w -> R j w w' -> F i v w')
  (hstep : ∀ i o, i < n -> l[i]? = some o -> ∀ (a : Act) (w : World) (vs : Nat -> Value), I w -> (∀ s, (∀ j, j < n -> dst j ≠ s) -> a.eval (.tmp s) = a0.eval (.tmp s)) ->
   (∀ e ∈ o.after, Region.binds .any e = true -> e.on < n -> a.eval (.tmp (dst e.on)) = vs e.on /\ F e.on (vs e.on) w) ->
   opAt Fe m P l.toArray o a w (fun a' w' => ∃ v, a' = a.put (some (dst i)) v /\ F i v w' /\ I w' /\ R i w w') Q)
  (hend : ∀ (vs : Nat -> Value) (w : World), I w -> (∀ i, i < n -> F i (vs i) w) -> wpListIn Fe m P l.toArray Q (l.drop n) (puts a0 dst vs (fun _ => true) (List.range n)) w) :
  (Code.region id l.toArray true).wpIn Fe m P Q a0 W := by
 simp only [monoG, Bool.and_eq_true, decide_eq_true_eq, List.all_eq_true, List.mem_range] at hB
 obtain ⟨⟨⟨⟨hn, hs⟩, hc⟩, hseq⟩, hall⟩ := hB
 have hinj : ∀ i, i < n -> ∀ j, j < n -> j ≠ i -> dst j ≠ dst i := fun i hi j hj hne => by
  have := (hall i hi).2 j hj
  simp only [Bool.or_eq_true, decide_eq_true_eq] at this
  exact this.resolve_left hne
 have hop : ∀ i o, i < n -> l.toArray[i]? = some o -> (o.dst = some (dst i)) /\ ∀ e ∈ o.after, e.on < i := fun i o hi ho => by
  have := (hall i hi).1.2
  rw [ho] at this
  simp only [Option.map_some, Option.getD_some, Bool.and_eq_true, decide_eq_true_eq, Array.all_eq_true_iff_forall_mem] at this
  exact this
 refine wpIn_region_any hm ?_
 have main : ∀ (f : Nat) (listed : Array Bool) (vs : Nat -> Value) (w : World), (List.range n).countP (fun j => !listed.getD j false) = f -> HeadInv .any l.toArray n listed ->
   I w -> (∀ i, i < n -> listed.getD i false = true -> F i (vs i) w) ->
   wpAnyIn Fe m P .any l.toArray Q (f + (l.toArray.size - n)) listed (puts a0 dst vs (fun i => listed.getD i false) (List.range n)) w := by
  intro f
  induction f with
  | zero =>
   intro listed vs w hcnt inv hb hf
   have hall2 : ∀ i, i < n -> listed.getD i false = true := fun i hi => by
    have := List.countP_eq_zero.1 hcnt i (List.mem_range.2 hi)
    simpa using this
   have hcan : listed = canon l.toArray.size n := by
    apply Array.ext
    ·rw [inv.size]; simp [canon]
    ·intro i h1 h2
     simp only [canon, List.getElem_toArray, List.getElem_map, List.getElem_range]
     by_cases hi : i < n
     ·have := hall2 i hi
      simpa [h1, hi] using this
     ·have := inv.tail i (by omega) (by rw [inv.size] at h1; exact h1)
      simpa [h1, hi] using this
   have he : puts a0 dst vs (fun i => listed.getD i false) (List.range n) = puts a0 dst vs (fun _ => true) (List.range n) := puts_congr (fun i hi => ⟨hall2 i (List.mem_range.1 hi), rfl⟩)
   rw [he, hcan, Nat.zero_add]
   have hdl : (l.drop n).length = l.toArray.size - n := by simp
   have := wpAnyIn_of_seq (Fe := Fe) (m := m) (P := P) (ops := l.toArray) (md := .any) (Q' := Q) (l.drop n) n (canon l.toArray.size n) _ w (fun j => by simp [List.getElem?_drop]) (by rw [hdl]; exact hseq) (hend vs w hb (fun i hi => hf i hi (hall2 i hi)))
   rwa [hdl] at this
  | succ f ih =>
   intro listed vs w hcnt inv hb hf
   obtain ⟨i0, hi0, hu0⟩ : ∃ i, i < n /\ listed.getD i false = false := by
    have hpos : 0 < (List.range n).countP (fun j => !listed.getD j false) := by omega
    obtain ⟨i, hi, hp⟩ := List.countP_pos_iff.1 hpos
    exact ⟨i, List.mem_range.1 hi, by simpa using hp⟩
   have hi0s : i0 < listed.size := by rw [inv.size]; omega
   have hwait := tail_waits hs hc hn inv _ i0 rfl hi0 (getD_in hi0s hu0)
   rw [show f + 1 + (l.toArray.size - n) = (f + (l.toArray.size - n)) + 1 by omega]
   refine ⟨fun h0 => ?_, fun i hi => ?_⟩
   ·-- something is ready: the least that is not listed
    exfalso
    have hex : ∃ k, k < n /\ listed.getD k false = false /\ ∀ j, j < k -> listed.getD j false = true := by
     have : ∀ m, (∃ j, j < m /\ listed.getD j false = false) -> ∃ k, k < m /\ listed.getD k false = false /\ ∀ j, j < k -> listed.getD j false = true := by
      intro m
      induction m with
      | zero => rintro ⟨j, hj, _⟩; omega
      | succ m ihm =>
       rintro ⟨j, hj, hjf⟩
       by_cases hex : ∃ j, j < m /\ listed.getD j false = false
       ·obtain ⟨k, hk, h1, h2⟩ := ihm hex
        exact ⟨k, by omega, h1, h2⟩
       ·refine ⟨m, by omega, ?_, fun j' hj' => ?_⟩
        ·have : j = m := by
          rcases Nat.lt_or_ge j m with h | h
          ·exact absurd ⟨j, h, hjf⟩ hex
          ·omega
         rw [<- this]; exact hjf
        ·cases hq : listed.getD j' false with
         | true => rfl
         | false => exact absurd ⟨j', hj', hq⟩ hex
     exact this n ⟨i0, hi0, hu0⟩
    obtain ⟨k, hk, hku, hkl⟩ := hex
    have hks : k < l.toArray.size := by omega
    have hr : k ∈ Region.ready .any l.toArray listed := mem_ready.2 ⟨getD_in (by rw [inv.size]; exact hks) hku, _, Array.getElem?_eq_getElem hks, fun e he _ => hkl e.on ((hop k _ hk (Array.getElem?_eq_getElem hks)).2 e he)⟩
    rw [h0] at hr
    cases hr
   ·have hin : i < n := by
     rcases Nat.lt_or_ge i n with h | h
     ·exact h
     ·exact absurd hi (hwait i h)
    obtain ⟨hun, o, ho, hdep⟩ := mem_ready.1 hi
    obtain ⟨hd, _⟩ := hop i o hin ho
    have hiu := getD_both hun
    have his : i < listed.size := by rw [inv.size]; omega
    unfold wpOpIn
    simp only [ho]
    have H := hstep i o hin (by simpa using ho) (puts a0 dst vs (fun i => listed.getD i false) (List.range n)) w vs hb (fun s hs' => puts_old (fun j hj => hs' j (List.mem_range.1 hj))) (fun e he hbi hen => ⟨puts_at (by have := (hall e.on hen).1.1; simpa using this) (hdep e he hbi) (List.mem_range.2 hen) (fun j hj hne => hinj e.on hen j (List.mem_range.1 hj) hne), hf e.on hen (hdep e he hbi)⟩)
    refine opAt_mono (fun a' w' ⟨v, ha', hfv, hiw, hbw⟩ => ?_) H
    rw [ha', puts_set (vs' := fun j => if j = i then v else vs j) (p' := fun j => (listed.setIfInBounds i true).getD j false) (List.nodup_range) (List.mem_range.2 hin) hiu (by simp [his]) (by simp) (fun j hj hne => ⟨getD_set_ne false (Ne.symm hne), by simp [hne], hinj i hin j (List.mem_range.1 hj) hne⟩)]
    refine ih _ _ w' ?_ (inv.set hi hin) hiw (fun j hj hlj => ?_)
    ·have := countP_point (L := List.range n) List.nodup_range (List.mem_range.2 hin) (p := fun j => !listed.getD j false) (q := fun j => !(listed.setIfInBounds i true).getD j false) (by simp only [hiu]; rfl) (by simp [his]) (fun j _ hne => by simp only [getD_set_ne false (Ne.symm hne)])
     omega
    ·by_cases hji : j = i
     ·subst hji; simpa using hfv
     ·simp only [hji, if_false]
      rw [getD_set_ne false (Ne.symm hji)] at hlj
      exact hF j i _ w w' hji (hf j hj hlj) hb hbw
 have inv0 : HeadInv .any l.toArray n (Array.replicate l.toArray.size false) :=
  ⟨by simp, fun j oj _ hl => (by rw [getD_replicate_false] at hl; cases hl), fun t _ ht => getD_in (by simpa using ht) (getD_replicate_false _ _)⟩
 have hcnt : (List.range n).countP (fun j => !(Array.replicate l.toArray.size false).getD j false) = n := by
  rw [List.countP_eq_length.2 (fun j _ => by rw [getD_replicate_false]; rfl), List.length_range]
 have H := main n _ (fun _ => undef) { W with drawn := W.drawn + 1 } hcnt inv0 hI (fun i _ h => by rw [getD_replicate_false] at h; cases h)
 have he : puts a0 dst (fun _ => undef) (fun i => (Array.replicate l.toArray.size false).getD i false) (List.range n) = a0 := by
  have : ∀ L : List Nat, puts a0 dst (fun _ => undef) (fun i => (Array.replicate l.toArray.size false).getD i false) L = a0 := by
   intro L
   induction L with
   | nil => rfl
   | cons x L ih =>
    simp only [puts, List.foldr_cons] at ih ⊢
    rw [getD_replicate_false, ih]
    rfl
  exact this _
 rw [he, show n + (l.toArray.size - n) = l.toArray.size by omega] at H
 exact H
def stepsG (Fe : Fence) (m : Nat) (P : Program) (Q : Exit -> Act -> World -> Prop) (a0 : Act) (n : Nat) (dst : Nat -> Tmp) (F : Nat -> Value -> World -> Prop) (I : World -> Prop) (R : Nat -> World -> World -> Prop) (ops : Array Oper) : Nat -> List Oper -> Prop
 | _, [] => True
 | i, o :: rest => (∀ (a : Act) (w : World) (vs : Nat -> Value), I w -> (∀ s, (∀ j, j < n -> dst j ≠ s) -> a.eval (.tmp s) = a0.eval (.tmp s)) ->
   (∀ e ∈ o.after, Region.binds .any e = true -> e.on < n -> a.eval (.tmp (dst e.on)) = vs e.on /\ F e.on (vs e.on) w) ->
   opAt Fe m P ops o a w (fun a' w' => ∃ v, a' = a.put (some (dst i)) v /\ F i v w' /\ I w' /\ R i w w') Q) /\ stepsG Fe m P Q a0 n dst F I R ops (i + 1) rest
theorem stepsG.at {Fe : Fence} {m : Nat} {P : Program} {Q : Exit -> Act -> World -> Prop} {a0 : Act} {n : Nat} {dst : Nat -> Tmp} {F : Nat -> Value -> World -> Prop} {I : World -> Prop} {R : Nat -> World -> World -> Prop} {ops : Array Oper} : ∀ (l : List Oper) (k : Nat), stepsG Fe m P Q a0 n dst F I R ops k l -> ∀ (i : Nat) (o : Oper), l[i]? = some o -> ∀ (a : Act) (w : World) (vs : Nat -> Value), I w -> (∀ s, (∀ j, j < n -> dst j ≠ s) -> a.eval (.tmp s) = a0.eval (.tmp s)) ->
   (∀ e ∈ o.after, Region.binds .any e = true -> e.on < n -> a.eval (.tmp (dst e.on)) = vs e.on /\ F e.on (vs e.on) w) ->
   opAt Fe m P ops o a w (fun a' w' => ∃ v, a' = a.put (some (dst (k + i))) v /\ F (k + i) v w' /\ I w' /\ R (k + i) w w') Q
 | [], _, _, i, o, h => by simp at h
 | x :: l, k, hs, 0, o, h => by
  simp only [List.getElem?_cons_zero, Option.some.injEq] at h
  subst h
  exact hs.1
 | x :: l, k, hs, i + 1, o, h => by
  have := stepsG.at l (k + 1) hs.2 i o (by simpa using h)
  rw [show k + (i + 1) = k + 1 + i by omega]
  exact this
theorem wpIn_region_guarded' {Fe : Fence} {m : Nat} {P : Program} {id : Nat} {Q : Exit -> Act -> World -> Prop} {a0 : Act} {W : World} {l : List Oper} (n : Nat) (dst : Nat -> Tmp) (F : Nat -> Value -> World -> Prop) (I : World -> Prop) (R : Nat -> World -> World -> Prop) (hm : P.follows .mixedOrders = true) (hB : monoG l.toArray n dst a0.tmps.size = true)
  (hI : I { W with drawn := W.drawn + 1 })
  (hF : ∀ i j v w w', i ≠ j -> F i v w -> I w -> R j w w' -> F i v w')
  (hstep : stepsG Fe m P Q a0 n dst F I R l.toArray 0 (l.take n))
  (hend : ∀ (vs : Nat -> Value) (w : World), I w -> (∀ i, i < n -> F i (vs i) w) -> wpListIn Fe m P l.toArray Q (l.drop n) (puts a0 dst vs (fun _ => true) (List.range n)) w) :
  (Code.region id l.toArray true).wpIn Fe m P Q a0 W :=
 wpIn_region_guarded n dst F I R hm hB hI hF (fun i o hi ho => by
  have := hstep.at _ _ i o (by rw [List.getElem?_take_of_lt hi]; exact ho)
  rwa [Nat.zero_add] at this) hend
end Go.Proofs.YtpdnnikkaojnkaaGreat.N
namespace Go.Proofs.YtpdnnikkaojnkaaGreat.Rt
open Go.Proofs.YtpdnnikkaojnkaaGreat Go.ChangeShapes Go.WideShapes Go.ChangeAt Go.RowKit Go.Shelf Tri N
attribute [local go_sem] Oper.semAt_some
set_option maxHeartbeats 4000000
set_option maxRecDepth 100000
theorem below_new (q : MT) (w : World) :
  Calls Tryz.prog 84 #[q.ptr] w fun e w' => e = .returned (.func (.func 97) #[] #[.pointer (some ⟨w.heap.size, 0, none⟩)]) /\ w' = w.alloc (.cells #[q.ptr] 137) := by
 obtain ⟨mp, hmp⟩ := ptr_is q
 rw [hmp]
 go_enter Tryz.func84, Tryz.ntmps84
 go_wp2_with fail
 go_ret
 exact ⟨rfl, rfl⟩
def cnt (L : List MT) (k : Nat) : Nat := ((L.take k).filterMap MT.ent).length
theorem cnt_zero (L : List MT) : cnt L 0 = 0 := by simp [cnt]
theorem cnt_all (L : List MT) : cnt L L.length = (L.filterMap MT.ent).length := by simp [cnt]
theorem cnt_none {L : List MT} {k : Nat} {x : MT} (h : L[k]? = some x) (hx : x.ent = none) : cnt L (k + 1) = cnt L k := by
 unfold cnt
 rw [take_snoc h, List.filterMap_append]
 simp [hx]
theorem cnt_some {L : List MT} {k : Nat} {x : MT} {e : K × Vt} (h : L[k]? = some x) (hx : x.ent = some e) : cnt L (k + 1) = cnt L k + 1 := by
 unfold cnt
 rw [take_snoc h, List.filterMap_append]
 simp [hx]
theorem cnt_at {L : List MT} {k : Nat} {x : MT} {e : K × Vt} (h : L[k]? = some x) (hx : x.ent = some e) : (L.filterMap MT.ent)[cnt L k]? = some e := by
 have hs : L = L.take k ++ x :: L.drop (k + 1) := by
  have hlt := (List.getElem?_eq_some_iff.1 h).1
  have he := (List.getElem?_eq_some_iff.1 h).2
  rw [<- he, <- List.drop_eq_getElem_cons hlt, List.take_append_drop]
 have e1 : L.filterMap MT.ent = (L.take k).filterMap MT.ent ++ e :: (L.drop (k + 1)).filterMap MT.ent := by
  conv => lhs; rw [hs]
  rw [List.filterMap_append, List.filterMap_cons_some hx]
 rw [e1]
 unfold cnt
 rw [List.getElem?_append_right nL, Nat.sub_self]
 rfl
def FW (tb : Nat) (mp : Value) (p : K) (q : MT) (B : Nat) (i : Nat) (x : Value) (u : World) : Prop :=
 match i with
 | 0 => x = .pointer (some ⟨tb, 0, none⟩)
 | 1 => x = .pointer (some ⟨tb, 0, none⟩)
 | 2 => x = .pointer (some ⟨tb, 0, none⟩)
 | 3 => x = mp
 | 4 => x = pv p
 | 5 => x = q.ptr
 | _ => ∃ b, x = .func (.func 97) #[] #[.pointer (some ⟨b, 0, none⟩)] /\ B <= b /\ u.heap[b]? = some (.cells #[q.ptr] 137)
theorem FW.keeps (tb : Nat) (mp : Value) (p : K) (q : MT) (B : Nat) : ∀ (i : Nat) (x : Value) (w w' : World), FW tb mp p q B i x w -> Below w.heap.size w w' -> FW tb mp p q B i x w' := fun i x w w' h hb => by
 match i with
 | 0 | 1 | 2 | 3 | 4 | 5 => exact h
 | n + 6 => obtain ⟨g, h1, h2, h3⟩ := h; exact ⟨g, h1, h2, below_keeps hb h3 (gsl h3)⟩
structure WiB (W : World) (pbx tbx tb : Nat) (p : K) (m : MT) : Prop where
 pb : W.heap[pbx]? = some (.cells #[.int .u32 (p.x : Int), .int .i64 (p.n : Int)] 36)
 tx : W.heap[tbx]? = some (.cells #[.pointer (some ⟨tb, 0, none⟩)] 93)
 rt : W.heap[tb]? = some (.cells #[m.ptr] 139)
theorem WiB.below {W W' : World} {pbx tbx tb : Nat} {p : K} {m : MT} (h : WiB W pbx tbx tb p m) (hb : Below W.heap.size W W') : WiB W' pbx tbx tb p m :=
 ⟨below_keeps hb h.pb (gsl h.pb), below_keeps hb h.tx (gsl h.tx), below_keeps hb h.rt (gsl h.rt)⟩
theorem load_tp {u : World} {p : Addr} {x : Option Addr} (h : u.cell? p = some (.pointer x)) : (Instr.loadAt 93 (.pointer (some p))).run Tryz.prog u = .ok (.pointer x) u := by
 simp [go_sem, h]
def FL (l : List (Option Value)) (i : Nat) (v : Value) (_ : World) : Prop := ∀ x, l[i]? = some (some x) -> v = x
theorem load_yd {u : World} {p : Addr} {f : Fn} {a b : Array Value} (h : u.cell? p = some (.func f a b)) : (Instr.loadAt 163 (.pointer (some p))).run Tryz.prog u = .ok (.func f a b) u := by
 simp [go_sem, h]
theorem ex_neqP {o : Oper} {a : Act} {w : World} (x : Operand) (p : Option Addr) (ho : o.op = .binOp .neq 156 x (.const (.pointer none)) 156) (hx : a.eval x = .pointer p) : (execOp a.eval o).run Tryz.prog w = .ok (.value (.bool p.isSome)) w := by
 have h0 : a.eval (.const (.pointer none)) = .pointer none := rfl
 simp only [execOp, ho, hx, h0]
 cases p <;> simp [eqGuard, go_sem]
theorem pre_node {m q : MT} (h : q ∈ pre m) : (∃ b c k u l r, q = .node b c k u l r) /\ ∀ W X, Lies W X m -> Lies W X q := by
 induction m with
 | nil => cases h
 | node b c k u l r il ir =>
  rw [pre] at h
  rcases List.mem_cons.1 h with h | h
  ·exact ⟨⟨b, c, k, u, l, r, h⟩, fun W X hL => by rw [h]; exact hL⟩
  ·rcases List.mem_append.1 h with h | h
   ·exact ⟨(il h).1, fun W X hL => (il h).2 W X hL.2.2.2.1⟩
   ·exact ⟨(ir h).1, fun W X hL => (ir h).2 W X hL.2.2.2.2⟩
theorem within_gives (n : Nat) (hn : 4 <= n) (X : Nat -> Prop) (pbx tbx tb : Nat) (m : MT) (p : K) (hp : p.Ok) {lo hi : Nat} (hwf : WF lo hi m.tr) (hm : nodes m.tr <= 10000000000) :
  GivesN Fence.wide n Tryz.prog 82 #[.pointer (some ⟨pbx, 0, none⟩), .pointer (some ⟨tbx, 0, none⟩)] (fun e : K × Vt => #[pv e.1, .agg #[.int .u32 (e.2.x : Int), .int .i64 e.2.n, .int .u32 (e.2.via : Int), .bool e.2.loc]]) ((ents m.tr).filter (inP p)) (fun k W => Lies W X m /\ (k = 0 -> WiB W pbx tbx tb p m)) := by
 intro l J Z W hJ hZ hJF hY h0
 obtain ⟨q, hq⟩ : ∃ q, q = hiT m p := ⟨_, rfl⟩
 have hxs : (ents m.tr).filter (inP p) = (pre q).filterMap MT.ent := by rw [pre_ents, hq, hiT_ents hp m hwf]
 have hnq : nodes q.tr <= 10000000000 := by rw [hq]; exact Nat.le_trans (hiT_nodes m) hm
 rw [hxs] at hY ⊢
 obtain ⟨W1, HW1⟩ : ∃ W1, Hid (W1 = W.alloc (.cells #[.func (.yield l) #[] #[]] 163)) := ⟨_, rfl⟩
 have hb1 : Below W.heap.size W W1 := by rw [HW1.out]; exact bR.alloc nL _
 have hs1 : W1.heap.size = W.heap.size + 1 := by rw [HW1.out]; simp
 have ry : W1.heap[W.heap.size]? = some (.cells #[.func (.yield l) #[] #[]] 163) := by rw [HW1.out]; exact heap_alloc_new W _
 have hF0 := hJF _ _ h0
 have hwb := (hF0.2 rfl).below hb1
 have x0 : W1.cell? ⟨pbx, 0, none⟩ = some (.int .u32 (p.x : Int)) := crw hwb.pb rfl
 have x1 : W1.cell? ⟨pbx, 1, none⟩ = some (.int .i64 (p.n : Int)) := crw hwb.pb rfl
 have HV := hid (valid_ok W1 hp)
 have HWB := hid hwb
 have HB1 := hid hb1
 have HS1 := hid hs1
 have RY := hid ry
 have HJ := hid hJ
 have HZ := hid hZ
 have HJF := hid hJF
 have HY := hid hY
 have HWF := hid hwf
 have HP := hid hp
 have HQ := hid hq
 have HNQ := hid hnq
 have HJ1 : Hid (J 0 W1) := hJ.below h0 hb1
 have HL1 : Hid (Lies W1 X m) := hF0.1.below hb1
 unfold pv at HV
 clear hJ hZ hJF hY h0 hF0 hwb hb1 hs1 ry hwf hp hq hnq hm hxs
 refine callsIn_of_wp_marks Tryz.func82 rfl trivial ?_ rfl
 refine wpIn_wide.2 ?_
 simp only [Tryz.ntmps82, List.size_toArray, List.length_cons, List.length_nil, Nat.reduceAdd, Nat.reduceSub, Array.replicate_succ, Array.replicate_zero, List.push_toArray, List.append_toArray, List.nil_append, List.cons_append]
 go_upto_region 1 with fail
 rw [<- HW1.out]
 go_wp2_with fail
 refine HV.out.mono ?_
 rintro _ W2 ⟨rfl, hb2⟩
 have HB2 := hid hb2
 have HWB2 := hid (HWB.out.below hb2)
 have HL2 := hid (HL1.out.below hb2)
 obtain ⟨mp, hmp⟩ := ptr_is m
 have HMP := hid hmp
 clear x0 x1 hb2 hmp
 go_upto_region 2 with fail
 refine wp_region_mono' 6 (fun i => 8 + i) (FW tb (.pointer mp) p q W2.heap.size) (by kernel_rfl) (by kernel_rfl) (FW.keeps _ _ _ _ _) ?_ ?_
 ·simp only [List.take_succ_cons, List.take_zero, N.stepsOk]
  refine ⟨?_, ?_, ?_, ?_, ?_, ?_, trivial⟩
  ·intro a u vs hb hold hdep
   have hr := (HWB2.out.below hb).tx
   exact wp_val (ex_load _ ⟨tbx, 0, none⟩ (.tmp 2) _ rfl (hold 2 (fun j hj => low (by decide))) (load_tp (crw hr rfl))) ⟨_, rfl, rfl, hb, bR⟩
  ·intro a u vs hb hold hdep
   have h0 := hdep ⟨0, .data⟩ (by simp) rfl (by decide)
   exact wp_val (ex_nil ⟨tb, 0, none⟩ (.tmp 8) rfl (h0.1.trans h0.2)) ⟨_, rfl, rfl, hb, bR⟩
  ·intro a u vs hb hold hdep
   have h0 := hdep ⟨1, .data⟩ (by simp) rfl (by decide)
   exact wp_val (ex_field _ ⟨tb, 0, none⟩ (.tmp 9) 0 _ rfl (h0.1.trans h0.2) (fld_tr u)) ⟨_, rfl, rfl, hb, bR⟩
  ·intro a u vs hb hold hdep
   have h0 := hdep ⟨2, .data⟩ (by simp) rfl (by decide)
   have hr := (HWB2.out.below hb).rt
   exact wp_val (ex_load _ ⟨tb, 0, none⟩ (.tmp 10) _ rfl (h0.1.trans h0.2) (load_nd (by rw [cell_of_row _ _ _ _ _ _ hr, <- HMP.out]; rfl))) ⟨_, rfl, rfl, hb, bR⟩
  ·intro a u vs hb hold hdep
   have hr := (HWB2.out.below hb).pb
   exact wp_val (ex_load _ ⟨pbx, 0, none⟩ (.tmp 1) _ rfl (hold 1 (fun j hj => low (by decide))) (load_pre (x := .int .u32 (p.x : Int)) (y := .int .i64 (p.n : Int)) (crw hr rfl) (crw hr rfl))) ⟨_, rfl, rfl, hb, bR⟩
  ·intro a u vs hb hold hdep
   have h3 := hdep ⟨3, .data⟩ (by simp) rfl (by decide)
   have h4 := hdep ⟨4, .data⟩ (by simp) rfl (by decide)
   have e3 : a.eval (.tmp 11) = .pointer mp := h3.1.trans h3.2
   have e4 : a.eval (.tmp 12) = pv p := h4.1.trans h4.2
   refine wp_call 85 _ _ rfl (enters_of Tryz.func85 (by kernel_rfl) rfl) #[.pointer mp, pv p] (by simp only [List.map_toArray, List.map_cons, List.map_nil, e3, e4]) ?_
   rw [<- HMP.out]
   refine (highest_any m p u (HL2.out.below hb) HWF.out HP.out).mono ?_
   rintro _ u' ⟨rfl, hb'⟩
   exact ⟨_, rfl, _, rfl, by show (hiT m p).ptr = q.ptr; rw [HQ.out], hb.trans (hb'.mono hb.size), hb'⟩
 intro vs W3 hb3 hF
 have e5 : vs 5 = q.ptr := hF 5 (by decide)
 clear hF
 simp only [List.drop_succ_cons, List.drop_zero, puts, List.range, List.range.loop, List.foldr, Nat.reduceAdd, if_true, e5, Act.put, List.setIfInBounds_toArray, List.set_cons_zero, List.set_cons_succ]
 clear e5
 generalize vs 0 = z0
 generalize vs 1 = z1
 generalize vs 2 = z2
 generalize vs 3 = z3
 generalize vs 4 = z4
 obtain ⟨qp, hqp⟩ := ptr_is q
 have HBN := hid (below_new q W3)
 rw [hqp] at HBN ⊢
 have HQP := hid hqp
 have HB3 := hid hb3
 clear hb3 hqp
 go_wp2_with fail
 refine HBN.out.mono ?_
 rintro _ W4 ⟨rfl, hW4⟩
 have hb4 : Below W3.heap.size W3 W4 := by rw [hW4]; exact bR.alloc nL _
 have hs4 : W4.heap.size = W3.heap.size + 1 := by rw [hW4]; simp
 have rb : W4.heap[W3.heap.size]? = some (.cells #[.pointer qp] 137) := by rw [hW4]; exact heap_alloc_new W3 _
 have hb24 : Below W1.heap.size W1 W4 := HB2.out.trans ((HB3.out.trans (hb4.mono HB3.out.size)).mono HB2.out.size)
 have HS4 := hid hs4
 have HSZ : Hid (W.heap.size < W3.heap.size) := by
  have h1 := HS1.out
  have h2 := HB2.out.size
  have h3 := HB3.out.size
  unfold Hid; omega
 have HI0 : Hid (J (cnt (pre q) 0) W4) := by unfold Hid; rw [cnt_zero]; exact HJ.out.below HJ1.out hb24
 have HIX : Hid (J (cnt (pre q) 0) W4 /\ W4.heap[W.heap.size]? = some (.cells #[.func (.yield l) #[] #[]] 163) /\ W4.heap[W3.heap.size]? = some (.cells #[.pointer qp] 137) /\ W3.heap.size < W4.heap.size) :=
  ⟨HI0.out, below_keeps hb24 RY.out (by have := HS1.out; omega), rb, by omega⟩
 clear hW4 hb4 hs4 rb hb24
 go_wp2_with fail
 refine wpIn_wide.1 (wpIn_givesU (β := Unit) (n := n) (F := Fence.wide) rfl (by omega) (gf := 97) (lb := #[.pointer (some ⟨W3.heap.size, 0, none⟩)]) rfl trivial (enters_of Tryz.func97 (by kernel_rfl) rfl)
  (below_gives (n - 1) (by omega) X W3.heap.size q HNQ.out) (fun _ => rfl)
  (fun k V => J (cnt (pre q) k) V /\ V.heap[W.heap.size]? = some (.cells #[.func (.yield l) #[] #[]] 163) /\ (k = 0 -> V.heap[W3.heap.size]? = some (.cells #[.pointer qp] 137)) /\ W3.heap.size < V.heap.size)
  (fun c V => c = .ret /\ Z () V) ?hI ?hIx ?hF ?h0
  (fun x _ t => (t.setIfInBounds 15 x.ptr).setIfInBounds 4 x.ptr) (fun _ _ _ => True) (fun _ _ _ _ _ _ _ _ _ => trivial) ?assign ?body ?done ?stop)
 case hI =>
  rintro k A B row ⟨i1, i2, i3, i4⟩ hg hr
  have hsz := HSZ.out
  have hs4 := HS4.out
  refine ⟨HJ.out _ A B row i1 hg (fun r e => ⟨by have := (hr r e).1; omega, (hr r e).2⟩), ?_, fun hk => ?_, Nat.lt_of_lt_of_le i4 hg.size⟩
  ·exact (hg.block _ (by omega) (fun e => by have := (hr _ e.symm).1; omega)).trans i2
  ·exact (hg.block _ (by omega) (fun e => by have := (hr _ e.symm).1; omega)).trans (i3 hk)
 case hIx =>
  rintro c A B row ⟨i1, i2⟩ hg hr
  have hsz := HSZ.out
  have hs4 := HS4.out
  exact ⟨i1, HZ.out _ A B row i2 hg (fun r e => ⟨by have := (hr r e).1; omega, (hr r e).2⟩)⟩
 case hF =>
  rintro k V ⟨i1, i2, i3, i4⟩
  refine ⟨by rw [HQ.out]; exact hiT_lies m (HJF.out _ _ i1).1, fun hk => by rw [HQP.out]; exact i3 hk⟩
 case h0 => exact ⟨HIX.out.1, HIX.out.2.1, fun _ => HIX.out.2.2.1, HIX.out.2.2.2⟩
 case assign =>
  intro l2 k x V K hi hx hK
  obtain ⟨xp, hxp⟩ := ptr_is x
  have HK := hK () V (KeepsN.refl _ _) hi trivial
  simp only [hxp, List.setIfInBounds_toArray, List.set_cons_zero, List.set_cons_succ] at HK ⊢
  clear hK hi hx
  gi_wp2
  exact HK
 case body =>
  rintro l2 k x y V hl2 _ ⟨i1, i2, i3, i4⟩ _ hx
  obtain ⟨⟨b, c, kk, u, lt, rt, rfl⟩, hxl⟩ := pre_node (List.mem_of_getElem? hx)
  have hlq : Lies V X q := by rw [HQ.out]; exact hiT_lies m (HJF.out _ _ i1).1
  obtain ⟨_, hrow, hbox, _, _⟩ := hxl _ _ hlq
  have n0 : V.cell? ⟨b, 0, none⟩ = some (.int .u32 (kk.x : Int)) := crw hrow rfl
  have n1 : V.cell? ⟨b, 1, none⟩ = some (.int .i64 (kk.n : Int)) := crw hrow rfl
  have y0 : V.cell? ⟨W.heap.size, 0, none⟩ = some (.func (.yield l) #[] #[]) := crw i2 rfl
  simp only [MT.ptr, List.setIfInBounds_toArray, List.set_cons_zero, List.set_cons_succ]
  have hbd : Below V.heap.size V V.drew := ⟨rfl, rfl, rfl, nL, fun _ _ => rfl⟩
  cases u with
  | none =>
   have n2 : V.cell? ⟨b, 2, none⟩ = some (.pointer none) := crw hrow rfl
   have HFIN : Hid (KeepsN W4.heap.size V V.drew /\ J (cnt (pre q) (k + 1)) V.drew /\ V.drew.heap[W.heap.size]? = some (.cells #[.func (.yield l) #[] #[]] 163) /\ (k + 1 = 0 -> V.drew.heap[W3.heap.size]? = some (.cells #[.pointer qp] 137)) /\ W3.heap.size < V.drew.heap.size) :=
    ⟨KeepsN.of_below hbd, by rw [cnt_none hx rfl]; exact HJ.out.below i1 hbd, i2, fun h => by omega, i4⟩
   clear hrow hbox i1 i2 i3 i4 hx hxl hlq hbd
   gi_wp2
   refine wpIn_region_guarded' 17 (fun i => 16 + i) (FL [some (.pointer (some ⟨b, 0, none⟩)), some (.pointer (some ⟨b, 0, none⟩)), some (.pointer (some ⟨b, 2, none⟩)), some (.pointer none), some (.bool false), some (.bool false), some undef, some undef, some undef, some undef, some undef, some undef, some undef, some undef, some undef, some undef, some undef]) (fun w => w = V.drew) (fun _ w w' => w' = w) (by kernel_rfl) (by kernel_rfl) rfl (fun _ _ _ _ _ _ h _ _ => h) ?_ ?_
   ·simp only [List.take_succ_cons, List.take_zero, N.stepsG]
    refine ⟨?_, ?_, ?_, ?_, ?_, ?_, ?_, ?_, ?_, ?_, ?_, ?_, ?_, ?_, ?_, ?_, ?_, trivial⟩
    ·intro a w vs hI hold hdep
     obtain rfl : w = V.drew := hI
     exact opAt_plain rfl (wpIn_val (fun _ h => by cases h) (ex_move (.tmp 4) _ rfl (hold 4 (fun j hj => low (by decide)))) ⟨_, rfl, fun x hx => Option.some.inj (Option.some.inj hx), rfl, rfl⟩)
    ·intro a w vs hI hold hdep
     obtain rfl : w = V.drew := hI
     have h0 := hdep ⟨0, .data⟩ (by simp) rfl (by decide)
     have e0 := h0.1.trans (h0.2 _ rfl)
     exact opAt_plain rfl (wpIn_val (fun _ h => by cases h) (ex_nil _ (.tmp 16) rfl e0) ⟨_, rfl, fun x hx => Option.some.inj (Option.some.inj hx), rfl, rfl⟩)
    ·intro a w vs hI hold hdep
     obtain rfl : w = V.drew := hI
     have h1 := hdep ⟨1, .data⟩ (by simp) rfl (by decide)
     have e1 := h1.1.trans (h1.2 _ rfl)
     exact opAt_plain rfl (wpIn_val (fun _ h => by cases h) (ex_field _ _ (.tmp 17) 1 _ rfl e1 (fld_nd _).2.1) ⟨_, rfl, fun x hx => Option.some.inj (Option.some.inj hx), rfl, rfl⟩)
    ·intro a w vs hI hold hdep
     obtain rfl : w = V.drew := hI
     have h2 := hdep ⟨2, .data⟩ (by simp) rfl (by decide)
     have e2 := h2.1.trans (h2.2 _ rfl)
     exact opAt_plain rfl (wpIn_val (fun _ h => by cases h) (ex_load _ ⟨b, 2, none⟩ (.tmp 18) _ rfl e2 (load_vp n2)) ⟨_, rfl, fun x hx => Option.some.inj (Option.some.inj hx), rfl, rfl⟩)
    ·intro a w vs hI hold hdep
     obtain rfl : w = V.drew := hI
     have h3 := hdep ⟨3, .data⟩ (by simp) rfl (by decide)
     have e3 := h3.1.trans (h3.2 _ rfl)
     exact opAt_plain rfl (wpIn_val (fun _ h => by cases h) (ex_neqP (.tmp 19) _ rfl e3) ⟨_, rfl, fun x hx => Option.some.inj (Option.some.inj hx), rfl, rfl⟩)
    ·intro a w vs hI hold hdep
     obtain rfl : w = V.drew := hI
     have h4 := hdep ⟨4, .data⟩ (by simp) rfl (by decide)
     have e4 := h4.1.trans (h4.2 _ rfl)
     exact opAt_plain rfl (wpIn_val (fun _ h => by cases h) (ex_move (.tmp 20) _ rfl e4) ⟨_, rfl, fun x hx => Option.some.inj (Option.some.inj hx), rfl, rfl⟩)
    ·intro a w vs hI hold hdep
     obtain rfl : w = V.drew := hI
     have hg := hdep ⟨5, .guard⟩ (by simp) rfl (by decide)
     have eg := hg.1.trans (hg.2 _ rfl)
     exact opAt_skip (j := 5) (t := 21) (b := true) rfl rfl eg ⟨undef, rfl, fun x hx => Option.some.inj (Option.some.inj hx), rfl, rfl⟩
    ·intro a w vs hI hold hdep
     obtain rfl : w = V.drew := hI
     have hg := hdep ⟨5, .guard⟩ (by simp) rfl (by decide)
     have eg := hg.1.trans (hg.2 _ rfl)
     exact opAt_skip (j := 5) (t := 21) (b := true) rfl rfl eg ⟨undef, rfl, fun x hx => Option.some.inj (Option.some.inj hx), rfl, rfl⟩
    ·intro a w vs hI hold hdep
     obtain rfl : w = V.drew := hI
     have hg := hdep ⟨5, .guard⟩ (by simp) rfl (by decide)
     have eg := hg.1.trans (hg.2 _ rfl)
     exact opAt_skip (j := 5) (t := 21) (b := true) rfl rfl eg ⟨undef, rfl, fun x hx => Option.some.inj (Option.some.inj hx), rfl, rfl⟩
    ·intro a w vs hI hold hdep
     obtain rfl : w = V.drew := hI
     have hg := hdep ⟨5, .guard⟩ (by simp) rfl (by decide)
     have eg := hg.1.trans (hg.2 _ rfl)
     exact opAt_skip (j := 5) (t := 21) (b := true) rfl rfl eg ⟨undef, rfl, fun x hx => Option.some.inj (Option.some.inj hx), rfl, rfl⟩
    ·intro a w vs hI hold hdep
     obtain rfl : w = V.drew := hI
     have hg := hdep ⟨5, .guard⟩ (by simp) rfl (by decide)
     have eg := hg.1.trans (hg.2 _ rfl)
     exact opAt_skip (j := 5) (t := 21) (b := true) rfl rfl eg ⟨undef, rfl, fun x hx => Option.some.inj (Option.some.inj hx), rfl, rfl⟩
    ·intro a w vs hI hold hdep
     obtain rfl : w = V.drew := hI
     have hg := hdep ⟨5, .guard⟩ (by simp) rfl (by decide)
     have eg := hg.1.trans (hg.2 _ rfl)
     exact opAt_skip (j := 5) (t := 21) (b := true) rfl rfl eg ⟨undef, rfl, fun x hx => Option.some.inj (Option.some.inj hx), rfl, rfl⟩
    ·intro a w vs hI hold hdep
     obtain rfl : w = V.drew := hI
     have hg := hdep ⟨5, .guard⟩ (by simp) rfl (by decide)
     have eg := hg.1.trans (hg.2 _ rfl)
     exact opAt_skip (j := 5) (t := 21) (b := true) rfl rfl eg ⟨undef, rfl, fun x hx => Option.some.inj (Option.some.inj hx), rfl, rfl⟩
    ·intro a w vs hI hold hdep
     obtain rfl : w = V.drew := hI
     have hg := hdep ⟨5, .guard⟩ (by simp) rfl (by decide)
     have eg := hg.1.trans (hg.2 _ rfl)
     exact opAt_skip (j := 5) (t := 21) (b := true) rfl rfl eg ⟨undef, rfl, fun x hx => Option.some.inj (Option.some.inj hx), rfl, rfl⟩
    ·intro a w vs hI hold hdep
     obtain rfl : w = V.drew := hI
     have hg := hdep ⟨5, .guard⟩ (by simp) rfl (by decide)
     have eg := hg.1.trans (hg.2 _ rfl)
     exact opAt_skip (j := 5) (t := 21) (b := true) rfl rfl eg ⟨undef, rfl, fun x hx => Option.some.inj (Option.some.inj hx), rfl, rfl⟩
    ·intro a w vs hI hold hdep
     obtain rfl : w = V.drew := hI
     have hg := hdep ⟨5, .guard⟩ (by simp) rfl (by decide)
     have eg := hg.1.trans (hg.2 _ rfl)
     exact opAt_skip (j := 5) (t := 21) (b := true) rfl rfl eg ⟨undef, rfl, fun x hx => Option.some.inj (Option.some.inj hx), rfl, rfl⟩
    ·intro a w vs hI hold hdep
     obtain rfl : w = V.drew := hI
     have hg := hdep ⟨5, .guard⟩ (by simp) rfl (by decide)
     have eg := hg.1.trans (hg.2 _ rfl)
     exact opAt_skip (j := 5) (t := 21) (b := true) rfl rfl eg ⟨undef, rfl, fun x hx => Option.some.inj (Option.some.inj hx), rfl, rfl⟩
   intro vs V2 hV2 hF
   subst hV2
   have f0 := hF 0 (by decide) _ rfl
   have f1 := hF 1 (by decide) _ rfl
   have f2 := hF 2 (by decide) _ rfl
   have f3 := hF 3 (by decide) _ rfl
   have f4 := hF 4 (by decide) _ rfl
   have f5 := hF 5 (by decide) _ rfl
   have f6 := hF 6 (by decide) _ rfl
   have f7 := hF 7 (by decide) _ rfl
   have f8 := hF 8 (by decide) _ rfl
   have f9 := hF 9 (by decide) _ rfl
   have f10 := hF 10 (by decide) _ rfl
   have f11 := hF 11 (by decide) _ rfl
   have f12 := hF 12 (by decide) _ rfl
   have f13 := hF 13 (by decide) _ rfl
   have f14 := hF 14 (by decide) _ rfl
   have f15 := hF 15 (by decide) _ rfl
   have f16 := hF 16 (by decide) _ rfl
   simp only [List.drop_succ_cons, List.drop_zero, puts, List.range, List.range.loop, List.foldr, Nat.reduceAdd, if_true, f0, f1, f2, f3, f4, f5, f6, f7, f8, f9, f10, f11, f12, f13, f14, f15, f16, Act.put, List.setIfInBounds_toArray, List.set_cons_zero, List.set_cons_succ]
   clear hF f0 f1 f2 f3 f4 f5 f6 f7 f8 f9 f10 f11 f12 f13 f14 f15 f16
   gi_wp2
   refine ⟨fun _ _ => trivial, ?_⟩
   gi_wp2
   exact HFIN.out
  | some v =>
   have n2 : V.cell? ⟨b, 2, none⟩ = some (.pointer (some ⟨c, 0, none⟩)) := crw hrow rfl
   have v0 : V.cell? ⟨c, 0 + 0, none⟩ = some (.int .u32 (v.x : Int)) := by rw [cell_of_row _ _ _ _ _ _ (hbox v rfl).2]; rfl
   have v1 : V.cell? ⟨c, 0 + 1, none⟩ = some (.int .i64 v.n) := by rw [cell_of_row _ _ _ _ _ _ (hbox v rfl).2]; rfl
   have v2 : V.cell? ⟨c, 0 + 2, none⟩ = some (.int .u32 (v.via : Int)) := by rw [cell_of_row _ _ _ _ _ _ (hbox v rfl).2]; rfl
   have v3 : V.cell? ⟨c, 0 + 3, none⟩ = some (.bool v.loc) := by rw [cell_of_row _ _ _ _ _ _ (hbox v rfl).2]; rfl
   obtain ⟨fn, tmps, assign, body, hy, hR⟩ := HY.out _ (kk, v) V.drew (HJ.out.below i1 hbd) (cnt_at hx rfl)
   unfold pv at hy
   simp only at hy
   have HI2 := hid i2
   have HI4 := hid i4
   have HX := hid hx
   clear hrow hbox i1 i2 i3 i4 hx hxl hlq hbd
   gi_wp2
   refine wpIn_region_guarded' 17 (fun i => 16 + i) (FL [some (.pointer (some ⟨b, 0, none⟩)), some (.pointer (some ⟨b, 0, none⟩)), some (.pointer (some ⟨b, 2, none⟩)), some (.pointer (some ⟨c, 0, none⟩)), some (.bool true), some (.bool true), some (.func (.yield l) #[] #[]), some (.pointer (some ⟨b, 0, none⟩)), some (.pointer (some ⟨b, 0, none⟩)), some (.pointer (some ⟨b, 0, none⟩)), some (.agg #[.int .u32 (kk.x : Int), .int .i64 (kk.n : Int)]), some (.pointer (some ⟨b, 0, none⟩)), some (.pointer (some ⟨b, 0, none⟩)), some (.pointer (some ⟨b, 2, none⟩)), some (.pointer (some ⟨c, 0, none⟩)), some (.pointer (some ⟨c, 0, none⟩)), some (.agg #[.int .u32 (v.x : Int), .int .i64 v.n, .int .u32 (v.via : Int), .bool v.loc])]) (fun w => w = V.drew) (fun _ w w' => w' = w) (by kernel_rfl) (by kernel_rfl) rfl (fun _ _ _ _ _ _ h _ _ => h) ?_ ?_
   ·simp only [List.take_succ_cons, List.take_zero, N.stepsG]
    refine ⟨?_, ?_, ?_, ?_, ?_, ?_, ?_, ?_, ?_, ?_, ?_, ?_, ?_, ?_, ?_, ?_, ?_, trivial⟩
    ·intro a w vs hI hold hdep
     obtain rfl : w = V.drew := hI
     exact opAt_plain rfl (wpIn_val (fun _ h => by cases h) (ex_move (.tmp 4) _ rfl (hold 4 (fun j hj => low (by decide)))) ⟨_, rfl, fun x hx => Option.some.inj (Option.some.inj hx), rfl, rfl⟩)
    ·intro a w vs hI hold hdep
     obtain rfl : w = V.drew := hI
     have h0 := hdep ⟨0, .data⟩ (by simp) rfl (by decide)
     have e0 := h0.1.trans (h0.2 _ rfl)
     exact opAt_plain rfl (wpIn_val (fun _ h => by cases h) (ex_nil _ (.tmp 16) rfl e0) ⟨_, rfl, fun x hx => Option.some.inj (Option.some.inj hx), rfl, rfl⟩)
    ·intro a w vs hI hold hdep
     obtain rfl : w = V.drew := hI
     have h1 := hdep ⟨1, .data⟩ (by simp) rfl (by decide)
     have e1 := h1.1.trans (h1.2 _ rfl)
     exact opAt_plain rfl (wpIn_val (fun _ h => by cases h) (ex_field _ _ (.tmp 17) 1 _ rfl e1 (fld_nd _).2.1) ⟨_, rfl, fun x hx => Option.some.inj (Option.some.inj hx), rfl, rfl⟩)
    ·intro a w vs hI hold hdep
     obtain rfl : w = V.drew := hI
     have h2 := hdep ⟨2, .data⟩ (by simp) rfl (by decide)
     have e2 := h2.1.trans (h2.2 _ rfl)
     exact opAt_plain rfl (wpIn_val (fun _ h => by cases h) (ex_load _ ⟨b, 2, none⟩ (.tmp 18) _ rfl e2 (load_vp n2)) ⟨_, rfl, fun x hx => Option.some.inj (Option.some.inj hx), rfl, rfl⟩)
    ·intro a w vs hI hold hdep
     obtain rfl : w = V.drew := hI
     have h3 := hdep ⟨3, .data⟩ (by simp) rfl (by decide)
     have e3 := h3.1.trans (h3.2 _ rfl)
     exact opAt_plain rfl (wpIn_val (fun _ h => by cases h) (ex_neqP (.tmp 19) _ rfl e3) ⟨_, rfl, fun x hx => Option.some.inj (Option.some.inj hx), rfl, rfl⟩)
    ·intro a w vs hI hold hdep
     obtain rfl : w = V.drew := hI
     have h4 := hdep ⟨4, .data⟩ (by simp) rfl (by decide)
     have e4 := h4.1.trans (h4.2 _ rfl)
     exact opAt_plain rfl (wpIn_val (fun _ h => by cases h) (ex_move (.tmp 20) _ rfl e4) ⟨_, rfl, fun x hx => Option.some.inj (Option.some.inj hx), rfl, rfl⟩)
    ·intro a w vs hI hold hdep
     obtain rfl : w = V.drew := hI
     have hg := hdep ⟨5, .guard⟩ (by simp) rfl (by decide)
     have eg := hg.1.trans (hg.2 _ rfl)
     exact opAt_go (j := 5) (t := 21) (b := true) rfl rfl eg (wpIn_val (fun _ h => by cases h) (ex_load _ ⟨W.heap.size, 0, none⟩ (.tmp 3) _ rfl (hold 3 (fun j hj => low (by decide))) (load_yd y0)) ⟨_, rfl, fun x hx => Option.some.inj (Option.some.inj hx), rfl, rfl⟩)
    ·intro a w vs hI hold hdep
     obtain rfl : w = V.drew := hI
     have hg := hdep ⟨5, .guard⟩ (by simp) rfl (by decide)
     have eg := hg.1.trans (hg.2 _ rfl)
     exact opAt_go (j := 5) (t := 21) (b := true) rfl rfl eg (wpIn_val (fun _ h => by cases h) (ex_move (.tmp 4) _ rfl (hold 4 (fun j hj => low (by decide)))) ⟨_, rfl, fun x hx => Option.some.inj (Option.some.inj hx), rfl, rfl⟩)
    ·intro a w vs hI hold hdep
     obtain rfl : w = V.drew := hI
     have hg := hdep ⟨5, .guard⟩ (by simp) rfl (by decide)
     have eg := hg.1.trans (hg.2 _ rfl)
     have h7 := hdep ⟨7, .data⟩ (by simp) rfl (by decide)
     have e7 := h7.1.trans (h7.2 _ rfl)
     exact opAt_go (j := 5) (t := 21) (b := true) rfl rfl eg (wpIn_val (fun _ h => by cases h) (ex_nil _ (.tmp 23) rfl e7) ⟨_, rfl, fun x hx => Option.some.inj (Option.some.inj hx), rfl, rfl⟩)
    ·intro a w vs hI hold hdep
     obtain rfl : w = V.drew := hI
     have hg := hdep ⟨5, .guard⟩ (by simp) rfl (by decide)
     have eg := hg.1.trans (hg.2 _ rfl)
     have h8 := hdep ⟨8, .data⟩ (by simp) rfl (by decide)
     have e8 := h8.1.trans (h8.2 _ rfl)
     exact opAt_go (j := 5) (t := 21) (b := true) rfl rfl eg (wpIn_val (fun _ h => by cases h) (ex_field _ _ (.tmp 24) 0 _ rfl e8 (fld_nd _).1) ⟨_, rfl, fun x hx => Option.some.inj (Option.some.inj hx), rfl, rfl⟩)
    ·intro a w vs hI hold hdep
     obtain rfl : w = V.drew := hI
     have hg := hdep ⟨5, .guard⟩ (by simp) rfl (by decide)
     have eg := hg.1.trans (hg.2 _ rfl)
     have h9 := hdep ⟨9, .data⟩ (by simp) rfl (by decide)
     have e9 := h9.1.trans (h9.2 _ rfl)
     exact opAt_go (j := 5) (t := 21) (b := true) rfl rfl eg (wpIn_val (fun _ h => by cases h) (ex_load _ ⟨b, 0, none⟩ (.tmp 25) _ rfl e9 (load_pre n0 n1)) ⟨_, rfl, fun x hx => Option.some.inj (Option.some.inj hx), rfl, rfl⟩)
    ·intro a w vs hI hold hdep
     obtain rfl : w = V.drew := hI
     have hg := hdep ⟨5, .guard⟩ (by simp) rfl (by decide)
     have eg := hg.1.trans (hg.2 _ rfl)
     exact opAt_go (j := 5) (t := 21) (b := true) rfl rfl eg (wpIn_val (fun _ h => by cases h) (ex_move (.tmp 4) _ rfl (hold 4 (fun j hj => low (by decide)))) ⟨_, rfl, fun x hx => Option.some.inj (Option.some.inj hx), rfl, rfl⟩)
    ·intro a w vs hI hold hdep
     obtain rfl : w = V.drew := hI
     have hg := hdep ⟨5, .guard⟩ (by simp) rfl (by decide)
     have eg := hg.1.trans (hg.2 _ rfl)
     have h11 := hdep ⟨11, .data⟩ (by simp) rfl (by decide)
     have e11 := h11.1.trans (h11.2 _ rfl)
     exact opAt_go (j := 5) (t := 21) (b := true) rfl rfl eg (wpIn_val (fun _ h => by cases h) (ex_nil _ (.tmp 27) rfl e11) ⟨_, rfl, fun x hx => Option.some.inj (Option.some.inj hx), rfl, rfl⟩)
    ·intro a w vs hI hold hdep
     obtain rfl : w = V.drew := hI
     have hg := hdep ⟨5, .guard⟩ (by simp) rfl (by decide)
     have eg := hg.1.trans (hg.2 _ rfl)
     have h12 := hdep ⟨12, .data⟩ (by simp) rfl (by decide)
     have e12 := h12.1.trans (h12.2 _ rfl)
     exact opAt_go (j := 5) (t := 21) (b := true) rfl rfl eg (wpIn_val (fun _ h => by cases h) (ex_field _ _ (.tmp 28) 1 _ rfl e12 (fld_nd _).2.1) ⟨_, rfl, fun x hx => Option.some.inj (Option.some.inj hx), rfl, rfl⟩)
    ·intro a w vs hI hold hdep
     obtain rfl : w = V.drew := hI
     have hg := hdep ⟨5, .guard⟩ (by simp) rfl (by decide)
     have eg := hg.1.trans (hg.2 _ rfl)
     have h13 := hdep ⟨13, .data⟩ (by simp) rfl (by decide)
     have e13 := h13.1.trans (h13.2 _ rfl)
     exact opAt_go (j := 5) (t := 21) (b := true) rfl rfl eg (wpIn_val (fun _ h => by cases h) (ex_load _ ⟨b, 2, none⟩ (.tmp 29) _ rfl e13 (load_vp n2)) ⟨_, rfl, fun x hx => Option.some.inj (Option.some.inj hx), rfl, rfl⟩)
    ·intro a w vs hI hold hdep
     obtain rfl : w = V.drew := hI
     have hg := hdep ⟨5, .guard⟩ (by simp) rfl (by decide)
     have eg := hg.1.trans (hg.2 _ rfl)
     have h14 := hdep ⟨14, .data⟩ (by simp) rfl (by decide)
     have e14 := h14.1.trans (h14.2 _ rfl)
     exact opAt_go (j := 5) (t := 21) (b := true) rfl rfl eg (wpIn_val (fun _ h => by cases h) (ex_nil _ (.tmp 30) rfl e14) ⟨_, rfl, fun x hx => Option.some.inj (Option.some.inj hx), rfl, rfl⟩)
    ·intro a w vs hI hold hdep
     obtain rfl : w = V.drew := hI
     have hg := hdep ⟨5, .guard⟩ (by simp) rfl (by decide)
     have eg := hg.1.trans (hg.2 _ rfl)
     have h15 := hdep ⟨15, .data⟩ (by simp) rfl (by decide)
     have e15 := h15.1.trans (h15.2 _ rfl)
     exact opAt_go (j := 5) (t := 21) (b := true) rfl rfl eg (wpIn_val (fun _ h => by cases h) (ex_load _ ⟨c, 0, none⟩ (.tmp 31) _ rfl e15 (load_vl (v := v) v0 v1 v2 v3)) ⟨_, rfl, fun x hx => Option.some.inj (Option.some.inj hx), rfl, rfl⟩)
   intro vs V2 hV2 hF
   subst hV2
   have f0 := hF 0 (by decide) _ rfl
   have f1 := hF 1 (by decide) _ rfl
   have f2 := hF 2 (by decide) _ rfl
   have f3 := hF 3 (by decide) _ rfl
   have f4 := hF 4 (by decide) _ rfl
   have f5 := hF 5 (by decide) _ rfl
   have f6 := hF 6 (by decide) _ rfl
   have f7 := hF 7 (by decide) _ rfl
   have f8 := hF 8 (by decide) _ rfl
   have f9 := hF 9 (by decide) _ rfl
   have f10 := hF 10 (by decide) _ rfl
   have f11 := hF 11 (by decide) _ rfl
   have f12 := hF 12 (by decide) _ rfl
   have f13 := hF 13 (by decide) _ rfl
   have f14 := hF 14 (by decide) _ rfl
   have f15 := hF 15 (by decide) _ rfl
   have f16 := hF 16 (by decide) _ rfl
   simp only [List.drop_succ_cons, List.drop_zero, puts, List.range, List.range.loop, List.foldr, Nat.reduceAdd, if_true, f0, f1, f2, f3, f4, f5, f6, f7, f8, f9, f10, f11, f12, f13, f14, f15, f16, Act.put, List.setIfInBounds_toArray, List.set_cons_zero, List.set_cons_succ]
   clear hF f0 f1 f2 f3 f4 f5 f6 f7 f8 f9 f10 f11 f12 f13 f14 f15 f16
   gi_wp2
   refine ⟨fun h => (by cases h), (roundIn_any hR).mono ?_⟩
   rintro _ V3 ⟨hK3, (⟨rfl, hJ3⟩ | ⟨rfl, hZ3⟩)⟩
   ·have HFIN : Hid (KeepsN W4.heap.size V V3 /\ J (cnt (pre q) (k + 1)) V3 /\ V3.heap[W.heap.size]? = some (.cells #[.func (.yield l) #[] #[]] 163) /\ (k + 1 = 0 -> V3.heap[W3.heap.size]? = some (.cells #[.pointer qp] 137)) /\ W3.heap.size < V3.heap.size) := by
     have hk : KeepsN W4.heap.size V V3 := (KeepsN.of_below (W := V) (W' := V.drew) ⟨rfl, rfl, rfl, nL, fun _ _ => rfl⟩).trans (hK3.mono (C := W4.heap.size) (by have := HSZ.out; have := HS4.out; omega))
     refine ⟨hk, by rw [cnt_some HX.out rfl]; exact hJ3, hK3.same _ _ nL HI2.out (.inr (.inr ⟨_, rfl⟩)), fun h => by omega, Nat.lt_of_lt_of_le HI4.out hk.size⟩
    clear hK3 hJ3 hy hR
    gi_wp2
    exact HFIN.out
   ·have HFIN : Hid (KeepsN W4.heap.size V V3 /\ Z () V3) := ⟨(KeepsN.of_below (W := V) (W' := V.drew) ⟨rfl, rfl, rfl, nL, fun _ _ => rfl⟩).trans (hK3.mono (C := W4.heap.size) (by have := HSZ.out; have := HS4.out; omega)), hZ3⟩
    clear hK3 hZ3 hy hR
    gi_wp2
    exact ⟨HFIN.out.1, rfl, HFIN.out.2⟩
 case done =>
  rintro D V hD ⟨i1, i2, i3, i4⟩ hK
  rw [cnt_all] at i1
  have hbD : Below V.heap.size V V := bR
  have HJD : Hid (J ((pre q).filterMap MT.ent).length (V.putObj D (.deferred none))) := HJ.out.putObj _ i1 (by have := HSZ.out; have := HS4.out; omega) hK (.inl rfl)
  have HKD := hid hK
  clear i1 i2 i3 i4 hK hbD
  go_wp2_with fail
  refine ⟨by simp, .inl ⟨_, _, rfl, run_takeDeferred HKD.out, ?_⟩⟩
  refine ⟨_, (by simp [results, Tryz.results82, go_sem]; rfl), ⟨_, rfl⟩, .inl HJD.out⟩
 case stop =>
  rintro D c V hD ⟨rfl, i1⟩ hK
  have HZD : Hid (Z () (V.putObj D (.deferred none))) := HZ.out.putObj _ i1 (by have := HSZ.out; have := HS4.out; omega) hK (.inl rfl)
  have HKD := hid hK
  clear i1 hK
  refine wpIn_wide.2 ?_
  go_wp2_with fail
  refine ⟨by simp, .inl ⟨_, _, rfl, run_takeDeferred HKD.out, ?_⟩⟩
  refine ⟨_, (by simp [results, Tryz.results82, go_sem]; rfl), ⟨_, rfl⟩, .inr HZD.out⟩
theorem valB_bad {x : Nat} {y : Int} (h : Bad x y) : valB x y = false := by
 unfold valB
 rw [decide_eq_false_iff_not]
 rintro ⟨h1, h2, h3⟩
 rcases h with h | h | h
 ·omega
 ·omega
 ·exact h h3
theorem valB_ok {k : K} (h : k.Ok) : valB k.x (k.n : Int) = true := by
 unfold valB
 rw [decide_eq_true_eq]
 refine ⟨by omega, by have := h.1; omega, ?_⟩
 rw [Int.toNat_natCast]
 exact Nat.mod_eq_zero_of_dvd h.2.1
theorem GivesN.weak {α : Type} {F : Fence} {n : Nat} {P : Program} {g : Nat} {lb : Array Value} {encs : α -> Array Value} {xs : List α} {Fx Fy : Nat -> World -> Prop} (h : GivesN F n P g lb encs xs Fx) (hF : ∀ k W, Fy k W -> Fx k W) : GivesN F n P g lb encs xs Fy :=
 fun l J Z W hJ hZ hJF hY h0 => h l J Z W hJ hZ (fun k W h => hF k W (hJF k W h)) hY h0
structure SeqB (W : World) (X : Nat -> Prop) (pbx tbx tb x : Nat) (y : Int) (m : MT) : Prop where
 ls : Lies W X m
 pb : W.heap[pbx]? = some (.cells #[.int .u32 (x : Int), .int .i64 y] 36)
 tx : W.heap[tbx]? = some (.cells #[.pointer (some ⟨tb, 0, none⟩)] 93)
 rt : W.heap[tb]? = some (.cells #[m.ptr] 139)
def entsIn (L : List (K × Vt)) (x : Nat) (y : Int) : List (K × Vt) := if valB x y then L.filter (inP ⟨x, y.toNat⟩) else []
theorem within_none (n : Nat) (pbx tbx x : Nat) (y : Int) (hx : x < 4294967296) (hb : Bad x y) :
  GivesN Fence.wide n Tryz.prog 82 #[.pointer (some ⟨pbx, 0, none⟩), .pointer (some ⟨tbx, 0, none⟩)] (fun e : K × Vt => #[pv e.1, .agg #[.int .u32 (e.2.x : Int), .int .i64 e.2.n, .int .u32 (e.2.via : Int), .bool e.2.loc]]) [] (fun _ W => W.heap[pbx]? = some (.cells #[.int .u32 (x : Int), .int .i64 y] 36)) := by
 intro l J Z W hJ hZ hJF hY h0
 obtain ⟨W1, HW1⟩ : ∃ W1, Hid (W1 = W.alloc (.cells #[.func (.yield l) #[] #[]] 163)) := ⟨_, rfl⟩
 have hb1 : Below W.heap.size W W1 := by rw [HW1.out]; exact bR.alloc nL _
 have hr0 := hJF _ _ h0
 have hr := below_keeps hb1 hr0 (gsl hr0)
 have x0 : W1.cell? ⟨pbx, 0, none⟩ = some (.int .u32 (x : Int)) := crw hr rfl
 have x1 : W1.cell? ⟨pbx, 1, none⟩ = some (.int .i64 y) := crw hr rfl
 have HV := hid (valid_bad W1 hx hb)
 have HJ1 : Hid (∀ W2, Below W1.heap.size W1 W2 -> J 0 W2) := fun W2 h => hJ.below (hJ.below h0 hb1) h
 unfold qv at HV
 clear hJ hZ hJF hY h0 hr0 hr hb1 hx hb
 refine callsIn_of_wp_marks Tryz.func82 rfl trivial ?_ rfl
 refine wpIn_wide.2 ?_
 simp only [Tryz.ntmps82, List.size_toArray, List.length_cons, List.length_nil, Nat.reduceAdd, Nat.reduceSub, Array.replicate_succ, Array.replicate_zero, List.push_toArray, List.append_toArray, List.nil_append, List.cons_append]
 go_upto_region 1 with fail
 rw [<- HW1.out]
 go_wp2_with fail
 refine HV.out.mono ?_
 rintro _ W2 ⟨rfl, hb2⟩
 have HJ2 := hid (HJ1.out W2 hb2)
 clear x0 x1 hb2
 go_wp2_with fail
 exact ⟨_, (by simp [results, Tryz.results82, go_sem]; rfl), ⟨_, rfl⟩, .inl HJ2.out⟩
theorem seq_gives (n : Nat) (hn : 4 <= n) (X : Nat -> Prop) (pbx tbx tb x : Nat) (y : Int) (m : MT) (hx : x < 4294967296) {lo hi : Nat} (hwf : WF lo hi m.tr) (hm : nodes m.tr <= 10000000000) :
  GivesN Fence.wide n Tryz.prog 82 #[.pointer (some ⟨pbx, 0, none⟩), .pointer (some ⟨tbx, 0, none⟩)] (fun e : K × Vt => #[pv e.1, .agg #[.int .u32 (e.2.x : Int), .int .i64 e.2.n, .int .u32 (e.2.via : Int), .bool e.2.loc]]) (entsIn (ents m.tr) x y) (fun _ W => SeqB W X pbx tbx tb x y m) := by
 unfold entsIn
 rcases bad_or (y := y) hx with hb | ⟨k, hk, rfl, rfl⟩
 ·rw [valB_bad hb]
  exact (within_none n pbx tbx x y hx hb).weak fun _ W h => h.pb
 ·rw [valB_ok hk]
  exact (within_gives n hn X pbx tbx tb m k hk hwf hm).weak fun _ W h => ⟨h.ls, fun _ => ⟨h.pb, h.tx, h.rt⟩⟩
theorem within_new {tb x : Nat} {y : Int} (w : World) :
  Calls Tryz.prog 70 #[.pointer (some ⟨tb, 0, none⟩), qv x y] w fun e w' => e = .returned (.func (.func 82) #[] #[.pointer (some ⟨w.heap.size + 1, 0, none⟩), .pointer (some ⟨w.heap.size, 0, none⟩)]) /\ w' = (w.alloc (.cells #[.pointer (some ⟨tb, 0, none⟩)] 93)).alloc (.cells #[.int .u32 (x : Int), .int .i64 y] 36) := by
 unfold qv
 go_enter Tryz.func70, Tryz.ntmps70
 go_wp2_with fail
 go_ret
 exact ⟨rfl, rfl⟩
theorem all_new {tb : Nat} (w : World) :
  Calls Tryz.prog 50 #[.pointer (some ⟨tb, 0, none⟩)] w fun e w' => e = .returned (.func (.func 82) #[] #[.pointer (some ⟨w.heap.size + 1, 0, none⟩), .pointer (some ⟨w.heap.size, 0, none⟩)]) /\ w' = (w.alloc (.cells #[.pointer (some ⟨tb, 0, none⟩)] 93)).alloc (.cells #[.int .u32 ((0 : Nat) : Int), .int .i64 0] 36) := by
 have HW := hid (within_new (tb := tb) (x := 0) (y := 0) w)
 unfold qv at HW
 go_enter Tryz.func50, Tryz.ntmps50
 go_wp2_with fail
 refine HW.out.mono ?_
 rintro _ w1 ⟨rfl, hw1⟩
 have HW1 := hid hw1
 clear hw1
 go_wp2_with fail
 go_ret
 exact ⟨rfl, HW1.out⟩
theorem entsIn_all {lo hi : Nat} {t : Tr} (hW : WF lo hi t) : entsIn (ents t) 0 0 = ents t := by
 unfold entsIn
 rw [if_pos (by decide)]
 refine filter_all fun e he => ?_
 have h := ents_in hW e he
 exact (inP_ins (p := ⟨0, (0 : Int).toNat⟩) top_ok h.1).2 h.1.top
end Go.Proofs.YtpdnnikkaojnkaaGreat.Rt
